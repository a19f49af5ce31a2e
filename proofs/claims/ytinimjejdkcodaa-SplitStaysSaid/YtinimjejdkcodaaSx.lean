/- The law SplitStays: weights stay as they are; what was told stays, whatever becomes of it. -/
import Derived.Test.YtinimjejdkcodaaSz
import Derived.Sort.AtCall
namespace Go.Proofs.Ytinimjejdkcodaa
open Go.RowKit Go.Shelf Go.Lib Go.Sort

theorem empty_own (w : World) (B : Nat) (hB : B ≤ w.heap.size) : (w.alloc (.cells #[] 2)).ownsRow B 2 1 (.slice (some ⟨w.heap.size, 0, none⟩) 0 0) 0 [] :=
  ⟨rfl, .inr ⟨w.heap.size, 0, #[], rfl, hB, heap_alloc_new _ _, Nat.le_refl _, by decide, rfl, rfl⟩⟩
theorem one_list (l : List Int) : ∀ u ∈ l.map (Value.int .i64), u.oneCell' = true := fun u hu => by obtain ⟨z, _, rfl⟩ := List.mem_map.1 hu; rfl
theorem below_set {w : World} {B blk j : Nat} {v : Value} (h : B ≤ blk) : ∀ p : Addr, p.block < B → (w.setCell ⟨blk, j, none⟩ v).cell? p = w.cell? p := fun p hp =>
  World.cell?_setCell_other _ _ _ _ (by intro e; rw [← e] at hp; exact absurd hp (Nat.not_lt_of_le h))

set_option maxHeartbeats 4000000 in
set_option maxRecDepth 1000000 in
theorem splitStays_walk (A : Option Addr) (n c : Nat) (t : Int) (ws : List Int) (w : World) (hr : RdK .i64 w w.heap.size A n ws) (hn : n ≤ 9223372036854775807) :
    Calls Try.prog 6 #[.int .i64 t, .slice A n c] w fun e w' => e = .returned (.bool true) ∧ Below w.heap.size w w' := by
  have HR := Lib.hid hr
  have HL := Lib.hid hr.1
  clear hr
  obtain ⟨i0, hi, hz0, hz1, hz2⟩ := info_parts infoI64o
  by_cases h5 : n > 500
  · have h5z : (n : Int) > 500 := by omega
    go_enter Try.func6, Try.ntmps6
    go_wp2_with (go_at_call 9; refine (up_any _).mono ?_; rintro e w1 ⟨rfl, hb1⟩; have HB := Lib.hid hb1; clear hb1)
    go_ret
    exact ⟨rfl, HB.out⟩
  · have h5z : ¬ (n : Int) > 500 := by omega
    cases A with
    | none =>
      obtain ⟨rfl, rfl⟩ := HR.out.none_nil
      have hm : ¬ Sv.May t [] := fun h => absurd h.2.2.2.2 (by decide)
      have HM := Lib.hid hm
      clear hm h5 h5z
      go_enter Try.func6, Try.ntmps6
      go_wp2_with (go_at_call 9; refine (up_any _).mono ?_; rintro e w1 ⟨rfl, hb1⟩; have HB := Lib.hid hb1; clear hb1)
      obtain ⟨bo, hbo⟩ : ∃ bo, bo = w1.heap.size := ⟨_, rfl⟩
      have HO := Lib.hid (show Below w.heap.size w (w1.alloc (.cells #[] 2)) ∧ RdK .i64 (w1.alloc (.cells #[] 2)) (w1.alloc (.cells #[] 2)).heap.size (some ⟨bo, 0, none⟩) 0 [] from ⟨HB.out.alloc HB.out.size _, ⟨rfl, fun j hj => absurd hj (Nat.not_lt_zero _)⟩⟩)
      rw [← hbo]
      generalize w1.alloc (.cells #[] 2) = w2 at HO ⊢
      clear hbo
      refine (shares_none (some ⟨bo, 0, none⟩) 0 0 t [] _ HO.out.2 (by omega) HM.out).mono ?_
      rintro e w3 ⟨rfl, p4⟩
      have H3 := Lib.hid (show Below w.heap.size w w3 ∧ RdK .i64 w3 w3.heap.size (some ⟨bo, 0, none⟩) 0 [] ∧ RdK .i64 w3 w3.heap.size none 0 [] from
        ⟨HO.out.1.trans (p4.mono HO.out.1.size), (HO.out.2.below p4).more p4.size, RdK.nil _ _ _⟩)
      clear p4 HO
      go_wp2_with (at_builtin; refine wpList_append_own_none rfl _ _ 22 rfl w3.heap.size 2 i0 1 Try.underlying22 hi _ 0 [] rfl (empty_own w3 w3.heap.size (Nat.le_refl _)) rfl ?_)
      have H4 := Lib.hid (show Below w.heap.size w (w3.alloc (.cells #[] 2)) ∧ RdK .i64 (w3.alloc (.cells #[] 2)) (w3.alloc (.cells #[] 2)).heap.size (some ⟨bo, 0, none⟩) 0 [] ∧ RdK .i64 (w3.alloc (.cells #[] 2)) (w3.alloc (.cells #[] 2)).heap.size none 0 [] ∧ RdK .i64 (w3.alloc (.cells #[] 2)) (w3.alloc (.cells #[] 2)).heap.size (some ⟨w3.heap.size, 0, none⟩) 0 [] from by
        have hb : Below w3.heap.size w3 (w3.alloc (.cells #[] 2)) := (Below.refl _ _).alloc (Nat.le_refl _) _
        exact ⟨H3.out.1.trans (hb.mono H3.out.1.size), (H3.out.2.1.below hb).more hb.size, (H3.out.2.2.below hb).more hb.size, ⟨rfl, fun j hj => absurd hj (Nat.not_lt_zero _)⟩⟩)
      obtain ⟨bq, hbq⟩ : ∃ bq, bq = w3.heap.size := ⟨_, rfl⟩
      rw [← hbq] at H4 ⊢
      generalize w3.alloc (.cells #[] 2) = w4 at H4 ⊢
      clear H3 hbq
      go_loopw [10] (fun v wr => v = .int .i64 0 ∧ wr = w4) (fun v wr => 0)
      case atStart => exact ⟨rfl, rfl⟩
      case round =>
        obtain ⟨rfl, rfl⟩ := hrel
        go_wp2_with fail
        refine (shares_none (some ⟨bo, 0, none⟩) 0 0 t [] _ H4.out.2.1 (by omega) HM.out).mono ?_
        rintro e w5 ⟨rfl, p4⟩
        have H5 := Lib.hid (show RdK .i64 w5 w5.heap.size (some ⟨bo, 0, none⟩) 0 [] ∧ RdK .i64 w5 w5.heap.size none 0 [] ∧ RdK .i64 w5 w5.heap.size (some ⟨bq, 0, none⟩) 0 [] ∧ Below w.heap.size w w5 from
          ⟨(H4.out.2.1.below p4).more p4.size, (H4.out.2.2.1.below p4).more p4.size, (H4.out.2.2.2.below p4).more p4.size, H4.out.1.trans (p4.mono H4.out.1.size)⟩)
        clear p4
        go_wp2_with fail
        go_quiet (first | (go_at_call_has 12 bo; exact Calls.quiet_of (same_true (some ⟨bo, 0, none⟩) none 0 0 0 c [] [] _ _ (H5.out.1.below (below_drewN _ _ _)) (H5.out.2.1.below (below_drewN _ _ _)) (by omega) rfl)) | (go_at_call_has 12 bq; exact Calls.quiet_of (same_true none (some ⟨bq, 0, none⟩) 0 0 0 0 [] [] _ _ (RdK.nil _ _ _) (H5.out.2.2.1.below (below_drewN _ _ _)) (by omega) rfl)))
        go_wp2_with fail
        go_ret
        exact ⟨rfl, H5.out.2.2.2.trans (below_drewN _ _ _)⟩
    | some ad =>
      have LEN := Lib.hid (show (ws.map (Value.int .i64)).length = n * 1 from by simp [HL.out])
      go_enter Try.func6, Try.ntmps6
      go_wp2_with (first | (go_at_call 9; refine (up_any _).mono ?_; rintro e w1 ⟨rfl, hb1⟩; have HB := Lib.hid hb1; have HC := Lib.hid ((HR.out.below ((hb1).alloc hb1.size (.cells #[] 2))).cells); have HLE := Lib.hid (show w.heap.size ≤ (w1.alloc (.cells #[] 2)).heap.size from Nat.le_trans hb1.size (by simp)); clear hb1) | (at_builtin; refine wpList_append_own _ rfl _ _ 22 rfl w1.heap.size 2 i0 (.int .i64 0) 1 8 Try.underlying22 hi hz0 hz1 hz2 rfl (by decide) _ 0 [] rfl (empty_own w1 w1.heap.size (Nat.le_refl _)) ad n c (ws.map (Value.int .i64)) rfl LEN.out HC.out (one_list ws) (by unfold maxLen; omega) (by omega) (by simp) ?_; intro v' w2 hown' hgrow _; have HB2 := Lib.hid ((Below.refl w1.heap.size w1).alloc (Nat.le_refl _) (.cells #[] 2) |>.grown hgrow (by simp) (own_block (empty_own w1 w1.heap.size (Nat.le_refl _)))); clear hgrow))
      obtain ⟨A2, c2, rfl⟩ := own_form (show w2.ownsRow w1.heap.size 2 1 v' n (ws.map (Value.int .i64)) from by simpa using hown')
      have HO := Lib.hid (show RdK .i64 w2 w2.heap.size A2 n ws ∧ Below w.heap.size w w2 from ⟨RdK.of_own (base := w1.heap.size) (e := 2) (c := c2) (by simpa using hown'), HB.out.trans (HB2.out.mono HB.out.size)⟩)
      clear hown' HB HB2 HC HLE
      by_cases hm : Sv.May t ws
      · have HM := Lib.hid hm
        clear hm
        refine (shares_view A2 n c2 t ws _ HO.out.1 HM.out).mono ?_
        rintro e w3 ⟨blk, rfl, p1, p2, p3, p4⟩
        have H3 := Lib.hid (show Below w.heap.size w w3 ∧ Arr (.int .i64) w3 blk (Sv.shares t ws) ∧ RdK .i64 w3 w2.heap.size A2 n ws ∧ RdK .i64 w3 w.heap.size (some ad) n ws ∧ w2.heap.size ≤ blk ∧ w.heap.size ≤ w2.heap.size from
          ⟨HO.out.2.trans (p4.mono HO.out.2.size), p2, HO.out.1.below p4, HR.out.below (HO.out.2.trans (p4.mono HO.out.2.size)), p1, HO.out.2.size⟩)
        have HC := Lib.hid (RdK.cells (p3.below ((Below.refl w3.heap.size w3).alloc (Nat.le_refl _) (.cells #[] 2))))
        have LEN2 := Lib.hid (show ((Sv.shares t ws).map (Value.int .i64)).length = n * 1 from by simp [Sv.shares_length, HL.out])
        have SL := Lib.hid (show (Sv.shares t ws).length = n from by rw [Sv.shares_length, HL.out])
        clear p1 p2 p3 p4
        go_wp2_with (at_builtin; refine wpList_append_own _ rfl _ _ 22 rfl w3.heap.size 2 i0 (.int .i64 0) 1 8 Try.underlying22 hi hz0 hz1 hz2 rfl (by decide) _ 0 [] rfl (empty_own w3 w3.heap.size (Nat.le_refl _)) ⟨blk, 0, none⟩ n n ((Sv.shares t ws).map (Value.int .i64)) rfl LEN2.out HC.out (one_list _) (by unfold maxLen; omega) (by omega) (by simp) ?_; intro v4 w4 hown4 hgrow _; have HB4 := Lib.hid ((Below.refl w3.heap.size w3).alloc (Nat.le_refl _) (.cells #[] 2) |>.grown hgrow (by simp) (own_block (empty_own w3 w3.heap.size (Nat.le_refl _)))); clear hgrow)
        have hown5 : w4.ownsRow w3.heap.size 2 1 v4 n ((Sv.shares t ws).map (Value.int .i64)) := by simpa using hown4
        clear hown4
        obtain ⟨A4, c4, rfl⟩ := own_form hown5
        have H4 := Lib.hid (show Below w.heap.size w w4 ∧ Arr (.int .i64) w4 blk (Sv.shares t ws) ∧ RdK .i64 w4 w2.heap.size A2 n ws ∧ RdK .i64 w4 w.heap.size (some ad) n ws ∧ w4.ownsRow w3.heap.size 2 1 (.slice A4 n c4) n ((Sv.shares t ws).map (Value.int .i64)) from
          ⟨H3.out.1.trans (HB4.out.mono H3.out.1.size), H3.out.2.1.below HB4.out H3.out.2.1.1, H3.out.2.2.1.below (HB4.out.mono (by have := H3.out.2.2.2.2.1; have := H3.out.2.1.1; omega)), H3.out.2.2.2.1.below (HB4.out.mono H3.out.1.size), hown5⟩)
        have LT := Lib.hid (show blk < w3.heap.size ∧ w2.heap.size ≤ blk ∧ w.heap.size ≤ blk from ⟨H3.out.2.1.1, H3.out.2.2.2.2.1, Nat.le_trans H3.out.2.2.2.2.2 H3.out.2.2.2.2.1⟩)
        clear hown5 H3 HB4 HC HO
        go_loopw [10] (fun v wr => ∃ (i : Nat) (l : List Int), v = .int .i64 i ∧ i ≤ n ∧ Hid (l.length = n ∧ Below w.heap.size w wr ∧ Arr (.int .i64) wr blk l ∧ RdK .i64 wr w2.heap.size A2 n ws ∧ RdK .i64 wr w.heap.size (some ad) n ws ∧ wr.ownsRow w3.heap.size 2 1 (.slice A4 n c4) n ((Sv.shares t ws).map (Value.int .i64)))) (fun v wr => n - (RowKit.intOf v).toNat)
        case atStart => exact ⟨0, _, rfl, Nat.zero_le _, SL.out, H4.out⟩
        case round =>
          clear H4
          obtain ⟨i, l, rfl, hin, H⟩ := hrel
          by_cases hlt : i < n
          · have hltz : (i : Int) < (n : Int) := by omega
            have b1 := H.out.2.2.1.c i (by rw [H.out.1]; exact hlt)
            have z1 := H.out.2.2.1.z i (by rw [H.out.1]; exact hlt)
            have HN := Lib.hid (show (l.set i (-1)).length = n ∧ Below w.heap.size w (wr.setCell ⟨blk, i, none⟩ (.int .i64 (-1))) ∧ Arr (.int .i64) (wr.setCell ⟨blk, i, none⟩ (.int .i64 (-1))) blk (l.set i (-1)) ∧ RdK .i64 (wr.setCell ⟨blk, i, none⟩ (.int .i64 (-1))) w2.heap.size A2 n ws ∧ RdK .i64 (wr.setCell ⟨blk, i, none⟩ (.int .i64 (-1))) w.heap.size (some ad) n ws ∧ (wr.setCell ⟨blk, i, none⟩ (.int .i64 (-1))).ownsRow w3.heap.size 2 1 (.slice A4 n c4) n ((Sv.shares t ws).map (Value.int .i64)) from by
              obtain ⟨a1, a2, a3, a4, a5, a6⟩ := H.out
              exact ⟨by rw [List.length_set]; exact a1, a2.setCell LT.out.2.2 _, a3.set i (by rw [a1]; exact hlt) (-1), a4.keep (below_set LT.out.2.1), a5.keep (below_set LT.out.2.2), ownsRow_setCell_below a6 LT.out.1 _⟩)
            clear H
            generalize l.getD i 0 = v1 at b1
            go_wp2_with fail
            exact ⟨⟨i + 1, _, by go_num, by omega, HN⟩, by simp [RowKit.intOf]; omega⟩
          · obtain rfl : i = n := by omega
            have hltz : ¬ (i : Int) < (i : Int) := by omega
            have HA := Lib.hid (show RdK .i64 wr wr.heap.size A2 i ws ∧ RdK .i64 wr wr.heap.size (some ad) i ws ∧ RdK .i64 wr wr.heap.size A4 i (Sv.shares t ws) ∧ Below w.heap.size w wr from
              ⟨H.out.2.2.2.1.more (by have := H.out.2.2.1.1; have := LT.out; omega), H.out.2.2.2.2.1.more H.out.2.1.size, RdK.of_own H.out.2.2.2.2.2, H.out.2.1⟩)
            clear H
            go_wp2_with fail
            refine (shares_view A2 i c2 t ws _ HA.out.1 HM.out).mono ?_
            rintro e w5 ⟨blk5, rfl, p1, p2, p3, p4⟩
            have H5 := Lib.hid (show RdK .i64 w5 w5.heap.size A2 i ws ∧ RdK .i64 w5 w5.heap.size (some ad) i ws ∧ RdK .i64 w5 w5.heap.size A4 i (Sv.shares t ws) ∧ RdK .i64 w5 w5.heap.size (some ⟨blk5, 0, none⟩) i (Sv.shares t ws) ∧ Below w.heap.size w w5 from
              ⟨(HA.out.1.below p4).more p4.size, (HA.out.2.1.below p4).more p4.size, (HA.out.2.2.1.below p4).more p4.size, p3, HA.out.2.2.2.trans (p4.mono HA.out.2.2.2.size)⟩)
            clear p1 p2 p3 p4
            go_wp2_with fail
            go_quiet (first | (go_at_call_has 12 A2; exact Calls.quiet_of (same_true A2 (some ad) i c2 i c ws ws _ _ (H5.out.1.below (below_drewN _ _ _)) (H5.out.2.1.below (below_drewN _ _ _)) (by omega) rfl)) | (go_at_call_has 12 A4; exact Calls.quiet_of (same_true (some ⟨blk5, 0, none⟩) A4 i i i c4 (Sv.shares t ws) (Sv.shares t ws) _ _ (H5.out.2.2.2.1.below (below_drewN _ _ _)) (H5.out.2.2.1.below (below_drewN _ _ _)) (by omega) rfl)))
            go_wp2_with fail
            go_ret
            exact ⟨rfl, H5.out.2.2.2.2.trans (below_drewN _ _ _)⟩
      · have HM := Lib.hid hm
        clear hm
        refine (shares_none A2 n c2 t ws _ HO.out.1 (by omega) HM.out).mono ?_
        rintro e w3 ⟨rfl, p4⟩
        have H3 := Lib.hid (show Below w.heap.size w w3 ∧ RdK .i64 w3 w3.heap.size A2 n ws ∧ RdK .i64 w3 w3.heap.size (some ad) n ws from
          ⟨HO.out.2.trans (p4.mono HO.out.2.size), (HO.out.1.below p4).more p4.size, (HR.out.below (HO.out.2.trans (p4.mono HO.out.2.size))).more (Nat.le_trans HO.out.2.size p4.size)⟩)
        clear p4 HO
        go_wp2_with (at_builtin; refine wpList_append_own_none rfl _ _ 22 rfl w3.heap.size 2 i0 1 Try.underlying22 hi _ 0 [] rfl (empty_own w3 w3.heap.size (Nat.le_refl _)) rfl ?_)
        have H4 := Lib.hid (show Below w.heap.size w (w3.alloc (.cells #[] 2)) ∧ RdK .i64 (w3.alloc (.cells #[] 2)) (w3.alloc (.cells #[] 2)).heap.size A2 n ws ∧ RdK .i64 (w3.alloc (.cells #[] 2)) (w3.alloc (.cells #[] 2)).heap.size (some ad) n ws ∧ RdK .i64 (w3.alloc (.cells #[] 2)) (w3.alloc (.cells #[] 2)).heap.size (some ⟨w3.heap.size, 0, none⟩) 0 [] from by
          have hb : Below w3.heap.size w3 (w3.alloc (.cells #[] 2)) := (Below.refl _ _).alloc (Nat.le_refl _) _
          exact ⟨H3.out.1.trans (hb.mono H3.out.1.size), (H3.out.2.1.below hb).more hb.size, (H3.out.2.2.below hb).more hb.size, ⟨rfl, fun j hj => absurd hj (Nat.not_lt_zero _)⟩⟩)
        obtain ⟨bq, hbq⟩ : ∃ bq, bq = w3.heap.size := ⟨_, rfl⟩
        rw [← hbq] at H4 ⊢
        generalize w3.alloc (.cells #[] 2) = w4 at H4 ⊢
        clear H3 hbq
        go_loopw [10] (fun v wr => v = .int .i64 0 ∧ wr = w4) (fun v wr => 0)
        case atStart => exact ⟨rfl, rfl⟩
        case round =>
          obtain ⟨rfl, rfl⟩ := hrel
          go_wp2_with fail
          refine (shares_none A2 n c2 t ws _ H4.out.2.1 (by omega) HM.out).mono ?_
          rintro e w5 ⟨rfl, p4⟩
          have H5 := Lib.hid (show RdK .i64 w5 w5.heap.size A2 n ws ∧ RdK .i64 w5 w5.heap.size (some ad) n ws ∧ RdK .i64 w5 w5.heap.size (some ⟨bq, 0, none⟩) 0 [] ∧ Below w.heap.size w w5 from
            ⟨(H4.out.2.1.below p4).more p4.size, (H4.out.2.2.1.below p4).more p4.size, (H4.out.2.2.2.below p4).more p4.size, H4.out.1.trans (p4.mono H4.out.1.size)⟩)
          clear p4
          go_wp2_with fail
          go_quiet (first | (go_at_call_has 12 A2; exact Calls.quiet_of (same_true A2 (some ad) n c2 n c ws ws _ _ (H5.out.1.below (below_drewN _ _ _)) (H5.out.2.1.below (below_drewN _ _ _)) (by omega) rfl)) | (go_at_call_has 12 bq; exact Calls.quiet_of (same_true none (some ⟨bq, 0, none⟩) 0 0 0 0 [] [] _ _ (RdK.nil _ _ _) (H5.out.2.2.1.below (below_drewN _ _ _)) (by omega) rfl)))
          go_wp2_with fail
          go_ret
          exact ⟨rfl, H5.out.2.2.2.trans (below_drewN _ _ _)⟩
end Go.Proofs.Ytinimjejdkcodaa
