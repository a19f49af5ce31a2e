/- The law SplitScales: weights that are all so many times as great split alike. -/
import Derived.Test.YtinimjejdkcodaaSu
import Derived.Test.YtinimjejdkcodaaOw
namespace Go.Proofs.Ytinimjejdkcodaa
open Go.RowKit Go.Shelf Go.Lib Go.Sort

theorem infoI64o : (Try.prog.info? 2).map (fun i => (i.zero, i.size, i.bytes)) = some (some (.int .i64 0), 1, 8) := by kernel_rfl
theorem take_map (ws : List Int) (by' : Int) (i : Nat) (h : i < ws.length) : (((ws.take (i + 1)).map (· * by')).map (Value.int .i64)) = ((ws.take i).map (· * by')).map (Value.int .i64) ++ [.int .i64 (ws.getD i 0 * by')] := by
  have e : ws.take (i + 1) = ws.take i ++ [ws[i]] := by rw [List.take_add_one, List.getElem?_eq_getElem h]; rfl
  rw [e, List.map_append, List.map_append, List.getD_eq_getElem?_getD, List.getElem?_eq_getElem h]; rfl
theorem may_scale {t c : Int} {ws : List Int} (h : ∀ x ∈ ws, 0 ≤ x ∧ x ≤ 10000000000) (hc : 1 ≤ c) (hc2 : c ≤ 1000) : Sv.May t (ws.map (· * c)) ↔ Sv.May t ws := by
  have es : ∀ l : List Int, (l.map (· * c)).sum = l.sum * c := by
    intro l
    induction l with
    | nil => simp
    | cons a l ih => rw [List.map_cons, List.sum_cons, List.sum_cons, ih, Int.add_mul]
  constructor
  · rintro ⟨h1, h2, h3, h4, h5⟩
    refine ⟨h1, h2, by simpa using h3, fun x hx => ⟨(h x hx).1, by have := (h x hx).2; omega⟩, ?_⟩
    rw [es] at h5
    rcases Int.lt_or_le 0 ws.sum with x | x
    · exact x
    · have := Int.mul_nonpos_of_nonpos_of_nonneg x (show 0 ≤ c by omega); omega
  · rintro ⟨h1, h2, h3, h4, h5⟩
    refine ⟨h1, h2, by simpa using h3, fun x hx => ?_, by rw [es]; exact Int.mul_pos h5 (by omega)⟩
    obtain ⟨y, hy, rfl⟩ := List.mem_map.1 hx
    have a := h y hy
    exact ⟨Int.mul_nonneg a.1 (by omega), by have := Int.mul_le_mul a.2 hc2 (by omega) (by omega); omega⟩

set_option maxHeartbeats 4000000 in
set_option maxRecDepth 1000000 in
theorem splitScales_walk (A : Option Addr) (n c : Nat) (t : Int) (ws : List Int) (z : Int) (w : World) (hr : RdK .i64 w w.heap.size A n ws) (hn : n ≤ 9223372036854775807) :
    Calls Try.prog 8 #[.int .i64 t, .slice A n c, .int .i64 z] w fun e w' => e = .returned (.bool true) ∧ Below w.heap.size w w' := by
  have HR := Lib.hid hr
  have HL := Lib.hid hr.1
  clear hr
  have hd : decide ((n : Int) > 500) = true ∨ (decide ((n : Int) > 500) = false ∧ decide (z < 1) = true) ∨ (decide ((n : Int) > 500) = false ∧ decide (z < 1) = false ∧ decide (z > 1000) = true) ∨ (n ≤ 500 ∧ 1 ≤ z ∧ z ≤ 1000) := by
    by_cases a : (n : Int) > 500
    · exact Or.inl (decide_eq_true a)
    · by_cases b : z < 1
      · exact Or.inr (Or.inl ⟨decide_eq_false a, decide_eq_true b⟩)
      · by_cases d : z > 1000
        · exact Or.inr (Or.inr (Or.inl ⟨decide_eq_false a, decide_eq_false b, decide_eq_true d⟩))
        · exact Or.inr (Or.inr (Or.inr ⟨by omega, by omega, by omega⟩))
  rcases hd with a | ⟨a, b⟩ | ⟨a, b, d⟩ | ⟨a, z1, z2⟩
  · go_enter Try.func8, Try.ntmps8
    go_wp2_with (go_at_call 9; refine (up_any _).mono ?_; rintro e w1 ⟨rfl, hb1⟩; have HB := Lib.hid hb1; clear hb1)
    go_ret
    exact ⟨rfl, HB.out⟩
  · go_enter Try.func8, Try.ntmps8
    go_wp2_with (go_at_call 9; refine (up_any _).mono ?_; rintro e w1 ⟨rfl, hb1⟩; have HB := Lib.hid hb1; clear hb1)
    go_ret
    exact ⟨rfl, HB.out⟩
  · go_enter Try.func8, Try.ntmps8
    go_wp2_with (go_at_call 9; refine (up_any _).mono ?_; rintro e w1 ⟨rfl, hb1⟩; have HB := Lib.hid hb1; clear hb1)
    go_ret
    exact ⟨rfl, HB.out⟩
  · have d1 : decide ((n : Int) > 500) = false := decide_eq_false (by omega)
    have d2 : decide (z < 1) = false := decide_eq_false (by omega)
    have d3 : decide (z > 1000) = false := decide_eq_false (by omega)
    obtain ⟨i0, hi, hz0, hz1, hz2⟩ := info_parts infoI64o
    go_enter Try.func8, Try.ntmps8
    go_wp2_with (go_at_call 9; refine (up_any _).mono ?_; rintro e w1 ⟨rfl, hb1⟩; have HB := Lib.hid hb1; clear hb1)
    clear d1 d2 d3
    go_loopw [8, 9] (fun o v wr => ∃ i : Nat, v = .int .i64 i ∧ i ≤ n ∧ wr.ownsRow w.heap.size 2 1 o i (((ws.take i).map (· * z)).map (Value.int .i64)) ∧ Below w.heap.size w wr ∧ Hid (∀ j, j < i → 0 ≤ ws.getD j 0 ∧ ws.getD j 0 ≤ 10000000000)) (fun o v wr => n - (RowKit.intOf v).toNat)
    case atStart => exact ⟨0, rfl, Nat.zero_le _, ⟨rfl, .inl ⟨rfl, rfl⟩⟩, HB.out, fun j hj => absurd hj (Nat.not_lt_zero _)⟩
    case round =>
      obtain ⟨i, rfl, hin, hown, hb, HJ⟩ := hrel
      have HBB := Lib.hid hb; clear hb
      by_cases hlt : i < n
      · have hltz : (i : Int) < (n : Int) := by omega
        obtain ⟨xb, xo, rfl, _, rx⟩ := (HR.out.below HBB.out).2 i hlt
        obtain ⟨x, ex⟩ : ∃ x, ws.getD i 0 = x := ⟨_, rfl⟩
        have HX := Lib.hid ex
        rw [ex] at rx
        clear ex
        by_cases x0 : x < 0
        · go_wp2_with fail
          go_ret
          exact ⟨rfl, HBB.out⟩
        · by_cases x1 : x > 10000000000
          · have x2 : decide (x > 10000000000) = true := decide_eq_true x1
            go_wp2_with fail
            go_ret
            exact ⟨rfl, HBB.out⟩
          · have x2 : decide (x > 10000000000) = false := decide_eq_false x1
            have x3 : 0 ≤ x := by omega
            have x4 : x ≤ 10000000000 := by omega
            have p0 : 0 ≤ x * z := Int.mul_nonneg x3 (by omega)
            have p1 : x * z ≤ 10000000000000 := by have := Int.mul_le_mul x4 z2 (by omega) (by omega); omega
            have HN := Lib.hid (show (∀ j, j < i + 1 → 0 ≤ ws.getD j 0 ∧ ws.getD j 0 ≤ 10000000000) ∧ (((ws.take (i + 1)).map (· * z)).map (Value.int .i64)) = ((ws.take i).map (· * z)).map (Value.int .i64) ++ [.int .i64 (x * z)] from
              ⟨fun j hj => by
                rcases Nat.lt_or_ge j i with y | y
                · exact HJ.out j y
                · obtain rfl : j = i := by omega
                  rw [HX.out]; exact ⟨x3, x4⟩, by rw [take_map ws z i (by rw [HL.out]; exact hlt), HX.out]⟩)
            clear HJ
            generalize ((ws.take i).map (· * z)).map (Value.int .i64) = olds at hown HN
            obtain ⟨pz, hpz⟩ : ∃ pz, x * z = pz := ⟨_, rfl⟩
            rw [hpz] at p0 p1 HN
            go_wp2_with (at_builtin; refine wpList_append_own _ rfl _ _ 22 rfl w.heap.size 2 i0 (.int .i64 0) 1 8 Try.underlying22 hi hz0 hz1 hz2 rfl (by decide) u8 i olds rfl (hown.alloc _) ⟨wr.heap.size, 0, none⟩ 1 1 [.int .i64 pz] rfl rfl (news1 _ _ _) (one1 _) (by unfold maxLen; omega) (by omega) (le_alloc HBB.out (Nat.le_refl _) _) ?_; intro v' w5 hown' hgrow _; have HB1 := Lib.hid ((HBB.out.alloc HBB.out.size _).grown hgrow (le_alloc HBB.out (Nat.le_refl _) _) (own_block hown)); clear hgrow)
            exact ⟨⟨i + 1, by go_num, by omega, by rw [HN.out.2]; exact hown', HB1.out, HN.out.1⟩, by simp [RowKit.intOf]; omega⟩
      · obtain rfl : i = n := by omega
        have hltz : ¬ (i : Int) < (i : Int) := by omega
        obtain ⟨A2, c2, rfl⟩ := own_form hown
        have HO := Lib.hid (show RdK .i64 wr wr.heap.size A2 i (ws.map (· * z)) from by
          have := RdK.of_own hown
          rwa [List.take_of_length_le (by rw [HL.out]; exact Nat.le_refl _)] at this)
        have HW := Lib.hid (show ∀ x ∈ ws, 0 ≤ x ∧ x ≤ 10000000000 from fun x hx => by
          obtain ⟨j, hj, rfl⟩ := List.getElem_of_mem hx
          have := HJ.out j (by rw [← HL.out]; exact hj)
          rwa [List.getD_eq_getElem?_getD, List.getElem?_eq_getElem hj] at this)
        clear hown HJ
        by_cases hm : Sv.May t ws
        · have HM := Lib.hid (And.intro hm (And.intro ((may_scale HW.out z1 z2).2 hm) (Sv.sh_scale (t := t) (c := z) (by omega) hm.2.2.2.2)))
          clear hm
          go_wp2_with fail
          refine (shares_view A i c t ws _ ((HR.out.below HBB.out).more HBB.out.size) HM.out.1).mono ?_
          rintro e w2 ⟨blk, rfl, p1, p2, p3, p4⟩
          have H := Lib.hid (show Below w.heap.size w w2 ∧ RdK .i64 w2 w2.heap.size (some ⟨blk, 0, none⟩) i (Sv.shares t ws) ∧ RdK .i64 w2 w2.heap.size A2 i (ws.map (· * z)) from ⟨HBB.out.trans (p4.mono HBB.out.size), p3, (HO.out.below p4).more p4.size⟩)
          clear p1 p2 p3 p4
          go_wp2_with fail
          refine (shares_view A2 i c2 t (ws.map (· * z)) _ H.out.2.2 HM.out.2.1).mono ?_
          rintro e w3 ⟨blk2, rfl, p1, p2, p3, p4⟩
          have H2 := Lib.hid (show Below w.heap.size w w3 ∧ RdK .i64 w3 w3.heap.size (some ⟨blk, 0, none⟩) i (Sv.shares t ws) ∧ RdK .i64 w3 w3.heap.size (some ⟨blk2, 0, none⟩) i (Sv.shares t (ws.map (· * z))) from ⟨H.out.1.trans (p4.mono H.out.1.size), (H.out.2.1.below p4).more p4.size, p3⟩)
          clear p1 p2 p3 p4
          go_wp2_with fail
          go_quiet ((go_at_call 12; exact Calls.quiet_of (same_true _ _ i i i i _ _ _ _ (H2.out.2.1.below (below_drewN _ _ _)) (H2.out.2.2.below (below_drewN _ _ _)) (by omega) HM.out.2.2.symm)))
          go_wp2_with fail
          go_ret
          exact ⟨rfl, H2.out.1.trans (below_drewN _ _ _)⟩
        · have HM := Lib.hid (And.intro hm (fun h => hm ((may_scale (t := t) HW.out z1 z2).1 h)))
          clear hm
          go_wp2_with fail
          refine (shares_none A i c t ws _ ((HR.out.below HBB.out).more HBB.out.size) (by omega) HM.out.1).mono ?_
          rintro e w2 ⟨rfl, p4⟩
          have H := Lib.hid (show Below w.heap.size w w2 ∧ RdK .i64 w2 w2.heap.size A2 i (ws.map (· * z)) from ⟨HBB.out.trans (p4.mono HBB.out.size), (HO.out.below p4).more p4.size⟩)
          clear p4
          go_wp2_with fail
          refine (shares_none A2 i c2 t (ws.map (· * z)) _ H.out.2 (by omega) HM.out.2).mono ?_
          rintro e w3 ⟨rfl, p4⟩
          have H2 := Lib.hid (show Below w.heap.size w w3 from H.out.1.trans (p4.mono H.out.1.size))
          clear p4
          go_wp2_with fail
          go_quiet ((go_at_call 12; exact Calls.quiet_of (same_true none none 0 0 0 0 [] [] _ 0 (RdK.nil _ _ _) (RdK.nil _ _ _) (by omega) rfl)))
          go_wp2_with fail
          go_ret
          exact ⟨rfl, H2.out.trans (below_drewN _ _ _)⟩
end Go.Proofs.Ytinimjejdkcodaa
