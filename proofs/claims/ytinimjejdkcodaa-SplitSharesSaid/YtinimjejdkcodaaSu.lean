/- The head of all statements, and whether two lists are the same. -/
import Derived.Test.YtinimjejdkcodaaSh
namespace Go.Proofs.Ytinimjejdkcodaa
open Go.RowKit Go.Shelf Go.Lib Go.Sort

theorem shares_view (A : Option Addr) (n c : Nat) (t : Int) (ws : List Int) (w : World) (hr : RdK .i64 w w.heap.size A n ws) (hm : Sv.May t ws) :
    Calls Try.prog 10 #[.int .i64 t, .slice A n c] w fun e w' => ∃ blk, e = .returned (.tuple #[.slice (some ⟨blk, 0, none⟩) n n, .nilIface]) ∧ w.heap.size ≤ blk ∧ Arr (.int .i64) w' blk (Sv.shares t ws) ∧ RdK .i64 w' w'.heap.size (some ⟨blk, 0, none⟩) n (Sv.shares t ws) ∧ Below w.heap.size w w' := by
  have hl := hr.1
  refine (shares_any A n c t ws w hr (by have := hm.2.2.1; omega)).mono fun e w' ⟨h1, _, h3⟩ => ?_
  obtain ⟨blk, a1, a2, a3⟩ := h1 hm
  rw [hl] at a1
  have r := a3.rd w'.heap.size a3.1
  rw [Sv.shares_length, hl] at r
  exact ⟨blk, a1, a2, a3, r, h3⟩
theorem shares_none (A : Option Addr) (n c : Nat) (t : Int) (ws : List Int) (w : World) (hr : RdK .i64 w w.heap.size A n ws) (hn : n ≤ 1000000) (hm : ¬ Sv.May t ws) :
    Calls Try.prog 10 #[.int .i64 t, .slice A n c] w fun e w' => e = .returned (.tuple #[.slice none 0 0, .iface 29 (.int .i64 1)]) ∧ Below w.heap.size w w' :=
  (shares_any A n c t ws w hr hn).mono fun _ _ ⟨_, h2, h3⟩ => ⟨h2 hm, h3⟩

theorem errEq (w : World) : (binOp .eql 25 (.iface 29 (.int .i64 1)) (.iface 29 (.int .i64 1))).run Try.prog w = .ok (.bool true) w := by kernel_rfl
theorem up_may : Sv.May 100 [1, 1, 1] := by decide
theorem up_is : Sv.shares 100 [1, 1, 1] = [34, 33, 33] := by decide +kernel

theorem up_any (w : World) : Calls Try.prog 9 #[] w fun e w' => e = .returned (.bool true) ∧ Below w.heap.size w w' := by
  go_enter Try.func9, Try.ntmps9
  go_wp2_with fail
  have HR := Lib.hid (show RdK .i64 (w.alloc (.cells #[.int .i64 1, .int .i64 1, .int .i64 1] 2)) (w.alloc (.cells #[.int .i64 1, .int .i64 1, .int .i64 1] 2)).heap.size (some ⟨w.heap.size, 0, none⟩) 3 [1, 1, 1] from
    ⟨rfl, fun j hj => ⟨w.heap.size, 0, rfl, by simp, by
      rcases j with _ | _ | _ | j
      · simp
      · simp
      · simp
      · omega⟩⟩)
  refine (shares_view _ 3 _ 100 [1, 1, 1] _ HR.out up_may).mono ?_
  rintro e w2 ⟨blk, rfl, h1, h2, h3, h4⟩
  rw [up_is] at h2
  have c0 := h2.c 0 (by decide)
  have c1 := h2.c 1 (by decide)
  have c2 := h2.c 2 (by decide)
  simp only [List.getD_cons_zero, List.getD_cons_succ] at c0 c1 c2
  have HB := Lib.hid (show Below w.heap.size w w2 from ((Below.refl _ _).alloc (Nat.le_refl _) _).trans (h4.mono (by simp)))
  clear h1 h2 h3 h4
  go_wp2_with fail
  go_ret
  exact ⟨rfl, HB.out⟩

theorem same_any (A1 A2 : Option Addr) (n1 c1 n2 c2 : Nat) (l1 l2 : List Int) (w : World) (B : Nat) (hr1 : RdK .i64 w B A1 n1 l1) (hr2 : RdK .i64 w B A2 n2 l2) (hn : n1 ≤ 1000000) :
    Calls Try.prog 12 #[.slice A1 n1 c1, .slice A2 n2 c2] w fun e w' => e = .returned (.bool (decide (l1 = l2))) ∧ ∃ q, w' = w.drewN q := by
  have H := Lib.hid (And.intro hr1 hr2)
  have hl1 := hr1.1
  have hl2 := hr2.1
  clear hr1 hr2
  by_cases hne : n1 = n2
  · subst hne
    have HL := Lib.hid (And.intro hl1 hl2)
    clear hl1 hl2
    have e0 : ((n1 : Int) != (n1 : Int)) = false := by simp
    go_enter Try.func12, Try.ntmps12
    go_wp2_with fail
    go_loopw [5] (fun v wr => ∃ (i q : Nat), v = .int .i64 i ∧ i ≤ n1 ∧ wr = w.drewN q ∧ Hid (∀ j, j < i → l1.getD j 0 = l2.getD j 0)) (fun v wr => n1 - (RowKit.intOf v).toNat)
    case atStart => exact ⟨0, 0, rfl, Nat.zero_le _, rfl, fun j hj => absurd hj (Nat.not_lt_zero _)⟩
    case round =>
      obtain ⟨i, q, rfl, hin, rfl, HS⟩ := hrel
      by_cases hlt : i < n1
      · have hltz : (i : Int) < (n1 : Int) := by omega
        obtain ⟨x1, o1, rfl, _, r1⟩ := H.out.1.2 i hlt
        obtain ⟨x2, o2, rfl, _, r2⟩ := H.out.2.2 i hlt
        obtain ⟨x, ex⟩ : ∃ x, l1.getD i 0 = x := ⟨_, rfl⟩
        obtain ⟨y, ey⟩ : ∃ y, l2.getD i 0 = y := ⟨_, rfl⟩
        have HX := Lib.hid (And.intro ex ey)
        rw [ex] at r1
        rw [ey] at r2
        clear ex ey
        by_cases hxy : x = y
        · subst hxy
          have HN := Lib.hid (show ∀ j, j < i + 1 → l1.getD j 0 = l2.getD j 0 from fun j hj => by
            rcases Nat.lt_or_ge j i with z | z
            · exact HS.out j z
            · obtain rfl : j = i := by omega
              rw [HX.out.1, HX.out.2])
          clear HS
          go_wp2_with fail
          go_quiet (fail)
          go_wp2_with fail
          exact ⟨⟨i + 1, _, by go_num, by omega, (by first | rfl | exact World.drewN_drewN _ _ _), HN⟩, by simp [RowKit.intOf]; omega⟩
        · have e1 : (x != y) = true := by rw [bne_iff_ne]; exact hxy
          have HF := Lib.hid (show decide (l1 = l2) = false from decide_eq_false fun e => hxy (by rw [← HX.out.1, ← HX.out.2, e]))
          clear hxy HS
          go_wp2_with fail
          go_quiet (fail)
          go_wp2_with fail
          go_ret
          exact ⟨by rw [HF.out]; rfl, _, by first | rfl | exact World.drewN_drewN _ _ _⟩
      · obtain rfl : i = n1 := by omega
        have hltz : ¬ (i : Int) < (i : Int) := by omega
        have HT := Lib.hid (show decide (l1 = l2) = true from decide_eq_true (list_eq (n := i) HL.out.1 HL.out.2 HS.out))
        clear HS
        go_wp2_with fail
        go_ret
        exact ⟨by rw [HT.out]; rfl, _, rfl⟩
  · have e0 : ((n1 : Int) != (n2 : Int)) = true := by rw [bne_iff_ne]; omega
    have HF := Lib.hid (show decide (l1 = l2) = false from decide_eq_false fun e => hne (by rw [← hl1, ← hl2, e]))
    clear hl1 hl2
    go_enter Try.func12, Try.ntmps12
    go_wp2_with fail
    go_ret
    exact ⟨by rw [HF.out]; rfl, 0, rfl⟩
theorem same_true (A1 A2 : Option Addr) (n1 c1 n2 c2 : Nat) (l1 l2 : List Int) (w : World) (B : Nat) (hr1 : RdK .i64 w B A1 n1 l1) (hr2 : RdK .i64 w B A2 n2 l2) (hn : n1 ≤ 1000000) (he : l1 = l2) :
    Calls Try.prog 12 #[.slice A1 n1 c1, .slice A2 n2 c2] w fun e w' => e = .returned (.bool true) ∧ ∃ q, w' = w.drewN q :=
  (same_any A1 A2 n1 c1 n2 c2 l1 l2 w B hr1 hr2 hn).mono fun _ _ h => ⟨by rw [h.1, decide_eq_true he], h.2⟩
theorem RdK.nil (k : IntKind) (w : World) (B : Nat) : RdK k w B none 0 [] := ⟨rfl, fun _ hj => absurd hj (Nat.not_lt_zero _)⟩
end Go.Proofs.Ytinimjejdkcodaa
