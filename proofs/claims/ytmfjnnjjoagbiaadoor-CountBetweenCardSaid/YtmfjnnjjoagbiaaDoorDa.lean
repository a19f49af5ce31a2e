import Derived.Test.YtmfjnnjjoagbiaaDoorDd
namespace Go.Proofs.YtmfjnnjjoagbiaaDoor
open Go.RowKit Go.Lib Go.ChangeShapes Go.WideShapes Go.ChangeAt

theorem isLeap_any (y : Int) (h1 : 1900 ≤ y) (h2 : y ≤ 2199) (w : World) : Calls Tryd.prog 44 #[.int .i64 y] w fun e w' => e = .returned (.bool (decide (Dt.leap y))) ∧ w = w' := by
  have q1 : y.tmod 400 = y % 400 := Int.tmod_eq_emod_of_nonneg (by omega)
  have q2 : y.tmod 4 = y % 4 := Int.tmod_eq_emod_of_nonneg (by omega)
  have q3 : y.tmod 100 = y % 100 := Int.tmod_eq_emod_of_nonneg (by omega)
  go_enter Tryd.func44, Tryd.ntmps44
  go_wp2
  all_goals (go_ret; refine ⟨?_, rfl⟩; simp only [Ending.returned.injEq, Value.bool.injEq]; unfold Dt.leap; simp [*] at *; try (first | rfl | omega))
theorem days_same (y m : Int) (w : World) (hL : Laid w) : Calls Tryd.prog 32 #[.int .i64 y, .int .i64 m] w fun e w' => e = .returned (.int .i64 (Dt.dys y m)) ∧ w = w' := by
  have HL := Lib.hid hL
  clear hL
  by_cases h : y < 1900 ∨ 2199 < y ∨ m < 1 ∨ 12 < m
  · have e : Dt.dys y m = 0 := by unfold Dt.dys; exact if_pos h
    rw [e]
    go_enter Tryd.func32, Tryd.ntmps32
    go_wp2_with fail
    all_goals (first | (exfalso; omega) | (go_ret; exact ⟨by simp, rfl⟩))
  · have hy : Dt.InY y := by unfold Dt.InY; omega
    have hm : Dt.InM m := by unfold Dt.InM; omega
    rw [Dt.dys_in hy hm]
    have b1 : 1900 ≤ y := hy.1
    have b2 : y ≤ 2199 := hy.2
    have d1 : decide (y < 1900) = false := by simp; omega
    have d2 : decide (2199 < y) = false := by simp; omega
    have HF := Lib.hid (Dt.fb_cases y)
    obtain ⟨⟨a0, a1, a2, a3⟩, ⟨e0, e1, e2, e3⟩, c0, c1, c2, c3⟩ := HL.out
    clear h
    rcases Dt.twelve hm with rfl | rfl | rfl | rfl | rfl | rfl | rfl | rfl | rfl | rfl | rfl | rfl
    case inr.inl =>
      clear hy hm
      rcases HF.out with ⟨k1, k2⟩ | ⟨k1, k2⟩
      · have HK := Lib.hid k1
        rw [k2]
        clear k1 k2
        go_enter Tryd.func32, Tryd.ntmps32
        go_wp2_with fail
        refine (isLeap_any y b1 b2 _).mono ?_; rintro e w' ⟨rfl, rfl⟩
        rw [decide_eq_true HK.out]
        go_wp2_with fail
        go_ret
        exact ⟨by simp, rfl⟩
      · have HK := Lib.hid k1
        rw [k2]
        clear k1 k2
        go_enter Tryd.func32, Tryd.ntmps32
        go_wp2_with fail
        refine (isLeap_any y b1 b2 _).mono ?_; rintro e w' ⟨rfl, rfl⟩
        rw [decide_eq_false HK.out]
        go_wp2_with fail
        go_ret
        exact ⟨by simp, rfl⟩
    all_goals
      clear hy hm
      go_enter Tryd.func32, Tryd.ntmps32
      go_wp2_with fail
      go_ret
      exact ⟨by simp, rfl⟩
theorem cdays (y m : Int) (w : World) (hL : Laid w) : Calls Tryd.prog 32 #[.int .i64 y, .int .i64 m] w fun e w' => e = .returned (.int .i64 (Dt.dys y m)) ∧ Below w.heap.size w w' :=
  (days_same y m w hL).mono fun _ _ ⟨a, b⟩ => ⟨a, b ▸ Below.refl _ _⟩
theorem cdays_q (y m : Int) (w : World) (hL : Laid w) (n : Nat) : Calls Tryd.prog 32 #[.int .i64 y, .int .i64 m] (w.drewN n) fun e w' => e = .returned (.int .i64 (Dt.dys y m)) ∧ ∃ k, w' = (w.drewN n).drewN k :=
  (days_same y m _ (hL.drewN n)).mono fun _ _ ⟨a, b⟩ => ⟨a, 0, b.symm⟩
theorem cdays_s (y m : Int) (w : World) (hL : Laid w) (n : Nat) : Calls Tryd.prog 32 #[.int .i64 y, .int .i64 m] (w.drewN n) fun e w' => e = .returned (.int .i64 (Dt.dys y m)) ∧ w' = w.drewN n :=
  (days_same y m _ (hL.drewN n)).mono fun _ _ ⟨a, b⟩ => ⟨a, b.symm⟩
theorem cmay (y m d : Int) (w : World) (hL : Laid w) : Calls Tryd.prog 31 #[dtv y m d] w fun e w' => e = .returned (.bool (decide (Dt.May y m d))) ∧ Below w.heap.size w w' := by
  have HL := Lib.hid (hL.below ((Below.refl _ _).alloc (Nat.le_refl _) (.cells #[.int .i64 y, .int .i64 m, .int .i64 d] 23)))
  clear hL
  by_cases h : 1 ≤ d
  · go_enter Tryd.func31, Tryd.ntmps31
    go_wp2_with fail
    go_quiet ((go_at_call 32; exact Calls.quiet_of_same (cdays_s y m _ HL.out _)))
    go_wp2_with fail
    go_ret
    exact ⟨by simp [Dt.May, h], ((Below.refl _ _).alloc (Nat.le_refl _) _).trans (below_drewN _ _ _)⟩
  · have h2 : decide (1 ≤ d) = false := by simpa using h
    go_enter Tryd.func31, Tryd.ntmps31
    go_wp2_with fail
    go_quiet (fail)
    go_wp2_with fail
    go_ret
    exact ⟨by simp; unfold Dt.May; omega, ((Below.refl _ _).alloc (Nat.le_refl _) _).trans (below_drewN _ _ _)⟩
end Go.Proofs.YtmfjnnjjoagbiaaDoor
