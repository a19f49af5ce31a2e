import Derived.Test.YtmfjnnjjoagbiaaDoorDd
namespace Go.Proofs.YtmfjnnjjoagbiaaDoor
open Go.RowKit Go.Lib Go.ChangeShapes Go.WideShapes Go.ChangeAt

theorem leapsAhead_any (y : Int) (h1 : 1899 ≤ y) (h2 : y ≤ 2200) (w : World) : Calls Tryd.prog 45 #[.int .i64 y] w fun e w' => e = .returned (.int .i64 ((y - 1) / 4 - (y - 1) / 100 + (y - 1) / 400)) ∧ w = w' := by
  have q1 : (y - 1).tdiv 400 = (y - 1) / 400 := Int.tdiv_eq_ediv_of_nonneg (by omega)
  have q2 : (y - 1).tdiv 4 = (y - 1) / 4 := Int.tdiv_eq_ediv_of_nonneg (by omega)
  have q3 : (y - 1).tdiv 100 = (y - 1) / 100 := Int.tdiv_eq_ediv_of_nonneg (by omega)
  go_enter Tryd.func45, Tryd.ntmps45
  go_wp2
  all_goals (go_ret; exact ⟨by simp, rfl⟩)
theorem newYear_any (y : Int) (h1 : 1899 ≤ y) (h2 : y ≤ 2200) (w : World) : Calls Tryd.prog 34 #[.int .i64 y] w fun e w' => e = .returned (.int .i64 (Dt.cy y)) ∧ w = w' := by
  go_enter Tryd.func34, Tryd.ntmps34
  go_wp2_with fail
  refine (leapsAhead_any y h1 h2 _).mono ?_; rintro e w' ⟨rfl, rfl⟩
  have HQ := Lib.hid (show ∃ L, L = (y - 1) / 4 - (y - 1) / 100 + (y - 1) / 400 ∧ 0 ≤ L ∧ L ≤ 600 from ⟨_, rfl, by omega, by omega⟩)
  obtain ⟨L, hL, l1, l2⟩ := HQ.out
  rw [← hL]
  have HL := Lib.hid hL
  clear hL HQ
  go_wp2_with fail
  refine (leapsAhead_any 1970 (by decide) (by decide) _).mono ?_; rintro e w' ⟨rfl, rfl⟩
  rw [show ((1970 : Int) - 1) / 4 - (1970 - 1) / 100 + (1970 - 1) / 400 = 477 by decide]
  go_wp2_with fail
  go_ret
  exact ⟨by have := HL.out; unfold Dt.cy; simp; omega, rfl⟩
theorem newYear_q (y : Int) (h1 : 1899 ≤ y) (h2 : y ≤ 2200) (w : World) (n : Nat) : Calls Tryd.prog 34 #[.int .i64 y] (w.drewN n) fun e w' => e = .returned (.int .i64 (Dt.cy y)) ∧ w' = w.drewN n :=
  (newYear_any y h1 h2 _).mono fun _ _ ⟨a, b⟩ => ⟨a, b.symm⟩
end Go.Proofs.YtmfjnnjjoagbiaaDoor
