/- The reference's May; the account as a value. -/
import Derived.Test.YtnbieibbfpajeaaDoorHp
import Derived.Test.YtnbieibbfpajeaaDoorOwn
import Derived.KernelRfl
namespace Go.Proofs.YtnbieibbfpajeaaDoor
open Go.ChangeShapes Go.WideShapes Go.ChangeAt Go.RowKit Go.Lib

/-- an account as a value -/
abbrev acv (k o : Int) : Value := .agg #[.int .i64 k, .int .i64 o]
/-- a variable that holds an account -/
theorem ac_new (w : World) (t : TypeId) (k o : Int) : (w.alloc (.cells #[.int .i64 k, .int .i64 o] t)).cell? ⟨w.heap.size, 0, none⟩ = some (.int .i64 k) ∧ (w.alloc (.cells #[.int .i64 k, .int .i64 o] t)).cell? ⟨w.heap.size, 1, none⟩ = some (.int .i64 o) := ⟨by simp, by simp⟩
theorem alloc_below (w : World) (o : Obj) : Below w.heap.size w (w.alloc o) := (Below.refl _ _).alloc (Nat.le_refl _) o
theorem refmay_any (k o : Int) (w : World) : Calls Tryd.prog 8 #[acv k o] w fun e w' => e = .returned (.bool (decide (Hp.May k o))) ∧ Below w.heap.size w w' := by
  obtain ⟨c0, c1⟩ := ac_new w 23 k o
  have B := Lib.hid (alloc_below w (.cells #[.int .i64 k, .int .i64 o] 23))
  go_enter Tryd.func8, Tryd.ntmps8
  by_cases h1 : 1 ≤ k
  · have d1 : decide (1 ≤ k) = true := decide_eq_true h1
    by_cases h2 : k ≤ 3
    · have d2 : decide (k ≤ 3) = true := decide_eq_true h2
      go_wp2_with fail
      go_ret
      exact ⟨congrArg (fun b => Ending.returned (Value.bool b)) (by rw [Bool.eq_iff_iff]; simp only [decide_eq_true_iff]; unfold Hp.May; first | omega | (simp; omega)), B.out⟩
    · have d2 : decide (k ≤ 3) = false := decide_eq_false h2
      have d3 : decide (4 ≤ k) = true := decide_eq_true (by omega)
      by_cases h3 : k ≤ 12
      · have d4 : decide (k ≤ 12) = true := decide_eq_true h3
        by_cases h4 : 1 ≤ o
        · have d5 : decide (1 ≤ o) = true := decide_eq_true h4
          go_wp2_with fail
          go_ret
          exact ⟨congrArg (fun b => Ending.returned (Value.bool b)) (by rw [Bool.eq_iff_iff]; simp only [decide_eq_true_iff]; unfold Hp.May; first | omega | (simp; omega)), B.out⟩
        · have d5 : decide (1 ≤ o) = false := decide_eq_false h4
          go_wp2_with fail
          go_ret
          exact ⟨congrArg (fun b => Ending.returned (Value.bool b)) (by rw [Bool.eq_iff_iff]; simp only [decide_eq_true_iff]; unfold Hp.May; first | omega | (simp; omega)), B.out⟩
      · have d4 : decide (k ≤ 12) = false := decide_eq_false h3
        go_wp2_with fail
        go_ret
        exact ⟨congrArg (fun b => Ending.returned (Value.bool b)) (by rw [Bool.eq_iff_iff]; simp only [decide_eq_true_iff]; unfold Hp.May; first | omega | (simp; omega)), B.out⟩
  · have d1 : decide (1 ≤ k) = false := decide_eq_false h1
    have d3 : decide (4 ≤ k) = false := decide_eq_false (by omega)
    go_wp2_with fail
    go_ret
    exact ⟨congrArg (fun b => Ending.returned (Value.bool b)) (by rw [Bool.eq_iff_iff]; simp only [decide_eq_true_iff]; unfold Hp.May; first | omega | (simp; omega)), B.out⟩
end Go.Proofs.YtnbieibbfpajeaaDoor
