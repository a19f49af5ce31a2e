import Derived.Test.YtedbfkpmffehaaaQuo
namespace Go.Proofs.Ytedbfkpmffehaaa
open Go.RowKit Go.Shelf Go.Lib Ar Dg

theorem qv_pos (X y m : Int) (hy : 0 < y) (hX : 0 < X) (hm : m = 1 ∨ m = 2 ∨ m = 3 ∨ m = 4) : X / y + (if rup (X / y) (X % y) y false m then 1 else 0) = qv X y m := by
  have h1 := Int.emod_nonneg X (show y ≠ 0 by omega)
  have h2 := Int.emod_lt_of_pos X hy
  unfold rup qv
  generalize X / y = q at *
  generalize X % y = r at *
  rcases hm with rfl | rfl | rfl | rfl <;> simp <;> intros <;> (repeat' split) <;> omega
theorem qv_neg (X y m : Int) (hy : 0 < y) (hX : X < 0) (hm : m = 1 ∨ m = 2 ∨ m = 3 ∨ m = 4) : -(-X / y + (if rup (-X / y) (-X % y) y true m then 1 else 0)) = qv X y m := by
  have h1 := Int.emod_nonneg (-X) (show y ≠ 0 by omega)
  have h2 := Int.emod_lt_of_pos (-X) hy
  have h3 := Int.mul_ediv_add_emod (-X) y
  have key : (-X % y = 0 ∧ X / y = -(-X / y) ∧ X % y = 0) ∨ (0 < -X % y ∧ X / y = -(-X / y) - 1 ∧ X % y = y - -X % y) := by
    generalize -X / y = q at *
    generalize -X % y = r at *
    rcases Int.lt_or_eq_of_le h1 with h | h
    · refine .inr ⟨h, (Int.ediv_emod_unique hy).2 ⟨?_, by omega, by omega⟩⟩
      rw [Int.mul_sub, Int.mul_neg]
      generalize y * q = t at *
      omega
    · refine .inl ⟨h.symm, (Int.ediv_emod_unique hy).2 ⟨?_, by omega, by omega⟩⟩
      rw [Int.mul_neg]
      generalize y * q = t at *
      omega
  clear h3
  unfold rup qv
  generalize -X / y = q at *
  generalize -X % y = r at *
  generalize X / y = q2 at *
  generalize X % y = r2 at *
  rcases key with ⟨k1, rfl, rfl⟩ | ⟨k1, rfl, rfl⟩
  · subst k1
    rcases hm with rfl | rfl | rfl | rfl <;> simp
  · rcases hm with rfl | rfl | rfl | rfl <;> simp <;> intros <;> (repeat' split) <;> omega
theorem neg3_mul (a b c : Int) (hc : c ≠ 0) (h : a * b ≠ 0) : neg3 a b c = decide ((if c < 0 then -(a * b) else a * b) < 0) := by
  have ha : a ≠ 0 := fun h' => h (by rw [h', Int.zero_mul])
  have hb : b ≠ 0 := fun h' => h (by rw [h', Int.mul_zero])
  unfold neg3
  by_cases a1 : a < 0 <;> by_cases b1 : b < 0 <;> by_cases c1 : c < 0
  all_goals
    first
      | have h1 := Int.mul_pos_of_neg_of_neg a1 b1
      | have h1 := Int.mul_neg_of_neg_of_pos a1 (show 0 < b by omega)
      | have h1 := Int.mul_neg_of_pos_of_neg (show 0 < a by omega) b1
      | have h1 := Int.mul_pos (show 0 < a by omega) (show 0 < b by omega)
    generalize a * b = t at *
    simp [a1, b1, c1]
    omega
theorem mdv_qv (a b c m : Int) (hc : c ≠ 0) (hm : m = 1 ∨ m = 2 ∨ m = 3 ∨ m = 4) : mdv a b c m = qv (if c < 0 then -(a * b) else a * b) (abs c) m := by
  have hy : 0 < abs c := by have := abs_pos hc; omega
  by_cases h0 : a * b = 0
  · have e1 : mag a b c m = 0 := by unfold mag; rw [abs_mul2, h0]; simp [rup, abs]
    unfold mdv; rw [e1, h0]; simp [qv]
  · have e1 : mag a b c m = abs (a * b) / abs c + if rup (abs (a * b) / abs c) (abs (a * b) % abs c) (abs c) (neg3 a b c) m then 1 else 0 := by unfold mag; rw [abs_mul2]
    unfold mdv; rw [e1, neg3_mul a b c hc h0]
    generalize abs c = y at *
    have ex : ∀ X : Int, X ≠ 0 → (X = a * b ∨ X = -(a * b)) → (if decide (X < 0) = true then -(abs (a * b) / y + if rup (abs (a * b) / y) (abs (a * b) % y) y (decide (X < 0)) m then 1 else 0) else (abs (a * b) / y + if rup (abs (a * b) / y) (abs (a * b) % y) y (decide (X < 0)) m then 1 else 0)) = qv X y m := by
      intro X hX0 hX
      rcases Int.lt_or_gt_of_ne hX0 with h | h
      · have ea : abs (a * b) = -X := by unfold abs; split <;> omega
        rw [ea, if_pos (by simpa using h)]
        have ed : decide (X < 0) = true := by simpa using h
        rw [ed]; exact qv_neg X y m hy h hm
      · have ea : abs (a * b) = X := by unfold abs; split <;> omega
        have ed : decide (X < 0) = false := by rw [decide_eq_false_iff_not]; omega
        rw [ea, ed, if_neg (by decide)]
        exact qv_pos X y m hy h hm
    exact ex _ (by split <;> omega) (by split; exact .inr rfl; exact .inl rfl)
theorem mv_bad {a b c m : Int} (h : Bad c m) : mv a b c m = 0 ∧ me a b c m = .iface 39 (.int .i64 1) := ⟨if_pos h, if_pos h⟩
theorem mv_good {a b c m : Int} (h : ¬ Bad c m) : mv a b c m = sv (mdv a b c m) ∧ me a b c m = se (mdv a b c m) := by
  unfold mv me sv se; rw [if_neg h, if_neg h]; exact ⟨rfl, rfl⟩
end Go.Proofs.Ytedbfkpmffehaaa
