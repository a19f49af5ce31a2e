/- The plain arithmetic of sums in 128 bits. -/
import Derived.Test.YtmfjnnjjoagbiaaDoorSp
namespace Go.Proofs.YtmfjnnjjoagbiaaDoor.Ar
theorem sum_snoc (zs : List Int) (k : Nat) (h : k < zs.length) : (zs.take (k + 1)).sum = (zs.take k).sum + zs.getD k 0 := by
  rw [List.take_succ_eq_append_getElem h, List.sum_append]; simp [List.getD, List.getElem?_eq_getElem h]
theorem sum_bound : ∀ zs : List Int, (∀ z ∈ zs, In z) → -(9223372036854775808 * (zs.length : Int)) ≤ zs.sum ∧ zs.sum ≤ 9223372036854775808 * (zs.length : Int)
  | [], _ => by simp
  | z :: l, h => by
    have h1 := sum_bound l fun y hy => h y (List.mem_cons_of_mem _ hy)
    have h2 := h z List.mem_cons_self
    unfold In at h2
    simp only [List.sum_cons, List.length_cons]
    omega
/-- the lower and the higher word of a whole number -/
def lo64 (s : Int) : Int := s % 18446744073709551616
def hi64 (s : Int) : Int := s / 18446744073709551616 % 18446744073709551616
theorem lo_bd (s : Int) : 0 ≤ lo64 s ∧ lo64 s < 18446744073709551616 := by unfold lo64; omega
theorem hi_bd (s : Int) : 0 ≤ hi64 s ∧ hi64 s < 18446744073709551616 := by unfold hi64; omega
theorem lo_step (s n : Int) : (lo64 s + n % 18446744073709551616) % 18446744073709551616 = lo64 (s + n) := by unfold lo64; omega
theorem hi_step (s n : Int) (h : In n) : (hi64 s + n / 9223372036854775808 % 18446744073709551616 + (lo64 s + n % 18446744073709551616) / 18446744073709551616) % 18446744073709551616 = hi64 (s + n) := by
  unfold lo64 hi64; obtain ⟨_, _⟩ := h
  have e : (s + n) / 18446744073709551616 = s / 18446744073709551616 + n / 9223372036854775808 + (s % 18446744073709551616 + n % 18446744073709551616) / 18446744073709551616 := by
    by_cases hn : n < 0
    · have : n / 9223372036854775808 = -1 := by omega
      rw [this]; omega
    · have : n / 9223372036854775808 = 0 := by omega
      rw [this]; omega
  rw [e]
  generalize (s % 18446744073709551616 + n % 18446744073709551616) / 18446744073709551616 = c
  generalize s / 18446744073709551616 = a
  generalize n / 9223372036854775808 = b
  omega
/-- the lower word with a sign -/
def sg (s : Int) : Int := (lo64 s + 9223372036854775808) % 18446744073709551616 - 9223372036854775808
theorem sg_in (s : Int) : In (sg s) := by unfold sg In; omega
theorem sg_fits (s : Int) (h : Fits s) : sg s = s ∧ hi64 s = s / 9223372036854775808 % 18446744073709551616 := by
  unfold sg hi64 lo64; obtain ⟨_, _⟩ := h; omega
theorem sg_over (s : Int) (h : ¬ Fits s) (b1 : -85070591730234615865843651857942052864 ≤ s) (b2 : s ≤ 85070591730234615865843651857942052864) : hi64 s ≠ sg s / 9223372036854775808 % 18446744073709551616 := by
  intro e
  unfold Fits at h
  have e1 : s = s / 18446744073709551616 * 18446744073709551616 + s % 18446744073709551616 := by omega
  have e2 : 0 ≤ s % 18446744073709551616 ∧ s % 18446744073709551616 < 18446744073709551616 := by omega
  unfold sg hi64 lo64 at e
  generalize s / 18446744073709551616 = q at *
  generalize s % 18446744073709551616 = r at *
  have bq : -4611686018427387905 ≤ q ∧ q ≤ 4611686018427387904 := by omega
  by_cases hr : r < 9223372036854775808
  · have : ((r % 18446744073709551616 + 9223372036854775808) % 18446744073709551616 - 9223372036854775808) / 9223372036854775808 = 0 := by omega
    have : ((r + 9223372036854775808) % 18446744073709551616 - 9223372036854775808) / 9223372036854775808 = 0 := by omega
    simp only [this] at e
    omega
  · have : ((r + 9223372036854775808) % 18446744073709551616 - 9223372036854775808) / 9223372036854775808 = -1 := by omega
    simp only [this] at e
    omega
end Go.Proofs.YtmfjnnjjoagbiaaDoor.Ar
