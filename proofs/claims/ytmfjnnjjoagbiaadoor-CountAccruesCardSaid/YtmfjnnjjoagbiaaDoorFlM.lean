/- Division bit by bit. No program in sight. -/
import Derived.Test.YtmfjnnjjoagbiaaDoorDg
import Derived.Laws.Bits64b
namespace Go.Proofs.YtmfjnnjjoagbiaaDoor.Dg
open Go
theorem pw_two (j : Nat) : pw j = 2 ^ (16 * j) := by
  unfold pw; rw [show (65536 : Int) = 2 ^ 16 from rfl, ← Int.pow_mul]
theorem two_pos (s : Nat) : (0 : Int) < 2 ^ s := Int.pow_pos (by decide)
theorem dv_split (ds : List Int) (j : Nat) (h : j ≤ ds.length) : dv ds = pre ds j + pw j * dv (ds.drop j) := by
  conv => lhs; rw [← List.take_append_drop j ds]
  rw [dv_append, List.length_take, Nat.min_eq_left h]; rfl
theorem bit_of {ds : List Int} (hd : Dig ds) (j s : Nat) (hj : j < ds.length) (hs : s < 16) : (ds.getD j 0 / 2 ^ s) % 2 = (dv ds / 2 ^ (16 * j + s)) % 2 := by
  have h1 := dv_split ds j (Nat.le_of_lt hj)
  have h2 : dv (ds.drop j) = ds.getD j 0 + 65536 * dv (ds.drop (j + 1)) := by
    rw [List.drop_eq_getElem_cons hj, List.getD_eq_getElem?_getD, List.getElem?_eq_getElem hj]; rfl
  have h3 := pre_bd hd j
  have h4 := pw_pos j
  generalize dv (ds.drop (j + 1)) = T at *
  have e1 : dv ds / pw j = ds.getD j 0 + 65536 * T := by
    rw [h1, h2, Int.add_mul_ediv_left _ _ (by omega), Int.ediv_eq_zero_of_lt h3.1 h3.2]; omega
  have e2 : (2 : Int) ^ (16 * j + s) = pw j * 2 ^ s := by rw [pw_two, ← Int.pow_add]
  rw [e2, ← Int.ediv_ediv_of_nonneg (by omega), e1]
  have e3 : (65536 : Int) = 2 ^ s * (2 * 2 ^ (15 - s)) := by
    rw [show (2 : Int) * 2 ^ (15 - s) = 2 ^ (15 - s + 1) from by rw [Int.pow_succ]; omega, ← Int.pow_add, show s + (15 - s + 1) = 16 by omega]; rfl
  have e4 : ds.getD j 0 + 65536 * T = ds.getD j 0 + 2 ^ s * (2 * (2 ^ (15 - s) * T)) := by
    conv => lhs; rw [e3]
    grind
  rw [e4, Int.add_mul_ediv_left _ _ (by have := two_pos s; omega)]
  omega
/-- the number of the bits above k -/
theorem top_bits (N : Int) (k : Nat) : N / 2 ^ k = 2 * (N / 2 ^ (k + 1)) + N / 2 ^ k % 2 := by
  rw [Int.pow_succ, ← Int.ediv_ediv_of_nonneg (by have := two_pos k; omega)]; omega
theorem bits_one {z : Int} (h0 : 0 ≤ z) (h1 : z < 65536) (s : Nat) : bits .and .u64 (z / 2 ^ s) 1 = (z / 2 ^ s) % 2 := by
  have a0 : 0 ≤ z / 2 ^ s := Int.ediv_nonneg h0 (by have := two_pos s; omega)
  have a1 : z / 2 ^ s ≤ z := Int.ediv_le_self _ h0
  obtain ⟨n, hn⟩ := Int.eq_ofNat_of_zero_le a0
  rw [hn] at a1 ⊢
  have := bits_and_u64_nat n 1 (by omega) (by decide)
  rw [show n &&& 1 = n % 2 from Nat.and_one_is_mod n] at this
  refine this.trans ?_
  omega
/-- rounding down by size and sign -/
theorem floor_pos {N C Q R : Int} (h : N = Q * C + R) (h0 : 0 ≤ R) (h1 : R < C) : Q = N / C := by
  rw [h, Int.add_comm, Int.add_mul_ediv_right _ _ (by omega), Int.ediv_eq_zero_of_lt h0 h1]; omega
theorem floor_neg {N C Q R : Int} (h : N = Q * C + R) (h0 : 0 < R) (h1 : R < C) : -Q + -1 = -N / C := by
  have : -N = (C - R) + (-Q + -1) * C := by rw [h]; grind
  rw [this, Int.add_mul_ediv_right _ _ (by omega), Int.ediv_eq_zero_of_lt (by omega) (by omega)]; omega
theorem floor_neg0 {N C Q : Int} (h : N = Q * C + 0) (h1 : 0 < C) : -Q = -N / C := by
  have : -N = -Q * C := by rw [h]; grind
  rw [this, Int.mul_ediv_cancel _ (by omega)]
end Go.Proofs.YtmfjnnjjoagbiaaDoor.Dg
