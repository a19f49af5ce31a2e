import Derived.Lib.ItoaNum
import Derived.Laws.Bits64b
namespace Go.Proofs.YtmfjnnjjoagbiaaDoor.Ar
/-- what holds at each round's head: u the number above, v the digit below, q the guess, r what it leaves -/
def Rel (u y1 y0 v q r : Int) : Prop := r + q * y1 = u ∧ (u * 4294967296 + v) / (y1 * 4294967296 + y0) ≤ q
def Qt (u y1 y0 v : Int) : Int := (u * 4294967296 + v) / (y1 * 4294967296 + y0)
def Rt (u y1 y0 v : Int) : Int := (u * 4294967296 + v) % (y1 * 4294967296 + y0)
theorem iq_lt {u y v : Int} (hu0 : 0 ≤ u) (hu : u < y) (hv0 : 0 ≤ v) (hv : v < 4294967296) : 0 ≤ (u * 4294967296 + v) / y ∧ (u * 4294967296 + v) / y < 4294967296 := by
  refine ⟨Int.ediv_nonneg (by omega) (by omega), ?_⟩
  rw [Int.ediv_lt_iff_lt_mul (by omega)]
  omega
theorem irel_round {u y1 y0 v q r : Int} (hv0 : 0 ≤ v) (hv : v < 4294967296) (hu0 : 0 ≤ u) (hu : u < y1 * 4294967296 + y0)
    (hr : Rel u y1 y0 v q r) (h : 4294967296 ≤ q ∨ 4294967296 * r + v < q * y0) : 1 ≤ q ∧ Rel u y1 y0 v (q - 1) (r + y1) := by
  obtain ⟨e1, e2⟩ := hr
  have hq : (u * 4294967296 + v) / (y1 * 4294967296 + y0) ≤ q - 1 := by
    rcases h with h | h
    · have := iq_lt hu0 hu hv0 hv; omega
    · have h3 : u * 4294967296 + v < q * (y1 * 4294967296 + y0) := by
        have : q * (y1 * 4294967296 + y0) + (4294967296 * r + v) = u * 4294967296 + v + q * y0 := by subst e1; grind
        omega
      have := (Int.ediv_lt_iff_lt_mul (by omega : 0 < y1 * 4294967296 + y0)).2 h3
      omega
  have := (iq_lt hu0 hu hv0 hv).1
  refine ⟨by omega, ?_, hq⟩
  subst e1; grind
theorem irel_end {u y1 y0 v q r : Int} (h1 : 1 ≤ y1) (h0 : 0 ≤ y0) (hr : Rel u y1 y0 v q r) (h : q * y0 ≤ 4294967296 * r + v) : q = Qt u y1 y0 v := by
  obtain ⟨e1, e2⟩ := hr
  have h3 : q * (y1 * 4294967296 + y0) ≤ u * 4294967296 + v := by
    have : q * (y1 * 4294967296 + y0) + (4294967296 * r + v) = u * 4294967296 + v + q * y0 := by subst e1; grind
    omega
  have := (Int.le_ediv_iff_mul_le (by omega : 0 < y1 * 4294967296 + y0)).2 h3
  unfold Qt; omega
theorem irel_break {u y1 y0 v q r : Int} (h1 : 1 ≤ y1) (h0 : 0 ≤ y0) (h0' : y0 < 4294967296) (hv : 0 ≤ v) (hr : Rel u y1 y0 v q r) (hq : q ≤ 4294967296) (h : 4294967296 ≤ r) : q = Qt u y1 y0 v := by
  refine irel_end h1 h0 hr ?_
  have := Int.mul_le_mul_of_nonneg_right hq h0
  omega
theorem irel_start {u y1 y0 v : Int} (h1 : 2147483648 ≤ y1) (h1' : y1 < 4294967296) (h0 : 0 ≤ y0) (h0' : y0 < 4294967296) (hv0 : 0 ≤ v) (hv : v < 4294967296) (hu0 : 0 ≤ u) (hu : u < y1 * 4294967296 + y0) :
    Rel u y1 y0 v (u / y1) (u - u / y1 * y1) ∧ 0 ≤ u / y1 ∧ u / y1 ≤ 4294967297 ∧ 0 ≤ u / y1 * y1 ∧ u / y1 * y1 ≤ u ∧ 0 ≤ u - u / y1 * y1 ∧ u - u / y1 * y1 < 4294967296 := by
  have hd := Int.emod_add_mul_ediv u y1
  have hm := Int.emod_lt_of_pos u (by omega : 0 < y1)
  have hn := Int.emod_nonneg u (by omega : y1 ≠ 0)
  rw [Int.mul_comm] at hd
  have a := Int.ediv_nonneg hu0 (by omega : 0 ≤ y1)
  have b : u / y1 ≤ 4294967297 := by
    have : u / y1 < 4294967298 := by rw [Int.ediv_lt_iff_lt_mul (by omega)]; omega
    omega
  have c := Int.mul_nonneg a (by omega : 0 ≤ y1)
  refine ⟨⟨by omega, ?_⟩, a, b, c, by omega, by omega, by omega⟩
  have : (u * 4294967296 + v) / (y1 * 4294967296 + y0) < u / y1 + 1 := by
    rw [Int.ediv_lt_iff_lt_mul (by omega)]
    have e : (u / y1 + 1) * (y1 * 4294967296 + y0) = (u / y1 * y1 + y1) * 4294967296 + (u / y1 + 1) * y0 := by grind
    rw [e]
    have := Int.mul_nonneg (by omega : 0 ≤ u / y1 + 1) h0
    have : u + 1 ≤ u / y1 * y1 + y1 := by omega
    have := Int.mul_le_mul_of_nonneg_right this (by decide : (0:Int) ≤ 4294967296)
    omega
  omega
/-- the bounds of the products in a round -/
theorem iprod {q y0 : Int} (hq0 : 0 ≤ q) (hq : q < 4294967296) (h0 : 0 ≤ y0) (h0' : y0 < 4294967296) : 0 ≤ q * y0 ∧ q * y0 < 18446744073709551616 := by
  refine ⟨Int.mul_nonneg hq0 h0, ?_⟩
  have := Int.mul_le_mul_of_nonneg_right (by omega : q ≤ 4294967295) h0
  omega
theorem irt {u y1 y0 v : Int} (h1 : 1 ≤ y1) (h0 : 0 ≤ y0) : 0 ≤ Rt u y1 y0 v ∧ Rt u y1 y0 v < y1 * 4294967296 + y0 := by
  unfold Rt
  exact ⟨Int.emod_nonneg _ (by omega), Int.emod_lt_of_pos _ (by omega)⟩
theorem irt_eq (u y1 y0 v : Int) : u * 4294967296 + v - Qt u y1 y0 v * (y1 * 4294967296 + y0) = Rt u y1 y0 v := by
  unfold Rt Qt
  have := Int.emod_add_mul_ediv (u * 4294967296 + v) (y1 * 4294967296 + y0)
  rw [Int.mul_comm (y1 * 4294967296 + y0)] at this
  generalize (u * 4294967296 + v) / (y1 * 4294967296 + y0) * (y1 * 4294967296 + y0) = A at *
  generalize (u * 4294967296 + v) % (y1 * 4294967296 + y0) = B at *
  omega
theorem isplit (U u1 u0 Y : Int) (hY : 0 < Y) :
    (U * 18446744073709551616 + (u1 * 4294967296 + u0)) / Y = (U * 4294967296 + u1) / Y * 4294967296 + ((U * 4294967296 + u1) % Y * 4294967296 + u0) / Y ∧
    (U * 18446744073709551616 + (u1 * 4294967296 + u0)) % Y = ((U * 4294967296 + u1) % Y * 4294967296 + u0) % Y := by
  have e := Int.emod_add_mul_ediv (U * 4294967296 + u1) Y
  have h : U * 18446744073709551616 + (u1 * 4294967296 + u0) = ((U * 4294967296 + u1) % Y * 4294967296 + u0) + Y * ((U * 4294967296 + u1) / Y * 4294967296) := by
    have h : U * 18446744073709551616 + (u1 * 4294967296 + u0) = (U * 4294967296 + u1) * 4294967296 + u0 := by omega
    rw [h]; generalize (U * 4294967296 + u1) / Y = a at *; generalize (U * 4294967296 + u1) % Y = b at *; rw [← e]; grind
  rw [h]
  refine ⟨?_, by rw [Int.add_mul_emod_self_left]⟩
  rw [Int.add_mul_ediv_left _ _ (by omega)]; omega
theorem idiv_pow (N y S : Int) (hS : 0 < S) : (N * S) / (y * S) = N / y ∧ (N * S) % (y * S) / S = N % y := by
  rw [Int.mul_comm N, Int.mul_comm y]
  refine ⟨Int.mul_ediv_mul_of_pos _ _ hS, ?_⟩
  rw [Int.mul_emod_mul_of_pos _ _ hS, Int.mul_ediv_cancel_left _ (by omega)]
/-- a wrap of wraps: what the walk leaves of 'u * 2^32 + v - q * y' -/
theorem iwrap {u v q y R : Int} (h : u * 4294967296 + v - q * y = R) (h0 : 0 ≤ R) (h1 : R < 18446744073709551616) :
    ((((u * 4294967296) % 18446744073709551616 + v) % 18446744073709551616) - (q * y) % 18446744073709551616) % 18446744073709551616 = R := by
  generalize q * y = A at *
  omega
open Go

theorem bounds64 (n : Nat) (h1 : 1 ≤ n) (h2 : n < 18446744073709551616) : ∃ k, k ≤ 63 ∧ Lib.bitLen n = 64 - k ∧ 9223372036854775808 ≤ n * 2 ^ k ∧ n * 2 ^ k < 18446744073709551616 := by
  have hb := Lib.bitLenAux_bounds 64 n (by omega) (by omega)
  have hl := Lib.bitLen_le n 64 (by omega) (by omega)
  change 1 ≤ Lib.bitLen n ∧ 2 ^ (Lib.bitLen n - 1) ≤ n ∧ n < 2 ^ Lib.bitLen n at hb
  obtain ⟨a, b, c⟩ := hb
  refine ⟨64 - Lib.bitLen n, by omega, by omega, ?_, ?_⟩
  · have e : 2 ^ (Lib.bitLen n - 1) * 2 ^ (64 - Lib.bitLen n) = 9223372036854775808 := by
      rw [← Nat.pow_add, show Lib.bitLen n - 1 + (64 - Lib.bitLen n) = 63 by omega]
    rw [← e]; exact Nat.mul_le_mul_right _ b
  · have e : 2 ^ Lib.bitLen n * 2 ^ (64 - Lib.bitLen n) = 18446744073709551616 := by
      rw [← Nat.pow_add, show Lib.bitLen n + (64 - Lib.bitLen n) = 64 by omega]
    rw [← e]; exact (Nat.mul_lt_mul_right (Nat.two_pow_pos _)).2 c

/-- the high word of a shifted number -/
theorem or64 (h l k : Nat) (hk : k ≤ 63) (hl : l < 18446744073709551616) (hh : h * 2 ^ k < 18446744073709551616) :
    bits .or .u64 ((h * 2 ^ k : Nat) : Int) ((l / 2 ^ (64 - k) : Nat) : Int) = ((h * 2 ^ k + l / 2 ^ (64 - k) : Nat) : Int) ∧ l * 2 ^ k = l / 2 ^ (64 - k) * 18446744073709551616 + l * 2 ^ k % 18446744073709551616 := by
  have e : 2 ^ k * 2 ^ (64 - k) = 18446744073709551616 := by rw [← Nat.pow_add, show k + (64 - k) = 64 by omega]
  have hp := Nat.two_pow_pos k
  have hp2 := Nat.two_pow_pos (64 - k)
  have hd : l / 2 ^ (64 - k) < 2 ^ k := by
    rw [Nat.div_lt_iff_lt_mul hp2, e]; exact hl
  have hk2 : 2 ^ k ≤ 9223372036854775808 := by
    have := Nat.pow_le_pow_right (by omega : 0 < 2) hk; omega
  refine ⟨?_, ?_⟩
  · rw [bits_or_u64_nat _ _ hh (by omega), Nat.mul_comm h, ← Nat.two_pow_add_eq_or_of_lt hd]
  · have h1 : l * 2 ^ k / 18446744073709551616 = l / 2 ^ (64 - k) := by
      rw [← e, Nat.mul_comm l, Nat.mul_div_mul_left _ _ hp]
    have := Nat.div_add_mod (l * 2 ^ k) 18446744073709551616
    rw [h1] at this; omega
end Go.Proofs.YtmfjnnjjoagbiaaDoor.Ar
