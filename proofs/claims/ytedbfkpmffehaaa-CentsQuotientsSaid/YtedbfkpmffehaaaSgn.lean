/- The sign of what '(a ^ b) & (a ^ d)' comes to. -/
import Derived.Test.YtedbfkpmffehaaaSp
import Derived.Laws.Bits64
import Derived.Laws.BitsLemmas
namespace Go.Proofs.Ytedbfkpmffehaaa.Ar
open Go
theorem toInt_wrap (x : BitVec 64) : IntKind.i64.wrap (x.toNat : Int) = x.toInt := by
  rw [IntKind.wrap_i64, BitVec.toInt_eq_toNat_cond]
  have := x.isLt
  split <;> omega
theorem of_in {a : Int} (h : In a) : (BitVec.ofInt 64 a).toInt = a := by
  rw [BitVec.toInt_ofInt]; obtain ⟨_, _⟩ := h
  rw [Int.bmod_eq_of_le] <;> omega
theorem xor_bv (a b : Int) : bits .xor .i64 a b = (BitVec.ofInt 64 a ^^^ BitVec.ofInt 64 b).toInt := toInt_wrap _
theorem and_bv (a b : Int) : bits .and .i64 a b = (BitVec.ofInt 64 a &&& BitVec.ofInt 64 b).toInt := toInt_wrap _
theorem sign3 {a b d : Int} (ha : In a) (hb : In b) (hd : In d) :
    decide (bits .and .i64 (bits .xor .i64 a b) (bits .xor .i64 a d) < 0) = ((decide (a < 0) != decide (b < 0)) && (decide (a < 0) != decide (d < 0))) := by
  rw [and_bv, xor_bv, xor_bv, BitVec.ofInt_toInt, BitVec.ofInt_toInt, ← BitVec.msb_eq_toInt, BitVec.msb_and, BitVec.msb_xor, BitVec.msb_xor, BitVec.msb_eq_toInt, BitVec.msb_eq_toInt, BitVec.msb_eq_toInt, of_in ha, of_in hb, of_in hd]
theorem sub_sign {a b d : Int} (ha : In a) (hb : In b) (h : (a - b + 9223372036854775808) % 18446744073709551616 - 9223372036854775808 = d) :
    In d ∧ (Fits (a - b) → d = a - b ∧ ((decide (a < 0) != decide (b < 0)) && (decide (a < 0) != decide (d < 0))) = false) ∧ (¬ Fits (a - b) → ((decide (a < 0) != decide (b < 0)) && (decide (a < 0) != decide (d < 0))) = true) := by
  obtain ⟨_, _⟩ := ha; obtain ⟨_, _⟩ := hb
  refine ⟨by unfold In; omega, fun hf => ?_, fun hf => ?_⟩
  · obtain ⟨_, _⟩ := hf
    have e : d = a - b := by omega
    refine ⟨e, ?_⟩
    by_cases h1 : a < 0 <;> by_cases h2 : b < 0 <;> by_cases h3 : d < 0 <;> simp [h1, h2, h3] <;> omega
  · unfold Fits at hf
    by_cases h1 : a < 0 <;> by_cases h2 : b < 0 <;> by_cases h3 : d < 0 <;> simp [h1, h2, h3] <;> omega
end Go.Proofs.Ytedbfkpmffehaaa.Ar
