/- The program's numbers without a sign. -/
import Derived.Test.YtbobaappilploaaPp
import Derived.Test.YtbobaappilploaaPq
import Derived.Laws.DeepNot64
namespace Go.Proofs.Ytbobaappilploaa
open Go.RowKit Go.Lib Go.ChangeShapes Go.WideShapes Go.ChangeAt

theorem not64 (a : Nat) (ha : a < 18446744073709551616) : bits .xor .u64 IntKind.u64.max (a : Int) = 18446744073709551615 - (a : Int) := by
  show IntKind.u64.wrap ((BitVec.ofInt 64 IntKind.u64.max ^^^ BitVec.ofInt 64 (a : Int)).toNat : Int) = _
  have h1 : BitVec.ofInt 64 IntKind.u64.max = BitVec.allOnes 64 := by decide
  rw [h1, BitVec.allOnes_xor, BitVec.toNat_not, ofInt_u64 a ha, IntKind.wrap_u64]
  omega
theorem not_neg {n : Int} (h1 : -9223372036854775808 ≤ n) (h : n < 0) : bits .xor .u64 IntKind.u64.max (IntKind.u64.wrap (IntKind.u64.wrap n * 2)) = -2 * n - 1 := by
  have e : IntKind.u64.wrap (IntKind.u64.wrap n * 2) = ((2 * n + 18446744073709551616).toNat : Int) := by
    rw [IntKind.wrap_u64, IntKind.wrap_u64]; omega
  rw [e, not64 _ (by omega)]
  omega
theorem not_half {u : Int} (h0 : 0 ≤ u) (h1 : u < 18446744073709551616) : bits .xor .i64 (-1) (u / 2) = -(u / 2) - 1 := by
  have e : u / 2 = ((u / 2).toNat : Int) := by omega
  rw [e, i64_not _ (by omega)]
  omega
theorem fold_any (n : Int) (h : Pk.I64 n) (w : World) : Calls Try.prog 17 #[.int .i64 n] w fun e w' => e = .returned (.int .u64 (Pk.zz n)) ∧ w' = w := by
  obtain ⟨h1, h2⟩ := h
  by_cases hn : n < 0
  · have hz : -2 * n - 1 = Pk.zz n := by unfold Pk.zz; rw [if_pos hn]
    have HZ := Lib.hid hz
    have HN := Lib.hid (not_neg h1 hn)
    clear hz
    go_enter Try.func17, Try.ntmps17
    go_wp2_with fail
    go_ret
    refine ⟨?_, rfl⟩
    rw [← HZ.out]
    simpa using HN.out
  · have hz : 2 * n = Pk.zz n := by unfold Pk.zz; rw [if_neg hn]
    have HZ := Lib.hid hz
    clear hz
    go_enter Try.func17, Try.ntmps17
    go_wp2_with fail
    go_ret
    refine ⟨?_, rfl⟩
    rw [← HZ.out]
    simp
    omega
theorem unfold_any (u : Int) (h0 : 0 ≤ u) (h1 : u < 18446744073709551616) (w : World) : Calls Try.prog 19 #[.int .u64 u] w fun e w' => e = .returned (.int .i64 (Pk.uz u)) ∧ w' = w := by
  by_cases hn : u % 2 = 1
  · have hz : -(u / 2) - 1 = Pk.uz u := by unfold Pk.uz; rw [if_pos hn]
    have HZ := Lib.hid hz
    have HN := Lib.hid (not_half h0 h1)
    clear hz
    go_enter Try.func19, Try.ntmps19
    go_wp2_with fail
    go_ret
    refine ⟨?_, rfl⟩
    rw [← HZ.out]
    simpa using HN.out
  · have hz : u / 2 = Pk.uz u := by unfold Pk.uz; rw [if_neg hn]
    have HZ := Lib.hid hz
    clear hz
    go_enter Try.func19, Try.ntmps19
    go_wp2_with fail
    go_ret
    refine ⟨?_, rfl⟩
    rw [← HZ.out]
    simp
end Go.Proofs.Ytbobaappilploaa
