import Derived.Test.YtbobaappilploaaPg
namespace Go.Proofs.Ytbobaappilploaa
open Go.RowKit Go.Lib Go.ChangeShapes Go.WideShapes Go.ChangeAt

/-- two commands of the same numbers are the same -/
theorem same_yes (k key l : Int) (A A' : Option Addr) (n c c' : Nat) (ns : List Int) (w : World) (hr : RdK .i64 w w.heap.size A n ns) (hr' : RdK .i64 w w.heap.size A' n ns) (hn : n ≤ 1000) :
    Calls Try.prog 12 #[cmv k key l A n c, cmv k key l A' n c'] w fun e w' => e = .returned (.bool true) ∧ Below w.heap.size w w' := by
  have B0 := Lib.hid ((Below.refl w.heap.size w).alloc (Nat.le_refl _) (.cells #[.int .i64 k, .int .i64 key, .int .i64 l, .slice A n c] 24))
  have V0 := Lib.hid (CV.new w 24 k key l A n c)
  generalize hw1 : w.alloc (.cells #[.int .i64 k, .int .i64 key, .int .i64 l, .slice A n c] 24) = w1 at *
  have hs1 : w1.heap.size = w.heap.size + 1 := by rw [← hw1]; simp
  have HS1 := Lib.hid hs1
  have HW1 := Lib.hid hw1
  have B1 := Lib.hid ((Below.refl w1.heap.size w1).alloc (Nat.le_refl _) (.cells #[.int .i64 k, .int .i64 key, .int .i64 l, .slice A' n c'] 24))
  have V1 := Lib.hid (CV.new w1 24 k key l A' n c')
  rw [HS1.out] at V1
  have V0 := Lib.hid (V0.out.below B1.out)
  have BB := Lib.hid (B0.out.trans (B1.out.mono B0.out.size))
  have R := Lib.hid ((hr.below BB.out).more BB.out.size)
  have R' := Lib.hid ((hr'.below BB.out).more BB.out.size)
  clear hr hr' hs1 hw1
  have HW2 := Lib.hid (show (w.alloc (.cells #[.int .i64 k, .int .i64 key, .int .i64 l, .slice A n c] 24)).alloc (.cells #[.int .i64 k, .int .i64 key, .int .i64 l, .slice A' n c'] 24) = w1.alloc (.cells #[.int .i64 k, .int .i64 key, .int .i64 l, .slice A' n c'] 24) by rw [HW1.out])
  generalize w1.alloc (.cells #[.int .i64 k, .int .i64 key, .int .i64 l, .slice A' n c'] 24) = w2 at *
  obtain ⟨-, ⟨a0, a1, a2, a3⟩, -⟩ := V0.out
  obtain ⟨-, ⟨b0, b1, b2, b3⟩, -⟩ := V1.out
  go_enter Try.func12, Try.ntmps12
  go_wp2_with fail
  rw [HW2.out]
  go_loopw [5] (fun iv wr => ∃ (i q : Nat), iv = .int .i64 i ∧ i ≤ n ∧ wr = w2.drewN q) (fun iv _ => n - (RowKit.intOf iv).toNat)
  case atStart => exact ⟨0, 0, rfl, Nat.zero_le _, rfl⟩
  case round =>
    obtain ⟨i, q, rfl, hin, rfl⟩ := hrel
    by_cases hlt : i < n
    · have hltz : (i : Int) < (n : Int) := by omega
      obtain ⟨xb, xo, rfl, _, rx⟩ := R.out.2 i hlt
      obtain ⟨yb, yo, rfl, _, ry⟩ := R'.out.2 i hlt
      generalize ns.getD i 0 = x at *
      go_wp2_with fail
      go_quiet (fail)
      go_wp2_with fail
      exact ⟨⟨i + 1, q + nq, by go_num, by omega, rfl⟩, by simp [RowKit.intOf]; omega⟩
    · obtain rfl : i = n := by omega
      have hltz : ¬ (i : Int) < (i : Int) := by omega
      go_wp2_with fail
      go_ret
      exact ⟨rfl, BB.out.trans (below_drewN _ _ _)⟩
end Go.Proofs.Ytbobaappilploaa
