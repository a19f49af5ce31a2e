import Derived.Test.YtedbfkpmffehaaaCents
import Derived.KernelRfl
import Derived.RowKit3
namespace Go.Proofs.Ytedbfkpmffehaaa
open Go.RowKit Go.Shelf Go.Lib Ar

theorem eq11 (w : World) : (binOp .eql 28 (.iface 39 (.int .i64 1)) (.iface 39 (.int .i64 1))).run Try.prog w = .ok (.bool true) w := by kernel_rfl
theorem eq33 (w : World) : (binOp .eql 28 (.iface 39 (.int .i64 3)) (.iface 39 (.int .i64 3))).run Try.prog w = .ok (.bool true) w := by kernel_rfl
theorem eq03 (w : World) : (binOp .eql 28 .nilIface (.iface 39 (.int .i64 3))).run Try.prog w = .ok (.bool false) w := by kernel_rfl

theorem up_any (w : World) : Calls Try.prog 12 #[] w fun e w' => e = .returned (.bool true) ∧ ∃ n, w' = w.drewN n := by
  have a1 : mv (-7) 1 2 1 = -4 := by decide
  have a2 : me (-7) 1 2 1 = .nilIface := by unfold me; rw [if_neg (by decide), if_pos (by decide)]
  have a3 : mv 5 1 2 4 = 2 := by decide
  have a4 : me 5 1 2 4 = .nilIface := by unfold me; rw [if_neg (by decide), if_pos (by decide)]
  have a5 : me 1 1 0 2 = .iface 39 (.int .i64 1) := by unfold me; rw [if_pos (by decide)]
  have q11 := eq11
  have H := Lib.hid (show In (-7) ∧ In 5 ∧ In 1 ∧ In 2 ∧ In 0 from by unfold In; omega)
  go_enter Try.func12, Try.ntmps12
  go_wp2_with fail
  refine (muldiv_any (-7) 1 2 1 H.out.1 H.out.2.2.1 H.out.2.2.2.1 _).mono ?_; rintro e w' ⟨rfl, n, rfl⟩

  go_wp2_with fail
  refine (muldiv_any 5 1 2 4 H.out.2.1 H.out.2.2.1 H.out.2.2.2.1 _).mono ?_; rintro e w' ⟨rfl, n2, rfl⟩

  go_wp2_with fail

  refine (muldiv_any 1 1 0 2 H.out.2.2.1 H.out.2.2.1 H.out.2.2.2.2 _).mono ?_; rintro e w' ⟨rfl, n3, rfl⟩

  go_wp2_with fail

  go_ret
  exact ⟨rfl, _, rfl⟩

theorem in_wf {a : Int} (h : (Lit.int .i64 a).wf = true) : In a := by
  simp [Lit.wf, IntKind.min, IntKind.max, IntKind.signed, IntKind.bits] at h
  exact ⟨by omega, by omega⟩
theorem grown_drewN (w : World) (n : Nat) : Grown w (w.drewN n) := by
  exact Grown.refl _
