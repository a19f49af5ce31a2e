/- The order of places by their rests: cmp.Compare of 64 bits, and the closure that reads the rests. -/
import Derived.Test.YtinimjejdkcodaaFr
import Derived.Test.YtinimjejdkcodaaSs
import Derived.Test.YtinimjejdkcodaaProg
import Derived.Shelf.SlSortCmp.Kit1
import Derived.WalkKit
import Derived.WalkSpells
import Derived.WalkLawsBesides
import Derived.LoopTactic
import Derived.Outline
import Derived.Lib.Hide
import Derived.Deep.QuietTactic
import Derived.BigQuiet
import Derived.IntWalk
import Derived.Deep.DeepCutAuto
import Derived.Deep.CutBlock
namespace Go.Proofs.Ytinimjejdkcodaa
open Go.RowKit Go.Shelf Go.Lib Go.Sort

/-- what Compare comes to -/
def cv (a b : Int) : Int := if a < b then -1 else if b < a then 1 else 0

theorem nan_any (x : Int) (w : World) : Calls Try.prog 42 #[.int .u64 x] w fun e w' => e = .returned (.bool false) ∧ w = w' := by
  have hx : (x != x) = false := by simp
  go_enter Try.func42, Try.ntmps42
  go_wp2_with fail
  go_ret
  exact ⟨rfl, rfl⟩

theorem compare_any (a b : Int) (w : World) : Calls Try.prog 36 #[.int .u64 a, .int .u64 b] w fun e w' => e = .returned (.int .i64 (cv a b)) ∧ w = w' := by
  unfold cv
  go_enter Try.func36, Try.ntmps36
  go_wp2_with fail
  refine (nan_any a w).mono ?_
  rintro e w' ⟨rfl, rfl⟩
  go_wp2_with fail
  refine (nan_any b w).mono ?_
  rintro e w' ⟨rfl, rfl⟩
  by_cases h1 : a < b
  · go_wp2_with fail
    go_ret
    exact ⟨rfl, rfl⟩
  · by_cases h2 : b < a
    · go_wp2_with fail
      go_ret
      exact ⟨rfl, rfl⟩
    · go_wp2_with fail
      go_ret
      exact ⟨rfl, rfl⟩

/-- the rests lie behind the box: k i the i-th of n -/
structure Rs (bx rb ro n c : Nat) (k : Nat → Nat) (W : World) : Prop where
  box : W.cell? ⟨bx, 0, none⟩ = some (.slice (some ⟨rb, ro, none⟩) n c)
  row : ∀ i, i < n → W.cell? ⟨rb, ro + i, none⟩ = some (.int .u64 (k i))
theorem Rs.keep {bx rb ro n c : Nat} {k : Nat → Nat} {W W' : World} (h : Rs bx rb ro n c k W) (hk : ∀ p : Addr, p.block = bx ∨ p.block = rb → W'.cell? p = W.cell? p) : Rs bx rb ro n c k W' :=
  ⟨(hk _ (Or.inl rfl)).trans h.box, fun i hi => (hk _ (Or.inr rfl)).trans (h.row i hi)⟩

theorem closure_any {bx rb ro n c : Nat} {k : Nat → Nat} {W : World} (h : Rs bx rb ro n c k W) (x y : Nat) (hx : x < n) (hy : y < n) :
    Calls Try.prog 35 #[.int .i64 x, .int .i64 y, .pointer (some ⟨bx, 0, none⟩)] W fun e w' => e = .returned (.int .i64 (cv (k y) (k x))) ∧ ∃ q, w' = W.drewN q := by
  have hb := h.box
  have c1 := h.row x hx
  have c2 := h.row y hy
  have hx2 : (x : Int) < (n : Int) := by omega
  have hy2 : (y : Int) < (n : Int) := by omega
  clear h hx hy
  generalize (k x : Int) = kx at *
  generalize (k y : Int) = ky at *
  go_enter Try.func35, Try.ntmps35
  go_wp2_with fail
  go_quiet ((go_at_call 36; exact Calls.quiet_of_same ((compare_any ky kx _).mono fun _ _ h => ⟨h.1, h.2.symm⟩)))
  go_wp2_with fail
  go_ret
  exact ⟨rfl, _, rfl⟩
end Go.Proofs.Ytinimjejdkcodaa
