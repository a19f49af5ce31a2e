/- Records that come in. -/
import Derived.Test.YtghepjppjmpihaaJf
import Derived.Test.YtghepjppjmpihaaOs
namespace Go.Proofs.Ytghepjppjmpihaa
open Go.ChangeShapes Go.WideShapes Go.ChangeAt Go.RowKit
theorem cells_u8 : Try.prog.cellsOf 5 = 1 := by kernel_rfl
theorem cells_row : Try.prog.cellsOf 22 = 1 := by kernel_rfl
set_option maxRecDepth 100000 in
theorem open_records {H : Type} {enc : TypeId × Value → H} {r : Reach} {b0 : Nat} {W : World} {v : Value} {d : DataW H} {ps : List MemPlace} (hval : Value.okWide Try.prog W r b0 44 v) (h : DataW.Trod enc Try.prog W 0 (fun _ => true) true 44 v d ps) :
    ∃ A n cap, v = .slice A n cap ∧ n ≤ cap ∧ cap ≤ maxLen ∧ (A = none → cap = 0) ∧ Ins W W.heap.size A n := by
  obtain ⟨A, n, cap, rfl, h1, h2, h3, h4⟩ := open_rows Try.underlying44 Try.underlying22 Try.underlying5 cells_row cells_u8 hval h
  refine ⟨A, n, cap, rfl, h1, h2, h3, fun i hi => ?_⟩
  obtain ⟨g, off, rfl, hg, A', n', c', zs, k1, k2, k3, _, k5, k6⟩ := h4 i hi
  exact ⟨g, off, A', n', c', zs, rfl, hg, k1, ⟨k2, k3⟩, k5, Jk.By.of fun x hx => u8_of (k6 x hx)⟩
end Go.Proofs.Ytghepjppjmpihaa
