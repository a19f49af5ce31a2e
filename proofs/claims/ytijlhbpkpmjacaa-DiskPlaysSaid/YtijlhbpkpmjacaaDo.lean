/- Deeds that come in. -/
import Derived.Test.YtijlhbpkpmjacaaDp
import Derived.Test.YtijlhbpkpmjacaaOs
namespace Go.Proofs.Ytijlhbpkpmjacaa
open Go.ChangeShapes Go.WideShapes Go.ChangeAt Go.RowKit
theorem cells_u8 : Try.prog.cellsOf 5 = 1 := by kernel_rfl
theorem cells_int : Try.prog.cellsOf 3 = 1 := by kernel_rfl
theorem open_deeds {H : Type} {enc : TypeId × Value → H} {r : Reach} {b0 : Nat} {W : World} {v : Value} {d : DataW H} {ps : List MemPlace} (hval : Value.okWide Try.prog W r b0 34 v) (h : DataW.Trod enc Try.prog W 0 (fun _ => true) true 34 v d ps) :
    ∃ A n cap, v = .slice A n cap ∧ n ≤ cap ∧ cap ≤ maxLen ∧ (A = none → cap = 0) ∧ Dds W W.heap.size A n := by
  obtain ⟨A, n, cap, rfl, h1, h2, h3, h4⟩ := open_structs Try.underlying34 Try.underlying40 (by kernel_rfl) (by kernel_rfl) (by decide) hval h
  refine ⟨A, n, cap, rfl, h1, h2, h3, fun i hi => ?_⟩
  obtain ⟨g, off, rfl, hg, hf⟩ := h4 i hi
  obtain ⟨v0, f0, y0, c0, t0⟩ := hf 0 _ rfl
  obtain ⟨v1, f1, y1, c1, t1⟩ := hf 1 _ rfl
  obtain ⟨v2, f2, y2, c2, t2⟩ := hf 2 _ rfl
  obtain ⟨v3, f3, y3, c3, t3⟩ := hf 3 _ rfl
  obtain ⟨v4, f4, y4, c4, t4⟩ := hf 4 _ rfl
  obtain ⟨a0, rfl, w0⟩ := open_int_part Try.underlying3 t0
  obtain ⟨a1, rfl, w1⟩ := open_int_part Try.underlying3 t1
  obtain ⟨a2, rfl, w2⟩ := open_int_part Try.underlying3 t2
  obtain ⟨A3, n3, k3, z3, rfl, p3, q3, _, r3, _⟩ := open_nums_part Try.underlying29 Try.underlying5 cells_u8 t3
  obtain ⟨A4, n4, k4, z4, rfl, p4, q4, _, r4, s4⟩ := open_nums_part Try.underlying38 Try.underlying3 cells_int t4
  exact ⟨g, off, ⟨a0, a1, a2, A3, n3, k3, z3, A4, n4, k4, z4⟩, rfl, hg, c0, c1, c2, c3, c4, r3, r4, ⟨in64 w0, in64 w1, in64 w2⟩, ⟨p3, q3⟩, ⟨p4, q4⟩, fun x hx => in64 (s4 x hx)⟩
end Go.Proofs.Ytijlhbpkpmjacaa
