import Derived.Test.YtmfjnnjjoagbiaaDoorMul
namespace Go.Proofs.YtmfjnnjjoagbiaaDoor
open Go.RowKit Go.Shelf Go.Lib Ar Dg
attribute [local go_sem ↓] Go.wp_at_zero Go.wp_at_succ

/-- two variables that hold long numbers -/
structure TwoSt (w : World) (g1 g2 : Nat) (wr : World) (A1 A2 : Option Addr) (n1 c1 n2 c2 : Nat) (m1 m2 : Bool) (x y : Int) : Prop where
  a0 : wr.cell? ⟨g1, 0, none⟩ = some (.slice A1 n1 c1)
  a1 : wr.cell? ⟨g1, 1, none⟩ = some (.bool m1)
  b0 : wr.cell? ⟨g2, 0, none⟩ = some (.slice A2 n2 c2)
  b1 : wr.cell? ⟨g2, 1, none⟩ = some (.bool m2)
  nx : NumV wr wr.heap.size (.agg #[.slice A1 n1 c1, .bool m1]) x
  ny : NumV wr wr.heap.size (.agg #[.slice A2 n2 c2, .bool m2]) y
  low : Below w.heap.size w wr
  hg : w.heap.size ≤ wr.heap.size
  h1 : g1 < wr.heap.size
  h2 : g2 < wr.heap.size
theorem TwoSt.below {w w1 w2 : World} {g1 g2 : Nat} {A1 A2 : Option Addr} {n1 c1 n2 c2 : Nat} {m1 m2 : Bool} {x y : Int} (h : TwoSt w g1 g2 w1 A1 A2 n1 c1 n2 c2 m1 m2 x y) (hb : Below w1.heap.size w1 w2) : TwoSt w g1 g2 w2 A1 A2 n1 c1 n2 c2 m1 m2 x y :=
  ⟨(hb.cell (p := ⟨g1, 0, none⟩) h.h1).trans h.a0, (hb.cell (p := ⟨g1, 1, none⟩) h.h1).trans h.a1, (hb.cell (p := ⟨g2, 0, none⟩) h.h2).trans h.b0, (hb.cell (p := ⟨g2, 1, none⟩) h.h2).trans h.b1,
    (h.nx.below hb).more hb.size, (h.ny.below hb).more hb.size, h.low.trans (hb.mono h.hg), Nat.le_trans h.hg hb.size, Nat.lt_of_lt_of_le h.h1 hb.size, Nat.lt_of_lt_of_le h.h2 hb.size⟩

end Go.Proofs.YtmfjnnjjoagbiaaDoor
