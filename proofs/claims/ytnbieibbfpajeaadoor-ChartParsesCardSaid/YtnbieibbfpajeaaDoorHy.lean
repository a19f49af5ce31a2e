/- From a row's premise on the table of kinds to the walks' own. -/
import Derived.Test.YtnbieibbfpajeaaDoorHd
import Derived.ProofKit
import Derived.LaidMore
import Derived.LaidLaws
import Derived.OpenShut
import Derived.Deep.Strs
import Derived.Stop.LaidErr
namespace Go.Proofs.YtnbieibbfpajeaaDoor
open Go.ChangeShapes Go.WideShapes Go.ChangeAt Go.RowKit

/-- a kind's datum -/
def kdat (i : Nat) : DataW Unit := .agg [.lit (.string ((Hp.nm i).map fun n => UInt8.ofNat n.toNat)), .lit (.bool (decide (4 ≤ i))), .lit (.bool (Hp.deb i))]
theorem kinds_of {W : World} {r : List (String × DataW Unit)} (h : laidMet Tryd.prog (("trivet/chart.kinds", .agg ((List.range 13).map kdat)) :: r) W) : LaidK W := by
  obtain ⟨ps, ⟨g0, t0, cs0, f0, p0, q0, hg0, ht0, hv0, hd0, _, _⟩, _, _⟩ := h
  obtain rfl := Option.some.inj ((show Tryd.prog.globalNamed _ = some 0 by kernel_rfl).symm.trans hg0)
  obtain rfl := Option.some.inj ((show (Tryd.prog.globals[0]?).map (·.type) = some 42 by kernel_rfl).symm.trans ht0)
  obtain ⟨xs, m1, rfl, hx1, hlen, hn, hel⟩ := DataW.trod_array Tryd.underlying42 hd0
  have c3 : Tryd.prog.cellsOf 41 = 3 := by kernel_rfl
  have cs1 : Tryd.prog.cellsOf 9 = 1 := by kernel_rfl
  have cb1 : Tryd.prog.cellsOf 4 = 1 := by kernel_rfl
  have hx := DataW.agg.inj (Prod.mk.inj hx1).1
  intro i hi
  have h1 := hel i hi
  obtain ⟨x, hxi⟩ : ∃ x, xs[i]? = some x := ⟨_, List.getElem?_eq_getElem (by omega)⟩
  have hk : x.1 = kdat i := by
    have h2 : (xs.map (·.1))[i]? = some x.1 := by rw [List.getElem?_map, hxi]; rfl
    rw [← hx, List.getElem?_map, List.getElem?_range hi] at h2
    exact (Option.some.inj h2).symm
  rw [hxi, c3] at h1
  obtain ⟨y0, y1, y2, n, e, hl, k0, k1, k2⟩ := Deep.trod_struct3 Tryd.underlying41 h1
  obtain ⟨s, e0, rfl, _⟩ := DataW.trod_string Tryd.underlying9 k0
  obtain ⟨b1, e1, rfl⟩ := DataW.trod_bool Tryd.underlying4 k1
  obtain ⟨b2, e2, rfl⟩ := DataW.trod_bool Tryd.underlying4 k2
  have e0' : List.take 1 (List.drop 0 (List.take 3 (List.drop (i * 3) cs0.toList))) = [.string s] := by rw [← cs1]; exact e0
  have e1' : List.take 1 (List.drop 1 (List.take 3 (List.drop (i * 3) cs0.toList))) = [.bool b1] := by rw [← cb1]; exact e1
  have e2' : List.take 1 (List.drop 2 (List.take 3 (List.drop (i * 3) cs0.toList))) = [.bool b2] := by rw [← cb1]; exact e2
  have hk2 := (congrArg Prod.fst e).symm.trans hk
  have hs : s = strOfNums (Hp.nm i) ∧ b1 = decide (4 ≤ i) ∧ b2 = Hp.deb i := by
    unfold kdat at hk2
    simp only [DataW.agg.injEq, List.cons.injEq, DataW.lit.injEq, Lit.string.injEq, Lit.bool.injEq, and_true] at hk2
    refine ⟨?_, hk2.2.1, hk2.2.2⟩
    unfold strOfNums
    rw [← hk2.1]
  obtain ⟨rfl, rfl, rfl⟩ := hs
  have cell (j : Nat) : W.cell? ⟨0, i * 3 + j, none⟩ = cs0.toList[i * 3 + j]? := by rw [World.var?_cell hg0 hv0, Array.getElem?_toList]
  refine ⟨?_, ?_, ?_⟩
  · have := congrArg (·[0]?) e0'
    rw [show i * 3 = i * 3 + 0 from rfl, cell]
    simpa [List.getElem?_take, List.getElem?_drop] using this
  · have := congrArg (·[0]?) e1'
    rw [cell]
    simpa [List.getElem?_take, List.getElem?_drop] using this
  · have := congrArg (·[0]?) e2'
    rw [cell]
    simpa [List.getElem?_take, List.getElem?_drop] using this
end Go.Proofs.YtnbieibbfpajeaaDoor
