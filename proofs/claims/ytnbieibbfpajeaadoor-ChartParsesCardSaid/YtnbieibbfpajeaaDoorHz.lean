/- From the row's premise on the package variables to the walks' own: the table of kinds, both errors' variables, the powers of ten. -/
import Derived.Test.YtnbieibbfpajeaaDoorRows
import Derived.Test.YtnbieibbfpajeaaDoorHc
import Derived.Test.YtnbieibbfpajeaaDoorHy
import Derived.ProofKit
import Derived.LaidMore
import Derived.LaidLaws
import Derived.OpenShut
import Derived.Deep.Strs
import Derived.Stop.LaidErr
import Derived.Stop.Joined
namespace Go.Proofs.YtnbieibbfpajeaaDoor
open Go.ChangeShapes Go.WideShapes Go.ChangeAt Go.RowKit

theorem err_of {W : World} {n nm : String} {d : DataW Unit} {r : List (String × DataW Unit)} {g : Nat} (hg : Tryd.prog.globalNamed n = some g) (ht : (Tryd.prog.globals[g]?).map (·.type) = some 27)
    (h : laidMet Tryd.prog ((n, .iface nm d) :: r) W) : ∃ te pe, W.cell? ⟨g, 0, none⟩ = some (.iface te pe) := by
  obtain ⟨ps, ⟨g0, t0, cs0, f0, p0, q0, hg0, ht0, hv0, hd0, _, _⟩, _, _⟩ := h
  obtain rfl := Option.some.inj (hg.symm.trans hg0)
  obtain rfl := Option.some.inj (ht.symm.trans ht0)
  obtain ⟨_, u, v, e, _, _⟩ := iface_of_trod Tryd.underlying27 hd0
  refine ⟨u, v, ?_⟩
  rw [World.var?_cell hg hv0, ← Array.getElem?_toList, e]; rfl
theorem of_laid {W : World} (h : laidMetH Tryd.prog Rows.chartAccountsRow.laid W) : Laid W := by
  rw [MakeChecks.laidMetH_plain _ _ _ (by kernel_rfl)] at h
  have h3 := h.tail.tail
  have h4 := h3.tail
  have h5 := h4.tail
  have h6 := h5.tail
  refine ⟨kinds_of (r := []) h6, ⟨err_of (by kernel_rfl) (by kernel_rfl) h5, err_of (by kernel_rfl) (by kernel_rfl) h4⟩, ?_⟩
  exact Lib.tabIs_of_head (g := 4) (by kernel_rfl) (by kernel_rfl) Tryd.underlying77 Tryd.underlying62 (by kernel_rfl) (by kernel_rfl) h3

/-- The door's own heap meets the premise. -/
theorem door_met (os : Os) (args : Array Value) : laidMetH Tryd.prog Rows.chartAccountsRow.laid ((World.doorLaid Tryd.prog 400 os).forCall (fun _ _ => 0) ⟨#[], args, []⟩).memory :=
  laidMetH_of_parts3 (fuel := 8) (laidMet_of_run' 8 (by kernel_rfl) (by kernel_rfl)) (by kernel_rfl) (by kernel_rfl)
end Go.Proofs.YtnbieibbfpajeaaDoor
