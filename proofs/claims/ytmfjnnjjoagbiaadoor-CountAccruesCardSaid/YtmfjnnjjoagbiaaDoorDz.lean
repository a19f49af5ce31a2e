/- From the row's premise on the table of days to the walks' own: twelve cells. -/
import Derived.Test.YtmfjnnjjoagbiaaDoorRows
import Derived.Test.YtmfjnnjjoagbiaaDoorDd
import Derived.ProofKit
import Derived.LaidMore
import Derived.OpenShut
import Derived.Stop.Joined
namespace Go.Proofs.YtmfjnnjjoagbiaaDoor
open Go.ChangeShapes Go.WideShapes Go.ChangeAt Go.RowKit

theorem of_laid {W : World} (h : laidMetH Tryd.prog Rows.countBetweenRow.laid W) : Laid W := by
  rw [MakeChecks.laidMetH_plain _ _ _ (by kernel_rfl)] at h
  obtain ⟨ps, ⟨g0, t0, cs0, f0, p0, q0, hg0, ht0, hv0, hd0, _, _⟩, _, _⟩ := h
  obtain rfl := Option.some.inj ((show Tryd.prog.globalNamed _ = some 0 by kernel_rfl).symm.trans hg0)
  obtain rfl := Option.some.inj ((show (Tryd.prog.globals[0]?).map (·.type) = some 68 by kernel_rfl).symm.trans ht0)
  obtain ⟨xs, m1, rfl, hx1, hlen, hn, hel⟩ := DataW.trod_array Tryd.underlying68 hd0
  have c3 : Tryd.prog.cellsOf 3 = 1 := by kernel_rfl
  have key : ∀ (i : Nat) (v : Int), i < 12 → (xs.map (·.1))[i]? = some (DataW.lit (.int .i64 v)) → W.cell? ⟨0, i, none⟩ = some (.int .i64 v) := by
    intro i v hi he
    have h1 := hel i hi
    obtain ⟨x, hx⟩ : ∃ x, xs[i]? = some x := ⟨_, List.getElem?_eq_getElem (by omega)⟩
    rw [hx] at h1
    obtain ⟨k, e1, e2, _⟩ := DataW.trod_int Tryd.underlying3 h1
    rw [List.getElem?_map, hx, e2] at he
    have hk : k = v := by simpa using he
    subst hk
    rw [c3] at e1
    rw [World.var?_cell hg0 hv0 i, ← Array.getElem?_toList]
    have := congrArg (·[0]?) e1
    simpa [List.getElem?_take] using this
  have hx := DataW.agg.inj (Prod.mk.inj hx1).1
  refine ⟨⟨key 0 _ (by decide) ?_, key 1 _ (by decide) ?_, key 2 _ (by decide) ?_, key 3 _ (by decide) ?_⟩, ⟨key 4 _ (by decide) ?_, key 5 _ (by decide) ?_, key 6 _ (by decide) ?_, key 7 _ (by decide) ?_⟩, key 8 _ (by decide) ?_, key 9 _ (by decide) ?_, key 10 _ (by decide) ?_, key 11 _ (by decide) ?_⟩
  all_goals (rw [← hx]; rfl)

/-- The door's own heap meets the premise. -/
theorem door_met (os : Os) (args : Array Value) : laidMetH Tryd.prog Rows.countBetweenRow.laid ((World.doorLaid Tryd.prog 400 os).forCall (fun _ _ => 0) ⟨#[], args, []⟩).memory :=
  laidMetH_of_parts3 (fuel := 8) (laidMet_of_run' 8 (by kernel_rfl) (by kernel_rfl)) (by kernel_rfl) (by kernel_rfl)
end Go.Proofs.YtmfjnnjjoagbiaaDoor
