/- Slices of structs and of slices that come in: what a walk reads of them. -/
import Derived.Test.YtghepjppjmpihaaFr
import Derived.Test.YtghepjppjmpihaaProg
import Derived.Deep.Slices
import Derived.Deep.Fields
import Derived.KernelRfl
namespace Go.Proofs.Ytghepjppjmpihaa
open Go.ChangeShapes Go.WideShapes Go.ChangeAt Go.RowKit Go.Deep

section
variable {H : Type} {enc : TypeId × Value → H} {P : Program}
/-- a slice of numbers as a part -/
theorem open_nums_part {W : World} {t e : TypeId} {k : IntKind} {fuel : Nat} {v : Value} {y : DataW H × List MemPlace} (ht : P.underlying t = some (.slice e)) (he : P.underlying e = some (.int k)) (hc : P.cellsOf e = 1)
    (h : DataW.trod enc P W 0 (fun _ => true) true fuel t [v] = some y) :
    ∃ A n cap zs, v = .slice A n cap ∧ n ≤ cap ∧ cap ≤ maxLen ∧ (A = none → cap = 0) ∧ RdK k W W.heap.size A n zs ∧ ∀ z ∈ zs, (Lit.int k z).wf = true := by
  rcases open_ints ht he hc h with ⟨hcs, _⟩ | ⟨a, len', cap', zs, hcs, _, hl, hm, hz, _, hcell, hwz⟩
  · obtain rfl : v = .slice none 0 0 := by simpa using hcs
    exact ⟨none, 0, 0, [], rfl, Nat.le_refl _, Nat.zero_le _, fun _ => rfl, ⟨rfl, fun j hj => absurd hj (Nat.not_lt_zero _)⟩, fun z hz => nomatch hz⟩
  · obtain rfl : v = .slice (some a) len' cap' := by simpa using hcs
    simp only [if_true] at hz
    refine ⟨some a, len', cap', zs.take len', rfl, hl, hm, (fun h => nomatch h), ⟨by rw [List.length_take]; omega, fun j hj => ?_⟩, fun z hz => hwz z (List.mem_of_mem_take hz)⟩
    obtain ⟨b, off, spot⟩ := a
    have hc0 := hcell j (by omega)
    have hspot : spot = none := by simpa [Addr.add] using World.cell?_spot (hcell 0 (by omega))
    subst hspot
    rw [add_plain] at hc0
    refine ⟨b, off, rfl, cell_lt hc0, ?_⟩
    rw [hc0, List.getD_eq_getElem?_getD, List.getD_eq_getElem?_getD, List.getElem?_take_of_lt hj]
theorem open_int_part {W : World} {t : TypeId} {k : IntKind} {fuel : Nat} {v : Value} {y : DataW H × List MemPlace} (ht : P.underlying t = some (.int k)) (h : DataW.trod enc P W 0 (fun _ => true) true fuel t [v] = some y) :
    ∃ a, v = .int k a ∧ (Lit.int k a).wf = true := by
  obtain ⟨a, h1, _, h3⟩ := DataW.trod_int ht h
  exact ⟨a, by simpa using h1, h3⟩
/-- a slice of structs of one-cell fields -/
theorem open_structs {r : Reach} {b0 : Nat} {W : World} {t e : TypeId} {fs : Array Field} {v : Value} {d : DataW H} {ps : List MemPlace} (ht : P.underlying t = some (.slice e)) (he : P.underlying e = some (.struct fs)) (hone : oneCellFields P fs = true) (hC : P.cellsOf e = fs.size) (h0 : 0 < fs.size)
    (hval : Value.okWide P W r b0 t v) (h : DataW.Trod enc P W 0 (fun _ => true) true t v d ps) :
    ∃ A n cap, v = .slice A n cap ∧ n ≤ cap ∧ cap ≤ maxLen ∧ (A = none → cap = 0) ∧ ∀ i, i < n → ∃ g off, A = some ⟨g, off, none⟩ ∧ g < W.heap.size ∧
      ∀ j f, fs[j]? = some f → ∃ v fuel y, W.cell? ⟨g, off + i * fs.size + j, none⟩ = some v ∧ DataW.trod enc P W 0 (fun _ => true) true fuel f.type [v] = some y := by
  obtain ⟨a0, len, cap, rfl⟩ := okWide_slice ht hval
  obtain ⟨fuel, hf⟩ := h
  rcases open_slice ht hf with ⟨hcs, _⟩ | ⟨a, len', cap', m, n, D, Pl, hcs, _, hl, hm, hmm, _, hx⟩
  · simp [Value.cells] at hcs
    obtain ⟨rfl, rfl, rfl⟩ := hcs
    exact ⟨none, 0, 0, rfl, Nat.le_refl _, Nat.zero_le _, fun _ => rfl, fun i hi => absurd hi (Nat.not_lt_zero _)⟩
  · simp [Value.cells] at hcs
    obtain ⟨rfl, rfl, rfl⟩ := hcs
    simp only [if_true] at hmm
    refine ⟨some a, len, cap, rfl, hl, hm, (fun h => nomatch h), fun i hi => ?_⟩
    obtain ⟨cs', h1, h2⟩ := hx i (by omega)
    obtain ⟨_, hlen, hcell⟩ := World.cells?_some h1
    rw [hC] at hlen hcell
    have hget : ∀ j, j < fs.size → W.cell? (a.add (i * fs.size + j)) = cs'[j]? := fun j hj => by
      have := hcell j hj
      rwa [add_add] at this
    obtain ⟨b, off, spot⟩ := a
    have hj0 : cs'[0]? = some cs'[0] := List.getElem?_eq_getElem (by omega)
    have hspot : spot = none := by
      have hb := hx 0 (by omega)
      obtain ⟨cs0, k1, _⟩ := hb
      obtain ⟨_, kl, kc⟩ := World.cells?_some k1
      have := kc 0 (by rw [hC]; exact h0)
      rw [List.getElem?_eq_getElem (by rw [kl, hC]; exact h0)] at this
      simpa [Addr.add] using World.cell?_spot this
    subst hspot
    refine ⟨b, off, rfl, ?_, fun j f hj => ?_⟩
    · have := hget 0 h0
      rw [hj0, add_plain] at this
      exact cell_lt this
    · obtain ⟨xs, k, _, _, _, hxl, hfi⟩ := DataW.trod_struct he h2
      obtain ⟨o1, o2⟩ := hone_of hone j f hj
      have hjs : j < fs.size := (Array.getElem?_eq_some_iff.1 hj).1
      have hv := hfi j f hj
      rw [o1, o2] at hv
      have ht1 : (cs'.drop j).take 1 = [cs'[j]] := by rw [List.drop_eq_getElem_cons (by omega), List.take_succ_cons, List.take_zero]
      rw [ht1, List.getElem?_eq_getElem (by omega)] at hv
      have hg := hget j hjs
      rw [add_plain, List.getElem?_eq_getElem (by omega), ← Nat.add_assoc] at hg
      exact ⟨_, _, _, hg, hv⟩
/-- a slice of slices of numbers -/
theorem open_rows {r : Reach} {b0 : Nat} {W : World} {t e q : TypeId} {k : IntKind} {v : Value} {d : DataW H} {ps : List MemPlace} (ht : P.underlying t = some (.slice e)) (he : P.underlying e = some (.slice q)) (hq : P.underlying q = some (.int k)) (ce : P.cellsOf e = 1) (cq : P.cellsOf q = 1)
    (hval : Value.okWide P W r b0 t v) (h : DataW.Trod enc P W 0 (fun _ => true) true t v d ps) :
    ∃ A n cap, v = .slice A n cap ∧ n ≤ cap ∧ cap ≤ maxLen ∧ (A = none → cap = 0) ∧ ∀ i, i < n → ∃ g off, A = some ⟨g, off, none⟩ ∧ g < W.heap.size ∧
      ∃ A' n' c' zs, W.cell? ⟨g, off + i, none⟩ = some (.slice A' n' c') ∧ n' ≤ c' ∧ c' ≤ maxLen ∧ (A' = none → c' = 0) ∧ RdK k W W.heap.size A' n' zs ∧ ∀ z ∈ zs, (Lit.int k z).wf = true := by
  obtain ⟨a0, len, cap, rfl⟩ := okWide_slice ht hval
  obtain ⟨fuel, hf⟩ := h
  rcases open_slice1 ht ce hf with ⟨hcs, _⟩ | ⟨a, len', cap', m, n, V, D, Pl, hcs, _, hl, hm, hmm, _, hx⟩
  · simp [Value.cells] at hcs
    obtain ⟨rfl, rfl, rfl⟩ := hcs
    exact ⟨none, 0, 0, rfl, Nat.le_refl _, Nat.zero_le _, fun _ => rfl, fun i hi => absurd hi (Nat.not_lt_zero _)⟩
  · simp [Value.cells] at hcs
    obtain ⟨rfl, rfl, rfl⟩ := hcs
    simp only [if_true] at hmm
    refine ⟨some a, len, cap, rfl, hl, hm, (fun h => nomatch h), fun i hi => ?_⟩
    obtain ⟨h1, h2⟩ := hx i (by omega)
    obtain ⟨b, off, spot⟩ := a
    have hspot : spot = none := by simpa [Addr.add] using World.cell?_spot (hx 0 (by omega)).1
    subst hspot
    rw [add_plain] at h1
    obtain ⟨A', n', c', zs, e1, k1, k2, k3, k4, k5⟩ := open_nums_part he hq cq h2
    exact ⟨b, off, rfl, cell_lt h1, A', n', c', zs, by rw [h1, e1], k1, k2, k3, k4, k5⟩
end
end Go.Proofs.Ytghepjppjmpihaa
