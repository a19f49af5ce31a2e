/- append of whatever numbers (nil too) onto a row of the call's own; rows that may be written. -/
import Derived.Test.YtghepjppjmpihaaOwn
import Derived.Test.YtghepjppjmpihaaBy
namespace Go.Proofs.Ytghepjppjmpihaa
open Go.RowKit Go.Lib Go.ChangeShapes Go.WideShapes Go.ChangeAt

theorem ones (k : IntKind) (l : List Int) : ∀ u ∈ l.map (Value.int k), u.oneCell' = true := fun u hu => by obtain ⟨z, _, rfl⟩ := List.mem_map.1 hu; rfl
theorem wpList_append_nums {P : Program} {ops : Array Oper} {rest : List Oper} {o : Oper} {a : Act} {Q : Exit → Act → World → Prop} (w : World) (hgd : o.guard = none) (s x : Operand) (t : TypeId)
    (ho : o.op = .call { callee := .builtin .append, args := #[s, x], argTypes := #[t, t] })
    (base : Nat) (e : TypeId) (i : TypeInfo) (k : IntKind) (bytes : Nat) (ht : P.underlying t = some (.slice e)) (hi : P.info? e = some i) (hz : i.zero = some (.int k 0)) (hsize : i.size = 1) (hby : i.bytes = bytes)
    (v : Value) (n : Nat) (xs : List Value) (hs : a.eval s = v) (hown : w.ownsRow base e 1 v n xs)
    (A : Option Addr) (m c : Nat) (zs : List Int) (B : Nat) (hx : a.eval x = .slice A m c) (hr : RdK k w B A m zs) (hA : A = none → c = 0)
    (h63 : n + m ≤ maxLen) (hbytes : (n + m) * bytes ≤ 140737488355328) (hbase : base ≤ w.heap.size)
    (h : ∀ v' w', w'.ownsRow base e 1 v' (n + m) (xs ++ zs.map (Value.int k)) → Below base w w' → wpList P ops Q rest (a.put o.dst v') w') : wpList P ops Q (o :: rest) a w := by
  cases A with
  | none =>
    obtain ⟨rfl, rfl⟩ := hr.none_nil
    obtain rfl := hA rfl
    exact wpList_append_own_none hgd s x t ho base e i 1 ht hi v n xs hs hown hx (h v w (by simpa using hown) (Below.refl _ _))
  | some ad =>
    refine wpList_append_own w hgd s x t ho base e i (.int k 0) 1 bytes ht hi hz hsize hby rfl (by decide) v n xs hs hown ad m c (zs.map (Value.int k)) hx (by simp [hr.1]) hr.cells (ones k zs) h63 hbytes hbase ?_
    intro v' w' h1 h2 _
    exact h v' w' h1 ((Below.refl base w).grown h2 hbase (own_block hown))
/-- a row of the call's own, empty -/
theorem empty_row (w : World) (t : TypeId) : (w.alloc (.cells #[] t)).ownsRow w.heap.size t 1 (.slice (some ⟨w.heap.size, 0, none⟩) 0 0) 0 [] :=
  ⟨rfl, .inr ⟨w.heap.size, 0, #[], rfl, Nat.le_refl _, heap_alloc_new _ _, Nat.le_refl _, by decide, rfl, rfl⟩⟩
/-- a row of numbers that may be written -/
structure Wrt (k : IntKind) (w : World) (A : Option Addr) (n : Nat) (l : List Int) : Prop where
  rd : RdK k w w.heap.size A n l
  free : ∀ g off, A = some ⟨g, off, none⟩ → ∀ j, j < n → w.frozen? ⟨g, off + j, none⟩ = false
namespace Wrt
variable {k : IntKind} {w w' : World} {A : Option Addr} {n : Nat} {l : List Int}
theorem below {B : Nat} (h : Wrt k w A n l) (hb : Below B w w') (hB : 0 < n → ∀ g off, A = some ⟨g, off, none⟩ → g < B) : Wrt k w' A n l :=
  ⟨⟨h.rd.1, fun j hj => by
    obtain ⟨g, off, e, hg, hc⟩ := h.rd.2 j hj
    exact ⟨g, off, e, Nat.lt_of_lt_of_le hg hb.size, (hb.cell (p := ⟨g, off + j, none⟩) (hB (by omega) g off e)).trans hc⟩⟩, fun g off e j hj => (hb.frozen (p := ⟨g, off + j, none⟩) (hB (by omega) g off e)).trans (h.free g off e j hj)⟩
theorem lt (h : Wrt k w A n l) : 0 < n → ∀ g off, A = some ⟨g, off, none⟩ → g < w.heap.size := fun hn g off e => by
  obtain ⟨g', off', e', hg, _⟩ := h.rd.2 0 hn
  rw [e] at e'; injection e' with e'; injection e' with e1; rw [e1]; exact hg
theorem grow (h : Wrt k w A n l) (hb : Below w.heap.size w w') : Wrt k w' A n l := h.below hb h.lt
theorem set {g off : Nat} (h : Wrt k w (some ⟨g, off, none⟩) n l) (j : Nat) (hj : j < n) (v : Int) : Wrt k (w.setCell ⟨g, off + j, none⟩ (.int k v)) (some ⟨g, off, none⟩) n (l.set j v) := by
  refine ⟨⟨by rw [List.length_set]; exact h.rd.1, fun i hi => ?_⟩, fun g' off' e i hi => by rw [World.frozen?_setCell]; exact h.free g' off' e i hi⟩
  obtain ⟨g', off', e, hg, hc⟩ := h.rd.2 i hi
  injection e with e; injection e with e1 e2; subst e1 e2
  refine ⟨g, off, rfl, by simpa [World.setCell] using hg, ?_⟩
  by_cases e : i = j
  · subst e
    rw [World.cell?_setCell_same _ _ _ hc, List.getD_eq_getElem?_getD, List.getElem?_set_self (by rw [h.rd.1]; exact hi)]; rfl
  · rw [World.cell?_setCell_other _ _ _ _ (by intro e'; simp only [Addr.mk.injEq] at e'; omega), hc, List.getD_eq_getElem?_getD, List.getD_eq_getElem?_getD, List.getElem?_set_ne (by omega)]
theorem of_own {base e c : Nat} (h : w.ownsRow base e 1 (.slice A n c) n (l.map (Value.int k))) : Wrt k w A n l ∧ (∀ g off, A = some ⟨g, off, none⟩ → base ≤ g) := by
  refine ⟨⟨RdK.of_own h, fun g off e j hj => ?_⟩, fun g off e => own_block h g (by rw [e]; rfl)⟩
  obtain ⟨_, ⟨_, h0⟩ | ⟨g', cap, cur, hv, _, hg, _⟩⟩ := h
  · omega
  · injection hv with hA; rw [e] at hA; injection hA with hA; injection hA with e1 e2; subst e1 e2
    unfold World.frozen?; rw [hg]; simp
/-- what the first place holds, at an index -/
theorem at' (h : Wrt k w A n l) (j : Nat) (hj : j < n) : ∃ g off, A = some ⟨g, off, none⟩ ∧ g < w.heap.size ∧ w.cell? ⟨g, off + j, none⟩ = some (.int k (l.getD j 0)) ∧ w.frozen? ⟨g, off + j, none⟩ = false := by
  obtain ⟨g, off, e, hg, hc⟩ := h.rd.2 j hj
  exact ⟨g, off, e, hg, hc, h.free g off e j hj⟩
end Wrt
end Go.Proofs.Ytghepjppjmpihaa
