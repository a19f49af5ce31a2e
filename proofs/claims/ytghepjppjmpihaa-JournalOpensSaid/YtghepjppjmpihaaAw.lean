/- Rows of cells that a call makes and writes into: what they hold, cell by cell. -/
import Derived.Test.YtghepjppjmpihaaFr
import Derived.OwnWalk
import Derived.Laws.MakeOwn
import Derived.WalkKit
namespace Go.Proofs.Ytghepjppjmpihaa
open Go.ChangeShapes Go.WideShapes Go.ChangeAt Go.RowKit

/-- block b holds l, cell by cell, and may be written -/
def Arr (f : Int → Value) (W : World) (b : Nat) (l : List Int) : Prop :=
  b < W.heap.size ∧ ∀ j, j < l.length → W.cell? ⟨b, j, none⟩ = some (f (l.getD j 0)) ∧ W.frozen? ⟨b, j, none⟩ = false
variable {f : Int → Value} {W W' : World} {b : Nat} {l : List Int}
theorem Arr.c (h : Arr f W b l) (j : Nat) (hj : j < l.length) : W.cell? ⟨b, j, none⟩ = some (f (l.getD j 0)) := (h.2 j hj).1
theorem Arr.z (h : Arr f W b l) (j : Nat) (hj : j < l.length) : W.frozen? ⟨b, j, none⟩ = false := (h.2 j hj).2
theorem Arr.below {B : Nat} (h : Arr f W b l) (hb : Below B W W') (hB : b < B) : Arr f W' b l :=
  ⟨Nat.lt_of_lt_of_le h.1 hb.size, fun j hj => ⟨(hb.cell hB).trans (h.c j hj), (hb.frozen hB).trans (h.z j hj)⟩⟩
theorem Arr.drewN (h : Arr f W b l) (q : Nat) : Arr f (W.drewN q) b l := h
theorem Arr.alloc (h : Arr f W b l) (o : Obj) : Arr f (W.alloc o) b l := h.below ((Below.refl W.heap.size W).alloc (Nat.le_refl _) o) h.1
theorem Arr.set (h : Arr f W b l) (j : Nat) (hj : j < l.length) (v : Int) : Arr f (W.setCell ⟨b, j, none⟩ (f v)) b (l.set j v) := by
  refine ⟨by simpa [World.setCell] using h.1, fun i hi => ?_⟩
  rw [List.length_set] at hi
  refine ⟨?_, by rw [World.frozen?_setCell]; exact h.z i hi⟩
  by_cases e : i = j
  · subst e
    rw [World.cell?_setCell_same _ _ _ (h.c i hi), List.getD_eq_getElem?_getD, List.getElem?_set_self hi]; rfl
  · rw [World.cell?_setCell_other _ _ _ _ (by intro e'; simp only [Addr.mk.injEq] at e'; omega), h.c i hi, List.getD_eq_getElem?_getD, List.getD_eq_getElem?_getD, List.getElem?_set_ne (by omega)]
theorem Arr.other (h : Arr f W b l) (p : Addr) (hp : p.block ≠ b) (v : Value) : Arr f (W.setCell p v) b l := by
  refine ⟨by simpa [World.setCell] using h.1, fun i hi => ⟨?_, by rw [World.frozen?_setCell]; exact h.z i hi⟩⟩
  rw [World.cell?_setCell_other _ _ _ _ (by intro e; rw [e] at hp; exact hp rfl), h.c i hi]
theorem Arr.made (f : Int → Value) (W : World) (e : TypeId) (n : Nat) (hc : (f 0).cells = #[f 0]) : Arr f (W.alloc (.cells (madeCells (f 0).cells n) e)) W.heap.size (List.replicate n 0) := by
  refine ⟨by simp, fun j hj => ?_⟩
  have hj' : j < n := by simpa using hj
  have e1 : (List.replicate n (0 : Int)).getD j 0 = 0 := by rw [List.getD_eq_getElem?_getD, List.getElem?_replicate]; split <;> rfl
  have hh : (W.alloc (.cells (madeCells (f 0).cells n) e)).heap[W.heap.size]? = some (.cells (madeCells (f 0).cells n) e (0, 0)) := by show (W.heap.push _)[W.heap.size]? = _; rw [Array.getElem?_push, if_pos rfl]
  refine ⟨?_, ?_⟩
  · rw [cell_of_row _ _ _ _ _ _ hh, e1, hc]
    simp [madeCells, hj', Nat.mod_one]
  · unfold World.frozen?; rw [hh]; simp
theorem Arr.rd {k : IntKind} (h : Arr (.int k) W b l) (B : Nat) (hB : b < B) : RdK k W B (some ⟨b, 0, none⟩) l.length l :=
  ⟨rfl, fun j hj => ⟨b, 0, rfl, hB, by rw [Nat.zero_add]; exact h.c j hj⟩⟩

theorem wpList_make_eq {P : Program} (w : World) {ops : Array Oper} {rest : List Oper} {o : Oper} {a : Act} {Q : Exit → Act → World → Prop}
    (hg : o.guard = none) (l c : Operand) (t : TypeId) (hop : o.op = Op.makeSlice t l c)
    (e : TypeId) (i : TypeInfo) (z : Value) (h1 : P.underlying t = some (.slice e)) (h2 : P.info? e = some i) (h3 : i.zero = some z) (h4 : i.size = 1)
    (n : Nat) (hl : a.eval l = .int .i64 (n : Int)) (hc : a.eval c = .int .i64 (n : Int)) (b2 : i.bytes * n ≤ 281474976710656) (b3 : n ≤ maxLen)
    (hK : wpList P ops Q rest (a.put o.dst (.slice (some ⟨w.heap.size, 0, none⟩) n n)) (w.alloc (.cells (madeCells z.cells n) e))) :
    wpList P ops Q (o :: rest) a w := by
  refine wpList_plain hg fun K hK' => ?_
  have h63 : (n : Int) ≤ 9223372036854775807 := by
    have h := b3
    simp [maxLen] at h
    omega
  have hb' : (i.bytes : Int) * (n : Int) ≤ 281474976710656 := by
    have h : ((i.bytes * n : Nat) : Int) ≤ 281474976710656 := by omega
    rwa [Int.natCast_mul] at h
  have hrun := run_make (P := P) w t e i z h1 h2 h3 .i64 .i64 (n : Int) (n : Int) (by omega) (Int.le_refl _) hb' h63
  rw [Int.toNat_natCast, h4, Nat.mul_one] at hrun
  unfold Oper.wp
  simp [execOp, hop, hl, hc, hrun, Result.andThen]
  exact hK' _ _ hK
end Go.Proofs.Ytghepjppjmpihaa
