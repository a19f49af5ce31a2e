/- The reference's model of a disk: its three rows, and Many, There, Write. -/
import Derived.Test.YtghepjppjmpihaaOwn
import Derived.Test.YtghepjppjmpihaaAw
import Derived.Test.YtghepjppjmpihaaDk
namespace Go.Proofs.Ytghepjppjmpihaa
open Go.ChangeShapes Go.WideShapes Go.ChangeAt Go.RowKit Go.Lib

/-- but for some blocks nothing that was there has turned -/
structure But (S : Nat → Prop) (w w' : World) : Prop where
  os : w'.os = w.os
  tape : w'.tape = w.tape
  output : w'.output = w.output
  size : w.heap.size ≤ w'.heap.size
  block : ∀ k, k < w.heap.size → ¬ S k → w'.heap[k]? = w.heap[k]?
namespace But
variable {S : Nat → Prop} {a w w' : World}
theorem refl (S : Nat → Prop) (w : World) : But S w w := ⟨rfl, rfl, rfl, Nat.le_refl _, fun _ _ _ => rfl⟩
theorem trans (h : But S a w) (k : But S w w') : But S a w' :=
  ⟨k.os.trans h.os, k.tape.trans h.tape, k.output.trans h.output, Nat.le_trans h.size k.size, fun i hi hs => (k.block i (Nat.lt_of_lt_of_le hi h.size) hs).trans (h.block i hi hs)⟩
theorem more {T : Nat → Prop} (h : But S a w) (hT : ∀ k, k < a.heap.size → S k → T k) : But T a w := ⟨h.os, h.tape, h.output, h.size, fun k hk ht => h.block k hk (fun hs => ht (hT k hk hs))⟩
theorem drew (h : But S a w) : But S a w.drew := ⟨h.os, h.tape, h.output, h.size, h.block⟩
theorem setCell (h : But S a w) {p : Addr} (hp : S p.block) (u : Value) : But S a (w.setCell p u) :=
  h.trans ⟨rfl, rfl, rfl, by simp [World.setCell], fun k _ hs => Below.heap_setCell _ _ _ _ (fun e => hs (e ▸ hp))⟩
theorem alloc (h : But S a w) (o : Obj) : But S a (w.alloc o) := h.trans ⟨rfl, rfl, rfl, by simp, fun k hk _ => Below.heap_alloc _ _ _ hk⟩
theorem of (h : Below w.heap.size w w') (S : Nat → Prop) : But S w w' := ⟨h.os, h.tape, h.output, h.size, fun k hk _ => h.block k hk⟩
theorem cell (h : But S w w') {p : Addr} (hp : p.block < w.heap.size) (hs : ¬ S p.block) : w'.cell? p = w.cell? p := World.cell?_of_block (w := w) (h.block p.block hp hs)
theorem frozen (h : But S w w') {p : Addr} (hp : p.block < w.heap.size) (hs : ¬ S p.block) : w'.frozen? p = w.frozen? p := World.frozen?_of_block (w := w) (h.block p.block hp hs)
end But
abbrev Bl : Int → Value := fun z => .bool (decide (z = 1))
theorem Arr.but {f : Int → Value} {W W' : World} {b : Nat} {l : List Int} {S : Nat → Prop} (h : Arr f W b l) (hb : But S W W') (hs : ¬ S b) : Arr f W' b l :=
  ⟨Nat.lt_of_lt_of_le h.1 hb.size, fun j hj => ⟨(hb.cell (p := ⟨b, j, none⟩) h.1 hs).trans (h.c j hj), (hb.frozen (p := ⟨b, j, none⟩) h.1 hs).trans (h.z j hj)⟩⟩
/-- a model's blocks -/
structure Md (w : World) (b sb nb db n m : Nat) (st now dr : List Int) : Prop where
  lt : b < w.heap.size
  c0 : w.cell? ⟨b, 0, none⟩ = some (.slice (some ⟨sb, 0, none⟩) n n)
  c1 : w.cell? ⟨b, 1, none⟩ = some (.slice (some ⟨nb, 0, none⟩) n n)
  c2 : w.cell? ⟨b, 2, none⟩ = some (.slice (some ⟨db, 0, none⟩) m m)
  rs : Arr (.int .u8) w sb st
  rn : Arr (.int .u8) w nb now
  rd : Arr Bl w db dr
  ls : st.length = n
  ln : now.length = n
  ld : dr.length = m
  e : n = 64 * m
  le : m ≤ 1024
  ne : b ≠ sb ∧ b ≠ nb ∧ b ≠ db ∧ sb ≠ nb ∧ sb ≠ db ∧ nb ≠ db
namespace Md
variable {w w' : World} {b sb nb db n m : Nat} {st now dr : List Int}
theorem but {S : Nat → Prop} (h : Md w b sb nb db n m st now dr) (hb : But S w w') (h0 : ¬ S b) (h1 : ¬ S sb) (h2 : ¬ S nb) (h3 : ¬ S db) : Md w' b sb nb db n m st now dr :=
  ⟨Nat.lt_of_lt_of_le h.lt hb.size, (hb.cell (p := ⟨b, 0, none⟩) h.lt h0).trans h.c0, (hb.cell (p := ⟨b, 1, none⟩) h.lt h0).trans h.c1, (hb.cell (p := ⟨b, 2, none⟩) h.lt h0).trans h.c2,
    h.rs.but hb h1, h.rn.but hb h2, h.rd.but hb h3, h.ls, h.ln, h.ld, h.e, h.le, h.ne⟩
theorem setN (h : Md w b sb nb db n m st now dr) (j : Nat) (hj : j < n) (v : Int) : Md (w.setCell ⟨nb, j, none⟩ (.int .u8 v)) b sb nb db n m st (now.set j v) dr := by
  have hb : But (fun k => k = nb) w (w.setCell ⟨nb, j, none⟩ (.int .u8 v)) := (But.refl (fun k => k = nb) w).setCell (p := ⟨nb, j, none⟩) (show nb = nb from rfl) _
  obtain ⟨e1, e2, e3, e4, e5, e6⟩ := h.ne
  exact ⟨Nat.lt_of_lt_of_le h.lt hb.size, (hb.cell (p := ⟨b, 0, none⟩) h.lt e2).trans h.c0, (hb.cell (p := ⟨b, 1, none⟩) h.lt e2).trans h.c1, (hb.cell (p := ⟨b, 2, none⟩) h.lt e2).trans h.c2,
    h.rs.but hb e4, h.rn.set j (by rw [h.ln]; exact hj) v, h.rd.but hb (fun e => e6 e.symm), h.ls, by rw [List.length_set]; exact h.ln, h.ld, h.e, h.le, h.ne⟩
theorem setS (h : Md w b sb nb db n m st now dr) (j : Nat) (hj : j < n) (v : Int) : Md (w.setCell ⟨sb, j, none⟩ (.int .u8 v)) b sb nb db n m (st.set j v) now dr := by
  have hb : But (fun k => k = sb) w (w.setCell ⟨sb, j, none⟩ (.int .u8 v)) := (But.refl (fun k => k = sb) w).setCell (p := ⟨sb, j, none⟩) (show sb = sb from rfl) _
  obtain ⟨e1, e2, e3, e4, e5, e6⟩ := h.ne
  exact ⟨Nat.lt_of_lt_of_le h.lt hb.size, (hb.cell (p := ⟨b, 0, none⟩) h.lt e1).trans h.c0, (hb.cell (p := ⟨b, 1, none⟩) h.lt e1).trans h.c1, (hb.cell (p := ⟨b, 2, none⟩) h.lt e1).trans h.c2,
    h.rs.set j (by rw [h.ls]; exact hj) v, h.rn.but hb (fun e => e4 e.symm), h.rd.but hb (fun e => e5 e.symm), by rw [List.length_set]; exact h.ls, h.ln, h.ld, h.e, h.le, h.ne⟩
theorem setD (h : Md w b sb nb db n m st now dr) (j : Nat) (hj : j < m) (v : Int) : Md (w.setCell ⟨db, j, none⟩ (Bl v)) b sb nb db n m st now (dr.set j v) := by
  have hb : But (fun k => k = db) w (w.setCell ⟨db, j, none⟩ (Bl v)) := (But.refl (fun k => k = db) w).setCell (p := ⟨db, j, none⟩) (show db = db from rfl) _
  obtain ⟨e1, e2, e3, e4, e5, e6⟩ := h.ne
  exact ⟨Nat.lt_of_lt_of_le h.lt hb.size, (hb.cell (p := ⟨b, 0, none⟩) h.lt e3).trans h.c0, (hb.cell (p := ⟨b, 1, none⟩) h.lt e3).trans h.c1, (hb.cell (p := ⟨b, 2, none⟩) h.lt e3).trans h.c2,
    h.rs.but hb e5, h.rn.but hb e6, h.rd.set j (by rw [h.ld]; exact hj) v, h.ls, h.ln, by rw [List.length_set]; exact h.ld, h.e, h.le, h.ne⟩
theorem drew (h : Md w b sb nb db n m st now dr) : Md w.drew b sb nb db n m st now dr := h.but (But.refl (fun _ => False) w).drew id id id id
end Md

/-! ### Many: a count -/
/-! ### There: are so many bytes there? -/
end Go.Proofs.Ytghepjppjmpihaa
