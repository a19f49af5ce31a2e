import Derived.Test.YtmfjnnjjoagbiaaDoorProg
import Derived.Test.YtmfjnnjjoagbiaaDoorFr
import Derived.Test.YtmfjnnjjoagbiaaDoorDt
import Derived.WalkKit
import Derived.WalkSpells
import Derived.StillTactics
import Derived.Laws.Pointers
import Derived.Laws.ResultCell
import Derived.Deep.RegionHeld3
import Derived.Sort.AtCall
import Derived.Lib.Hide
import Derived.BigGuardPart
import Derived.BigQuiet
import Derived.WalkLawsBesides
namespace Go.Proofs.YtmfjnnjjoagbiaaDoor
open Go.RowKit Go.Lib Go.ChangeShapes Go.WideShapes Go.ChangeAt

/-- a date as a value -/
abbrev dtv (y m d : Int) : Value := .agg #[.int .i64 y, .int .i64 m, .int .i64 d]
/-- the slot of a struct of three numbers, new, in a world that came of it -/
theorem slot3 {w w2 : World} {t : TypeId} {a b c : Value} (hb : Below (w.alloc (.cells #[a, b, c] t)).heap.size (w.alloc (.cells #[a, b, c] t)) w2) :
    Below w.heap.size w w2 ∧ w2.cell? ⟨w.heap.size, 0, none⟩ = some a ∧ w2.cell? ⟨w.heap.size, 1, none⟩ = some b ∧ w2.cell? ⟨w.heap.size, 2, none⟩ = some c ∧ w2.frozen? ⟨w.heap.size, 0, none⟩ = false ∧ w2.frozen? ⟨w.heap.size, 1, none⟩ = false ∧ w2.frozen? ⟨w.heap.size, 2, none⟩ = false := by
  have hk (k : Nat) : (⟨w.heap.size, k, none⟩ : Addr).block < (w.alloc (.cells #[a, b, c] t)).heap.size := by simp
  refine ⟨((Below.refl _ _).alloc (Nat.le_refl _) _).trans (hb.mono (by simp)), ?_, ?_, ?_, ?_, ?_, ?_⟩
  · rw [hb.cell (hk 0)]; simp
  · rw [hb.cell (hk 1)]; simp
  · rw [hb.cell (hk 2)]; simp
  · rw [hb.frozen (hk 0)]; simp
  · rw [hb.frozen (hk 1)]; simp
  · rw [hb.frozen (hk 2)]; simp
/-- the day so many months behind, as a value -/
def mvv (y m d n : Int) : Value := if Dt.mok y m n then dtv (Dt.my y m n) (Dt.mm y m n) (Dt.md y m d n) else dtv 0 0 0
abbrev vErr (k : Int) : Value := .iface 30 (.int .i64 k)
/-- Months' error -/
def mev (y m n : Int) : Value := if Dt.mok y m n then .nilIface else vErr 1
/-- a variable that holds a date -/
def DV (w wr : World) (b : Nat) (y m d : Int) : Prop :=
  Below w.heap.size w wr ∧ w.heap.size ≤ b ∧ b < wr.heap.size ∧ (wr.cell? ⟨b, 0, none⟩ = some (.int .i64 y) ∧ wr.cell? ⟨b, 1, none⟩ = some (.int .i64 m) ∧ wr.cell? ⟨b, 2, none⟩ = some (.int .i64 d)) ∧
  wr.frozen? ⟨b, 0, none⟩ = false ∧ wr.frozen? ⟨b, 1, none⟩ = false ∧ wr.frozen? ⟨b, 2, none⟩ = false
theorem DV.new {w wr : World} (h : Below w.heap.size w wr) (t : TypeId) (y m d : Int) : DV w (wr.alloc (.cells #[.int .i64 y, .int .i64 m, .int .i64 d] t)) wr.heap.size y m d :=
  ⟨h.alloc h.size _, h.size, by simp, ⟨by simp, by simp, by simp⟩, by simp, by simp, by simp⟩
theorem DV.below {w wr wq : World} {b : Nat} {y m d : Int} (h : DV w wr b y m d) (hb : Below wr.heap.size wr wq) : DV w wq b y m d := by
  obtain ⟨h1, h2, h3, ⟨c0, c1, c2⟩, f0, f1, f2⟩ := h
  exact ⟨h1.trans (hb.mono h1.size), h2, Nat.lt_of_lt_of_le h3 hb.size, ⟨(hb.cell (p := ⟨b, 0, none⟩) h3).trans c0, (hb.cell (p := ⟨b, 1, none⟩) h3).trans c1, (hb.cell (p := ⟨b, 2, none⟩) h3).trans c2⟩, (hb.frozen (p := ⟨b, 0, none⟩) h3).trans f0, (hb.frozen (p := ⟨b, 1, none⟩) h3).trans f1, (hb.frozen (p := ⟨b, 2, none⟩) h3).trans f2⟩
theorem DV.alloc {w wr : World} {b : Nat} {y m d : Int} (h : DV w wr b y m d) (o : Obj) : DV w (wr.alloc o) b y m d := h.below ((Below.refl _ _).alloc (Nat.le_refl _) o)
/-- a world's three cells of a block, stored -/
abbrev set3 (wr : World) (b : Nat) (y m d : Int) : World := ((wr.setCell ⟨b, 0, none⟩ (.int .i64 y)).setCell ⟨b, 1, none⟩ (.int .i64 m)).setCell ⟨b, 2, none⟩ (.int .i64 d)
theorem DV.store {w wr : World} {b : Nat} {y m d : Int} (h : DV w wr b y m d) (Y M D : Int) : DV w (set3 wr b Y M D) b Y M D := by
  obtain ⟨h1, h2, h3, ⟨c0, c1, c2⟩, f0, f1, f2⟩ := h
  have e01 : (wr.setCell ⟨b, 0, none⟩ (.int .i64 Y)).cell? ⟨b, 1, none⟩ = some (.int .i64 m) := (World.cell?_setCell_other _ _ _ _ (by simp)).trans c1
  have e02 : (wr.setCell ⟨b, 0, none⟩ (.int .i64 Y)).cell? ⟨b, 2, none⟩ = some (.int .i64 d) := (World.cell?_setCell_other _ _ _ _ (by simp)).trans c2
  have e00 : (wr.setCell ⟨b, 0, none⟩ (.int .i64 Y)).cell? ⟨b, 0, none⟩ = some (.int .i64 Y) := World.cell?_setCell_same _ _ _ c0
  have e10 : ((wr.setCell ⟨b, 0, none⟩ (.int .i64 Y)).setCell ⟨b, 1, none⟩ (.int .i64 M)).cell? ⟨b, 0, none⟩ = some (.int .i64 Y) := (World.cell?_setCell_other _ _ _ _ (by simp)).trans e00
  have e11 : ((wr.setCell ⟨b, 0, none⟩ (.int .i64 Y)).setCell ⟨b, 1, none⟩ (.int .i64 M)).cell? ⟨b, 1, none⟩ = some (.int .i64 M) := World.cell?_setCell_same _ _ _ e01
  have e12 : ((wr.setCell ⟨b, 0, none⟩ (.int .i64 Y)).setCell ⟨b, 1, none⟩ (.int .i64 M)).cell? ⟨b, 2, none⟩ = some (.int .i64 d) := (World.cell?_setCell_other _ _ _ _ (by simp)).trans e02
  refine ⟨((h1.setCell h2 _).setCell h2 _).setCell h2 _, h2, by simpa using h3, ⟨?_, ?_, ?_⟩, ?_, ?_, ?_⟩
  · exact (World.cell?_setCell_other _ _ _ _ (by simp)).trans e10
  · exact (World.cell?_setCell_other _ _ _ _ (by simp)).trans e11
  · exact World.cell?_setCell_same _ _ _ e12
  all_goals simpa using (by assumption)
/-- another variable is stored -/
theorem DV.other {w wr : World} {b b' : Nat} {y m d : Int} (h : DV w wr b y m d) (hb : b' ≠ b) (hw : w.heap.size ≤ b') (Y M D : Int) : DV w (set3 wr b' Y M D) b y m d := by
  obtain ⟨h1, h2, h3, ⟨c0, c1, c2⟩, f0, f1, f2⟩ := h
  have k (i j : Nat) : (⟨b', i, none⟩ : Addr) ≠ ⟨b, j, none⟩ := fun e => hb (congrArg Addr.block e)
  refine ⟨((h1.setCell hw _).setCell hw _).setCell hw _, h2, by simpa using h3, ⟨?_, ?_, ?_⟩, ?_, ?_, ?_⟩
  · rw [World.cell?_setCell_other _ _ _ _ (k _ _), World.cell?_setCell_other _ _ _ _ (k _ _), World.cell?_setCell_other _ _ _ _ (k _ _)]; exact c0
  · rw [World.cell?_setCell_other _ _ _ _ (k _ _), World.cell?_setCell_other _ _ _ _ (k _ _), World.cell?_setCell_other _ _ _ _ (k _ _)]; exact c1
  · rw [World.cell?_setCell_other _ _ _ _ (k _ _), World.cell?_setCell_other _ _ _ _ (k _ _), World.cell?_setCell_other _ _ _ _ (k _ _)]; exact c2
  all_goals simpa using (by assumption)
/-- something made memory behind -/
theorem ext {w a b : World} (h : Below w.heap.size w a) (k : Below a.heap.size a b) : Below w.heap.size w b := h.trans (k.mono h.size)
theorem DV.set1 {w wr : World} {b : Nat} {y m d : Int} (h : DV w wr b y m d) (X : Int) : DV w (wr.setCell ⟨b, 1, none⟩ (.int .i64 X)) b y X d := by
  obtain ⟨h1, h2, h3, ⟨c0, c1, c2⟩, f0, f1, f2⟩ := h
  exact ⟨h1.setCell h2 _, h2, by simpa using h3, ⟨(World.cell?_setCell_other _ _ _ _ (by simp)).trans c0, World.cell?_setCell_same _ _ _ c1, (World.cell?_setCell_other _ _ _ _ (by simp)).trans c2⟩, by simpa using f0, by simpa using f1, by simpa using f2⟩
theorem DV.set2 {w wr : World} {b : Nat} {y m d : Int} (h : DV w wr b y m d) (X : Int) : DV w (wr.setCell ⟨b, 2, none⟩ (.int .i64 X)) b y m X := by
  obtain ⟨h1, h2, h3, ⟨c0, c1, c2⟩, f0, f1, f2⟩ := h
  exact ⟨h1.setCell h2 _, h2, by simpa using h3, ⟨(World.cell?_setCell_other _ _ _ _ (by simp)).trans c0, (World.cell?_setCell_other _ _ _ _ (by simp)).trans c1, World.cell?_setCell_same _ _ _ c2⟩, by simpa using f0, by simpa using f1, by simpa using f2⟩
/-- a cell of another variable is stored -/
theorem DV.apart {w wr : World} {b b' : Nat} {y m d : Int} (h : DV w wr b y m d) (hb : b' ≠ b) (hw : w.heap.size ≤ b') (i : Nat) (v : Value) : DV w (wr.setCell ⟨b', i, none⟩ v) b y m d := by
  obtain ⟨h1, h2, h3, ⟨c0, c1, c2⟩, f0, f1, f2⟩ := h
  have k (j : Nat) : (⟨b', i, none⟩ : Addr) ≠ ⟨b, j, none⟩ := fun e => hb (congrArg Addr.block e)
  exact ⟨h1.setCell hw _, h2, by simpa using h3, ⟨(World.cell?_setCell_other _ _ _ _ (k _)).trans c0, (World.cell?_setCell_other _ _ _ _ (k _)).trans c1, (World.cell?_setCell_other _ _ _ _ (k _)).trans c2⟩, by simpa using f0, by simpa using f1, by simpa using f2⟩
theorem mvv_is {y m d n Y M D : Int} (h : Dt.mok y m n) (h1 : Dt.my y m n = Y) (h2 : Dt.mm y m n = M) (h3 : Dt.md y m d n = D) : mvv y m d n = dtv Y M D ∧ mev y m n = .nilIface := by
  rw [mvv, if_pos h, mev, if_pos h, h1, h2, h3]; exact ⟨rfl, rfl⟩
theorem in64 {a : Int} (h : (Lit.int .i64 a).wf = true) : -9223372036854775808 ≤ a ∧ a ≤ 9223372036854775807 := by
  simp [Lit.wf, IntKind.min, IntKind.max, IntKind.signed, IntKind.bits] at h
  exact ⟨by omega, by omega⟩
/-- the table of the months' days -/
def Laid (w : World) : Prop :=
  (w.cell? ⟨0, 0, none⟩ = some (.int .i64 31) ∧ w.cell? ⟨0, 1, none⟩ = some (.int .i64 28) ∧ w.cell? ⟨0, 2, none⟩ = some (.int .i64 31) ∧ w.cell? ⟨0, 3, none⟩ = some (.int .i64 30)) ∧
  (w.cell? ⟨0, 4, none⟩ = some (.int .i64 31) ∧ w.cell? ⟨0, 5, none⟩ = some (.int .i64 30) ∧ w.cell? ⟨0, 6, none⟩ = some (.int .i64 31) ∧ w.cell? ⟨0, 7, none⟩ = some (.int .i64 31)) ∧
  (w.cell? ⟨0, 8, none⟩ = some (.int .i64 30) ∧ w.cell? ⟨0, 9, none⟩ = some (.int .i64 31) ∧ w.cell? ⟨0, 10, none⟩ = some (.int .i64 30) ∧ w.cell? ⟨0, 11, none⟩ = some (.int .i64 31))
theorem Laid.keep {w w' : World} (h : Laid w) (hk : ∀ k, w'.cell? ⟨0, k, none⟩ = w.cell? ⟨0, k, none⟩) : Laid w' := by
  obtain ⟨⟨a0, a1, a2, a3⟩, ⟨b0, b1, b2, b3⟩, c0, c1, c2, c3⟩ := h
  exact ⟨⟨(hk _).trans a0, (hk _).trans a1, (hk _).trans a2, (hk _).trans a3⟩, ⟨(hk _).trans b0, (hk _).trans b1, (hk _).trans b2, (hk _).trans b3⟩, (hk _).trans c0, (hk _).trans c1, (hk _).trans c2, (hk _).trans c3⟩
theorem Laid.pos {w : World} (h : Laid w) : 0 < w.heap.size := cell_lt h.1.1
theorem Laid.below {w w' : World} (h : Laid w) (hb : Below w.heap.size w w') : Laid w' := h.keep fun k => hb.cell (p := ⟨0, k, none⟩) h.pos
theorem Laid.drewN {w : World} (h : Laid w) (n : Nat) : Laid (w.drewN n) := h.below (below_drewN _ _ n)
theorem Laid.drew {w : World} (h : Laid w) : Laid w.drew := h.below (Below.refl _ _).drew
end Go.Proofs.YtmfjnnjjoagbiaaDoor
