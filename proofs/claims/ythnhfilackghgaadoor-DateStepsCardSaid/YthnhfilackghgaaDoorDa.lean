import Derived.Test.YthnhfilackghgaaDoorDm
namespace Go.Proofs.YthnhfilackghgaaDoor
open Go.RowKit Go.Lib Go.ChangeShapes Go.WideShapes Go.ChangeAt

/-! ### The landed dates: the table, years and their days -/
/-- the table of the months' days -/
def Laid (w : World) : Prop :=
  (w.cell? ⟨0, 0, none⟩ = some (.int .i64 31) ∧ w.cell? ⟨0, 1, none⟩ = some (.int .i64 28) ∧ w.cell? ⟨0, 2, none⟩ = some (.int .i64 31) ∧ w.cell? ⟨0, 3, none⟩ = some (.int .i64 30)) ∧
  (w.cell? ⟨0, 4, none⟩ = some (.int .i64 31) ∧ w.cell? ⟨0, 5, none⟩ = some (.int .i64 30) ∧ w.cell? ⟨0, 6, none⟩ = some (.int .i64 31) ∧ w.cell? ⟨0, 7, none⟩ = some (.int .i64 31)) ∧
  (w.cell? ⟨0, 8, none⟩ = some (.int .i64 30) ∧ w.cell? ⟨0, 9, none⟩ = some (.int .i64 31) ∧ w.cell? ⟨0, 10, none⟩ = some (.int .i64 30) ∧ w.cell? ⟨0, 11, none⟩ = some (.int .i64 31))
theorem Laid.keep {w w' : World} (h : Laid w) (hk : ∀ k, w'.cell? ⟨0, k, none⟩ = w.cell? ⟨0, k, none⟩) : Laid w' := by
  obtain ⟨⟨a0, a1, a2, a3⟩, ⟨b0, b1, b2, b3⟩, c0, c1, c2, c3⟩ := h
  exact ⟨⟨(hk _).trans a0, (hk _).trans a1, (hk _).trans a2, (hk _).trans a3⟩, ⟨(hk _).trans b0, (hk _).trans b1, (hk _).trans b2, (hk _).trans b3⟩, (hk _).trans c0, (hk _).trans c1, (hk _).trans c2, (hk _).trans c3⟩
theorem Laid.pos {w : World} (h : Laid w) : 0 < w.heap.size := cell_lt h.1.1
theorem Laid.below {w w' : World} (h : Laid w) (hb : Below w.heap.size w w') : Laid w' := h.keep fun k => hb.cell (p := ⟨0, k, none⟩) h.pos
theorem Laid.drewN {w : World} (h : Laid w) (n : Nat) : Laid (w.drewN n) := h.below (below_drewN _ _ n)

/-- a variable that holds a date -/
def DV (w wr : World) (b : Nat) (y m d : Int) : Prop :=
  Below w.heap.size w wr ∧ w.heap.size ≤ b ∧ b < wr.heap.size ∧ (wr.cell? ⟨b, 0, none⟩ = some (.int .i64 y) ∧ wr.cell? ⟨b, 1, none⟩ = some (.int .i64 m) ∧ wr.cell? ⟨b, 2, none⟩ = some (.int .i64 d)) ∧
  wr.frozen? ⟨b, 0, none⟩ = false ∧ wr.frozen? ⟨b, 1, none⟩ = false ∧ wr.frozen? ⟨b, 2, none⟩ = false
theorem DV.new {w wr : World} (h : Below w.heap.size w wr) (t : TypeId) (y m d : Int) : DV w (wr.alloc (.cells #[.int .i64 y, .int .i64 m, .int .i64 d] t)) wr.heap.size y m d :=
  ⟨h.alloc h.size _, h.size, by simp, ⟨by simp, by simp, by simp⟩, by simp, by simp, by simp⟩
theorem DV.below {w wr wq : World} {b : Nat} {y m d : Int} (h : DV w wr b y m d) (hb : Below wr.heap.size wr wq) : DV w wq b y m d := by
  obtain ⟨h1, h2, h3, ⟨c0, c1, c2⟩, f0, f1, f2⟩ := h
  exact ⟨h1.trans (hb.mono h1.size), h2, Nat.lt_of_lt_of_le h3 hb.size, ⟨(hb.cell (p := ⟨b, 0, none⟩) h3).trans c0, (hb.cell (p := ⟨b, 1, none⟩) h3).trans c1, (hb.cell (p := ⟨b, 2, none⟩) h3).trans c2⟩, (hb.frozen (p := ⟨b, 0, none⟩) h3).trans f0, (hb.frozen (p := ⟨b, 1, none⟩) h3).trans f1, (hb.frozen (p := ⟨b, 2, none⟩) h3).trans f2⟩
theorem DV.alloc {w wr : World} {b : Nat} {y m d : Int} (h : DV w wr b y m d) (o : Obj) : DV w (wr.alloc o) b y m d := h.below ((Below.refl _ _).alloc (Nat.le_refl _) o)
/-- a world's three cells of a block, stored -/
abbrev set3 (wr : World) (b : Nat) (y m d : Int) : World := ((wr.setCell ⟨b, 0, none⟩ (.int .i64 y)).setCell ⟨b, 1, none⟩ (.int .i64 m)).setCell ⟨b, 2, none⟩ (.int .i64 d)
theorem DV.store {w wr : World} {b : Nat} {y m d : Int} (h : DV w wr b y m d) (Y M D : Int) : DV w (set3 wr b Y M D) b Y M D := by
  obtain ⟨h1, h2, h3, ⟨c0, c1, c2⟩, f0, f1, f2⟩ := h
  have e01 : (wr.setCell ⟨b, 0, none⟩ (.int .i64 Y)).cell? ⟨b, 1, none⟩ = some (.int .i64 m) := (World.cell?_setCell_other _ _ _ _ (by simp)).trans c1
  have e02 : (wr.setCell ⟨b, 0, none⟩ (.int .i64 Y)).cell? ⟨b, 2, none⟩ = some (.int .i64 d) := (World.cell?_setCell_other _ _ _ _ (by simp)).trans c2
  have e00 : (wr.setCell ⟨b, 0, none⟩ (.int .i64 Y)).cell? ⟨b, 0, none⟩ = some (.int .i64 Y) := World.cell?_setCell_same _ _ _ c0
  have e10 : ((wr.setCell ⟨b, 0, none⟩ (.int .i64 Y)).setCell ⟨b, 1, none⟩ (.int .i64 M)).cell? ⟨b, 0, none⟩ = some (.int .i64 Y) := (World.cell?_setCell_other _ _ _ _ (by simp)).trans e00
  have e11 : ((wr.setCell ⟨b, 0, none⟩ (.int .i64 Y)).setCell ⟨b, 1, none⟩ (.int .i64 M)).cell? ⟨b, 1, none⟩ = some (.int .i64 M) := World.cell?_setCell_same _ _ _ e01
  have e12 : ((wr.setCell ⟨b, 0, none⟩ (.int .i64 Y)).setCell ⟨b, 1, none⟩ (.int .i64 M)).cell? ⟨b, 2, none⟩ = some (.int .i64 d) := (World.cell?_setCell_other _ _ _ _ (by simp)).trans e02
  refine ⟨((h1.setCell h2 _).setCell h2 _).setCell h2 _, h2, by simpa using h3, ⟨?_, ?_, ?_⟩, ?_, ?_, ?_⟩
  · exact (World.cell?_setCell_other _ _ _ _ (by simp)).trans e10
  · exact (World.cell?_setCell_other _ _ _ _ (by simp)).trans e11
  · exact World.cell?_setCell_same _ _ _ e12
  all_goals simpa using (by assumption)
/-- another variable is stored -/
theorem DV.other {w wr : World} {b b' : Nat} {y m d : Int} (h : DV w wr b y m d) (hb : b' ≠ b) (hw : w.heap.size ≤ b') (Y M D : Int) : DV w (set3 wr b' Y M D) b y m d := by
  obtain ⟨h1, h2, h3, ⟨c0, c1, c2⟩, f0, f1, f2⟩ := h
  have k (i j : Nat) : (⟨b', i, none⟩ : Addr) ≠ ⟨b, j, none⟩ := fun e => hb (congrArg Addr.block e)
  refine ⟨((h1.setCell hw _).setCell hw _).setCell hw _, h2, by simpa using h3, ⟨?_, ?_, ?_⟩, ?_, ?_, ?_⟩
  · rw [World.cell?_setCell_other _ _ _ _ (k _ _), World.cell?_setCell_other _ _ _ _ (k _ _), World.cell?_setCell_other _ _ _ _ (k _ _)]; exact c0
  · rw [World.cell?_setCell_other _ _ _ _ (k _ _), World.cell?_setCell_other _ _ _ _ (k _ _), World.cell?_setCell_other _ _ _ _ (k _ _)]; exact c1
  · rw [World.cell?_setCell_other _ _ _ _ (k _ _), World.cell?_setCell_other _ _ _ _ (k _ _), World.cell?_setCell_other _ _ _ _ (k _ _)]; exact c2
  all_goals simpa using (by assumption)
/-- something made memory behind -/
theorem ext {w a b : World} (h : Below w.heap.size w a) (k : Below a.heap.size a b) : Below w.heap.size w b := h.trans (k.mono h.size)
theorem DV.set1 {w wr : World} {b : Nat} {y m d : Int} (h : DV w wr b y m d) (X : Int) : DV w (wr.setCell ⟨b, 1, none⟩ (.int .i64 X)) b y X d := by
  obtain ⟨h1, h2, h3, ⟨c0, c1, c2⟩, f0, f1, f2⟩ := h
  exact ⟨h1.setCell h2 _, h2, by simpa using h3, ⟨(World.cell?_setCell_other _ _ _ _ (by simp)).trans c0, World.cell?_setCell_same _ _ _ c1, (World.cell?_setCell_other _ _ _ _ (by simp)).trans c2⟩, by simpa using f0, by simpa using f1, by simpa using f2⟩
theorem DV.set2 {w wr : World} {b : Nat} {y m d : Int} (h : DV w wr b y m d) (X : Int) : DV w (wr.setCell ⟨b, 2, none⟩ (.int .i64 X)) b y m X := by
  obtain ⟨h1, h2, h3, ⟨c0, c1, c2⟩, f0, f1, f2⟩ := h
  exact ⟨h1.setCell h2 _, h2, by simpa using h3, ⟨(World.cell?_setCell_other _ _ _ _ (by simp)).trans c0, (World.cell?_setCell_other _ _ _ _ (by simp)).trans c1, World.cell?_setCell_same _ _ _ c2⟩, by simpa using f0, by simpa using f1, by simpa using f2⟩
/-- a cell of another variable is stored -/
theorem DV.apart {w wr : World} {b b' : Nat} {y m d : Int} (h : DV w wr b y m d) (hb : b' ≠ b) (hw : w.heap.size ≤ b') (i : Nat) (v : Value) : DV w (wr.setCell ⟨b', i, none⟩ v) b y m d := by
  obtain ⟨h1, h2, h3, ⟨c0, c1, c2⟩, f0, f1, f2⟩ := h
  have k (j : Nat) : (⟨b', i, none⟩ : Addr) ≠ ⟨b, j, none⟩ := fun e => hb (congrArg Addr.block e)
  exact ⟨h1.setCell hw _, h2, by simpa using h3, ⟨(World.cell?_setCell_other _ _ _ _ (k _)).trans c0, (World.cell?_setCell_other _ _ _ _ (k _)).trans c1, (World.cell?_setCell_other _ _ _ _ (k _)).trans c2⟩, by simpa using f0, by simpa using f1, by simpa using f2⟩
theorem Laid.drew {w : World} (h : Laid w) : Laid w.drew := h.below (Below.refl _ _).drew
theorem isLeap_any (y : Int) (h1 : 1900 ≤ y) (h2 : y ≤ 2199) (w : World) : Calls Tryd.prog 21 #[.int .i64 y] w fun e w' => e = .returned (.bool (decide (Dt.leap y))) ∧ w = w' := by
  have q1 : y.tmod 400 = y % 400 := Int.tmod_eq_emod_of_nonneg (by omega)
  have q2 : y.tmod 4 = y % 4 := Int.tmod_eq_emod_of_nonneg (by omega)
  have q3 : y.tmod 100 = y % 100 := Int.tmod_eq_emod_of_nonneg (by omega)
  go_enter Tryd.func21, Tryd.ntmps21
  go_wp2
  all_goals (go_ret; refine ⟨?_, rfl⟩; simp only [Ending.returned.injEq, Value.bool.injEq]; unfold Dt.leap; simp [*] at *; try (first | rfl | omega))
theorem leapsAhead_any (y : Int) (h1 : 1899 ≤ y) (h2 : y ≤ 2200) (w : World) : Calls Tryd.prog 25 #[.int .i64 y] w fun e w' => e = .returned (.int .i64 ((y - 1) / 4 - (y - 1) / 100 + (y - 1) / 400)) ∧ w = w' := by
  have q1 : (y - 1).tdiv 400 = (y - 1) / 400 := Int.tdiv_eq_ediv_of_nonneg (by omega)
  have q2 : (y - 1).tdiv 4 = (y - 1) / 4 := Int.tdiv_eq_ediv_of_nonneg (by omega)
  have q3 : (y - 1).tdiv 100 = (y - 1) / 100 := Int.tdiv_eq_ediv_of_nonneg (by omega)
  go_enter Tryd.func25, Tryd.ntmps25
  go_wp2
  all_goals (go_ret; exact ⟨by simp, rfl⟩)
theorem newYear_any (y : Int) (h1 : 1899 ≤ y) (h2 : y ≤ 2200) (w : World) : Calls Tryd.prog 22 #[.int .i64 y] w fun e w' => e = .returned (.int .i64 (Dt.cy y)) ∧ w = w' := by
  go_enter Tryd.func22, Tryd.ntmps22
  go_wp2_with fail
  refine (leapsAhead_any y h1 h2 _).mono ?_; rintro e w' ⟨rfl, rfl⟩
  have HQ := Lib.hid (show ∃ L, L = (y - 1) / 4 - (y - 1) / 100 + (y - 1) / 400 ∧ 0 ≤ L ∧ L ≤ 600 from ⟨_, rfl, by omega, by omega⟩)
  obtain ⟨L, hL, l1, l2⟩ := HQ.out
  rw [← hL]
  have HL := Lib.hid hL
  clear hL HQ
  go_wp2_with fail
  refine (leapsAhead_any 1970 (by decide) (by decide) _).mono ?_; rintro e w' ⟨rfl, rfl⟩
  rw [show ((1970 : Int) - 1) / 4 - (1970 - 1) / 100 + (1970 - 1) / 400 = 477 by decide]
  go_wp2_with fail
  go_ret
  exact ⟨by have := HL.out; unfold Dt.cy; simp; omega, rfl⟩
theorem days_same (y m : Int) (w : World) (hL : Laid w) : Calls Tryd.prog 11 #[.int .i64 y, .int .i64 m] w fun e w' => e = .returned (.int .i64 (Dt.dys y m)) ∧ w = w' := by
  have HL := Lib.hid hL
  clear hL
  by_cases h : y < 1900 ∨ 2199 < y ∨ m < 1 ∨ 12 < m
  · have e : Dt.dys y m = 0 := by unfold Dt.dys; exact if_pos h
    rw [e]
    go_enter Tryd.func11, Tryd.ntmps11
    go_wp2_with fail
    all_goals (first | (exfalso; omega) | (go_ret; exact ⟨by simp, rfl⟩))
  · have hy : Dt.InY y := by unfold Dt.InY; omega
    have hm : Dt.InM m := by unfold Dt.InM; omega
    rw [Dt.dys_in hy hm]
    have b1 : 1900 ≤ y := hy.1
    have b2 : y ≤ 2199 := hy.2
    have d1 : decide (y < 1900) = false := by simp; omega
    have d2 : decide (2199 < y) = false := by simp; omega
    have HF := Lib.hid (Dt.fb_cases y)
    obtain ⟨⟨a0, a1, a2, a3⟩, ⟨e0, e1, e2, e3⟩, c0, c1, c2, c3⟩ := HL.out
    clear h
    rcases Dt.twelve hm with rfl | rfl | rfl | rfl | rfl | rfl | rfl | rfl | rfl | rfl | rfl | rfl
    case inr.inl =>
      clear hy hm
      rcases HF.out with ⟨k1, k2⟩ | ⟨k1, k2⟩
      · have HK := Lib.hid k1
        rw [k2]
        clear k1 k2
        go_enter Tryd.func11, Tryd.ntmps11
        go_wp2_with fail
        refine (isLeap_any y b1 b2 _).mono ?_; rintro e w' ⟨rfl, rfl⟩
        rw [decide_eq_true HK.out]
        go_wp2_with fail
        go_ret
        exact ⟨by simp, rfl⟩
      · have HK := Lib.hid k1
        rw [k2]
        clear k1 k2
        go_enter Tryd.func11, Tryd.ntmps11
        go_wp2_with fail
        refine (isLeap_any y b1 b2 _).mono ?_; rintro e w' ⟨rfl, rfl⟩
        rw [decide_eq_false HK.out]
        go_wp2_with fail
        go_ret
        exact ⟨by simp, rfl⟩
    all_goals
      clear hy hm
      go_enter Tryd.func11, Tryd.ntmps11
      go_wp2_with fail
      go_ret
      exact ⟨by simp, rfl⟩
theorem cdays (y m : Int) (w : World) (hL : Laid w) : Calls Tryd.prog 11 #[.int .i64 y, .int .i64 m] w fun e w' => e = .returned (.int .i64 (Dt.dys y m)) ∧ Below w.heap.size w w' :=
  (days_same y m w hL).mono fun _ _ ⟨a, b⟩ => ⟨a, b ▸ Below.refl _ _⟩
theorem cdays_q (y m : Int) (w : World) (hL : Laid w) (n : Nat) : Calls Tryd.prog 11 #[.int .i64 y, .int .i64 m] (w.drewN n) fun e w' => e = .returned (.int .i64 (Dt.dys y m)) ∧ ∃ k, w' = (w.drewN n).drewN k :=
  (days_same y m _ (hL.drewN n)).mono fun _ _ ⟨a, b⟩ => ⟨a, 0, b.symm⟩
theorem cdays_s (y m : Int) (w : World) (hL : Laid w) (n : Nat) : Calls Tryd.prog 11 #[.int .i64 y, .int .i64 m] (w.drewN n) fun e w' => e = .returned (.int .i64 (Dt.dys y m)) ∧ w' = w.drewN n :=
  (days_same y m _ (hL.drewN n)).mono fun _ _ ⟨a, b⟩ => ⟨a, b.symm⟩
theorem newYear_q (y : Int) (h1 : 1899 ≤ y) (h2 : y ≤ 2200) (w : World) (n : Nat) : Calls Tryd.prog 22 #[.int .i64 y] (w.drewN n) fun e w' => e = .returned (.int .i64 (Dt.cy y)) ∧ w' = w.drewN n :=
  (newYear_any y h1 h2 _).mono fun _ _ ⟨a, b⟩ => ⟨a, b.symm⟩
end Go.Proofs.YthnhfilackghgaaDoor
