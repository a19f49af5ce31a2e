import Derived.Test.YthnhfilackghgaaDoorDo
namespace Go.Proofs.YthnhfilackghgaaDoor
open Go.RowKit Go.Lib Go.ChangeShapes Go.WideShapes Go.ChangeAt

/-- the day so many months behind, as a value -/
def mvv (y m d n : Int) : Value := if Dt.mok y m n then dv (Dt.my y m n) (Dt.mm y m n) (Dt.md y m d n) else dv 0 0 0
/-- the date that moves, and the slot of the answer -/
def M3 (w wr : World) (Y M D : Int) : Prop :=
  Below w.heap.size w wr ∧
  (wr.cell? ⟨w.heap.size, 0, none⟩ = some (.int .i64 Y) ∧ wr.cell? ⟨w.heap.size, 1, none⟩ = some (.int .i64 M) ∧ wr.cell? ⟨w.heap.size, 2, none⟩ = some (.int .i64 D)) ∧
  (wr.frozen? ⟨w.heap.size, 0, none⟩ = false ∧ wr.frozen? ⟨w.heap.size, 1, none⟩ = false ∧ wr.frozen? ⟨w.heap.size, 2, none⟩ = false) ∧
  (wr.cell? ⟨w.heap.size + 1, 0, none⟩ = some (.int .i64 0) ∧ wr.cell? ⟨w.heap.size + 1, 1, none⟩ = some (.int .i64 0) ∧ wr.cell? ⟨w.heap.size + 1, 2, none⟩ = some (.int .i64 0)) ∧
  (wr.frozen? ⟨w.heap.size + 1, 0, none⟩ = false ∧ wr.frozen? ⟨w.heap.size + 1, 1, none⟩ = false ∧ wr.frozen? ⟨w.heap.size + 1, 2, none⟩ = false)
theorem M3.new (w : World) (t : TypeId) (Y M D : Int) : M3 w ((w.alloc (.cells #[.int .i64 Y, .int .i64 M, .int .i64 D] t)).alloc (.cells #[.int .i64 0, .int .i64 0, .int .i64 0] t)) Y M D := by
  refine ⟨((Below.refl _ _).alloc (Nat.le_refl _) _).alloc (by simp) _, ⟨?_, ?_, ?_⟩, ⟨?_, ?_, ?_⟩, ⟨?_, ?_, ?_⟩, ?_, ?_, ?_⟩
  all_goals simp
theorem M3.s0 {w wr : World} {Y M D : Int} (h : M3 w wr Y M D) (X : Int) : M3 w (wr.setCell ⟨w.heap.size, 0, none⟩ (.int .i64 X)) X M D := by
  obtain ⟨hb, ⟨c0, c1, c2⟩, ⟨f0, f1, f2⟩, ⟨r0, r1, r2⟩, g0, g1, g2⟩ := h
  refine ⟨hb.setCell (Nat.le_refl _) _, ⟨?_, ?_, ?_⟩, ⟨?_, ?_, ?_⟩, ⟨?_, ?_, ?_⟩, ?_, ?_, ?_⟩
  all_goals first | exact World.cell?_setCell_same _ _ _ c0 | exact (World.cell?_setCell_other _ _ _ _ (by simp)).trans (by assumption) | (rw [World.frozen?_setCell]; assumption)
theorem M3.s1 {w wr : World} {Y M D : Int} (h : M3 w wr Y M D) (X : Int) : M3 w (wr.setCell ⟨w.heap.size, 1, none⟩ (.int .i64 X)) Y X D := by
  obtain ⟨hb, ⟨c0, c1, c2⟩, ⟨f0, f1, f2⟩, ⟨r0, r1, r2⟩, g0, g1, g2⟩ := h
  refine ⟨hb.setCell (Nat.le_refl _) _, ⟨?_, ?_, ?_⟩, ⟨?_, ?_, ?_⟩, ⟨?_, ?_, ?_⟩, ?_, ?_, ?_⟩
  all_goals first | exact World.cell?_setCell_same _ _ _ c1 | exact (World.cell?_setCell_other _ _ _ _ (by simp)).trans (by assumption) | (rw [World.frozen?_setCell]; assumption)
theorem M3.s2 {w wr : World} {Y M D : Int} (h : M3 w wr Y M D) (X : Int) : M3 w (wr.setCell ⟨w.heap.size, 2, none⟩ (.int .i64 X)) Y M X := by
  obtain ⟨hb, ⟨c0, c1, c2⟩, ⟨f0, f1, f2⟩, ⟨r0, r1, r2⟩, g0, g1, g2⟩ := h
  refine ⟨hb.setCell (Nat.le_refl _) _, ⟨?_, ?_, ?_⟩, ⟨?_, ?_, ?_⟩, ⟨?_, ?_, ?_⟩, ?_, ?_, ?_⟩
  all_goals first | exact World.cell?_setCell_same _ _ _ c2 | exact (World.cell?_setCell_other _ _ _ _ (by simp)).trans (by assumption) | (rw [World.frozen?_setCell]; assumption)
theorem M3.r {w wr : World} {Y M D : Int} (h : M3 w wr Y M D) (a b c : Value) : Below w.heap.size w (((wr.setCell ⟨w.heap.size + 1, 0, none⟩ a).setCell ⟨w.heap.size + 1, 1, none⟩ b).setCell ⟨w.heap.size + 1, 2, none⟩ c) :=
  ((h.1.setCell (Nat.le_succ _) _).setCell (Nat.le_succ _) _).setCell (Nat.le_succ _) _

theorem refmonths_far (y m d n : Int) (h : n < -3600 ∨ 3600 < n) (w : World) : Calls Tryd.prog 20 #[dv y m d, .int .i64 n] w fun e w' => e = .returned (.tuple #[dv 0 0 0, .bool false]) ∧ Below w.heap.size w w' := by
  have H := Lib.hid h
  clear h
  rcases H.out with h | h
  · go_enter Tryd.func20, Tryd.ntmps20
    go_wp2_with fail
    exact bodyPost_ret (v := .tuple #[dv 0 0 0, .bool false]) (by simp [results, Tryd.results20, go_sem]) rfl ⟨rfl, ((Below.refl _ _).alloc (Nat.le_refl _) _).alloc (by simp) _⟩
  · have h0 : decide (n < -3600) = false := by simp; omega
    go_enter Tryd.func20, Tryd.ntmps20
    go_wp2_with fail
    exact bodyPost_ret (v := .tuple #[dv 0 0 0, .bool false]) (by simp [results, Tryd.results20, go_sem]) rfl ⟨rfl, ((Below.refl _ _).alloc (Nat.le_refl _) _).alloc (by simp) _⟩

theorem refmonths_near (y m d n : Int) (h : Dt.May y m d) (h1 : -3600 ≤ n) (h2 : n ≤ 3600) (w : World) : Calls Tryd.prog 20 #[dv y m d, .int .i64 n] w fun e w' => e = .returned (.tuple #[mvv y m d n, .bool (decide (Dt.mok y m n))]) ∧ Below w.heap.size w w' := by
  have HM := Lib.hid h
  have HIN := Lib.hid (Dt.may_in h)
  clear h
  have hn1 : decide (n < -3600) = false := by simp; omega
  have hn2 : decide (3600 < n) = false := by simp; omega
  go_enter Tryd.func20, Tryd.ntmps20
  go_wp2_with fail
  have H0 := Lib.hid (M3.new w 23 y m d)
  generalize ((w.alloc (.cells #[.int .i64 y, .int .i64 m, .int .i64 d] 23)).alloc (.cells #[.int .i64 0, .int .i64 0, .int .i64 0] 23)) = w0 at *
  go_loopw [1] (fun x wr => ∃ (i Y M : Int), 0 ≤ i ∧ (i = 0 ∨ i ≤ n) ∧ x = .int .i64 (n - i) ∧ Hid (M3 w wr Y M d ∧ 12 * Y + M = 12 * y + m + i ∧ Dt.InM M)) (fun x _ => (RowKit.intOf x).toNat)
  case atStart => exact ⟨0, y, m, by omega, .inl rfl, by simp, ⟨H0.out, by omega, HIN.out.2⟩⟩
  case round =>
    obtain ⟨i, Y, M, i0, i1, rfl, HR⟩ := hrel
    have hY : 1599 ≤ Y ∧ Y ≤ 2500 ∧ 1 ≤ M ∧ M ≤ 12 := by
      have := HR.out.2
      have := Dt.my_bd this.2 HIN.out.2 HIN.out.1 (n := i) (by omega) (by omega) this.1
      have := HR.out.2.2
      unfold Dt.InM at this
      omega
    obtain ⟨y1, y2, m1, m2⟩ := hY
    have HI := Lib.hid i1
    obtain ⟨-, ⟨c0, c1, c2⟩, ⟨f0, f1, f2⟩, ⟨r0, r1, r2⟩, g0, g1, g2⟩ := HR.out.1
    clear i1
    by_cases hlt : 0 < n - i
    · by_cases h12 : M < 12
      · go_wp2_with fail
        go_roundw
        case rel => exact ⟨i + 1, Y, M + 1, by omega, .inr (by omega), by simp; omega, ⟨by simpa using HR.out.1.s1 (M + 1), by have := HR.out.2.1; omega, by omega, by omega⟩⟩
        case measure => simp [RowKit.intOf]; omega
      · have hM : M = 12 := by omega
        subst hM
        go_wp2_with fail
        go_roundw
        case rel => exact ⟨i + 1, Y + 1, 1, by omega, .inr (by omega), by simp; omega, ⟨((HR.out.1.s1 13).s1 1).s0 (Y + 1), by have := HR.out.2.1; omega, by decide, by decide⟩⟩
        case measure => simp [RowKit.intOf]; omega
    · have HI2 := Lib.hid (show n ≤ i ∧ -3600 ≤ i ∧ i ≤ 3600 by have := HI.out; omega)
      go_wp2_with fail
      clear c0 c1 c2 f0 f1 f2 r0 r1 r2 g0 g1 g2
      go_loopw [1] (fun x wq => ∃ (j Y M : Int), n ≤ j ∧ j ≤ 3600 ∧ x = .int .i64 (n - j) ∧ Hid (M3 w wq Y M d ∧ 12 * Y + M = 12 * y + m + j ∧ Dt.InM M)) (fun x _ => (- RowKit.intOf x).toNat)
      case atStart => exact ⟨i, Y, M, HI2.out.1, HI2.out.2.2, rfl, HR⟩
      case round =>
        clear HR m1 m2 y1 y2
        obtain ⟨j, Y, M, j0, j1, rfl, HR⟩ := hrel
        have hY : 1599 ≤ Y ∧ Y ≤ 2500 ∧ 1 ≤ M ∧ M ≤ 12 := by
          have := HR.out.2
          have := Dt.my_bd this.2 HIN.out.2 HIN.out.1 (n := j) (by omega) (by omega) this.1
          have := HR.out.2.2
          unfold Dt.InM at this
          omega
        obtain ⟨y1, y2, m1, m2⟩ := hY
        obtain ⟨-, ⟨c0, c1, c2⟩, ⟨f0, f1, f2⟩, ⟨r0, r1, r2⟩, g0, g1, g2⟩ := HR.out.1
        by_cases hlt : n - j < 0
        · by_cases h12 : 1 < M
          · go_wp2_with fail
            go_roundw
            case rel => exact ⟨j - 1, Y, M - 1, by omega, by omega, by simp; omega, ⟨by simpa using HR.out.1.s1 (M - 1), by have := HR.out.2.1; omega, by omega, by omega⟩⟩
            case measure => simp [RowKit.intOf]; omega
          · have hM : M = 1 := by omega
            subst hM
            go_wp2_with fail
            go_roundw
            case rel => exact ⟨j - 1, Y - 1, 12, by omega, by omega, by simp; omega, ⟨((HR.out.1.s1 0).s1 12).s0 (Y - 1), by have := HR.out.2.1; omega, by decide, by decide⟩⟩
            case measure => simp [RowKit.intOf]; omega
        · have hj : j = n := by omega
          subst hj
          have HU := Lib.hid (Dt.my_unique HR.out.2.2 HR.out.2.1)
          have HD := Lib.hid (Dt.dys_nn Y M)
          have e1 := HU.out.1
          have e2 := HU.out.2
          have d1 : 1 ≤ d := HM.out.1
          have d2 : d ≤ 31 := by have := HM.out.2; have := Dt.dys_nn y m; omega
          by_cases hz : Dt.dys Y M = 0
          · have HK := Lib.hid (show ¬ Dt.mok y m j by unfold Dt.mok; rw [e1, e2]; omega)
            clear e1 e2
            go_wp2_with fail
            refine (days_any Y M _).mono ?_; rintro e w' ⟨rfl, rfl⟩
            rw [hz]
            go_wp2_with fail
            exact bodyPost_ret (v := .tuple #[dv 0 0 0, .bool false]) (by simp [results, Tryd.results20, go_sem, r0, r1, r2]) rfl ⟨by rw [mvv, if_neg HK.out, decide_eq_false HK.out], HR.out.1.r _ _ _⟩
          · have HK := Lib.hid (show Dt.mok y m j by unfold Dt.mok; rw [e1, e2]; have := HD.out; omega)
            have HV := Lib.hid (show mvv y m d j = dv Y M (if d > Dt.dys Y M then Dt.dys Y M else d) by rw [mvv, if_pos HK.out, Dt.md, e1, e2])
            clear e1 e2
            have z1 := HD.out.1
            have z2 := HD.out.2
            have z3 : decide (Dt.dys Y M = 0) = false := decide_eq_false hz
            by_cases hg : Dt.dys Y M < d
            · have HS := Lib.hid (HR.out.1.s2 (Dt.dys Y M))
              go_wp2_with fail
              refine (days_any Y M _).mono ?_; rintro e w' ⟨rfl, rfl⟩
              go_wp2_with fail
              exact bodyPost_ret (v := .tuple #[dv Y M (Dt.dys Y M), .bool true]) (by simp [results, Tryd.results20, go_sem, r0, r1, r2]) rfl ⟨by rw [HV.out, if_pos hg, decide_eq_true HK.out], HS.out.r _ _ _⟩
            · go_wp2_with fail
              refine (days_any Y M _).mono ?_; rintro e w' ⟨rfl, rfl⟩
              go_wp2_with fail
              exact bodyPost_ret (v := .tuple #[dv Y M d, .bool true]) (by simp [results, Tryd.results20, go_sem, r0, r1, r2]) rfl ⟨by rw [HV.out, if_neg (by omega), decide_eq_true HK.out], HR.out.1.r _ _ _⟩
/-- the day so many months behind, of any number of months -/
theorem refmonths_any (y m d n : Int) (h : Dt.May y m d) (w : World) : Calls Tryd.prog 20 #[dv y m d, .int .i64 n] w fun e w' => e = .returned (.tuple #[mvv y m d n, .bool (decide (Dt.mok y m n))]) ∧ Below w.heap.size w w' := by
  by_cases hn : n < -3600 ∨ 3600 < n
  · have hk : ¬ Dt.mok y m n := by unfold Dt.mok; omega
    rw [mvv, if_neg hk, decide_eq_false hk]
    exact refmonths_far y m d n hn w
  · exact refmonths_near y m d n h (by omega) (by omega) w
end Go.Proofs.YthnhfilackghgaaDoor
