import Derived.Test.YthnhfilackghgaaDoorDr
namespace Go.Proofs.YthnhfilackghgaaDoor
open Go.RowKit Go.Lib Go.ChangeShapes Go.WideShapes Go.ChangeAt

/-- a date as a value -/
abbrev dv (y m d : Int) : Value := .agg #[.int .i64 y, .int .i64 m, .int .i64 d]
/-- the slot of a struct of three numbers, new, in a world that came of it -/
theorem slot3 {w w2 : World} {t : TypeId} {a b c : Value} (hb : Below (w.alloc (.cells #[a, b, c] t)).heap.size (w.alloc (.cells #[a, b, c] t)) w2) :
    Below w.heap.size w w2 ∧ w2.cell? ⟨w.heap.size, 0, none⟩ = some a ∧ w2.cell? ⟨w.heap.size, 1, none⟩ = some b ∧ w2.cell? ⟨w.heap.size, 2, none⟩ = some c ∧ w2.frozen? ⟨w.heap.size, 0, none⟩ = false ∧ w2.frozen? ⟨w.heap.size, 1, none⟩ = false ∧ w2.frozen? ⟨w.heap.size, 2, none⟩ = false := by
  have hk (k : Nat) : (⟨w.heap.size, k, none⟩ : Addr).block < (w.alloc (.cells #[a, b, c] t)).heap.size := by simp
  refine ⟨((Below.refl _ _).alloc (Nat.le_refl _) _).trans (hb.mono (by simp)), ?_, ?_, ?_, ?_, ?_, ?_⟩
  · rw [hb.cell (hk 0)]; simp
  · rw [hb.cell (hk 1)]; simp
  · rw [hb.cell (hk 2)]; simp
  · rw [hb.frozen (hk 0)]; simp
  · rw [hb.frozen (hk 1)]; simp
  · rw [hb.frozen (hk 2)]; simp
theorem refof_no (n : Int) (h : n < -25567 ∨ 84005 < n) (hn : -9223372036854775808 ≤ n ∧ n ≤ 9223372036854775807) (w : World) : Calls Tryd.prog 16 #[.int .i64 n] w fun e w' => e = .returned (.tuple #[dv 0 0 0, .bool false]) ∧ Below w.heap.size w w' := by
  have H := Lib.hid h
  have HN := Lib.hid hn
  have HF := Lib.hid Dt.first_is
  have HL := Lib.hid Dt.last_is
  clear h hn
  go_enter Tryd.func16, Tryd.ntmps16
  go_wp2_with fail
  refine (number_any 1900 1 1 (by decide) _).mono ?_; rintro e w1 ⟨rfl, hb1⟩
  rw [HF.out]
  have HB1 := Lib.hid hb1
  clear hb1
  go_wp2_with fail
  refine (number_any 2199 12 31 (by decide) _).mono ?_; rintro e w2 ⟨rfl, hb2⟩
  rw [HL.out]
  have HB2 := Lib.hid (slot3 (HB1.out.trans (hb2.mono HB1.out.size))).1
  obtain ⟨-, c0, c1, c2, f0, f1, f2⟩ := slot3 (HB1.out.trans (hb2.mono HB1.out.size))
  clear hb2
  rcases H.out with h | h
  all_goals
    go_wp2_with fail
    exact bodyPost_ret (v := .tuple #[dv 0 0 0, .bool false]) (by simp [results, Tryd.results16, go_sem, c0, c1, c2]) rfl ⟨rfl, ((HB2.out.setCell (Nat.le_refl _) _).setCell (Nat.le_refl _) _).setCell (Nat.le_refl _) _⟩
theorem refof_yes (y m d : Int) (h : Dt.May y m d) (w : World) : Calls Tryd.prog 16 #[.int .i64 (Dt.nm y m d)] w fun e w' => e = .returned (.tuple #[dv y m d, .bool true]) ∧ Below w.heap.size w w' := by
  have HM := Lib.hid h
  have HIN := Lib.hid (Dt.may_in h)
  have HNB := Lib.hid (Dt.nm_bd h)
  have HYR := Lib.hid (Dt.in_year h)
  have HF := Lib.hid Dt.first_is
  have HL := Lib.hid Dt.last_is
  have n1 := HNB.out.1
  have n2 := HNB.out.2
  have HC := Lib.hid (show Dt.nm y m d = Dt.cy y + Dt.cm y m + d - 1 from rfl)
  clear h
  generalize hn : Dt.nm y m d = n at *
  clear hn
  have hy1 : 1900 ≤ y := HIN.out.1.1
  have hy2 : y ≤ 2199 := HIN.out.1.2
  go_enter Tryd.func16, Tryd.ntmps16
  go_wp2_with fail
  refine (number_any 1900 1 1 (by decide) _).mono ?_; rintro e w1 ⟨rfl, hb1⟩
  rw [HF.out]
  have HB1 := Lib.hid hb1
  clear hb1
  go_wp2_with fail
  refine (number_any 2199 12 31 (by decide) _).mono ?_; rintro e w2 ⟨rfl, hb2⟩
  rw [HL.out]
  have HB2 := Lib.hid (slot3 (HB1.out.trans (hb2.mono HB1.out.size))).1
  obtain ⟨-, c0, c1, c2, f0, f1, f2⟩ := slot3 (HB1.out.trans (hb2.mono HB1.out.size))
  clear hb2
  go_wp2_with fail
  go_loopw [0, 6] (fun x i wr => ∃ (Y : Int), 1900 ≤ Y ∧ Y ≤ y ∧ x = .int .i64 (n - Dt.cy Y) ∧ i = .int .i64 Y ∧ w2 = wr) (fun _ i _ => (y - RowKit.intOf i).toNat)
  case atStart => exact ⟨1900, by omega, hy1, by rw [show Dt.cy 1900 = -25567 by decide]; simp, rfl, rfl⟩
  case round =>
    obtain ⟨Y, i0, i1, rfl, rfl, rfl⟩ := hrel
    have z1 := (Dt.cy_bd i0 (by omega : Y ≤ 2200)).1
    have z2 := (Dt.cy_bd i0 (by omega : Y ≤ 2200)).2
    have z34 : 28 ≤ Dt.fb Y ∧ Dt.fb Y ≤ 29 := by have := Dt.fb_cases Y; omega
    obtain ⟨z3, z4⟩ := z34
    by_cases hlt : Y < y
    · have z5 : 337 + Dt.fb Y ≤ n - Dt.cy Y := by have := Dt.cy_lt hlt; have := HYR.out; omega
      have HS := Lib.hid (Dt.cy_step Y)
      go_wp2_with fail
      refine (year_any Y ⟨i0, by omega⟩ _).mono ?_; rintro e w' ⟨rfl, rfl⟩
      go_wp2_with fail
      refine (year_any Y ⟨i0, by omega⟩ _).mono ?_; rintro e w' ⟨rfl, rfl⟩
      go_wp2_with fail
      go_roundw
      case rel => exact ⟨_, by omega, by omega, by rw [HS.out]; simp; omega, rfl, trivial⟩
      case measure => simp [RowKit.intOf]; omega
    · have hY : Y = y := by omega
      subst hY
      have z5 : n - Dt.cy Y < 337 + Dt.fb Y := by have := HYR.out; omega
      have m1 : 1 ≤ m := HIN.out.2.1
      have m2 : m ≤ 12 := HIN.out.2.2
      go_wp2_with fail
      refine (year_any Y ⟨i0, by omega⟩ _).mono ?_; rintro e w' ⟨rfl, rfl⟩
      go_wp2_with fail
      go_loopw [0, 7] (fun x i wr => ∃ (M : Int), 1 ≤ M ∧ M ≤ m ∧ x = .int .i64 (n - Dt.cy Y - Dt.cm Y M) ∧ i = .int .i64 M ∧ w2 = wr) (fun _ i _ => (m - RowKit.intOf i).toNat)
      case atStart => exact ⟨1, by omega, m1, by rw [Dt.cm_one]; simp, rfl, rfl⟩
      case round =>
        obtain ⟨M, j0, j1, rfl, rfl, rfl⟩ := hrel
        have HMI := Lib.hid (show Dt.InM M from ⟨j0, by omega⟩)
        have hz : 0 ≤ Dt.cm Y M ∧ Dt.cm Y M ≤ 366 ∧ 0 ≤ Dt.dys Y M ∧ Dt.dys Y M ≤ 31 := by have := Dt.cm_bd HIN.out.1 HMI.out; have := Dt.dys_nn Y M; omega
        obtain ⟨z6, z7, z8, z9⟩ := hz
        by_cases hlt2 : M < m
        · have z10 : Dt.dys Y M ≤ n - Dt.cy Y - Dt.cm Y M := by have := Dt.cm_lt HIN.out.1 HMI.out HIN.out.2 hlt2; have := HC.out; have := HM.out.1; omega
          have HS := Lib.hid (Dt.cm_step HIN.out.1 HMI.out)
          go_wp2_with fail
          refine (days_any Y M _).mono ?_; rintro e w' ⟨rfl, rfl⟩
          go_wp2_with fail
          refine (days_any Y M _).mono ?_; rintro e w' ⟨rfl, rfl⟩
          go_wp2_with fail
          go_roundw
          case rel => exact ⟨_, by omega, by omega, by rw [HS.out]; simp; omega, rfl, trivial⟩
          case measure => simp [RowKit.intOf]; omega
        · have hM : M = m := by omega
          subst hM
          have z10 : n - Dt.cy Y - Dt.cm Y M < Dt.dys Y M := by have := HC.out; have := HM.out.2; omega
          have hd := HC.out
          have hd2 : d = n - Dt.cy Y - Dt.cm Y M + 1 := by omega
          clear hd
          go_wp2_with fail
          refine (days_any Y M _).mono ?_; rintro e w' ⟨rfl, rfl⟩
          go_wp2_with fail
          exact bodyPost_ret (v := .tuple #[dv Y M d, .bool true]) (by simp [results, Tryd.results16, go_sem, c0, c1, c2, hd2]) rfl ⟨rfl, ((HB2.out.setCell (Nat.le_refl _) _).setCell (Nat.le_refl _) _).setCell (Nat.le_refl _) _⟩
end Go.Proofs.YthnhfilackghgaaDoor
