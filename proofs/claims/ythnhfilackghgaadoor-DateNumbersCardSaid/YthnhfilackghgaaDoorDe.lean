import Derived.Test.YthnhfilackghgaaDoorDc
namespace Go.Proofs.YthnhfilackghgaaDoor
open Go.RowKit Go.Lib Go.ChangeShapes Go.WideShapes Go.ChangeAt

theorem cof_no (n : Int) (h : n < -25567 ∨ 84005 < n) (hn : -9223372036854775808 ≤ n ∧ n ≤ 9223372036854775807) (w : World) (_ : Laid w) : Calls Tryd.prog 15 #[.int .i64 n] w fun e w' => e = .returned (.tuple #[dv 0 0 0, vErr 1]) ∧ Below w.heap.size w w' := by
  have H := Lib.hid h
  have HN := Lib.hid hn
  clear h hn
  have B := Lib.hid (DV.new (Below.refl w.heap.size w) 23 0 0 0)
  have hc1 : Dt.cy 1900 = -25567 := by decide
  have hc2 : Dt.cy 2200 = 84006 := by decide
  have HC1 := Lib.hid hc1
  have HC2 := Lib.hid hc2
  clear hc1 hc2
  rcases H.out with h | h
  · go_enter Tryd.func15, Tryd.ntmps15
    go_wp2_with fail
    refine (newYear_any 1900 (by decide) (by decide) _).mono ?_; rintro e w' ⟨rfl, rfl⟩
    rw [HC1.out]
    go_wp2_with fail
    exact bodyPost_ret (v := .tuple #[dv 0 0 0, vErr 1]) (by simp [results, Tryd.results15, go_sem]) rfl ⟨rfl, B.out.1⟩
  · have h0 : decide (n < -25567) = false := by simp; omega
    have h1 : decide (84006 ≤ n) = true := by simp; omega
    go_enter Tryd.func15, Tryd.ntmps15
    go_wp2_with fail
    refine (newYear_any 1900 (by decide) (by decide) _).mono ?_; rintro e w' ⟨rfl, rfl⟩
    rw [HC1.out]
    go_wp2_with fail
    refine (newYear_any 2200 (by decide) (by decide) _).mono ?_; rintro e w' ⟨rfl, rfl⟩
    rw [HC2.out]
    go_wp2_with fail
    exact bodyPost_ret (v := .tuple #[dv 0 0 0, vErr 1]) (by simp [results, Tryd.results15, go_sem]) rfl ⟨rfl, B.out.1⟩
theorem cof_yes (y m d : Int) (h : Dt.May y m d) (w : World) (hL : Laid w) : Calls Tryd.prog 15 #[.int .i64 (Dt.nm y m d)] w fun e w' => e = .returned (.tuple #[dv y m d, .nilIface]) ∧ Below w.heap.size w w' := by
  have HL := Lib.hid hL
  have HM := Lib.hid h
  have HI := Lib.hid (Dt.may_in h)
  have HNB := Lib.hid (Dt.nm_bd h)
  have HYR := Lib.hid (Dt.in_year h)
  have hy1 : 1900 ≤ y := HI.out.1.1
  have hy2 : y ≤ 2199 := HI.out.1.2
  have hm1 : 1 ≤ m := HI.out.2.1
  have hm2 : m ≤ 12 := HI.out.2.2
  have n1 := HNB.out.1
  have n2 := HNB.out.2
  have HC := Lib.hid (show Dt.nm y m d = Dt.cy y + Dt.cm y m + d - 1 from rfl)
  clear h hL
  generalize Dt.nm y m d = n at *
  have HYO := Lib.hid (fun (w : World) => yearOf_any n y HI.out.1 HYR.out.1 (by have := Dt.cy_step y; have := HYR.out; omega) w)
  have HNY := Lib.hid (fun (w : World) => newYear_any y (by omega) (by omega) w)
  have hcb := Dt.cy_bd hy1 (by omega : y ≤ 2200)
  have g1 := hcb.1
  have g2 := hcb.2
  clear hcb
  generalize Dt.cy y = C at *
  have R := Lib.hid (DV.new (Below.refl w.heap.size w) 23 0 0 0)
  have D := Lib.hid (DV.new R.out.1 23 y 1 0)
  have R2 := Lib.hid (R.out.alloc (.cells #[.int .i64 y, .int .i64 1, .int .i64 0] 23))
  have hc1 : Dt.cy 1900 = -25567 := by decide
  have hc2 : Dt.cy 2200 = 84006 := by decide
  have HC1 := Lib.hid hc1
  have HC2 := Lib.hid hc2
  clear hc1 hc2
  have h0 : decide (n < -25567) = false := by simp; omega
  have h1 : decide (84006 ≤ n) = false := by simp; omega
  go_enter Tryd.func15, Tryd.ntmps15
  go_wp2_with fail
  refine (newYear_any 1900 (by decide) (by decide) _).mono ?_; rintro e w' ⟨rfl, rfl⟩
  rw [HC1.out]
  go_wp2_with fail
  refine (newYear_any 2200 (by decide) (by decide) _).mono ?_; rintro e w' ⟨rfl, rfl⟩
  rw [HC2.out]
  go_wp2_with fail
  refine (HYO.out _).mono ?_; rintro e w' ⟨rfl, rfl⟩
  go_wp2_with fail
  refine (HNY.out _).mono ?_; rintro e w' ⟨rfl, rfl⟩
  go_wp2_with fail
  go_loopw [5] (fun x wr => ∃ (M : Int), 1 ≤ M ∧ M ≤ m ∧ x = .int .i64 (n - C - Dt.cm y M) ∧ Hid (DV w wr w.heap.size 0 0 0 ∧ DV w wr (w.heap.size + 1) y M 0)) (fun x _ => (RowKit.intOf x).toNat)
  case atStart => exact ⟨1, by omega, hm1, by rw [Dt.cm_one]; simp, ⟨R2.out, by simpa using D.out⟩⟩
  case round =>
    clear R D R2
    obtain ⟨M, j0, j1, rfl, HR⟩ := hrel
    have HMI := Lib.hid (show Dt.InM M from ⟨j0, by omega⟩)
    have hz : 0 ≤ Dt.cm y M ∧ Dt.cm y M ≤ 366 ∧ 28 ≤ Dt.dys y M ∧ Dt.dys y M ≤ 31 := by have := Dt.cm_bd HI.out.1 HMI.out; have := Dt.dys_bd HI.out.1 HMI.out; have := Dt.fb_cases y; omega
    obtain ⟨z6, z7, z8, z9⟩ := hz
    obtain ⟨-, -, -, ⟨c0, c1, c2⟩, f0, f1, f2⟩ := HR.out.2
    by_cases hlt2 : M < m
    · have z10 : Dt.dys y M ≤ n - C - Dt.cm y M := by have := Dt.cm_lt HI.out.1 HMI.out HI.out.2 hlt2; have := HC.out; have := HM.out.1; omega
      have HS := Lib.hid (Dt.cm_step HI.out.1 HMI.out)
      go_wp2_with fail
      refine (days_same y M _ (HL.out.below HR.out.1.1)).mono ?_; rintro e w' ⟨rfl, rfl⟩
      go_wp2_with fail
      refine (days_same y M _ (HL.out.below HR.out.1.1)).mono ?_; rintro e w' ⟨rfl, rfl⟩
      go_wp2_with fail
      go_roundw
      case rel => exact ⟨M + 1, by omega, by omega, by rw [HS.out]; simp; omega, ⟨HR.out.1.apart (by simp) (by simp) _ _, HR.out.2.set1 _⟩⟩
      case measure => simp [RowKit.intOf]; omega
    · have hM : M = m := by omega
      subst hM
      have z10 : decide (Dt.dys y M ≤ n - C - Dt.cm y M) = false := by have := HC.out; have := HM.out.2; simp; omega
      have hd := HC.out
      have hd2 : d = n - C - Dt.cm y M + 1 := by omega
      have z11 : 0 ≤ n - C - Dt.cm y M ∧ n - C - Dt.cm y M ≤ 31 := by have := HM.out.1; have := HM.out.2; omega
      obtain ⟨z11, z12⟩ := z11
      have HD2 := Lib.hid hd2
      clear hd hd2
      have HR2 := Lib.hid (And.intro (HR.out.1.apart (b' := w.heap.size + 1) (by simp) (by simp) 2 (.int .i64 (n - C - Dt.cm y M + 1))) (HR.out.2.set2 (n - C - Dt.cm y M + 1)))
      obtain ⟨-, -, -, ⟨r0, r1, r2⟩, k0, k1, k2⟩ := HR2.out.1
      go_wp2_with fail
      refine (days_same y M _ (HL.out.below HR.out.1.1)).mono ?_; rintro e w' ⟨rfl, rfl⟩
      go_wp2_with fail
      exact bodyPost_ret (v := .tuple #[dv y M (n - C - Dt.cm y M + 1), .nilIface]) (by simp [results, Tryd.results15, go_sem, r0, r1, r2]) rfl ⟨by rw [HD2.out], ((HR2.out.1.1.setCell (Nat.le_refl _) _).setCell (Nat.le_refl _) _).setCell (Nat.le_refl _) _⟩
theorem clast_no (y m d : Int) (h : ¬ Dt.May y m d) (w : World) (hL : Laid w) : Calls Tryd.prog 19 #[dv y m d] w fun e w' => e = .returned (.tuple #[dv 0 0 0, vErr 2]) ∧ Below w.heap.size w w' := by
  have HL := Lib.hid hL
  have HM := Lib.hid h
  clear hL h
  have D := Lib.hid (DV.new (Below.refl w.heap.size w) 23 y m d)
  have B := Lib.hid (show DV w _ (w.heap.size + 1) 0 0 0 by simpa using DV.new D.out.1 23 0 0 0)
  go_enter Tryd.func19, Tryd.ntmps19
  go_wp2_with fail
  refine (cmay y m d _ (HL.out.below B.out.1)).mono ?_; rintro e w1 ⟨rfl, hb⟩; rw [decide_eq_false HM.out]; have B := Lib.hid (B.out.below hb); clear hb
  obtain ⟨-, hs, -, ⟨c0, c1, c2⟩, f0, f1, f2⟩ := B.out
  go_wp2_with fail
  exact bodyPost_ret (v := .tuple #[dv 0 0 0, vErr 2]) (by simp [results, Tryd.results19, go_sem, c0, c1, c2]) rfl ⟨rfl, ((B.out.1.setCell hs _).setCell hs _).setCell hs _⟩
end Go.Proofs.YthnhfilackghgaaDoor
