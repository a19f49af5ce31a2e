import Derived.Test.YtmfjnnjjoagbiaaDoorDd
namespace Go.Proofs.YtmfjnnjjoagbiaaDoor
open Go.RowKit Go.Lib Go.ChangeShapes Go.WideShapes Go.ChangeAt

theorem days_any (y m : Int) (w : World) : Calls Tryd.prog 21 #[.int .i64 y, .int .i64 m] w fun e w' => e = .returned (.int .i64 (Dt.dys y m)) ∧ w = w' := by
  by_cases h : y < 1900 ∨ 2199 < y ∨ m < 1 ∨ 12 < m
  · have e : Dt.dys y m = 0 := by unfold Dt.dys; exact if_pos h
    rw [e]
    go_enter Tryd.func21, Tryd.ntmps21
    go_wp2
    all_goals (first | (exfalso; omega) | (go_ret; exact ⟨by simp, rfl⟩))
  · have hy : Dt.InY y := by unfold Dt.InY; omega
    have hm : Dt.InM m := by unfold Dt.InM; omega
    rw [Dt.dys_in hy hm]
    have b1 : 1900 ≤ y := hy.1
    have b2 : y ≤ 2199 := hy.2
    have b3 : 1 ≤ m := hm.1
    have b4 : m ≤ 12 := hm.2
    have q1 : y.tmod 400 = y % 400 := Int.tmod_eq_emod_of_nonneg (by omega)
    have q2 : y.tmod 4 = y % 4 := Int.tmod_eq_emod_of_nonneg (by omega)
    have q3 : y.tmod 100 = y % 100 := Int.tmod_eq_emod_of_nonneg (by omega)
    have HF := Dt.fb_cases y
    unfold Dt.leap at HF
    generalize Dt.fb y = F at *
    have HF := Lib.hid HF
    have HN := Lib.hid h
    clear h hy hm
    go_enter Tryd.func21, Tryd.ntmps21
    go_wp2
    all_goals (first | (exfalso; have := HN.out; omega) | (go_ret; refine ⟨?_, rfl⟩; have := HF.out; clear HF HN; simp only [Ending.returned.injEq]; simp [*] at *; try omega))
theorem days_q (y m : Int) (w : World) (n : Nat) : Calls Tryd.prog 21 #[.int .i64 y, .int .i64 m] (w.drewN n) fun e w' => e = .returned (.int .i64 (Dt.dys y m)) ∧ w' = w.drewN n := (days_any y m _).mono fun _ _ ⟨a, b⟩ => ⟨a, b.symm⟩
theorem refmay_any (y m d : Int) (w : World) : Calls Tryd.prog 9 #[.agg #[.int .i64 y, .int .i64 m, .int .i64 d]] w fun e w' => e = .returned (.bool (decide (Dt.May y m d))) ∧ Below w.heap.size w w' := by
  by_cases h : 1 ≤ d
  · go_enter Tryd.func9, Tryd.ntmps9
    go_wp2_with fail
    go_quiet ((go_at_call 21; exact Calls.quiet_of_same (days_q y m _ _)))
    go_wp2_with fail
    go_ret
    exact ⟨by simp [Dt.May, h], ((Below.refl _ _).alloc (Nat.le_refl _) _).trans (below_drewN _ _ _)⟩
  · have h2 : decide (1 ≤ d) = false := by simpa using h
    go_enter Tryd.func9, Tryd.ntmps9
    go_wp2_with fail
    go_quiet (fail)
    go_wp2_with fail
    go_ret
    exact ⟨by simp; unfold Dt.May; omega, ((Below.refl _ _).alloc (Nat.le_refl _) _).trans (below_drewN _ _ _)⟩
theorem year_any (y : Int) (h : Dt.InY y) (w : World) : Calls Tryd.prog 22 #[.int .i64 y] w fun e w' => e = .returned (.int .i64 (337 + Dt.fb y)) ∧ w = w' := by
  have e : Dt.dys y 2 = Dt.fb y := by rw [Dt.dys_in h ⟨by decide, by decide⟩]; rfl
  have HF := Lib.hid (Dt.fb_cases y)
  have hb : 28 ≤ Dt.fb y ∧ Dt.fb y ≤ 29 := by have := HF.out; omega
  obtain ⟨h1, h2⟩ := hb
  clear HF h
  go_enter Tryd.func22, Tryd.ntmps22
  go_wp2_with fail
  refine (days_any y 2 _).mono ?_; rintro e w' ⟨rfl, rfl⟩
  rw [e]
  go_wp2_with fail
  go_ret
  exact ⟨by simp, rfl⟩
theorem number_any (y m d : Int) (h : Dt.May y m d) (w : World) : Calls Tryd.prog 10 #[.agg #[.int .i64 y, .int .i64 m, .int .i64 d]] w fun e w' => e = .returned (.int .i64 (Dt.nm y m d)) ∧ Below w.heap.size w w' := by
  have HM := Lib.hid h
  obtain ⟨hy, hm⟩ := Dt.may_in h
  have HY := Lib.hid hy
  have HMM := Lib.hid hm
  clear h hy hm
  have hd : 1 ≤ d ∧ d ≤ 31 := by have := HM.out; have := Dt.dys_nn y m; unfold Dt.May at *; omega
  obtain ⟨hd1, hd2⟩ := hd
  go_enter Tryd.func10, Tryd.ntmps10
  go_wp2_with fail
  go_loopw [3, 4] (fun x i wr => ∃ (I : Int) (q : Nat), 1 ≤ I ∧ I ≤ m ∧ x = .int .i64 (d - 1 + Dt.cm y I) ∧ i = .int .i64 I ∧ wr = (w.alloc (.cells #[.int .i64 y, .int .i64 m, .int .i64 d] 23)).drewN q) (fun _ i _ => (m - RowKit.intOf i).toNat)
  case atStart => exact ⟨1, 0, by omega, by have := HMM.out.1; omega, by rw [Dt.cm_one]; simp, rfl, rfl⟩
  case round =>
    obtain ⟨I, q, i0, i1, rfl, rfl, rfl⟩ := hrel
    by_cases hlt : I < m
    · have HS := Lib.hid (Dt.cm_step HY.out (m := I) ⟨i0, by have := HMM.out.2; omega⟩)
      have HB := Lib.hid (Dt.cm_bd HY.out (m := I) ⟨i0, by have := HMM.out.2; omega⟩)
      have HE := Lib.hid (Dt.fb_cases y)
      have HV := Lib.hid (Dt.dys_nn y I)
      have z1 : 0 ≤ Dt.cm y I ∧ Dt.cm y I ≤ 366 ∧ 0 ≤ Dt.dys y I ∧ Dt.dys y I ≤ 31 := by have := HB.out; have := HE.out; have := HV.out; omega
      obtain ⟨z1, z2, z3, z4⟩ := z1
      have m2 : m ≤ 12 := HMM.out.2
      go_wp2_with fail
      refine (days_any y I _).mono ?_; rintro e w' ⟨rfl, rfl⟩
      go_wp2_with fail
      go_roundw
      case rel => exact ⟨_, _, by omega, by omega, by rw [HS.out]; simp; omega, rfl, rfl⟩
      case measure => simp [RowKit.intOf]; omega
    · have hI : I = m := by omega
      subst hI
      have HB := Lib.hid (Dt.cm_bd HY.out HMM.out)
      have HE := Lib.hid (Dt.fb_cases y)
      have HV := Lib.hid (Dt.dys_nn y I)
      have z1 : 0 ≤ Dt.cm y I ∧ Dt.cm y I ≤ 366 := by have := HB.out; have := HE.out; have := HV.out; omega
      obtain ⟨z1, z2⟩ := z1
      have hy1 : 1900 ≤ y := HY.out.1
      have hy2 : y ≤ 2199 := HY.out.2
      go_wp2_with fail
      go_loopw [3, 5] (fun x i wr => ∃ (J : Int) (q : Nat), 1970 ≤ J ∧ (J = 1970 ∨ J ≤ y) ∧ x = .int .i64 (d - 1 + Dt.cm y I + Dt.cy J) ∧ i = .int .i64 J ∧ wr = (w.alloc (.cells #[.int .i64 y, .int .i64 I, .int .i64 d] 23)).drewN q) (fun _ i _ => (y - RowKit.intOf i).toNat)
      case atStart => exact ⟨1970, _, by omega, .inl rfl, by rw [Dt.cy_1970]; simp, rfl, rfl⟩
      case round =>
        obtain ⟨J, q, j0, j1, rfl, rfl, rfl⟩ := hrel
        have HJ := Lib.hid j1
        clear j1
        by_cases hlt : J < y
        · have HS := Lib.hid (Dt.cy_step J)
          have HC := Lib.hid (Dt.cy_bd (y := J) (by omega) (by omega))
          have HF := Lib.hid (Dt.fb_cases J)
          have z3 : -25567 ≤ Dt.cy J ∧ Dt.cy J ≤ 84006 ∧ 28 ≤ Dt.fb J ∧ Dt.fb J ≤ 29 := by have := HC.out; have := HF.out; omega
          obtain ⟨z3, z4, z5, z6⟩ := z3
          go_wp2_with fail
          refine (year_any J ⟨by omega, by omega⟩ _).mono ?_; rintro e w' ⟨rfl, rfl⟩
          go_wp2_with fail
          go_roundw
          case rel => exact ⟨_, _, by omega, .inr (by omega), by rw [HS.out]; simp; omega, rfl, rfl⟩
          case measure => simp [RowKit.intOf]; omega
        · have HC := Lib.hid (Dt.cy_bd (y := J) (by omega) (by have := HJ.out; omega))
          have HM2 := Lib.hid (show (y ≤ 1970 ∧ J = 1970) ∨ (1970 ≤ y ∧ J = y) by have := HJ.out; omega)
          have z3 := HC.out.1
          have z4 := HC.out.2
          generalize hC : Dt.cy J = C at *
          clear HC
          have HCC := Lib.hid hC
          clear hC
          go_wp2_with fail
          go_loopw [3, 6] (fun x i wr => ∃ (Z : Int) (q : Nat), y ≤ Z ∧ (Z = y ∨ Z ≤ 1970) ∧ x = .int .i64 (d - 1 + Dt.cm y I + C - Dt.cy Z + Dt.cy y) ∧ i = .int .i64 Z ∧ wr = (w.alloc (.cells #[.int .i64 y, .int .i64 I, .int .i64 d] 23)).drewN q) (fun _ i _ => (1970 - RowKit.intOf i).toNat)
          case atStart => exact ⟨y, _, by omega, .inl rfl, by simp, rfl, rfl⟩
          case round =>
            obtain ⟨Z, q, k0, k1, rfl, rfl, rfl⟩ := hrel
            have HZ := Lib.hid k1
            clear k1
            by_cases hlt2 : Z < 1970
            · have HS := Lib.hid (Dt.cy_step Z)
              have HC := Lib.hid (Dt.cy_bd (y := Z) (by omega) (by omega))
              have HC2 := Lib.hid (Dt.cy_bd (y := y) (by omega) (by omega))
              have HF := Lib.hid (Dt.fb_cases Z)
              have z5 : -25567 ≤ Dt.cy Z ∧ Dt.cy Z ≤ 84006 ∧ 28 ≤ Dt.fb Z ∧ Dt.fb Z ≤ 29 := by have := HC.out; have := HF.out; omega
              obtain ⟨z5, z6, z7, z8⟩ := z5
              have z9 := HC2.out.1
              have z10 := HC2.out.2
              go_wp2_with fail
              refine (year_any Z ⟨by omega, by omega⟩ _).mono ?_; rintro e w' ⟨rfl, rfl⟩
              go_wp2_with fail
              go_roundw
              case rel => exact ⟨_, _, by omega, .inr (by omega), by rw [HS.out]; simp; omega, rfl, rfl⟩
              case measure => simp [RowKit.intOf]; omega
            · go_wp2_with fail
              go_ret
              refine ⟨?_, ((Below.refl _ _).alloc (Nat.le_refl _) _).trans (below_drewN _ _ _)⟩
              have h1 : C = Dt.cy Z := by
                rw [← HCC.out]
                congr 1
                have := HZ.out; have := HM2.out; omega
              rw [h1]; unfold Dt.nm; simp; omega
end Go.Proofs.YtmfjnnjjoagbiaaDoor
