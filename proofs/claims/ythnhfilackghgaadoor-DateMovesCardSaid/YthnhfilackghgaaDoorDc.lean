import Derived.Test.YthnhfilackghgaaDoorDa
namespace Go.Proofs.YthnhfilackghgaaDoor.Dt
theorem year_of {n y : Int} (h : InY y) (h1 : cy y ≤ n) (h2 : n < cy (y + 1)) : 0 ≤ (n + 25567) / 366 ∧ (y = 1900 + (n + 25567) / 366 ∨ y = 1900 + (n + 25567) / 366 + 1) := by
  have l1 : 460 ≤ (y - 1) / 4 - (y - 1) / 100 + (y - 1) / 400 := by unfold InY at h; omega
  have l2 : (y + 1 - 1) / 4 - (y + 1 - 1) / 100 + (y + 1 - 1) / 400 ≤ 460 + (y - 1899) := by unfold InY at h; omega
  have a1 : 365 * (y - 1970) + 460 - 477 ≤ n := by unfold cy at h1; omega
  have a2 : n < 365 * (y + 1 - 1970) + 460 + (y - 1899) - 477 := by unfold cy at h2; omega
  clear l1 l2 h1 h2
  unfold InY at h
  omega
/-- there is such a day: by the months from January 1900 -/
theorem mok_at {y m n : Int} (hy : InY y) (hm : InM m) : mok y m n ↔ -(12 * (y - 1900) + m - 1) ≤ n ∧ n < 3600 - (12 * (y - 1900) + m - 1) := by
  have hn := dys_nn (my y m n) (mm y m n)
  have hi := mm_in y m n
  have e : 12 * my y m n + mm y m n = 12 * y + m + n := my_mm y m n
  constructor
  · rintro ⟨_, _, h3⟩
    have hY : InY (my y m n) := by
      by_cases c : my y m n < 1900 ∨ 2199 < my y m n ∨ mm y m n < 1 ∨ 12 < mm y m n
      · unfold dys at h3; rw [if_pos c] at h3; omega
      · unfold InY; omega
    unfold InY InM at *; omega
  · intro h
    have hY : InY (my y m n) := by unfold InY InM at *; omega
    have := dys_bd hY hi
    refine ⟨?_, ?_, by omega⟩ <;> (unfold InY InM at *; omega)
/-- the month so many months behind, as it is reckoned from January 1900 -/
theorem at_div {y m n : Int} (h : 0 ≤ 12 * (y - 1900) + m - 1 + n) : (12 * (y - 1900) + m - 1 + n).tdiv 12 = my y m n - 1900 ∧ (12 * (y - 1900) + m - 1 + n).tmod 12 = mm y m n - 1 := by
  rw [Int.tdiv_eq_ediv_of_nonneg h, Int.tmod_eq_emod_of_nonneg h]; unfold my mm; omega
end Go.Proofs.YthnhfilackghgaaDoor.Dt
namespace Go.Proofs.YthnhfilackghgaaDoor
open Go.RowKit Go.Lib Go.ChangeShapes Go.WideShapes Go.ChangeAt
abbrev vErr (k : Int) : Value := .iface 31 (.int .i64 k)
/-- Months' error -/
def mev (y m n : Int) : Value := if Dt.mok y m n then .nilIface else vErr 1

theorem cmay (y m d : Int) (w : World) (hL : Laid w) : Calls Tryd.prog 9 #[dv y m d] w fun e w' => e = .returned (.bool (decide (Dt.May y m d))) ∧ Below w.heap.size w w' := by
  have HL := Lib.hid (hL.below ((Below.refl _ _).alloc (Nat.le_refl _) (.cells #[.int .i64 y, .int .i64 m, .int .i64 d] 23)))
  clear hL
  by_cases h : 1 ≤ d
  · go_enter Tryd.func9, Tryd.ntmps9
    go_wp2_with fail
    go_quiet ((go_at_call 11; exact Calls.quiet_of_same (cdays_s y m _ HL.out _)))
    go_wp2_with fail
    go_ret
    exact ⟨by simp [Dt.May, h], ((Below.refl _ _).alloc (Nat.le_refl _) _).trans (below_drewN _ _ _)⟩
  · have h2 : decide (1 ≤ d) = false := by simpa using h
    go_enter Tryd.func9, Tryd.ntmps9
    go_wp2_with fail
    go_quiet (fail)
    go_wp2_with fail
    go_ret
    exact ⟨by simp; unfold Dt.May; omega, ((Below.refl _ _).alloc (Nat.le_refl _) _).trans (below_drewN _ _ _)⟩
theorem yearOf_any (n y : Int) (h : Dt.InY y) (h1 : Dt.cy y ≤ n) (h2 : n < Dt.cy (y + 1)) (w : World) : Calls Tryd.prog 24 #[.int .i64 n] w fun e w' => e = .returned (.int .i64 y) ∧ w = w' := by
  have HY := Lib.hid h
  have HQ := Lib.hid (Dt.year_of h h1 h2)
  have H1 := Lib.hid h1
  have H2 := Lib.hid h2
  have hb : -25567 ≤ n ∧ n ≤ 84005 := by unfold Dt.cy Dt.InY at *; omega
  obtain ⟨b1, b2⟩ := hb
  have q : (n + 25567).tdiv 366 = (n + 25567) / 366 := by rw [Int.tdiv_eq_ediv_of_nonneg (by omega)]
  obtain ⟨K, hK⟩ : ∃ K, (n + 25567) / 366 = K := ⟨_, rfl⟩
  rw [hK] at q HQ
  have k0 : 0 ≤ K := HQ.out.1
  have k1 : K ≤ 300 := by omega
  clear h h1 h2
  rcases HQ.out.2 with e | e
  · subst e
    have h3 : decide (Dt.cy (1900 + K + 1) ≤ n) = false := by simpa using H2.out
    have hk : K ≤ 299 := by have := HY.out.2; omega
    clear HQ
    have HN := Lib.hid (fun (w : World) => newYear_any (1900 + K + 1) (by omega) (by omega) w)
    generalize Dt.cy (1900 + K + 1) = C at *
    go_enter Tryd.func24, Tryd.ntmps24
    go_wp2_with fail
    refine (newYear_any 1900 (by decide) (by decide) _).mono ?_; rintro e w' ⟨rfl, rfl⟩
    rw [show Dt.cy 1900 = -25567 by decide]
    go_wp2_with fail
    refine (HN.out _).mono ?_; rintro e w' ⟨rfl, rfl⟩
    go_wp2_with fail
    go_ret
    exact ⟨by simp, rfl⟩
  · subst e
    have h3 : decide (Dt.cy (1900 + K + 1) ≤ n) = true := by simpa using H1.out
    have hk : K ≤ 298 := by have := HY.out.2; omega
    clear HQ
    have HN := Lib.hid (fun (w : World) => newYear_any (1900 + K + 1) (by omega) (by omega) w)
    generalize Dt.cy (1900 + K + 1) = C at *
    go_enter Tryd.func24, Tryd.ntmps24
    go_wp2_with fail
    refine (newYear_any 1900 (by decide) (by decide) _).mono ?_; rintro e w' ⟨rfl, rfl⟩
    rw [show Dt.cy 1900 = -25567 by decide]
    go_wp2_with fail
    refine (HN.out _).mono ?_; rintro e w' ⟨rfl, rfl⟩
    go_wp2_with fail
    go_ret
    exact ⟨by simp, rfl⟩
theorem cnum_no (y m d : Int) (h : ¬ Dt.May y m d) (w : World) (hL : Laid w) : Calls Tryd.prog 13 #[dv y m d] w fun e w' => e = .returned (.tuple #[.int .i64 0, vErr 2]) ∧ Below w.heap.size w w' := by
  have HL := Lib.hid hL
  have HM := Lib.hid h
  clear hL h
  have B := Lib.hid (DV.new (Below.refl w.heap.size w) 23 y m d)
  go_enter Tryd.func13, Tryd.ntmps13
  go_wp2_with fail
  refine (cmay y m d _ (HL.out.below B.out.1)).mono ?_; rintro e w1 ⟨rfl, hb⟩; rw [decide_eq_false HM.out]; have B := Lib.hid (B.out.below hb); clear hb
  go_wp2_with fail
  exact bodyPost_ret (v := .tuple #[.int .i64 0, vErr 2]) (by simp [results, Tryd.results13, go_sem]) rfl ⟨rfl, B.out.1⟩
theorem cnum_yes (y m d : Int) (h : Dt.May y m d) (w : World) (hL : Laid w) : Calls Tryd.prog 13 #[dv y m d] w fun e w' => e = .returned (.tuple #[.int .i64 (Dt.nm y m d), .nilIface]) ∧ Below w.heap.size w w' := by
  have HL := Lib.hid hL
  have HM := Lib.hid h
  have HI := Lib.hid (Dt.may_in h)
  clear hL h
  have hd : 1 ≤ d ∧ d ≤ 31 := by have := HM.out; have := Dt.dys_nn y m; unfold Dt.May at *; omega
  obtain ⟨hd1, hd2⟩ := hd
  have hy1 : 1900 ≤ y := HI.out.1.1
  have hy2 : y ≤ 2199 := HI.out.1.2
  have hm1 : 1 ≤ m := HI.out.2.1
  have hm2 : m ≤ 12 := HI.out.2.2
  have HC := Lib.hid (Dt.cy_bd hy1 (by omega : y ≤ 2200))
  have g1 := HC.out.1
  have g2 := HC.out.2
  have B := Lib.hid (DV.new (Below.refl w.heap.size w) 23 y m d)
  have HN := Lib.hid (show Dt.nm y m d = Dt.cy y + Dt.cm y m + d - 1 from rfl)
  have HY := Lib.hid (fun (w : World) (n : Nat) => newYear_q y (by omega) (by omega) w n)
  generalize Dt.nm y m d = N at *
  generalize Dt.cy y = C at *
  go_enter Tryd.func13, Tryd.ntmps13
  go_wp2_with fail
  refine (cmay y m d _ (HL.out.below B.out.1)).mono ?_; rintro e w1 ⟨rfl, hb⟩; rw [decide_eq_true HM.out]; have B := Lib.hid (B.out.below hb); clear hb
  obtain ⟨-, -, -, ⟨c0, c1, c2⟩, -⟩ := B.out
  go_wp2_with fail
  go_quiet ((go_at_call 22; exact Calls.quiet_of_same (HY.out _ _)))
  have B := Lib.hid (B.out.below (below_drewN _ _ nq))
  clear c0 c1 c2
  obtain ⟨-, -, -, ⟨c0, c1, c2⟩, -⟩ := B.out
  generalize w1.drewN nq = w2 at *
  go_wp2_with fail
  go_loopw [4, 5] (fun x i wr => ∃ (I : Int), 1 ≤ I ∧ I ≤ m ∧ x = .int .i64 (C + d - 1 + Dt.cm y I) ∧ i = .int .i64 I ∧ w2 = wr) (fun _ i _ => (m - RowKit.intOf i).toNat)
  case atStart => exact ⟨1, by omega, hm1, by rw [Dt.cm_one]; simp, rfl, rfl⟩
  case round =>
    obtain ⟨I, i0, i1, rfl, rfl, rfl⟩ := hrel
    have HMI := Lib.hid (show Dt.InM I from ⟨i0, by omega⟩)
    have hz : 0 ≤ Dt.cm y I ∧ Dt.cm y I ≤ 366 ∧ 0 ≤ Dt.dys y I ∧ Dt.dys y I ≤ 31 := by have := Dt.cm_bd HI.out.1 HMI.out; have := Dt.dys_nn y I; have := Dt.fb_cases y; omega
    obtain ⟨z1, z2, z3, z4⟩ := hz
    by_cases hlt : I < m
    · have HS := Lib.hid (Dt.cm_step HI.out.1 HMI.out)
      go_wp2_with fail
      refine (days_same y I _ (HL.out.below B.out.1)).mono ?_; rintro e w' ⟨rfl, rfl⟩
      go_wp2_with fail
      go_roundw
      case rel => exact ⟨_, by omega, by omega, by rw [HS.out]; simp; omega, rfl, trivial⟩
      case measure => simp [RowKit.intOf]; omega
    · have hI : I = m := by omega
      subst hI
      go_wp2_with fail
      exact bodyPost_ret (v := .tuple #[.int .i64 (C + d - 1 + Dt.cm y I), .nilIface]) (by simp [results, Tryd.results13, go_sem]) rfl ⟨by rw [HN.out]; simp; omega, B.out.1⟩
theorem cwd_no (y m d : Int) (h : ¬ Dt.May y m d) (w : World) (hL : Laid w) : Calls Tryd.prog 18 #[dv y m d] w fun e w' => e = .returned (.tuple #[.int .i64 0, vErr 2]) ∧ Below w.heap.size w w' := by
  have HL := Lib.hid hL
  have HM := Lib.hid h
  clear hL h
  have B := Lib.hid (DV.new (Below.refl w.heap.size w) 23 y m d)
  go_enter Tryd.func18, Tryd.ntmps18
  go_wp2_with fail
  refine (cnum_no y m d HM.out _ (HL.out.below B.out.1)).mono ?_; rintro e w1 ⟨rfl, hb⟩; have B := Lib.hid (B.out.below hb); clear hb
  go_wp2_with fail
  exact bodyPost_ret (v := .tuple #[.int .i64 0, vErr 2]) (by simp [results, Tryd.results18, go_sem]) rfl ⟨rfl, B.out.1⟩
theorem cwd_yes (y m d : Int) (h : Dt.May y m d) (w : World) (hL : Laid w) : Calls Tryd.prog 18 #[dv y m d] w fun e w' => e = .returned (.tuple #[.int .i64 ((Dt.nm y m d + 4) % 7), .nilIface]) ∧ Below w.heap.size w w' := by
  have HL := Lib.hid hL
  have HM := Lib.hid h
  have HB := Lib.hid (Dt.nm_bd h)
  clear hL h
  have B := Lib.hid (DV.new (Below.refl w.heap.size w) 23 y m d)
  have HNM := Lib.hid (fun (w : World) (hL : Laid w) => cnum_yes y m d HM.out w hL)
  generalize Dt.nm y m d = N at *
  have b1 := HB.out.1
  have b2 := HB.out.2
  have q : (N - -25932).tmod 7 = (N + 4) % 7 := by rw [Int.tmod_eq_emod_of_nonneg (by omega)]; omega
  go_enter Tryd.func18, Tryd.ntmps18
  go_wp2_with fail
  refine (HNM.out _ (HL.out.below B.out.1)).mono ?_; rintro e w1 ⟨rfl, hb⟩; have B := Lib.hid (B.out.below hb); clear hb
  go_wp2_with fail
  refine (newYear_any 1899 (by decide) (by decide) _).mono ?_; rintro e w' ⟨rfl, rfl⟩
  rw [show Dt.cy 1899 = -25932 by decide]
  go_wp2_with fail
  exact bodyPost_ret (v := .tuple #[.int .i64 ((N + 25932) % 7), .nilIface]) (by simp [results, Tryd.results18, go_sem]) rfl ⟨by simp; omega, B.out.1⟩
end Go.Proofs.YthnhfilackghgaaDoor
