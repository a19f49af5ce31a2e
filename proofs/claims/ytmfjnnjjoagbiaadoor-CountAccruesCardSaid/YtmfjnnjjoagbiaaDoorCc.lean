/- Package count: Between and Accrue. -/
import Derived.Test.YtmfjnnjjoagbiaaDoorDnu
import Derived.Test.YtmfjnnjjoagbiaaDoorRm
import Derived.Test.YtmfjnnjjoagbiaaDoorCt
namespace Go.Proofs.YtmfjnnjjoagbiaaDoor
open Go.RowKit Go.Lib Go.ChangeShapes Go.WideShapes Go.ChangeAt Ar

theorem mdv_rq {b k c : Int} (hb : 0 ≤ b) (hk : 0 ≤ k) (hc : c = 360000000 ∨ c = 365000000) : mdv b k c 4 = Ct.rq c (b * k) := by
  have hc0 : 0 ≤ c := by omega
  rw [mdv_nn hb hk hc0]
  generalize b * k = n
  have e : rup (n / c) (n % c) c false 4 = decide (c < 2 * (n % c) ∨ (2 * (n % c) = c ∧ n / c % 2 = 1)) := by
    rw [Bool.eq_iff_iff]
    by_cases h0 : n % c = 0
    · simp only [rup, h0]; simp; rcases hc with rfl | rfl <;> simp
    · simp only [rup, h0]
      rcases hc with rfl | rfl <;> (simp; omega)
  rw [e]; unfold Ct.rq
  by_cases h1 : c < 2 * (n % c) ∨ (2 * (n % c) = c ∧ n / c % 2 = 1)
  · rw [if_pos h1, if_pos (by simpa using h1)]
  · rw [if_neg h1, if_neg (by simpa using h1)]; omega
theorem accrue_mv {b r d : Int} (mo : Bool) (h : Ct.AMay b r d) : mv b (r * d) (Ct.yr mo) 4 = Ct.aq mo b r d ∧ me b (r * d) (Ct.yr mo) 4 = .nilIface := by
  have p := Ct.pr_bd h
  have e := mdv_rq h.1.1 p.1 (Ct.yr_is mo)
  have hb := Ct.aq_bd mo h
  have e2 : mdv b (r * d) (Ct.yr mo) 4 = Ct.aq mo b r d := e
  have hf : Fits (mdv b (r * d) (Ct.yr mo) 4) := by rw [e2]; unfold Fits; omega
  have hbad : ¬ Bad (Ct.yr mo) 4 := by have := Ct.yr_is mo; unfold Bad; omega
  unfold mv me
  rw [if_neg hbad, if_neg hbad, if_pos hf, if_pos hf, e2]; exact ⟨rfl, rfl⟩
theorem accrue_in {b r d : Int} (mo : Bool) (h : Ct.AMay b r d) : In b ∧ In (r * d) ∧ In (Ct.yr mo) := by
  have p := Ct.pr_bd h
  obtain ⟨⟨h1, h2, -, -⟩, -, -⟩ := h
  have := Ct.yr_is mo
  unfold In; omega

theorem cmaybe_yes (b r : Int) (h : Rt.May b r) (w : World) : Calls Tryd.prog 23 #[.int .i64 b, .int .i64 r] w fun e w' => e = .returned (.bool true) ∧ w = w' := by
  obtain ⟨h1, h2, h3, h4⟩ := h
  go_enter Tryd.func23, Tryd.ntmps23
  go_wp2
  go_ret
  exact ⟨by simp, rfl⟩
theorem cmaybe_no (b r : Int) (h : ¬ Rt.May b r) (w : World) : Calls Tryd.prog 23 #[.int .i64 b, .int .i64 r] w fun e w' => e = .returned (.bool false) ∧ w = w' := by
  go_enter Tryd.func23, Tryd.ntmps23
  unfold Rt.May at h
  go_wp2
  all_goals (go_ret; exact ⟨by simp; try omega, rfl⟩)
theorem cac_yes0 (mo : Bool) (b r d : Int) (h : Ct.AMay b r d) (w : World) : Calls Tryd.prog 12 #[.int .i64 b, .int .i64 r, .int .i64 d, .bool mo] w fun e w' => e = .returned (.tuple #[.int .i64 (Ct.aq mo b r d), .nilIface]) ∧ ∃ n, w' = w.drewN n := by
  have H := Lib.hid h
  have HP := Lib.hid (Ct.pr_bd h)
  obtain ⟨-, hd1, hd2⟩ := h
  have k1 : decide (d < 0) = false := decide_eq_false (by omega)
  have k2 : decide (40000 < d) = false := decide_eq_false (by omega)
  have q : IntKind.i64.wrap (r * d) = r * d := by have := HP.out; rw [IntKind.wrap_i64]; omega
  have HM := Lib.hid (fun (w : World) => muldiv_any b (r * d) (Ct.yr mo) 4 (accrue_in mo H.out).1 (accrue_in mo H.out).2.1 (accrue_in mo H.out).2.2 w)
  rw [(accrue_mv mo H.out).1, (accrue_mv mo H.out).2] at HM
  generalize Ct.aq mo b r d = A at *
  cases mo
  all_goals
    go_enter Tryd.func12, Tryd.ntmps12
    go_wp2_with fail
    refine (cmaybe_yes b r H.out.1 _).mono ?_; rintro e w' ⟨rfl, rfl⟩
    go_wp2_with fail
    refine (HM.out _).mono ?_; rintro e w' ⟨rfl, n, rfl⟩
    go_wp2_with fail
    go_ret2
    exact ⟨rfl, _, rfl⟩
theorem cac_no0 (mo : Bool) (b r d : Int) (h : ¬ Ct.AMay b r d) (w : World) : Calls Tryd.prog 12 #[.int .i64 b, .int .i64 r, .int .i64 d, .bool mo] w fun e w' => e = .returned (.tuple #[.int .i64 0, vErr 1]) ∧ ∃ n, w' = w.drewN n := by
  have H := Lib.hid h
  clear h
  by_cases hm : Rt.May b r
  · have HB := Lib.hid hm
    clear hm
    by_cases h0 : d < 0
    · go_enter Tryd.func12, Tryd.ntmps12
      go_wp2_with fail
      refine (cmaybe_yes b r HB.out _).mono ?_; rintro e w' ⟨rfl, rfl⟩
      go_wp2_with fail
      go_ret2
      exact ⟨rfl, 0, rfl⟩
    · have h1 : 40000 < d := Decidable.byContradiction fun k => H.out ⟨HB.out, by omega, by omega⟩
      have h2 : 0 ≤ d := by omega
      have k1 : decide (d < 0) = false := decide_eq_false h0
      clear h0
      go_enter Tryd.func12, Tryd.ntmps12
      go_wp2_with fail
      refine (cmaybe_yes b r HB.out _).mono ?_; rintro e w' ⟨rfl, rfl⟩
      go_wp2_with fail
      go_ret2
      exact ⟨rfl, 0, rfl⟩
  · have HB := Lib.hid hm
    clear hm
    go_enter Tryd.func12, Tryd.ntmps12
    go_wp2_with fail
    refine (cmaybe_no b r HB.out _).mono ?_; rintro e w' ⟨rfl, rfl⟩
    go_wp2_with fail
    go_ret2
    exact ⟨rfl, 0, rfl⟩
theorem cac_yes (mo : Bool) (b r d : Int) (h : Ct.AMay b r d) (w : World) (_ : Laid w) : Calls Tryd.prog 12 #[.int .i64 b, .int .i64 r, .int .i64 d, .bool mo] w fun e w' => e = .returned (.tuple #[.int .i64 (Ct.aq mo b r d), .nilIface]) ∧ Below w.heap.size w w' :=
  (cac_yes0 mo b r d h w).mono fun _ _ ⟨a, _, b⟩ => ⟨a, b ▸ below_drewN _ _ _⟩
theorem cac_no (mo : Bool) (b r d : Int) (h : ¬ Ct.AMay b r d) (_ : -9223372036854775808 ≤ b ∧ b ≤ 9223372036854775807) (_ : -9223372036854775808 ≤ r ∧ r ≤ 9223372036854775807) (_ : -9223372036854775808 ≤ d ∧ d ≤ 9223372036854775807) (w : World) (_ : Laid w) : Calls Tryd.prog 12 #[.int .i64 b, .int .i64 r, .int .i64 d, .bool mo] w fun e w' => e = .returned (.tuple #[.int .i64 0, vErr 1]) ∧ Below w.heap.size w w' :=
  (cac_no0 mo b r d h w).mono fun _ _ ⟨a, _, b⟩ => ⟨a, b ▸ below_drewN _ _ _⟩

/-- a date's place among years of 360 days -/
def pm (y m d : Int) : Int := 360 * y + 30 * (m - 1) + min d 30
theorem pm_th {y m d : Int} (h : Dt.May y m d) : pm y m d = Ct.th y m d - 30 := by
  have h1 := h.2
  have h2 := Dt.dys_nn y m
  unfold pm Ct.th; split <;> omega
theorem cplace_no (y m d : Int) (h : ¬ Dt.May y m d) (w : World) (hL : Laid w) : Calls Tryd.prog 20 #[dtv y m d] w fun e w' => e = .returned (.tuple #[.int .i64 0, vErr 2]) ∧ Below w.heap.size w w' := by
  have HL := Lib.hid hL
  have HM := Lib.hid h
  clear hL h
  have B := Lib.hid (DV.new (Below.refl w.heap.size w) 23 y m d)
  go_enter Tryd.func20, Tryd.ntmps20
  go_wp2_with fail
  refine (cmay y m d _ (HL.out.below B.out.1)).mono ?_; rintro e w1 ⟨rfl, hb⟩; rw [decide_eq_false HM.out]; have B := Lib.hid (B.out.below hb); clear hb
  go_wp2_with fail
  exact bodyPost_ret (v := .tuple #[.int .i64 0, vErr 2]) (by simp [results, Tryd.results20, go_sem]) rfl ⟨rfl, B.out.1⟩
theorem cplace_yes (y m d : Int) (h : Dt.May y m d) (w : World) (hL : Laid w) : Calls Tryd.prog 20 #[dtv y m d] w fun e w' => e = .returned (.tuple #[.int .i64 (pm y m d), .nilIface]) ∧ Below w.heap.size w w' := by
  have HL := Lib.hid hL
  have HM := Lib.hid h
  have HI := Lib.hid (Dt.may_in h)
  clear hL h
  have hd : 1 ≤ d ∧ d ≤ 31 := by have := HM.out; have := Dt.dys_nn y m; unfold Dt.May at *; omega
  obtain ⟨hd1, hd2⟩ := hd
  have hy1 : 1900 ≤ y := HI.out.1.1
  have hy2 : y ≤ 2199 := HI.out.1.2
  have hm1 : 1 ≤ m := HI.out.2.1
  have hm2 : m ≤ 12 := HI.out.2.2
  have B := Lib.hid (DV.new (Below.refl w.heap.size w) 23 y m d)
  have e : pm y m d = 360 * y + 30 * (m - 1) + min d 30 := rfl
  rw [e]
  clear e
  go_enter Tryd.func20, Tryd.ntmps20
  go_wp2_with fail
  refine (cmay y m d _ (HL.out.below B.out.1)).mono ?_; rintro e w1 ⟨rfl, hb⟩; rw [decide_eq_true HM.out]; have B := Lib.hid (B.out.below hb); clear hb
  obtain ⟨-, -, -, ⟨c0, c1, c2⟩, -⟩ := B.out
  go_wp2_with fail
  exact bodyPost_ret (v := .tuple #[.int .i64 (360 * y + 30 * (m - 1) + min d 30), .nilIface]) (by simp [results, Tryd.results20, go_sem]) rfl ⟨rfl, B.out.1⟩
theorem pm_bd {y m d : Int} (h : Dt.May y m d) : 600000 ≤ pm y m d ∧ pm y m d ≤ 800000 := by
  have hin := Dt.may_in h
  have := h.1
  unfold Dt.InY Dt.InM at hin
  unfold pm; omega
/-- days between, told in steps -/
theorem bt_place {y m d Y M D : Int} (h : Dt.May y m d) (h' : Dt.May Y M D) : Ct.bt true y m d Y M D = pm Y M D - pm y m d := by
  rw [pm_th h, pm_th h']; unfold Ct.bt; simp; omega
theorem two_new (w : World) (t : TypeId) (y m d Y M D : Int) :
    DV w ((w.alloc (.cells #[.int .i64 y, .int .i64 m, .int .i64 d] t)).alloc (.cells #[.int .i64 Y, .int .i64 M, .int .i64 D] t)) w.heap.size y m d ∧
    DV w ((w.alloc (.cells #[.int .i64 y, .int .i64 m, .int .i64 d] t)).alloc (.cells #[.int .i64 Y, .int .i64 M, .int .i64 D] t)) (w.heap.size + 1) Y M D := by
  refine ⟨(DV.new (Below.refl w.heap.size w) t y m d).alloc _, ?_⟩
  have h := DV.new ((Below.refl w.heap.size w).alloc (Nat.le_refl _) (.cells #[.int .i64 y, .int .i64 m, .int .i64 d] t)) t Y M D
  rwa [World.size_alloc] at h
theorem cbt_yes (mo : Bool) (y m d Y M D : Int) (h : Dt.May y m d) (h' : Dt.May Y M D) (w : World) (hL : Laid w) : Calls Tryd.prog 8 #[dtv y m d, dtv Y M D, .bool mo] w fun e w' => e = .returned (.tuple #[.int .i64 (Ct.bt mo y m d Y M D), .nilIface]) ∧ Below w.heap.size w w' := by
  have HL := Lib.hid hL
  have HM := Lib.hid h
  have HM' := Lib.hid h'
  clear hL h h'
  have B := Lib.hid (two_new w 23 y m d Y M D).1
  have B2 := Lib.hid (two_new w 23 y m d Y M D).2
  obtain ⟨-, -, -, ⟨c0, c1, c2⟩, -⟩ := B.out
  obtain ⟨-, -, -, ⟨d0, d1, d2⟩, -⟩ := B2.out
  cases mo
  · have HN := Lib.hid (show Ct.bt false y m d Y M D = Dt.nm Y M D - Dt.nm y m d from rfl)
    obtain ⟨a1, a2⟩ := Dt.nm_bd HM.out
    obtain ⟨a3, a4⟩ := Dt.nm_bd HM'.out
    have HY := Lib.hid (fun (w : World) (hL : Laid w) => cnum_yes y m d HM.out w hL)
    have HY' := Lib.hid (fun (w : World) (hL : Laid w) => cnum_yes Y M D HM'.out w hL)
    generalize Ct.bt false y m d Y M D = R at *
    generalize Dt.nm y m d = p at *
    generalize Dt.nm Y M D = q at *
    go_enter Tryd.func8, Tryd.ntmps8
    go_wp2_with fail
    refine (HY.out _ (HL.out.below B.out.1)).mono ?_; rintro e w1 ⟨rfl, hb⟩; have B := Lib.hid (B.out.below hb); have B2 := Lib.hid (B2.out.below hb); clear hb c0 c1 c2 d0 d1 d2
    obtain ⟨-, -, -, ⟨d0, d1, d2⟩, -⟩ := B2.out
    go_wp2_with fail
    refine (HY'.out _ (HL.out.below B.out.1)).mono ?_; rintro e w2 ⟨rfl, hb⟩; have B := Lib.hid (B.out.below hb); clear hb d0 d1 d2
    go_wp2_with fail
    exact bodyPost_ret (v := .tuple #[.int .i64 R, .nilIface]) (by simp [results, Tryd.results8, go_sem]; exact HN.out.symm) rfl ⟨rfl, B.out.1⟩
  · have HN := Lib.hid (bt_place HM.out HM'.out)
    obtain ⟨a1, a2⟩ := pm_bd HM.out
    obtain ⟨a3, a4⟩ := pm_bd HM'.out
    have HY := Lib.hid (fun (w : World) (hL : Laid w) => cplace_yes y m d HM.out w hL)
    have HY' := Lib.hid (fun (w : World) (hL : Laid w) => cplace_yes Y M D HM'.out w hL)
    generalize Ct.bt true y m d Y M D = R at *
    generalize pm y m d = p at *
    generalize pm Y M D = q at *
    go_enter Tryd.func8, Tryd.ntmps8
    go_wp2_with fail
    refine (HY.out _ (HL.out.below B.out.1)).mono ?_; rintro e w1 ⟨rfl, hb⟩; have B := Lib.hid (B.out.below hb); have B2 := Lib.hid (B2.out.below hb); clear hb c0 c1 c2 d0 d1 d2
    obtain ⟨-, -, -, ⟨d0, d1, d2⟩, -⟩ := B2.out
    go_wp2_with fail
    refine (HY'.out _ (HL.out.below B.out.1)).mono ?_; rintro e w2 ⟨rfl, hb⟩; have B := Lib.hid (B.out.below hb); clear hb d0 d1 d2
    go_wp2_with fail
    exact bodyPost_ret (v := .tuple #[.int .i64 R, .nilIface]) (by simp [results, Tryd.results8, go_sem]; exact HN.out.symm) rfl ⟨rfl, B.out.1⟩
theorem cbt_no (mo : Bool) (y m d Y M D : Int) (h : ¬ (Dt.May y m d ∧ Dt.May Y M D)) (w : World) (hL : Laid w) : Calls Tryd.prog 8 #[dtv y m d, dtv Y M D, .bool mo] w fun e w' => e = .returned (.tuple #[.int .i64 0, vErr 2]) ∧ Below w.heap.size w w' := by
  have HL := Lib.hid hL
  have HM := Lib.hid h
  clear hL h
  have B := Lib.hid (two_new w 23 y m d Y M D).1
  have B2 := Lib.hid (two_new w 23 y m d Y M D).2
  obtain ⟨-, -, -, ⟨c0, c1, c2⟩, -⟩ := B.out
  obtain ⟨-, -, -, ⟨d0, d1, d2⟩, -⟩ := B2.out
  by_cases k : Dt.May y m d
  · have HK := Lib.hid k
    have HK' := Lib.hid (fun h => HM.out ⟨k, h⟩)
    clear k
    cases mo
    · have HY := Lib.hid (fun (w : World) (hL : Laid w) => cnum_yes y m d HK.out w hL)
      generalize Dt.nm y m d = p at *
      go_enter Tryd.func8, Tryd.ntmps8
      go_wp2_with fail
      refine (HY.out _ (HL.out.below B.out.1)).mono ?_; rintro e w1 ⟨rfl, hb⟩; have B := Lib.hid (B.out.below hb); have B2 := Lib.hid (B2.out.below hb); clear hb c0 c1 c2 d0 d1 d2
      obtain ⟨-, -, -, ⟨d0, d1, d2⟩, -⟩ := B2.out
      go_wp2_with fail
      refine (cnum_no Y M D HK'.out _ (HL.out.below B.out.1)).mono ?_; rintro e w2 ⟨rfl, hb⟩; have B := Lib.hid (B.out.below hb); clear hb d0 d1 d2
      go_wp2_with fail
      exact bodyPost_ret (v := .tuple #[.int .i64 0, vErr 2]) (by simp [results, Tryd.results8, go_sem]) rfl ⟨rfl, B.out.1⟩
    · have HY := Lib.hid (fun (w : World) (hL : Laid w) => cplace_yes y m d HK.out w hL)
      generalize pm y m d = p at *
      go_enter Tryd.func8, Tryd.ntmps8
      go_wp2_with fail
      refine (HY.out _ (HL.out.below B.out.1)).mono ?_; rintro e w1 ⟨rfl, hb⟩; have B := Lib.hid (B.out.below hb); have B2 := Lib.hid (B2.out.below hb); clear hb c0 c1 c2 d0 d1 d2
      obtain ⟨-, -, -, ⟨d0, d1, d2⟩, -⟩ := B2.out
      go_wp2_with fail
      refine (cplace_no Y M D HK'.out _ (HL.out.below B.out.1)).mono ?_; rintro e w2 ⟨rfl, hb⟩; have B := Lib.hid (B.out.below hb); clear hb d0 d1 d2
      go_wp2_with fail
      exact bodyPost_ret (v := .tuple #[.int .i64 0, vErr 2]) (by simp [results, Tryd.results8, go_sem]) rfl ⟨rfl, B.out.1⟩
  · have HK := Lib.hid k
    clear k
    cases mo
    · go_enter Tryd.func8, Tryd.ntmps8
      go_wp2_with fail
      refine (cnum_no y m d HK.out _ (HL.out.below B.out.1)).mono ?_; rintro e w1 ⟨rfl, hb⟩; have B := Lib.hid (B.out.below hb); clear hb c0 c1 c2 d0 d1 d2
      go_wp2_with fail
      exact bodyPost_ret (v := .tuple #[.int .i64 0, vErr 2]) (by simp [results, Tryd.results8, go_sem]) rfl ⟨rfl, B.out.1⟩
    · go_enter Tryd.func8, Tryd.ntmps8
      go_wp2_with fail
      refine (cplace_no y m d HK.out _ (HL.out.below B.out.1)).mono ?_; rintro e w1 ⟨rfl, hb⟩; have B := Lib.hid (B.out.below hb); clear hb c0 c1 c2 d0 d1 d2
      go_wp2_with fail
      exact bodyPost_ret (v := .tuple #[.int .i64 0, vErr 2]) (by simp [results, Tryd.results8, go_sem]) rfl ⟨rfl, B.out.1⟩
end Go.Proofs.YtmfjnnjjoagbiaaDoor
