import Derived.Test.YthnhfilackghgaaDoorDl
namespace Go.Proofs.YthnhfilackghgaaDoor
open Go.RowKit Go.Lib Go.ChangeShapes Go.WideShapes Go.ChangeAt

/- written by wip/tools/gen_dv.py -/
theorem mvv_no {y m d n : Int} (h : ¬ Dt.mok y m n) : mvv y m d n = dv 0 0 0 ∧ mev y m n = vErr 1 := by rw [mvv, if_neg h, mev, if_neg h]; exact ⟨rfl, rfl⟩
theorem moves_walk (y m d n : Int) (hn : -9223372036854775808 ≤ n ∧ n ≤ 9223372036854775807) (w : World) (hL : Laid w) : Calls Tryd.prog 5 #[dv y m d, .int .i64 n] w fun e w' => e = .returned (.bool true) ∧ Below w.heap.size w w' := by
  have HL := Lib.hid hL
  clear hL
  have HN := Lib.hid hn
  clear hn
  have q1 := eqE1
  have q2 := eqE2
  have q3 := neE2
  by_cases hm : Dt.May y m d
  · have HM := Lib.hid hm
    clear hm
    have HW := Lib.hid (show (Dt.nm y m d + 4 + 700000).tmod 7 = (Dt.nm y m d + 4) % 7 by
      have := Dt.nm_bd HM.out
      rw [Int.tmod_eq_emod_of_nonneg (by omega)]; omega)
    have HB := Lib.hid (Dt.nm_bd HM.out)
    have z1 := HB.out.1
    have z2 := HB.out.2
    have z3 := HW.out
    generalize hnm : Dt.nm y m d = N at *
    generalize hW : (N + 4) % 7 = W at *
    have HNM := Lib.hid hnm
    have HWW := Lib.hid hW
    clear hnm hW
    by_cases hk : Dt.mok y m n
    · have HK := Lib.hid hk
      have HE := Lib.hid (mvv_is (d := d) hk rfl rfl rfl)
      clear hk
      generalize hY : Dt.my y m n = Y at *
      generalize hMM : Dt.mm y m n = M at *
      generalize hD : Dt.md y m d n = D at *
      clear hY hMM hD
      go_enter Tryd.func5, Tryd.ntmps5
      go_wp2_with fail
      have B := Lib.hid (DV.new (Below.refl w.heap.size w) 23 y m d)
      refine (up_any _ (by first | exact HL.out.below B.out.1 | exact HL.out.below B.out | exact HL.out.below B0.out.1 | exact HL.out | exact HL.out.below B1.out.1 | exact HL.out.below B2.out.1 | exact HL.out.below B3.out.1 | exact HL.out.below (B.out.below (by first | exact Below.refl _ _ | exact (Below.refl _ _).drew)).1)).mono ?_; rintro e w1 ⟨rfl, hb⟩; have B := Lib.hid (B.out.below hb); clear hb
      obtain ⟨-, -, -, ⟨c0, c1, c2⟩, -⟩ := B.out
      go_wp2_with fail
      refine (cmon_yes y m d n HM.out HN.out _ (by first | exact HL.out.below B.out.1 | exact HL.out.below B.out | exact HL.out.below B0.out.1 | exact HL.out | exact HL.out.below B1.out.1 | exact HL.out.below B2.out.1 | exact HL.out.below B3.out.1 | exact HL.out.below (B.out.below (by first | exact Below.refl _ _ | exact (Below.refl _ _).drew)).1)).mono ?_; rintro e w2 ⟨rfl, hb⟩; rw [HE.out.1, HE.out.2]; have B := Lib.hid (B.out.below hb); clear hb
      have BX := Lib.hid (DV.new B.out.1 23 (Y) (M) (D))
      have B := Lib.hid (B.out.alloc (.cells #[.int .i64 Y, .int .i64 M, .int .i64 D] 23))
      obtain ⟨-, -, -, ⟨c0, c1, c2⟩, -⟩ := B.out
      obtain ⟨-, -, -, ⟨x0, x1, x2⟩, -⟩ := BX.out
      go_wp2_with fail
      refine (cwd_yes y m d HM.out _ (by first | exact HL.out.below B.out.1 | exact HL.out.below B.out | exact HL.out.below B0.out.1 | exact HL.out | exact HL.out.below B1.out.1 | exact HL.out.below B2.out.1 | exact HL.out.below B3.out.1 | exact HL.out.below (B.out.below (by first | exact Below.refl _ _ | exact (Below.refl _ _).drew)).1)).mono ?_; rintro e w3 ⟨rfl, hb⟩; rw [HNM.out, HWW.out]; have B := Lib.hid (B.out.below hb); have BX := Lib.hid (BX.out.below hb); clear hb
      obtain ⟨-, -, -, ⟨c0, c1, c2⟩, -⟩ := B.out
      obtain ⟨-, -, -, ⟨x0, x1, x2⟩, -⟩ := BX.out
      go_wp2_with fail
      refine (clast_yes y m d HM.out _ (by first | exact HL.out.below B.out.1 | exact HL.out.below B.out | exact HL.out.below B0.out.1 | exact HL.out | exact HL.out.below B1.out.1 | exact HL.out.below B2.out.1 | exact HL.out.below B3.out.1 | exact HL.out.below (B.out.below (by first | exact Below.refl _ _ | exact (Below.refl _ _).drew)).1)).mono ?_; rintro e w4 ⟨rfl, hb⟩; have B := Lib.hid (B.out.below hb); have BX := Lib.hid (BX.out.below hb); clear hb
      have BL := Lib.hid (DV.new B.out.1 23 (y) (m) (Dt.dys y m))
      have B := Lib.hid (B.out.alloc (.cells #[.int .i64 y, .int .i64 m, .int .i64 (Dt.dys y m)] 23))
      have BX := Lib.hid (BX.out.alloc (.cells #[.int .i64 y, .int .i64 m, .int .i64 (Dt.dys y m)] 23))
      obtain ⟨-, -, -, ⟨c0, c1, c2⟩, -⟩ := B.out
      obtain ⟨-, -, -, ⟨x0, x1, x2⟩, -⟩ := BX.out
      obtain ⟨-, -, -, ⟨l0, l1, l2⟩, -⟩ := BL.out
      go_wp2_with fail
      refine (refmay_any y m d _).mono ?_; rintro e w5 ⟨rfl, hb⟩; rw [decide_eq_true HM.out]; have B := Lib.hid (B.out.below hb); have BX := Lib.hid (BX.out.below hb); have BL := Lib.hid (BL.out.below hb); clear hb
      obtain ⟨-, -, -, ⟨c0, c1, c2⟩, -⟩ := B.out
      obtain ⟨-, -, -, ⟨x0, x1, x2⟩, -⟩ := BX.out
      obtain ⟨-, -, -, ⟨l0, l1, l2⟩, -⟩ := BL.out
      go_wp2_with fail
      refine (number_any y m d HM.out _).mono ?_; rintro e w6 ⟨rfl, hb⟩; rw [HNM.out]; have B := Lib.hid (B.out.below hb); have BX := Lib.hid (BX.out.below hb); have BL := Lib.hid (BL.out.below hb); clear hb
      obtain ⟨-, -, -, ⟨c0, c1, c2⟩, -⟩ := B.out
      obtain ⟨-, -, -, ⟨x0, x1, x2⟩, -⟩ := BX.out
      obtain ⟨-, -, -, ⟨l0, l1, l2⟩, -⟩ := BL.out
      go_wp2_with fail
      go_quiet ((go_at_call 12; exact Calls.quiet_of_same (days_q y m _ _)))
      have B := Lib.hid (B.out.below (below_drewN _ _ nq))
      have BX := Lib.hid (BX.out.below (below_drewN _ _ nq))
      have BL := Lib.hid (BL.out.below (below_drewN _ _ nq))
      go_wp2_with fail
      refine (refmonths_any y m d n HM.out _).mono ?_; rintro e w7 ⟨rfl, hb⟩; rw [HE.out.1, decide_eq_true HK.out]; have B := Lib.hid (B.out.below hb); have BX := Lib.hid (BX.out.below hb); have BL := Lib.hid (BL.out.below hb); clear hb
      have BW := Lib.hid (DV.new B.out.1 23 (Y) (M) (D))
      have B := Lib.hid (B.out.alloc (.cells #[.int .i64 Y, .int .i64 M, .int .i64 D] 23))
      have BX := Lib.hid (BX.out.alloc (.cells #[.int .i64 Y, .int .i64 M, .int .i64 D] 23))
      have BL := Lib.hid (BL.out.alloc (.cells #[.int .i64 Y, .int .i64 M, .int .i64 D] 23))
      obtain ⟨-, -, -, ⟨c0, c1, c2⟩, -⟩ := B.out
      obtain ⟨-, -, -, ⟨x0, x1, x2⟩, -⟩ := BX.out
      obtain ⟨-, -, -, ⟨l0, l1, l2⟩, -⟩ := BL.out
      obtain ⟨-, -, -, ⟨k0, k1, k2⟩, -⟩ := BW.out
      go_wp2_with fail
      go_ret
      exact ⟨by simp, B.out.1⟩
    · have HK := Lib.hid hk
      have HE := Lib.hid (mvv_no (d := d) hk)
      clear hk
      go_enter Tryd.func5, Tryd.ntmps5
      go_wp2_with fail
      have B := Lib.hid (DV.new (Below.refl w.heap.size w) 23 y m d)
      refine (up_any _ (by first | exact HL.out.below B.out.1 | exact HL.out.below B.out | exact HL.out.below B0.out.1 | exact HL.out | exact HL.out.below B1.out.1 | exact HL.out.below B2.out.1 | exact HL.out.below B3.out.1 | exact HL.out.below (B.out.below (by first | exact Below.refl _ _ | exact (Below.refl _ _).drew)).1)).mono ?_; rintro e w1 ⟨rfl, hb⟩; have B := Lib.hid (B.out.below hb); clear hb
      obtain ⟨-, -, -, ⟨c0, c1, c2⟩, -⟩ := B.out
      go_wp2_with fail
      refine (cmon_yes y m d n HM.out HN.out _ (by first | exact HL.out.below B.out.1 | exact HL.out.below B.out | exact HL.out.below B0.out.1 | exact HL.out | exact HL.out.below B1.out.1 | exact HL.out.below B2.out.1 | exact HL.out.below B3.out.1 | exact HL.out.below (B.out.below (by first | exact Below.refl _ _ | exact (Below.refl _ _).drew)).1)).mono ?_; rintro e w2 ⟨rfl, hb⟩; rw [HE.out.1, HE.out.2]; have B := Lib.hid (B.out.below hb); clear hb
      have BX := Lib.hid (DV.new B.out.1 23 (0) (0) (0))
      have B := Lib.hid (B.out.alloc (.cells #[.int .i64 0, .int .i64 0, .int .i64 0] 23))
      obtain ⟨-, -, -, ⟨c0, c1, c2⟩, -⟩ := B.out
      obtain ⟨-, -, -, ⟨x0, x1, x2⟩, -⟩ := BX.out
      go_wp2_with fail
      refine (cwd_yes y m d HM.out _ (by first | exact HL.out.below B.out.1 | exact HL.out.below B.out | exact HL.out.below B0.out.1 | exact HL.out | exact HL.out.below B1.out.1 | exact HL.out.below B2.out.1 | exact HL.out.below B3.out.1 | exact HL.out.below (B.out.below (by first | exact Below.refl _ _ | exact (Below.refl _ _).drew)).1)).mono ?_; rintro e w3 ⟨rfl, hb⟩; rw [HNM.out, HWW.out]; have B := Lib.hid (B.out.below hb); have BX := Lib.hid (BX.out.below hb); clear hb
      obtain ⟨-, -, -, ⟨c0, c1, c2⟩, -⟩ := B.out
      obtain ⟨-, -, -, ⟨x0, x1, x2⟩, -⟩ := BX.out
      go_wp2_with fail
      refine (clast_yes y m d HM.out _ (by first | exact HL.out.below B.out.1 | exact HL.out.below B.out | exact HL.out.below B0.out.1 | exact HL.out | exact HL.out.below B1.out.1 | exact HL.out.below B2.out.1 | exact HL.out.below B3.out.1 | exact HL.out.below (B.out.below (by first | exact Below.refl _ _ | exact (Below.refl _ _).drew)).1)).mono ?_; rintro e w4 ⟨rfl, hb⟩; have B := Lib.hid (B.out.below hb); have BX := Lib.hid (BX.out.below hb); clear hb
      have BL := Lib.hid (DV.new B.out.1 23 (y) (m) (Dt.dys y m))
      have B := Lib.hid (B.out.alloc (.cells #[.int .i64 y, .int .i64 m, .int .i64 (Dt.dys y m)] 23))
      have BX := Lib.hid (BX.out.alloc (.cells #[.int .i64 y, .int .i64 m, .int .i64 (Dt.dys y m)] 23))
      obtain ⟨-, -, -, ⟨c0, c1, c2⟩, -⟩ := B.out
      obtain ⟨-, -, -, ⟨x0, x1, x2⟩, -⟩ := BX.out
      obtain ⟨-, -, -, ⟨l0, l1, l2⟩, -⟩ := BL.out
      go_wp2_with fail
      refine (refmay_any y m d _).mono ?_; rintro e w5 ⟨rfl, hb⟩; rw [decide_eq_true HM.out]; have B := Lib.hid (B.out.below hb); have BX := Lib.hid (BX.out.below hb); have BL := Lib.hid (BL.out.below hb); clear hb
      obtain ⟨-, -, -, ⟨c0, c1, c2⟩, -⟩ := B.out
      obtain ⟨-, -, -, ⟨x0, x1, x2⟩, -⟩ := BX.out
      obtain ⟨-, -, -, ⟨l0, l1, l2⟩, -⟩ := BL.out
      go_wp2_with fail
      refine (number_any y m d HM.out _).mono ?_; rintro e w6 ⟨rfl, hb⟩; rw [HNM.out]; have B := Lib.hid (B.out.below hb); have BX := Lib.hid (BX.out.below hb); have BL := Lib.hid (BL.out.below hb); clear hb
      obtain ⟨-, -, -, ⟨c0, c1, c2⟩, -⟩ := B.out
      obtain ⟨-, -, -, ⟨x0, x1, x2⟩, -⟩ := BX.out
      obtain ⟨-, -, -, ⟨l0, l1, l2⟩, -⟩ := BL.out
      go_wp2_with fail
      go_quiet ((go_at_call 12; exact Calls.quiet_of_same (days_q y m _ _)))
      have B := Lib.hid (B.out.below (below_drewN _ _ nq))
      have BX := Lib.hid (BX.out.below (below_drewN _ _ nq))
      have BL := Lib.hid (BL.out.below (below_drewN _ _ nq))
      go_wp2_with fail
      refine (refmonths_any y m d n HM.out _).mono ?_; rintro e w7 ⟨rfl, hb⟩; rw [HE.out.1, decide_eq_false HK.out]; have B := Lib.hid (B.out.below hb); have BX := Lib.hid (BX.out.below hb); have BL := Lib.hid (BL.out.below hb); clear hb
      have BW := Lib.hid (DV.new B.out.1 23 (0) (0) (0))
      have B := Lib.hid (B.out.alloc (.cells #[.int .i64 0, .int .i64 0, .int .i64 0] 23))
      have BX := Lib.hid (BX.out.alloc (.cells #[.int .i64 0, .int .i64 0, .int .i64 0] 23))
      have BL := Lib.hid (BL.out.alloc (.cells #[.int .i64 0, .int .i64 0, .int .i64 0] 23))
      obtain ⟨-, -, -, ⟨c0, c1, c2⟩, -⟩ := B.out
      obtain ⟨-, -, -, ⟨x0, x1, x2⟩, -⟩ := BX.out
      obtain ⟨-, -, -, ⟨l0, l1, l2⟩, -⟩ := BL.out
      obtain ⟨-, -, -, ⟨k0, k1, k2⟩, -⟩ := BW.out
      go_wp2_with fail
      go_ret
      exact ⟨by simp, B.out.1⟩
  · have HM := Lib.hid hm
    clear hm
    go_enter Tryd.func5, Tryd.ntmps5
    go_wp2_with fail
    have B := Lib.hid (DV.new (Below.refl w.heap.size w) 23 y m d)
    refine (up_any _ (by first | exact HL.out.below B.out.1 | exact HL.out.below B.out | exact HL.out.below B0.out.1 | exact HL.out | exact HL.out.below B1.out.1 | exact HL.out.below B2.out.1 | exact HL.out.below B3.out.1 | exact HL.out.below (B.out.below (by first | exact Below.refl _ _ | exact (Below.refl _ _).drew)).1)).mono ?_; rintro e w1 ⟨rfl, hb⟩; have B := Lib.hid (B.out.below hb); clear hb
    obtain ⟨-, -, -, ⟨c0, c1, c2⟩, -⟩ := B.out
    go_wp2_with fail
    refine (cmon_no y m d n HM.out _ (by first | exact HL.out.below B.out.1 | exact HL.out.below B.out | exact HL.out.below B0.out.1 | exact HL.out | exact HL.out.below B1.out.1 | exact HL.out.below B2.out.1 | exact HL.out.below B3.out.1 | exact HL.out.below (B.out.below (by first | exact Below.refl _ _ | exact (Below.refl _ _).drew)).1)).mono ?_; rintro e w2 ⟨rfl, hb⟩; have B := Lib.hid (B.out.below hb); clear hb
    have BX := Lib.hid (DV.new B.out.1 23 (0) (0) (0))
    have B := Lib.hid (B.out.alloc (.cells #[.int .i64 0, .int .i64 0, .int .i64 0] 23))
    obtain ⟨-, -, -, ⟨c0, c1, c2⟩, -⟩ := B.out
    obtain ⟨-, -, -, ⟨x0, x1, x2⟩, -⟩ := BX.out
    go_wp2_with fail
    refine (cwd_no y m d HM.out _ (by first | exact HL.out.below B.out.1 | exact HL.out.below B.out | exact HL.out.below B0.out.1 | exact HL.out | exact HL.out.below B1.out.1 | exact HL.out.below B2.out.1 | exact HL.out.below B3.out.1 | exact HL.out.below (B.out.below (by first | exact Below.refl _ _ | exact (Below.refl _ _).drew)).1)).mono ?_; rintro e w3 ⟨rfl, hb⟩; have B := Lib.hid (B.out.below hb); have BX := Lib.hid (BX.out.below hb); clear hb
    obtain ⟨-, -, -, ⟨c0, c1, c2⟩, -⟩ := B.out
    obtain ⟨-, -, -, ⟨x0, x1, x2⟩, -⟩ := BX.out
    go_wp2_with fail
    refine (clast_no y m d HM.out _ (by first | exact HL.out.below B.out.1 | exact HL.out.below B.out | exact HL.out.below B0.out.1 | exact HL.out | exact HL.out.below B1.out.1 | exact HL.out.below B2.out.1 | exact HL.out.below B3.out.1 | exact HL.out.below (B.out.below (by first | exact Below.refl _ _ | exact (Below.refl _ _).drew)).1)).mono ?_; rintro e w4 ⟨rfl, hb⟩; have B := Lib.hid (B.out.below hb); have BX := Lib.hid (BX.out.below hb); clear hb
    have BL := Lib.hid (DV.new B.out.1 23 (0) (0) (0))
    have B := Lib.hid (B.out.alloc (.cells #[.int .i64 0, .int .i64 0, .int .i64 0] 23))
    have BX := Lib.hid (BX.out.alloc (.cells #[.int .i64 0, .int .i64 0, .int .i64 0] 23))
    obtain ⟨-, -, -, ⟨c0, c1, c2⟩, -⟩ := B.out
    obtain ⟨-, -, -, ⟨x0, x1, x2⟩, -⟩ := BX.out
    obtain ⟨-, -, -, ⟨l0, l1, l2⟩, -⟩ := BL.out
    go_wp2_with fail
    refine (refmay_any y m d _).mono ?_; rintro e w5 ⟨rfl, hb⟩; rw [decide_eq_false HM.out]; have B := Lib.hid (B.out.below hb); have BX := Lib.hid (BX.out.below hb); have BL := Lib.hid (BL.out.below hb); clear hb
    obtain ⟨-, -, -, ⟨c0, c1, c2⟩, -⟩ := B.out
    obtain ⟨-, -, -, ⟨x0, x1, x2⟩, -⟩ := BX.out
    obtain ⟨-, -, -, ⟨l0, l1, l2⟩, -⟩ := BL.out
    go_wp2_with fail
    go_ret
    exact ⟨by simp, B.out.1⟩
end Go.Proofs.YthnhfilackghgaaDoor
