import Derived.Test.YthnhfilackghgaaDoorDl
/- written by wip/tools/gen_ds.py -/
namespace Go.Proofs.YthnhfilackghgaaDoor.Dt
theorem far_no {y m n : Int} (hy : InY y) (hm : InM m) (h : n < -3600 ∨ 3600 < n) : dys (my y m n) (mm y m n) = 0 := by
  unfold dys; rw [if_pos]; unfold my InY InM at *; omega
theorem mok_iff {y m n : Int} (hy : InY y) (hm : InM m) : mok y m n ↔ 0 < dys (my y m n) (mm y m n) := by
  unfold mok
  by_cases h : n < -3600 ∨ 3600 < n
  · have := far_no hy hm h; omega
  · omega
theorem md_small {y m d n : Int} (hd : d ≤ 28) (h : mok y m n) : md y m d n = d := by
  have h3 := h.2.2
  have hin : InY (my y m n) ∧ InM (mm y m n) := by
    by_cases c : InY (my y m n) ∧ InM (mm y m n)
    · exact c
    · exfalso; unfold dys at h3; rw [if_pos (by unfold InY InM at c; omega)] at h3; omega
  have := dys_bd hin.1 hin.2
  unfold md; rw [if_neg (by omega)]
theorem steps_ok {y m d a b : Int} (h : May y m d) (hd : d ≤ 28) (ha : mok y m a) (_ : -3600 ≤ b ∧ b ≤ 3600) : May (my y m a) (mm y m a) d ∧ (mok (my y m a) (mm y m a) b ↔ mok y m (a + b)) := by
  have hm := md_may h.1 ha
  rw [md_small hd ha] at hm
  have hin := may_in hm
  have hin0 := may_in h
  refine ⟨hm, ?_⟩
  rw [mok_iff hin.1 hin.2, mok_iff hin0.1 hin0.2, (my_add y m a b).1, (my_add y m a b).2]
end Go.Proofs.YthnhfilackghgaaDoor.Dt
namespace Go.Proofs.YthnhfilackghgaaDoor
open Go.RowKit Go.Lib Go.ChangeShapes Go.WideShapes Go.ChangeAt

theorem mvv_none {y m d n : Int} (h : ¬ Dt.mok y m n) : mvv y m d n = dv 0 0 0 ∧ mev y m n = vErr 1 := by rw [mvv, if_neg h, mev, if_neg h]; exact ⟨rfl, rfl⟩
set_option maxHeartbeats 1000000 in
theorem steps_walk (y m d a b : Int) (w : World) (hL : Laid w) : Calls Tryd.prog 7 #[dv y m d, .int .i64 a, .int .i64 b] w fun e w' => e = .returned (.bool true) ∧ Below w.heap.size w w' := by
  have HL := Lib.hid hL
  clear hL
  by_cases f0 : 28 < d
  · go_enter Tryd.func7, Tryd.ntmps7
    go_wp2_with fail
    have B := Lib.hid (DV.new (Below.refl w.heap.size w) 23 y m d)
    refine (up_any _ (by first | exact HL.out.below B.out.1 | exact HL.out.below B.out | exact HL.out.below B0.out.1 | exact HL.out | exact HL.out.below B1.out.1 | exact HL.out.below B2.out.1 | exact HL.out.below B3.out.1 | exact HL.out.below (B.out.below (by first | exact Below.refl _ _ | exact (Below.refl _ _).drew)).1)).mono ?_; rintro e w1 ⟨rfl, hb⟩; have B := Lib.hid (B.out.below hb); clear hb; obtain ⟨-, -, -, ⟨c0, c1, c2⟩, -⟩ := B.out
    go_wp2_with fail
    all_goals
      go_ret
      exact ⟨by simp, B.out.1⟩
  replace f0 : d ≤ 28 := by omega
  have g0 : decide (28 < d) = false := by simp; omega
  by_cases f1 : a < -3600
  · go_enter Tryd.func7, Tryd.ntmps7
    go_wp2_with fail
    have B := Lib.hid (DV.new (Below.refl w.heap.size w) 23 y m d)
    refine (up_any _ (by first | exact HL.out.below B.out.1 | exact HL.out.below B.out | exact HL.out.below B0.out.1 | exact HL.out | exact HL.out.below B1.out.1 | exact HL.out.below B2.out.1 | exact HL.out.below B3.out.1 | exact HL.out.below (B.out.below (by first | exact Below.refl _ _ | exact (Below.refl _ _).drew)).1)).mono ?_; rintro e w1 ⟨rfl, hb⟩; have B := Lib.hid (B.out.below hb); clear hb; obtain ⟨-, -, -, ⟨c0, c1, c2⟩, -⟩ := B.out
    go_wp2_with fail
    all_goals
      go_ret
      exact ⟨by simp, B.out.1⟩
  replace f1 : -3600 ≤ a := by omega
  have g1 : decide (a < -3600) = false := by simp; omega
  by_cases f2 : 3600 < a
  · go_enter Tryd.func7, Tryd.ntmps7
    go_wp2_with fail
    have B := Lib.hid (DV.new (Below.refl w.heap.size w) 23 y m d)
    refine (up_any _ (by first | exact HL.out.below B.out.1 | exact HL.out.below B.out | exact HL.out.below B0.out.1 | exact HL.out | exact HL.out.below B1.out.1 | exact HL.out.below B2.out.1 | exact HL.out.below B3.out.1 | exact HL.out.below (B.out.below (by first | exact Below.refl _ _ | exact (Below.refl _ _).drew)).1)).mono ?_; rintro e w1 ⟨rfl, hb⟩; have B := Lib.hid (B.out.below hb); clear hb; obtain ⟨-, -, -, ⟨c0, c1, c2⟩, -⟩ := B.out
    go_wp2_with fail
    all_goals
      go_ret
      exact ⟨by simp, B.out.1⟩
  replace f2 : a ≤ 3600 := by omega
  have g2 : decide (3600 < a) = false := by simp; omega
  by_cases f3 : b < -3600
  · go_enter Tryd.func7, Tryd.ntmps7
    go_wp2_with fail
    have B := Lib.hid (DV.new (Below.refl w.heap.size w) 23 y m d)
    refine (up_any _ (by first | exact HL.out.below B.out.1 | exact HL.out.below B.out | exact HL.out.below B0.out.1 | exact HL.out | exact HL.out.below B1.out.1 | exact HL.out.below B2.out.1 | exact HL.out.below B3.out.1 | exact HL.out.below (B.out.below (by first | exact Below.refl _ _ | exact (Below.refl _ _).drew)).1)).mono ?_; rintro e w1 ⟨rfl, hb⟩; have B := Lib.hid (B.out.below hb); clear hb; obtain ⟨-, -, -, ⟨c0, c1, c2⟩, -⟩ := B.out
    go_wp2_with fail
    all_goals
      go_ret
      exact ⟨by simp, B.out.1⟩
  replace f3 : -3600 ≤ b := by omega
  have g3 : decide (b < -3600) = false := by simp; omega
  by_cases f4 : 3600 < b
  · go_enter Tryd.func7, Tryd.ntmps7
    go_wp2_with fail
    have B := Lib.hid (DV.new (Below.refl w.heap.size w) 23 y m d)
    refine (up_any _ (by first | exact HL.out.below B.out.1 | exact HL.out.below B.out | exact HL.out.below B0.out.1 | exact HL.out | exact HL.out.below B1.out.1 | exact HL.out.below B2.out.1 | exact HL.out.below B3.out.1 | exact HL.out.below (B.out.below (by first | exact Below.refl _ _ | exact (Below.refl _ _).drew)).1)).mono ?_; rintro e w1 ⟨rfl, hb⟩; have B := Lib.hid (B.out.below hb); clear hb; obtain ⟨-, -, -, ⟨c0, c1, c2⟩, -⟩ := B.out
    go_wp2_with fail
    all_goals
      go_ret
      exact ⟨by simp, B.out.1⟩
  replace f4 : b ≤ 3600 := by omega
  have g4 : decide (3600 < b) = false := by simp; omega
  by_cases hm : Dt.May y m d
  · have HM := Lib.hid hm
    by_cases ha : Dt.mok y m a
    · obtain ⟨s1, s2⟩ := Dt.steps_ok hm f0 ha ⟨f3, f4⟩
      have s3 := Dt.my_add y m a b
      have HA := Lib.hid (mvv_is (d := d) ha rfl rfl (Dt.md_small f0 ha))
      by_cases hb : Dt.mok y m (a + b)
      · have HB := Lib.hid (mvv_is (d := d) (s2.2 hb) s3.1 s3.2 (Dt.md_small f0 (s2.2 hb)))
        have HZ := Lib.hid (mvv_is (d := d) hb rfl rfl (Dt.md_small f0 hb))
        generalize Dt.my y m (a + b) = U at *
        generalize Dt.mm y m (a + b) = V at *
        generalize Dt.my y m a = Y at *
        generalize Dt.mm y m a = M at *
        have HX := Lib.hid s1
        clear hm ha hb s1 s2 s3
        go_enter Tryd.func7, Tryd.ntmps7
        go_wp2_with fail
        have B := Lib.hid (DV.new (Below.refl w.heap.size w) 23 y m d)
        refine (up_any _ (by first | exact HL.out.below B.out.1 | exact HL.out.below B.out | exact HL.out.below B0.out.1 | exact HL.out | exact HL.out.below B1.out.1 | exact HL.out.below B2.out.1 | exact HL.out.below B3.out.1 | exact HL.out.below (B.out.below (by first | exact Below.refl _ _ | exact (Below.refl _ _).drew)).1)).mono ?_; rintro e w1 ⟨rfl, hb⟩; have B := Lib.hid (B.out.below hb); clear hb; obtain ⟨-, -, -, ⟨c0, c1, c2⟩, -⟩ := B.out
        go_wp2_with fail
        refine (cmon_yes y m d a HM.out ⟨by omega, by omega⟩ _ (by first | exact HL.out.below B.out.1 | exact HL.out.below B.out | exact HL.out.below B0.out.1 | exact HL.out | exact HL.out.below B1.out.1 | exact HL.out.below B2.out.1 | exact HL.out.below B3.out.1 | exact HL.out.below (B.out.below (by first | exact Below.refl _ _ | exact (Below.refl _ _).drew)).1)).mono ?_; rintro e w2 ⟨rfl, hb⟩; rw [HA.out.1, HA.out.2]; have B := Lib.hid (B.out.below hb); clear hb
        have BX := Lib.hid (DV.new B.out.1 23 Y M d)
        have B := Lib.hid (B.out.alloc (.cells #[.int .i64 Y, .int .i64 M, .int .i64 d] 23))
        obtain ⟨-, -, -, ⟨c0, c1, c2⟩, -⟩ := B.out
        obtain ⟨-, -, -, ⟨x0, x1, x2⟩, -⟩ := BX.out
        go_wp2_with fail
        refine (cmon_yes Y M d b HX.out ⟨by omega, by omega⟩ _ (by first | exact HL.out.below B.out.1 | exact HL.out.below B.out | exact HL.out.below B0.out.1 | exact HL.out | exact HL.out.below B1.out.1 | exact HL.out.below B2.out.1 | exact HL.out.below B3.out.1 | exact HL.out.below (B.out.below (by first | exact Below.refl _ _ | exact (Below.refl _ _).drew)).1)).mono ?_; rintro e w3 ⟨rfl, hb⟩; rw [HB.out.1, HB.out.2]; have B := Lib.hid (B.out.below hb); have BX := Lib.hid (BX.out.below hb); clear hb
        have BY := Lib.hid (DV.new B.out.1 23 U V d)
        have B := Lib.hid (B.out.alloc (.cells #[.int .i64 U, .int .i64 V, .int .i64 d] 23))
        have BX := Lib.hid (BX.out.alloc (.cells #[.int .i64 U, .int .i64 V, .int .i64 d] 23))
        obtain ⟨-, -, -, ⟨c0, c1, c2⟩, -⟩ := B.out
        go_wp2_with fail
        refine (cmon_yes y m d (a + b) HM.out ⟨by omega, by omega⟩ _ (by first | exact HL.out.below B.out.1 | exact HL.out.below B.out | exact HL.out.below B0.out.1 | exact HL.out | exact HL.out.below B1.out.1 | exact HL.out.below B2.out.1 | exact HL.out.below B3.out.1 | exact HL.out.below (B.out.below (by first | exact Below.refl _ _ | exact (Below.refl _ _).drew)).1)).mono ?_; rintro e w4 ⟨rfl, hb⟩; rw [HZ.out.1, HZ.out.2]; have B := Lib.hid (B.out.below hb); have BY := Lib.hid (BY.out.below hb); clear hb
        have BZ := Lib.hid (DV.new B.out.1 23 U V d)
        have BY := Lib.hid (BY.out.alloc (.cells #[.int .i64 U, .int .i64 V, .int .i64 d] 23))
        obtain ⟨-, -, -, ⟨k0, k1, k2⟩, -⟩ := BY.out
        obtain ⟨-, -, -, ⟨j0, j1, j2⟩, -⟩ := BZ.out
        go_wp2_with fail
        go_quiet (fail)
        have BZ := Lib.hid (BZ.out.below (below_drewN _ _ nq))
        go_wp2_with fail
        all_goals
          go_ret
          exact ⟨by simp, BZ.out.1⟩
      · have HB := Lib.hid (mvv_none (d := d) (mt s2.1 hb))
        have HZ := Lib.hid (mvv_none (d := d) hb)
        generalize Dt.my y m a = Y at *
        generalize Dt.mm y m a = M at *
        have HX := Lib.hid s1
        clear hm ha hb s1 s2 s3
        go_enter Tryd.func7, Tryd.ntmps7
        go_wp2_with fail
        have B := Lib.hid (DV.new (Below.refl w.heap.size w) 23 y m d)
        refine (up_any _ (by first | exact HL.out.below B.out.1 | exact HL.out.below B.out | exact HL.out.below B0.out.1 | exact HL.out | exact HL.out.below B1.out.1 | exact HL.out.below B2.out.1 | exact HL.out.below B3.out.1 | exact HL.out.below (B.out.below (by first | exact Below.refl _ _ | exact (Below.refl _ _).drew)).1)).mono ?_; rintro e w1 ⟨rfl, hb⟩; have B := Lib.hid (B.out.below hb); clear hb; obtain ⟨-, -, -, ⟨c0, c1, c2⟩, -⟩ := B.out
        go_wp2_with fail
        refine (cmon_yes y m d a HM.out ⟨by omega, by omega⟩ _ (by first | exact HL.out.below B.out.1 | exact HL.out.below B.out | exact HL.out.below B0.out.1 | exact HL.out | exact HL.out.below B1.out.1 | exact HL.out.below B2.out.1 | exact HL.out.below B3.out.1 | exact HL.out.below (B.out.below (by first | exact Below.refl _ _ | exact (Below.refl _ _).drew)).1)).mono ?_; rintro e w2 ⟨rfl, hb⟩; rw [HA.out.1, HA.out.2]; have B := Lib.hid (B.out.below hb); clear hb
        have BX := Lib.hid (DV.new B.out.1 23 Y M d)
        have B := Lib.hid (B.out.alloc (.cells #[.int .i64 Y, .int .i64 M, .int .i64 d] 23))
        obtain ⟨-, -, -, ⟨c0, c1, c2⟩, -⟩ := B.out
        obtain ⟨-, -, -, ⟨x0, x1, x2⟩, -⟩ := BX.out
        go_wp2_with fail
        refine (cmon_yes Y M d b HX.out ⟨by omega, by omega⟩ _ (by first | exact HL.out.below B.out.1 | exact HL.out.below B.out | exact HL.out.below B0.out.1 | exact HL.out | exact HL.out.below B1.out.1 | exact HL.out.below B2.out.1 | exact HL.out.below B3.out.1 | exact HL.out.below (B.out.below (by first | exact Below.refl _ _ | exact (Below.refl _ _).drew)).1)).mono ?_; rintro e w3 ⟨rfl, hb⟩; rw [HB.out.1, HB.out.2]; have B := Lib.hid (B.out.below hb); have BX := Lib.hid (BX.out.below hb); clear hb
        have BY := Lib.hid (DV.new B.out.1 23 0 0 0)
        have B := Lib.hid (B.out.alloc (.cells #[.int .i64 0, .int .i64 0, .int .i64 0] 23))
        have BX := Lib.hid (BX.out.alloc (.cells #[.int .i64 0, .int .i64 0, .int .i64 0] 23))
        obtain ⟨-, -, -, ⟨c0, c1, c2⟩, -⟩ := B.out
        go_wp2_with fail
        refine (cmon_yes y m d (a + b) HM.out ⟨by omega, by omega⟩ _ (by first | exact HL.out.below B.out.1 | exact HL.out.below B.out | exact HL.out.below B0.out.1 | exact HL.out | exact HL.out.below B1.out.1 | exact HL.out.below B2.out.1 | exact HL.out.below B3.out.1 | exact HL.out.below (B.out.below (by first | exact Below.refl _ _ | exact (Below.refl _ _).drew)).1)).mono ?_; rintro e w4 ⟨rfl, hb⟩; rw [HZ.out.1, HZ.out.2]; have B := Lib.hid (B.out.below hb); have BY := Lib.hid (BY.out.below hb); clear hb
        have BZ := Lib.hid (DV.new B.out.1 23 0 0 0)
        have BY := Lib.hid (BY.out.alloc (.cells #[.int .i64 0, .int .i64 0, .int .i64 0] 23))
        obtain ⟨-, -, -, ⟨k0, k1, k2⟩, -⟩ := BY.out
        obtain ⟨-, -, -, ⟨j0, j1, j2⟩, -⟩ := BZ.out
        go_wp2_with fail
        go_quiet (fail)
        have BZ := Lib.hid (BZ.out.below (below_drewN _ _ nq))
        go_wp2_with fail
        all_goals
          go_ret
          exact ⟨by simp, BZ.out.1⟩
    · have HA := Lib.hid (mvv_none (d := d) ha)
      clear hm ha
      go_enter Tryd.func7, Tryd.ntmps7
      go_wp2_with fail
      have B := Lib.hid (DV.new (Below.refl w.heap.size w) 23 y m d)
      refine (up_any _ (by first | exact HL.out.below B.out.1 | exact HL.out.below B.out | exact HL.out.below B0.out.1 | exact HL.out | exact HL.out.below B1.out.1 | exact HL.out.below B2.out.1 | exact HL.out.below B3.out.1 | exact HL.out.below (B.out.below (by first | exact Below.refl _ _ | exact (Below.refl _ _).drew)).1)).mono ?_; rintro e w1 ⟨rfl, hb⟩; have B := Lib.hid (B.out.below hb); clear hb; obtain ⟨-, -, -, ⟨c0, c1, c2⟩, -⟩ := B.out
      go_wp2_with fail
      refine (cmon_yes y m d a HM.out ⟨by omega, by omega⟩ _ (by first | exact HL.out.below B.out.1 | exact HL.out.below B.out | exact HL.out.below B0.out.1 | exact HL.out | exact HL.out.below B1.out.1 | exact HL.out.below B2.out.1 | exact HL.out.below B3.out.1 | exact HL.out.below (B.out.below (by first | exact Below.refl _ _ | exact (Below.refl _ _).drew)).1)).mono ?_; rintro e w2 ⟨rfl, hb⟩; rw [HA.out.1, HA.out.2]; have B := Lib.hid (B.out.below hb); clear hb
      have B := Lib.hid (B.out.alloc (.cells #[.int .i64 0, .int .i64 0, .int .i64 0] 23))
      go_wp2_with fail
      all_goals
        go_ret
        exact ⟨by simp, B.out.1⟩
  · have HM := Lib.hid hm
    clear hm
    go_enter Tryd.func7, Tryd.ntmps7
    go_wp2_with fail
    have B := Lib.hid (DV.new (Below.refl w.heap.size w) 23 y m d)
    refine (up_any _ (by first | exact HL.out.below B.out.1 | exact HL.out.below B.out | exact HL.out.below B0.out.1 | exact HL.out | exact HL.out.below B1.out.1 | exact HL.out.below B2.out.1 | exact HL.out.below B3.out.1 | exact HL.out.below (B.out.below (by first | exact Below.refl _ _ | exact (Below.refl _ _).drew)).1)).mono ?_; rintro e w1 ⟨rfl, hb⟩; have B := Lib.hid (B.out.below hb); clear hb; obtain ⟨-, -, -, ⟨c0, c1, c2⟩, -⟩ := B.out
    go_wp2_with fail
    refine (cmon_no y m d a HM.out _ (by first | exact HL.out.below B.out.1 | exact HL.out.below B.out | exact HL.out.below B0.out.1 | exact HL.out | exact HL.out.below B1.out.1 | exact HL.out.below B2.out.1 | exact HL.out.below B3.out.1 | exact HL.out.below (B.out.below (by first | exact Below.refl _ _ | exact (Below.refl _ _).drew)).1)).mono ?_; rintro e w2 ⟨rfl, hb⟩; have B := Lib.hid (B.out.below hb); clear hb
    have B := Lib.hid (B.out.alloc (.cells #[.int .i64 0, .int .i64 0, .int .i64 0] 23))
    go_wp2_with fail
    all_goals
      go_ret
      exact ⟨by simp, B.out.1⟩
end Go.Proofs.YthnhfilackghgaaDoor
