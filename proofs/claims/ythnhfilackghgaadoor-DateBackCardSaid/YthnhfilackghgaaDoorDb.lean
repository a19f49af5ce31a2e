import Derived.Test.YthnhfilackghgaaDoorDl
namespace Go.Proofs.YthnhfilackghgaaDoor
open Go.RowKit Go.Lib Go.ChangeShapes Go.WideShapes Go.ChangeAt

/- written by wip/tools/gen_db.py -/
set_option maxHeartbeats 1200000 in
set_option maxRecDepth 100000 in
theorem back_walk (n : Int) (hn : -9223372036854775808 ≤ n ∧ n ≤ 9223372036854775807) (w : World) (hL : Laid w) : Calls Tryd.prog 6 #[.int .i64 n] w fun e w' => e = .returned (.bool true) ∧ Below w.heap.size w w' := by
  have HL := Lib.hid hL
  clear hL
  have HN := Lib.hid hn
  clear hn
  have HR : Hid (n < -25567 ∨ 84005 < n) ∨ Hid (∃ Y M D, Dt.May Y M D ∧ Dt.nm Y M D = n) := by
    by_cases h : n < -25567 ∨ 84005 < n
    · exact .inl (Lib.hid h)
    · exact .inr (Lib.hid (Dt.exists_day (by omega) (by omega)))
  rcases HR with HR | HR
  · go_enter Tryd.func6, Tryd.ntmps6
    have B := Lib.hid (Below.refl w.heap.size w)
    go_wp2_with fail
    refine (up_any _ (by first | exact HL.out.below B.out.1 | exact HL.out.below B.out | exact HL.out.below B0.out.1 | exact HL.out | exact HL.out.below B1.out.1 | exact HL.out.below B2.out.1 | exact HL.out.below B3.out.1 | exact HL.out.below (B.out.below (by first | exact Below.refl _ _ | exact (Below.refl _ _).drew)).1)).mono ?_; rintro e w1 ⟨rfl, hb⟩; have B := Lib.hid (ext B.out hb); clear hb
    go_wp2_with fail
    refine (cof_no n HR.out HN.out _ (by first | exact HL.out.below B.out.1 | exact HL.out.below B.out | exact HL.out.below B0.out.1 | exact HL.out | exact HL.out.below B1.out.1 | exact HL.out.below B2.out.1 | exact HL.out.below B3.out.1 | exact HL.out.below (B.out.below (by first | exact Below.refl _ _ | exact (Below.refl _ _).drew)).1)).mono ?_; rintro e w2 ⟨rfl, hb⟩; have B := Lib.hid (ext B.out hb); clear hb
    have BD := Lib.hid (DV.new B.out 23 0 0 0)
    go_wp2_with fail
    go_ret
    exact ⟨by simp, BD.out.1⟩
  · obtain ⟨y, m, d, hM, hd⟩ := HR.out
    have HM := Lib.hid hM
    have HNB := Lib.hid (Dt.nm_bd hM)
    clear hM HR
    generalize n = N at *
    have HNM := Lib.hid hd
    have z12 : -25567 ≤ N ∧ N ≤ 84005 := by have := HNB.out; rw [HNM.out] at this; exact this
    obtain ⟨z1, z2⟩ := z12
    clear hd
    obtain ⟨W, hW⟩ : ∃ W, (N + 4) % 7 = W := ⟨_, rfl⟩
    have HWW := Lib.hid hW
    have z34 : 0 ≤ W ∧ W < 7 := by omega
    obtain ⟨z3, z4⟩ := z34
    have z5 : (W + 1).tmod 7 = (N + 1 + 4) % 7 := by rw [Int.tmod_eq_emod_of_nonneg (by omega)]; omega
    clear hW
    obtain ⟨V, hV⟩ : ∃ V, (N + 1 + 4) % 7 = V := ⟨_, rfl⟩
    rw [hV] at z5
    have HV := Lib.hid hV
    clear hV
    have HB := Lib.hid (Dt.may_in HM.out)
    have HND := Lib.hid (Dt.next_day HM.out)
    have hy1 : 1900 ≤ y := HB.out.1.1
    have hy2 : y ≤ 2199 := HB.out.1.2
    have hm1 : 1 ≤ m := HB.out.2.1
    have hm2 : m ≤ 12 := HB.out.2.2
    have hd1 : 1 ≤ d := HM.out.1
    have hd2 : d ≤ 31 := by have := HM.out.2; have := Dt.dys_nn y m; omega
    by_cases h1 : d < Dt.dys y m
    · have HT := Lib.hid (HND.out.1 h1)
      rw [HNM.out] at HT
      go_enter Tryd.func6, Tryd.ntmps6
      have B := Lib.hid (Below.refl w.heap.size w)
      go_wp2_with fail
      refine (up_any _ (by first | exact HL.out.below B.out.1 | exact HL.out.below B.out | exact HL.out.below B0.out.1 | exact HL.out | exact HL.out.below B1.out.1 | exact HL.out.below B2.out.1 | exact HL.out.below B3.out.1 | exact HL.out.below (B.out.below (by first | exact Below.refl _ _ | exact (Below.refl _ _).drew)).1)).mono ?_; rintro e w1 ⟨rfl, hb⟩; have B := Lib.hid (ext B.out hb); clear hb
      go_wp2_with fail
      rw [← HNM.out]
      refine (cof_yes y m d HM.out _ (by first | exact HL.out.below B.out.1 | exact HL.out.below B.out | exact HL.out.below B0.out.1 | exact HL.out | exact HL.out.below B1.out.1 | exact HL.out.below B2.out.1 | exact HL.out.below B3.out.1 | exact HL.out.below (B.out.below (by first | exact Below.refl _ _ | exact (Below.refl _ _).drew)).1)).mono ?_; rintro e w2 ⟨rfl, hb⟩; have B := Lib.hid (ext B.out hb); clear hb
      have BD := Lib.hid (DV.new B.out 23 y m d)
      have B := Lib.hid (BD.out.1)
      obtain ⟨-, -, -, ⟨c0, c1, c2⟩, -⟩ := BD.out
      go_wp2_with fail
      refine (cnum_yes y m d HM.out _ (by first | exact HL.out.below B.out.1 | exact HL.out.below B.out | exact HL.out.below B0.out.1 | exact HL.out | exact HL.out.below B1.out.1 | exact HL.out.below B2.out.1 | exact HL.out.below B3.out.1 | exact HL.out.below (B.out.below (by first | exact Below.refl _ _ | exact (Below.refl _ _).drew)).1)).mono ?_; rintro e w3 ⟨rfl, hb⟩; rw [HNM.out]; have B := Lib.hid (ext B.out hb); have BD := Lib.hid (BD.out.below hb); clear hb
      obtain ⟨-, -, -, ⟨c0, c1, c2⟩, -⟩ := BD.out
      go_wp2_with fail
      refine (cwd_yes y m d HM.out _ (by first | exact HL.out.below B.out.1 | exact HL.out.below B.out | exact HL.out.below B0.out.1 | exact HL.out | exact HL.out.below B1.out.1 | exact HL.out.below B2.out.1 | exact HL.out.below B3.out.1 | exact HL.out.below (B.out.below (by first | exact Below.refl _ _ | exact (Below.refl _ _).drew)).1)).mono ?_; rintro e w4 ⟨rfl, hb⟩; rw [HNM.out, HWW.out]; have B := Lib.hid (ext B.out hb); have BD := Lib.hid (BD.out.below hb); clear hb
      obtain ⟨-, -, -, ⟨c0, c1, c2⟩, -⟩ := BD.out
      go_wp2_with fail
      rw [← HT.out.2]
      refine (cof_yes y m (d + 1) HT.out.1 _ (by first | exact HL.out.below B.out.1 | exact HL.out.below B.out | exact HL.out.below B0.out.1 | exact HL.out | exact HL.out.below B1.out.1 | exact HL.out.below B2.out.1 | exact HL.out.below B3.out.1 | exact HL.out.below (B.out.below (by first | exact Below.refl _ _ | exact (Below.refl _ _).drew)).1)).mono ?_; rintro e w5 ⟨rfl, hb⟩; have B := Lib.hid (ext B.out hb); have BD := Lib.hid (BD.out.below hb); clear hb
      have BT := Lib.hid (DV.new B.out 23 y m (d + 1))
      have BD := Lib.hid (BD.out.alloc (.cells #[.int .i64 y, .int .i64 m, .int .i64 (d + 1)] 23))
      have B := Lib.hid (BT.out.1)
      obtain ⟨-, -, -, ⟨c0, c1, c2⟩, -⟩ := BD.out
      obtain ⟨-, -, -, ⟨t0, t1, t2⟩, -⟩ := BT.out
      go_wp2_with fail
      refine (cwd_yes y m (d + 1) HT.out.1 _ (by first | exact HL.out.below B.out.1 | exact HL.out.below B.out | exact HL.out.below B0.out.1 | exact HL.out | exact HL.out.below B1.out.1 | exact HL.out.below B2.out.1 | exact HL.out.below B3.out.1 | exact HL.out.below (B.out.below (by first | exact Below.refl _ _ | exact (Below.refl _ _).drew)).1)).mono ?_; rintro e w6 ⟨rfl, hb⟩; rw [HT.out.2, HV.out]; have B := Lib.hid (ext B.out hb); have BD := Lib.hid (BD.out.below hb); have BT := Lib.hid (BT.out.below hb); clear hb
      obtain ⟨-, -, -, ⟨c0, c1, c2⟩, -⟩ := BD.out
      obtain ⟨-, -, -, ⟨t0, t1, t2⟩, -⟩ := BT.out
      go_wp2_with fail
      dsimp only [List.append]
      go_quiet (fail)
      have B := Lib.hid (ext B.out (below_drewN _ _ nq))
      go_wp2_with fail
      go_ret
      exact ⟨by simp, B.out⟩
    · have h2 : d = Dt.dys y m := by have := HM.out.2; omega
      by_cases h3 : m < 12
      · have HT := Lib.hid (HND.out.2.1 h2 h3)
        rw [HNM.out] at HT
        have k1 : (m + 1 == m) = false := by simp; omega
        have H2 := Lib.hid h2
        clear h2 h1
        go_enter Tryd.func6, Tryd.ntmps6
        have B := Lib.hid (Below.refl w.heap.size w)
        go_wp2_with fail
        refine (up_any _ (by first | exact HL.out.below B.out.1 | exact HL.out.below B.out | exact HL.out.below B0.out.1 | exact HL.out | exact HL.out.below B1.out.1 | exact HL.out.below B2.out.1 | exact HL.out.below B3.out.1 | exact HL.out.below (B.out.below (by first | exact Below.refl _ _ | exact (Below.refl _ _).drew)).1)).mono ?_; rintro e w1 ⟨rfl, hb⟩; have B := Lib.hid (ext B.out hb); clear hb
        go_wp2_with fail
        rw [← HNM.out]
        refine (cof_yes y m d HM.out _ (by first | exact HL.out.below B.out.1 | exact HL.out.below B.out | exact HL.out.below B0.out.1 | exact HL.out | exact HL.out.below B1.out.1 | exact HL.out.below B2.out.1 | exact HL.out.below B3.out.1 | exact HL.out.below (B.out.below (by first | exact Below.refl _ _ | exact (Below.refl _ _).drew)).1)).mono ?_; rintro e w2 ⟨rfl, hb⟩; have B := Lib.hid (ext B.out hb); clear hb
        have BD := Lib.hid (DV.new B.out 23 y m d)
        have B := Lib.hid (BD.out.1)
        obtain ⟨-, -, -, ⟨c0, c1, c2⟩, -⟩ := BD.out
        go_wp2_with fail
        refine (cnum_yes y m d HM.out _ (by first | exact HL.out.below B.out.1 | exact HL.out.below B.out | exact HL.out.below B0.out.1 | exact HL.out | exact HL.out.below B1.out.1 | exact HL.out.below B2.out.1 | exact HL.out.below B3.out.1 | exact HL.out.below (B.out.below (by first | exact Below.refl _ _ | exact (Below.refl _ _).drew)).1)).mono ?_; rintro e w3 ⟨rfl, hb⟩; rw [HNM.out]; have B := Lib.hid (ext B.out hb); have BD := Lib.hid (BD.out.below hb); clear hb
        obtain ⟨-, -, -, ⟨c0, c1, c2⟩, -⟩ := BD.out
        go_wp2_with fail
        refine (cwd_yes y m d HM.out _ (by first | exact HL.out.below B.out.1 | exact HL.out.below B.out | exact HL.out.below B0.out.1 | exact HL.out | exact HL.out.below B1.out.1 | exact HL.out.below B2.out.1 | exact HL.out.below B3.out.1 | exact HL.out.below (B.out.below (by first | exact Below.refl _ _ | exact (Below.refl _ _).drew)).1)).mono ?_; rintro e w4 ⟨rfl, hb⟩; rw [HNM.out, HWW.out]; have B := Lib.hid (ext B.out hb); have BD := Lib.hid (BD.out.below hb); clear hb
        obtain ⟨-, -, -, ⟨c0, c1, c2⟩, -⟩ := BD.out
        go_wp2_with fail
        rw [← HT.out.2]
        refine (cof_yes y (m + 1) 1 HT.out.1 _ (by first | exact HL.out.below B.out.1 | exact HL.out.below B.out | exact HL.out.below B0.out.1 | exact HL.out | exact HL.out.below B1.out.1 | exact HL.out.below B2.out.1 | exact HL.out.below B3.out.1 | exact HL.out.below (B.out.below (by first | exact Below.refl _ _ | exact (Below.refl _ _).drew)).1)).mono ?_; rintro e w5 ⟨rfl, hb⟩; have B := Lib.hid (ext B.out hb); have BD := Lib.hid (BD.out.below hb); clear hb
        have BT := Lib.hid (DV.new B.out 23 y (m + 1) 1)
        have BD := Lib.hid (BD.out.alloc (.cells #[.int .i64 y, .int .i64 (m + 1), .int .i64 1] 23))
        have B := Lib.hid (BT.out.1)
        obtain ⟨-, -, -, ⟨c0, c1, c2⟩, -⟩ := BD.out
        obtain ⟨-, -, -, ⟨t0, t1, t2⟩, -⟩ := BT.out
        go_wp2_with fail
        refine (cwd_yes y (m + 1) 1 HT.out.1 _ (by first | exact HL.out.below B.out.1 | exact HL.out.below B.out | exact HL.out.below B0.out.1 | exact HL.out | exact HL.out.below B1.out.1 | exact HL.out.below B2.out.1 | exact HL.out.below B3.out.1 | exact HL.out.below (B.out.below (by first | exact Below.refl _ _ | exact (Below.refl _ _).drew)).1)).mono ?_; rintro e w6 ⟨rfl, hb⟩; rw [HT.out.2, HV.out]; have B := Lib.hid (ext B.out hb); have BD := Lib.hid (BD.out.below hb); have BT := Lib.hid (BT.out.below hb); clear hb
        obtain ⟨-, -, -, ⟨c0, c1, c2⟩, -⟩ := BD.out
        obtain ⟨-, -, -, ⟨t0, t1, t2⟩, -⟩ := BT.out
        go_wp2_with fail
        have HQ := Lib.hid (fun (n : Nat) => cdays_q y m _ (HL.out.below B.out) n)
        rw [← H2.out] at HQ
        dsimp only [List.append]
        go_quiet ((go_at_call 11; exact Calls.quiet_of (HQ.out _)))
        have B := Lib.hid (ext B.out (below_drewN _ _ nq))
        go_wp2_with fail
        go_ret
        exact ⟨by simp, B.out⟩
      · have h4 : m = 12 := by omega
        by_cases h5 : y < 2199
        · have HT := Lib.hid (HND.out.2.2 h2 h4 h5)
          rw [HNM.out] at HT
          have k1 : (y + 1 == y) = false := by simp; omega
          have h6 : d = 31 := by rw [h2, h4, Dt.dys_in HB.out.1 ⟨by decide, by decide⟩]; simp
          subst h4; subst h6
          clear h2
          go_enter Tryd.func6, Tryd.ntmps6
          have B := Lib.hid (Below.refl w.heap.size w)
          go_wp2_with fail
          refine (up_any _ (by first | exact HL.out.below B.out.1 | exact HL.out.below B.out | exact HL.out.below B0.out.1 | exact HL.out | exact HL.out.below B1.out.1 | exact HL.out.below B2.out.1 | exact HL.out.below B3.out.1 | exact HL.out.below (B.out.below (by first | exact Below.refl _ _ | exact (Below.refl _ _).drew)).1)).mono ?_; rintro e w1 ⟨rfl, hb⟩; have B := Lib.hid (ext B.out hb); clear hb
          go_wp2_with fail
          rw [← HNM.out]
          refine (cof_yes y 12 31 HM.out _ (by first | exact HL.out.below B.out.1 | exact HL.out.below B.out | exact HL.out.below B0.out.1 | exact HL.out | exact HL.out.below B1.out.1 | exact HL.out.below B2.out.1 | exact HL.out.below B3.out.1 | exact HL.out.below (B.out.below (by first | exact Below.refl _ _ | exact (Below.refl _ _).drew)).1)).mono ?_; rintro e w2 ⟨rfl, hb⟩; have B := Lib.hid (ext B.out hb); clear hb
          have BD := Lib.hid (DV.new B.out 23 y 12 31)
          have B := Lib.hid (BD.out.1)
          obtain ⟨-, -, -, ⟨c0, c1, c2⟩, -⟩ := BD.out
          go_wp2_with fail
          refine (cnum_yes y 12 31 HM.out _ (by first | exact HL.out.below B.out.1 | exact HL.out.below B.out | exact HL.out.below B0.out.1 | exact HL.out | exact HL.out.below B1.out.1 | exact HL.out.below B2.out.1 | exact HL.out.below B3.out.1 | exact HL.out.below (B.out.below (by first | exact Below.refl _ _ | exact (Below.refl _ _).drew)).1)).mono ?_; rintro e w3 ⟨rfl, hb⟩; rw [HNM.out]; have B := Lib.hid (ext B.out hb); have BD := Lib.hid (BD.out.below hb); clear hb
          obtain ⟨-, -, -, ⟨c0, c1, c2⟩, -⟩ := BD.out
          go_wp2_with fail
          refine (cwd_yes y 12 31 HM.out _ (by first | exact HL.out.below B.out.1 | exact HL.out.below B.out | exact HL.out.below B0.out.1 | exact HL.out | exact HL.out.below B1.out.1 | exact HL.out.below B2.out.1 | exact HL.out.below B3.out.1 | exact HL.out.below (B.out.below (by first | exact Below.refl _ _ | exact (Below.refl _ _).drew)).1)).mono ?_; rintro e w4 ⟨rfl, hb⟩; rw [HNM.out, HWW.out]; have B := Lib.hid (ext B.out hb); have BD := Lib.hid (BD.out.below hb); clear hb
          obtain ⟨-, -, -, ⟨c0, c1, c2⟩, -⟩ := BD.out
          go_wp2_with fail
          rw [← HT.out.2]
          refine (cof_yes (y + 1) 1 1 HT.out.1 _ (by first | exact HL.out.below B.out.1 | exact HL.out.below B.out | exact HL.out.below B0.out.1 | exact HL.out | exact HL.out.below B1.out.1 | exact HL.out.below B2.out.1 | exact HL.out.below B3.out.1 | exact HL.out.below (B.out.below (by first | exact Below.refl _ _ | exact (Below.refl _ _).drew)).1)).mono ?_; rintro e w5 ⟨rfl, hb⟩; have B := Lib.hid (ext B.out hb); have BD := Lib.hid (BD.out.below hb); clear hb
          have BT := Lib.hid (DV.new B.out 23 (y + 1) 1 1)
          have BD := Lib.hid (BD.out.alloc (.cells #[.int .i64 (y + 1), .int .i64 1, .int .i64 1] 23))
          have B := Lib.hid (BT.out.1)
          obtain ⟨-, -, -, ⟨c0, c1, c2⟩, -⟩ := BD.out
          obtain ⟨-, -, -, ⟨t0, t1, t2⟩, -⟩ := BT.out
          go_wp2_with fail
          refine (cwd_yes (y + 1) 1 1 HT.out.1 _ (by first | exact HL.out.below B.out.1 | exact HL.out.below B.out | exact HL.out.below B0.out.1 | exact HL.out | exact HL.out.below B1.out.1 | exact HL.out.below B2.out.1 | exact HL.out.below B3.out.1 | exact HL.out.below (B.out.below (by first | exact Below.refl _ _ | exact (Below.refl _ _).drew)).1)).mono ?_; rintro e w6 ⟨rfl, hb⟩; rw [HT.out.2, HV.out]; have B := Lib.hid (ext B.out hb); have BD := Lib.hid (BD.out.below hb); have BT := Lib.hid (BT.out.below hb); clear hb
          obtain ⟨-, -, -, ⟨c0, c1, c2⟩, -⟩ := BD.out
          obtain ⟨-, -, -, ⟨t0, t1, t2⟩, -⟩ := BT.out
          go_wp2_with fail
          dsimp only [List.append]
          go_quiet (fail)
          have B := Lib.hid (ext B.out (below_drewN _ _ nq))
          go_wp2_with fail
          go_ret
          exact ⟨by simp, B.out⟩
        · have h6 : d = 31 := by rw [h2, h4, Dt.dys_in HB.out.1 ⟨by decide, by decide⟩]; simp
          have h7 : y = 2199 := by omega
          subst h4; subst h6; subst h7
          clear h2
          have HT := Lib.hid (show N = 84005 by rw [← HNM.out]; exact Dt.last_is)
          go_enter Tryd.func6, Tryd.ntmps6
          have B := Lib.hid (Below.refl w.heap.size w)
          go_wp2_with fail
          refine (up_any _ (by first | exact HL.out.below B.out.1 | exact HL.out.below B.out | exact HL.out.below B0.out.1 | exact HL.out | exact HL.out.below B1.out.1 | exact HL.out.below B2.out.1 | exact HL.out.below B3.out.1 | exact HL.out.below (B.out.below (by first | exact Below.refl _ _ | exact (Below.refl _ _).drew)).1)).mono ?_; rintro e w1 ⟨rfl, hb⟩; have B := Lib.hid (ext B.out hb); clear hb
          go_wp2_with fail
          rw [← HNM.out]
          refine (cof_yes 2199 12 31 HM.out _ (by first | exact HL.out.below B.out.1 | exact HL.out.below B.out | exact HL.out.below B0.out.1 | exact HL.out | exact HL.out.below B1.out.1 | exact HL.out.below B2.out.1 | exact HL.out.below B3.out.1 | exact HL.out.below (B.out.below (by first | exact Below.refl _ _ | exact (Below.refl _ _).drew)).1)).mono ?_; rintro e w2 ⟨rfl, hb⟩; have B := Lib.hid (ext B.out hb); clear hb
          have BD := Lib.hid (DV.new B.out 23 2199 12 31)
          have B := Lib.hid (BD.out.1)
          obtain ⟨-, -, -, ⟨c0, c1, c2⟩, -⟩ := BD.out
          go_wp2_with fail
          refine (cnum_yes 2199 12 31 HM.out _ (by first | exact HL.out.below B.out.1 | exact HL.out.below B.out | exact HL.out.below B0.out.1 | exact HL.out | exact HL.out.below B1.out.1 | exact HL.out.below B2.out.1 | exact HL.out.below B3.out.1 | exact HL.out.below (B.out.below (by first | exact Below.refl _ _ | exact (Below.refl _ _).drew)).1)).mono ?_; rintro e w3 ⟨rfl, hb⟩; rw [HNM.out]; have B := Lib.hid (ext B.out hb); have BD := Lib.hid (BD.out.below hb); clear hb
          obtain ⟨-, -, -, ⟨c0, c1, c2⟩, -⟩ := BD.out
          go_wp2_with fail
          refine (cwd_yes 2199 12 31 HM.out _ (by first | exact HL.out.below B.out.1 | exact HL.out.below B.out | exact HL.out.below B0.out.1 | exact HL.out | exact HL.out.below B1.out.1 | exact HL.out.below B2.out.1 | exact HL.out.below B3.out.1 | exact HL.out.below (B.out.below (by first | exact Below.refl _ _ | exact (Below.refl _ _).drew)).1)).mono ?_; rintro e w4 ⟨rfl, hb⟩; rw [HNM.out, HWW.out]; have B := Lib.hid (ext B.out hb); have BD := Lib.hid (BD.out.below hb); clear hb
          obtain ⟨-, -, -, ⟨c0, c1, c2⟩, -⟩ := BD.out
          go_wp2_with fail
          refine (cof_no (N + 1) (by have := HT.out; omega) (by have := HT.out; omega) _ (by first | exact HL.out.below B.out.1 | exact HL.out.below B.out | exact HL.out.below B0.out.1 | exact HL.out | exact HL.out.below B1.out.1 | exact HL.out.below B2.out.1 | exact HL.out.below B3.out.1 | exact HL.out.below (B.out.below (by first | exact Below.refl _ _ | exact (Below.refl _ _).drew)).1)).mono ?_; rintro e w5 ⟨rfl, hb⟩; have B := Lib.hid (ext B.out hb); have BD := Lib.hid (BD.out.below hb); clear hb
          have BT := Lib.hid (DV.new B.out 23 0 0 0)
          have BD := Lib.hid (BD.out.alloc (.cells #[.int .i64 0, .int .i64 0, .int .i64 0] 23))
          have B := Lib.hid (BT.out.1)
          obtain ⟨-, -, -, ⟨c0, c1, c2⟩, -⟩ := BD.out
          obtain ⟨-, -, -, ⟨t0, t1, t2⟩, -⟩ := BT.out
          go_wp2_with fail
          go_ret
          exact ⟨by simp, B.out⟩
end Go.Proofs.YthnhfilackghgaaDoor
