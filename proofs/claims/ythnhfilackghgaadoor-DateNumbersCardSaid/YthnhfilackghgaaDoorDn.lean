import Derived.Test.YthnhfilackghgaaDoorDl
namespace Go.Proofs.YthnhfilackghgaaDoor
open Go.RowKit Go.Lib Go.ChangeShapes Go.WideShapes Go.ChangeAt

/- written by wip/tools/gen_dn.py -/
theorem numbers_walk (y m d n : Int) (hn : -9223372036854775808 ≤ n ∧ n ≤ 9223372036854775807) (w : World) (hL : Laid w) : Calls Tryd.prog 4 #[dv y m d, .int .i64 n] w fun e w' => e = .returned (.bool true) ∧ Below w.heap.size w w' := by
  have HL := Lib.hid hL
  clear hL
  have HN := Lib.hid hn
  clear hn
  have q1 := eqE1
  have q2 := eqE2
  have q3 := neE2
  have HR : Hid (n < -25567 ∨ 84005 < n) ∨ Hid (∃ Y M D, Dt.May Y M D ∧ Dt.nm Y M D = n) := by
    by_cases h : n < -25567 ∨ 84005 < n
    · exact .inl (Lib.hid h)
    · exact .inr (Lib.hid (Dt.exists_day (by omega) (by omega)))
  by_cases hm : Dt.May y m d
  · have HM := Lib.hid hm
    clear hm
    rcases HR with HR | HR
    · go_enter Tryd.func4, Tryd.ntmps4
      go_wp2_with fail
      have B := Lib.hid (DV.new (Below.refl w.heap.size w) 23 y m d)
      refine (up_any _ (by first | exact HL.out.below B.out.1 | exact HL.out.below B.out | exact HL.out.below B0.out.1 | exact HL.out | exact HL.out.below B1.out.1 | exact HL.out.below B2.out.1 | exact HL.out.below B3.out.1 | exact HL.out.below (B.out.below (by first | exact Below.refl _ _ | exact (Below.refl _ _).drew)).1)).mono ?_; rintro e w1 ⟨rfl, hb⟩; have B := Lib.hid (B.out.below hb); clear hb; obtain ⟨-, -, -, ⟨c0, c1, c2⟩, -⟩ := B.out
      go_wp2_with fail
      refine (cnum_yes y m d HM.out _ (by first | exact HL.out.below B.out.1 | exact HL.out.below B.out | exact HL.out.below B0.out.1 | exact HL.out | exact HL.out.below B1.out.1 | exact HL.out.below B2.out.1 | exact HL.out.below B3.out.1 | exact HL.out.below (B.out.below (by first | exact Below.refl _ _ | exact (Below.refl _ _).drew)).1)).mono ?_; rintro e w2 ⟨rfl, hb⟩; have B := Lib.hid (B.out.below hb); clear hb; obtain ⟨-, -, -, ⟨c0, c1, c2⟩, -⟩ := B.out
      go_wp2_with fail
      refine (refmay_any y m d _).mono ?_; rintro e w3 ⟨rfl, hb⟩; rw [decide_eq_true HM.out]; have B := Lib.hid (B.out.below hb); clear hb; obtain ⟨-, -, -, ⟨c0, c1, c2⟩, -⟩ := B.out
      go_wp2_with fail
      refine (number_any y m d HM.out _).mono ?_; rintro e w4 ⟨rfl, hb⟩; have B := Lib.hid (B.out.below hb); clear hb; obtain ⟨-, -, -, ⟨c0, c1, c2⟩, -⟩ := B.out
      go_wp2_with fail
      refine (cof_no n HR.out HN.out _ (by first | exact HL.out.below B.out.1 | exact HL.out.below B.out | exact HL.out.below B0.out.1 | exact HL.out | exact HL.out.below B1.out.1 | exact HL.out.below B2.out.1 | exact HL.out.below B3.out.1 | exact HL.out.below (B.out.below (by first | exact Below.refl _ _ | exact (Below.refl _ _).drew)).1)).mono ?_; rintro e w5 ⟨rfl, hb⟩; have B := Lib.hid (B.out.below hb); clear hb; obtain ⟨-, -, -, ⟨c0, c1, c2⟩, -⟩ := B.out
      have BY := Lib.hid (DV.new B.out.1 23 0 0 0)
      have B := Lib.hid (B.out.alloc (.cells #[.int .i64 0, .int .i64 0, .int .i64 0] 23))
      go_wp2_with fail
      refine (refof_no n HR.out HN.out _).mono ?_; rintro e w6 ⟨rfl, hb⟩
      have BY := Lib.hid ((BY.out.below hb).alloc (.cells #[.int .i64 0, .int .i64 0, .int .i64 0] 23))
      clear hb
      obtain ⟨-, -, -, ⟨k0, k1, k2⟩, -⟩ := BY.out
      go_wp2_with fail
      go_ret
      exact ⟨by simp, BY.out.1⟩
    · obtain ⟨Y, M, D, hM, hd⟩ := HR.out
      have HD := Lib.hid hM
      subst hd
      clear hM HR
      go_enter Tryd.func4, Tryd.ntmps4
      go_wp2_with fail
      have B := Lib.hid (DV.new (Below.refl w.heap.size w) 23 y m d)
      refine (up_any _ (by first | exact HL.out.below B.out.1 | exact HL.out.below B.out | exact HL.out.below B0.out.1 | exact HL.out | exact HL.out.below B1.out.1 | exact HL.out.below B2.out.1 | exact HL.out.below B3.out.1 | exact HL.out.below (B.out.below (by first | exact Below.refl _ _ | exact (Below.refl _ _).drew)).1)).mono ?_; rintro e w1 ⟨rfl, hb⟩; have B := Lib.hid (B.out.below hb); clear hb; obtain ⟨-, -, -, ⟨c0, c1, c2⟩, -⟩ := B.out
      go_wp2_with fail
      refine (cnum_yes y m d HM.out _ (by first | exact HL.out.below B.out.1 | exact HL.out.below B.out | exact HL.out.below B0.out.1 | exact HL.out | exact HL.out.below B1.out.1 | exact HL.out.below B2.out.1 | exact HL.out.below B3.out.1 | exact HL.out.below (B.out.below (by first | exact Below.refl _ _ | exact (Below.refl _ _).drew)).1)).mono ?_; rintro e w2 ⟨rfl, hb⟩; have B := Lib.hid (B.out.below hb); clear hb; obtain ⟨-, -, -, ⟨c0, c1, c2⟩, -⟩ := B.out
      go_wp2_with fail
      refine (refmay_any y m d _).mono ?_; rintro e w3 ⟨rfl, hb⟩; rw [decide_eq_true HM.out]; have B := Lib.hid (B.out.below hb); clear hb; obtain ⟨-, -, -, ⟨c0, c1, c2⟩, -⟩ := B.out
      go_wp2_with fail
      refine (number_any y m d HM.out _).mono ?_; rintro e w4 ⟨rfl, hb⟩; have B := Lib.hid (B.out.below hb); clear hb; obtain ⟨-, -, -, ⟨c0, c1, c2⟩, -⟩ := B.out
      go_wp2_with fail
      refine (cof_yes Y M D HD.out _ (by first | exact HL.out.below B.out.1 | exact HL.out.below B.out | exact HL.out.below B0.out.1 | exact HL.out | exact HL.out.below B1.out.1 | exact HL.out.below B2.out.1 | exact HL.out.below B3.out.1 | exact HL.out.below (B.out.below (by first | exact Below.refl _ _ | exact (Below.refl _ _).drew)).1)).mono ?_; rintro e w5 ⟨rfl, hb⟩; have B := Lib.hid (B.out.below hb); clear hb; obtain ⟨-, -, -, ⟨c0, c1, c2⟩, -⟩ := B.out
      have BY := Lib.hid (DV.new B.out.1 23 Y M D)
      have B := Lib.hid (B.out.alloc (.cells #[.int .i64 Y, .int .i64 M, .int .i64 D] 23))
      go_wp2_with fail
      refine (refof_yes Y M D HD.out _).mono ?_; rintro e w6 ⟨rfl, hb⟩
      have BY := Lib.hid ((BY.out.below hb).alloc (.cells #[.int .i64 Y, .int .i64 M, .int .i64 D] 23))
      clear hb
      obtain ⟨-, -, -, ⟨k0, k1, k2⟩, -⟩ := BY.out
      go_wp2_with fail
      go_ret
      exact ⟨by simp, BY.out.1⟩
  · have HM := Lib.hid hm
    clear hm
    rcases HR with HR | HR
    · go_enter Tryd.func4, Tryd.ntmps4
      go_wp2_with fail
      have B := Lib.hid (DV.new (Below.refl w.heap.size w) 23 y m d)
      refine (up_any _ (by first | exact HL.out.below B.out.1 | exact HL.out.below B.out | exact HL.out.below B0.out.1 | exact HL.out | exact HL.out.below B1.out.1 | exact HL.out.below B2.out.1 | exact HL.out.below B3.out.1 | exact HL.out.below (B.out.below (by first | exact Below.refl _ _ | exact (Below.refl _ _).drew)).1)).mono ?_; rintro e w1 ⟨rfl, hb⟩; have B := Lib.hid (B.out.below hb); clear hb; obtain ⟨-, -, -, ⟨c0, c1, c2⟩, -⟩ := B.out
      go_wp2_with fail
      refine (cnum_no y m d HM.out _ (by first | exact HL.out.below B.out.1 | exact HL.out.below B.out | exact HL.out.below B0.out.1 | exact HL.out | exact HL.out.below B1.out.1 | exact HL.out.below B2.out.1 | exact HL.out.below B3.out.1 | exact HL.out.below (B.out.below (by first | exact Below.refl _ _ | exact (Below.refl _ _).drew)).1)).mono ?_; rintro e w2 ⟨rfl, hb⟩; have B := Lib.hid (B.out.below hb); clear hb; obtain ⟨-, -, -, ⟨c0, c1, c2⟩, -⟩ := B.out
      go_wp2_with fail
      refine (refmay_any y m d _).mono ?_; rintro e w3 ⟨rfl, hb⟩; rw [decide_eq_false HM.out]; have B := Lib.hid (B.out.below hb); clear hb; obtain ⟨-, -, -, ⟨c0, c1, c2⟩, -⟩ := B.out
      go_wp2_with fail
      refine (cof_no n HR.out HN.out _ (by first | exact HL.out.below B.out.1 | exact HL.out.below B.out | exact HL.out.below B0.out.1 | exact HL.out | exact HL.out.below B1.out.1 | exact HL.out.below B2.out.1 | exact HL.out.below B3.out.1 | exact HL.out.below (B.out.below (by first | exact Below.refl _ _ | exact (Below.refl _ _).drew)).1)).mono ?_; rintro e w5 ⟨rfl, hb⟩; have B := Lib.hid (B.out.below hb); clear hb; obtain ⟨-, -, -, ⟨c0, c1, c2⟩, -⟩ := B.out
      have BY := Lib.hid (DV.new B.out.1 23 0 0 0)
      have B := Lib.hid (B.out.alloc (.cells #[.int .i64 0, .int .i64 0, .int .i64 0] 23))
      go_wp2_with fail
      refine (refof_no n HR.out HN.out _).mono ?_; rintro e w6 ⟨rfl, hb⟩
      have BY := Lib.hid ((BY.out.below hb).alloc (.cells #[.int .i64 0, .int .i64 0, .int .i64 0] 23))
      clear hb
      obtain ⟨-, -, -, ⟨k0, k1, k2⟩, -⟩ := BY.out
      go_wp2_with fail
      go_ret
      exact ⟨by simp, BY.out.1⟩
    · obtain ⟨Y, M, D, hM, hd⟩ := HR.out
      have HD := Lib.hid hM
      subst hd
      clear hM HR
      go_enter Tryd.func4, Tryd.ntmps4
      go_wp2_with fail
      have B := Lib.hid (DV.new (Below.refl w.heap.size w) 23 y m d)
      refine (up_any _ (by first | exact HL.out.below B.out.1 | exact HL.out.below B.out | exact HL.out.below B0.out.1 | exact HL.out | exact HL.out.below B1.out.1 | exact HL.out.below B2.out.1 | exact HL.out.below B3.out.1 | exact HL.out.below (B.out.below (by first | exact Below.refl _ _ | exact (Below.refl _ _).drew)).1)).mono ?_; rintro e w1 ⟨rfl, hb⟩; have B := Lib.hid (B.out.below hb); clear hb; obtain ⟨-, -, -, ⟨c0, c1, c2⟩, -⟩ := B.out
      go_wp2_with fail
      refine (cnum_no y m d HM.out _ (by first | exact HL.out.below B.out.1 | exact HL.out.below B.out | exact HL.out.below B0.out.1 | exact HL.out | exact HL.out.below B1.out.1 | exact HL.out.below B2.out.1 | exact HL.out.below B3.out.1 | exact HL.out.below (B.out.below (by first | exact Below.refl _ _ | exact (Below.refl _ _).drew)).1)).mono ?_; rintro e w2 ⟨rfl, hb⟩; have B := Lib.hid (B.out.below hb); clear hb; obtain ⟨-, -, -, ⟨c0, c1, c2⟩, -⟩ := B.out
      go_wp2_with fail
      refine (refmay_any y m d _).mono ?_; rintro e w3 ⟨rfl, hb⟩; rw [decide_eq_false HM.out]; have B := Lib.hid (B.out.below hb); clear hb; obtain ⟨-, -, -, ⟨c0, c1, c2⟩, -⟩ := B.out
      go_wp2_with fail
      refine (cof_yes Y M D HD.out _ (by first | exact HL.out.below B.out.1 | exact HL.out.below B.out | exact HL.out.below B0.out.1 | exact HL.out | exact HL.out.below B1.out.1 | exact HL.out.below B2.out.1 | exact HL.out.below B3.out.1 | exact HL.out.below (B.out.below (by first | exact Below.refl _ _ | exact (Below.refl _ _).drew)).1)).mono ?_; rintro e w5 ⟨rfl, hb⟩; have B := Lib.hid (B.out.below hb); clear hb; obtain ⟨-, -, -, ⟨c0, c1, c2⟩, -⟩ := B.out
      have BY := Lib.hid (DV.new B.out.1 23 Y M D)
      have B := Lib.hid (B.out.alloc (.cells #[.int .i64 Y, .int .i64 M, .int .i64 D] 23))
      go_wp2_with fail
      refine (refof_yes Y M D HD.out _).mono ?_; rintro e w6 ⟨rfl, hb⟩
      have BY := Lib.hid ((BY.out.below hb).alloc (.cells #[.int .i64 Y, .int .i64 M, .int .i64 D] 23))
      clear hb
      obtain ⟨-, -, -, ⟨k0, k1, k2⟩, -⟩ := BY.out
      go_wp2_with fail
      go_ret
      exact ⟨by simp, BY.out.1⟩
end Go.Proofs.YthnhfilackghgaaDoor
