import Derived.Test.YtmfjnnjjoagbiaaDoorCc
import Derived.Test.YtmfjnnjjoagbiaaDoorDr
import Derived.KernelRfl
namespace Go.Proofs.YtmfjnnjjoagbiaaDoor
open Go.RowKit Go.Lib Go.ChangeShapes Go.WideShapes Go.ChangeAt

theorem eqE1 (w : World) : (binOp .eql 26 (vErr 1) (vErr 1)).run Tryd.prog w = .ok (.bool true) w := by kernel_rfl
theorem eqE2 (w : World) : (binOp .eql 26 (vErr 2) (vErr 2)).run Tryd.prog w = .ok (.bool true) w := by kernel_rfl
theorem up_any (w : World) (hL : Laid w) : Calls Tryd.prog 7 #[] w fun e w' => e = .returned (.bool true) ∧ Below w.heap.size w w' := by
  have HL := Lib.hid hL
  clear hL
  have H1 := Lib.hid (fun (w : World) (hL : Laid w) => cbt_yes true 2024 1 31 2024 2 29 (by decide) (by decide) w hL)
  have H2 := Lib.hid (fun (w : World) (hL : Laid w) => cac_yes false 36500000 10000 1 (by decide) w hL)
  rw [show Ct.bt true 2024 1 31 2024 2 29 = 29 by decide] at H1
  rw [show Ct.aq false 36500000 10000 1 = 1000 by decide] at H2
  go_enter Tryd.func7, Tryd.ntmps7
  go_wp2_with fail
  refine (H1.out _ HL.out).mono ?_; rintro e w1 ⟨rfl, hb⟩; have B := Lib.hid hb; clear hb
  go_wp2_with fail
  refine (H2.out _ (HL.out.below B.out)).mono ?_; rintro e w2 ⟨rfl, hb⟩; have B := Lib.hid (ext B.out hb); clear hb
  go_wp2_with fail
  go_ret
  exact ⟨rfl, B.out⟩
theorem thirty_any (y m d : Int) (h : Dt.May y m d) (w : World) : Calls Tryd.prog 11 #[dtv y m d] w fun e w' => e = .returned (.int .i64 (Ct.th y m d)) ∧ Below w.heap.size w w' := by
  have hi := Dt.may_in h
  have hd1 : 1 ≤ d := h.1
  have hd2 : d ≤ 31 := by have := h.2; have := Dt.dys_nn y m; omega
  have hy1 : 1900 ≤ y := hi.1.1
  have hy2 : y ≤ 2199 := hi.1.2
  have hm1 : 1 ≤ m := hi.2.1
  have hm2 : m ≤ 12 := hi.2.2
  clear h hi
  have B := Lib.hid (DV.new (Below.refl w.heap.size w) 23 y m d)
  unfold Ct.th
  by_cases c : d = 31
  · subst c
    rw [if_pos rfl]
    go_enter Tryd.func11, Tryd.ntmps11
    go_wp2_with fail
    go_ret
    exact ⟨by simp, B.out.1⟩
  · rw [if_neg c]
    have c2 : decide (d = 31) = false := by simpa using c
    go_enter Tryd.func11, Tryd.ntmps11
    go_wp2_with fail
    go_ret
    exact ⟨by simp, B.out.1⟩
theorem between_walk (y m d Y M D : Int) (w : World) (hL : Laid w) : Calls Tryd.prog 3 #[dtv y m d, dtv Y M D] w fun e w' => e = .returned (.bool true) ∧ Below w.heap.size w w' := by
  have HL := Lib.hid hL
  clear hL
  have q1 := eqE2
  have A := Lib.hid (DV.new (Below.refl w.heap.size w) 23 y m d)
  have B := Lib.hid (show DV w _ (w.heap.size + 1) Y M D by simpa using DV.new A.out.1 23 Y M D)
  have A := Lib.hid (A.out.alloc (.cells #[.int .i64 Y, .int .i64 M, .int .i64 D] 23))
  by_cases h : Dt.May y m d ∧ Dt.May Y M D
  · have HM := Lib.hid h
    clear h
    have hb := Ct.bt_bd true HM.out.1 HM.out.2
    have hb2 := Ct.bt_bd false HM.out.1 HM.out.2
    have hn := Dt.nm_bd HM.out.1
    have hn2 := Dt.nm_bd HM.out.2
    have ht := Ct.th_bd HM.out.1
    have ht2 := Ct.th_bd HM.out.2
    have H1 := Lib.hid (fun (w : World) (hL : Laid w) => cbt_yes false y m d Y M D HM.out.1 HM.out.2 w hL)
    have H2 := Lib.hid (fun (w : World) (hL : Laid w) => cbt_yes true y m d Y M D HM.out.1 HM.out.2 w hL)
    rw [show Ct.bt false y m d Y M D = Dt.nm Y M D - Dt.nm y m d from rfl] at H1
    rw [show Ct.bt true y m d Y M D = Ct.th Y M D - Ct.th y m d from rfl] at H2
    have N1 := Lib.hid (fun (w : World) => number_any y m d HM.out.1 w)
    have N2 := Lib.hid (fun (w : World) => number_any Y M D HM.out.2 w)
    have T1 := Lib.hid (fun (w : World) => thirty_any y m d HM.out.1 w)
    have T2 := Lib.hid (fun (w : World) => thirty_any Y M D HM.out.2 w)
    generalize Dt.nm Y M D = n2 at *
    generalize Dt.nm y m d = n1 at *
    generalize Ct.th Y M D = t2 at *
    generalize Ct.th y m d = t1 at *
    clear hb hb2
    obtain ⟨k1, k2⟩ := hn
    obtain ⟨k3, k4⟩ := hn2
    obtain ⟨k5, k6⟩ := ht
    obtain ⟨k7, k8⟩ := ht2
    have u1 : IntKind.i64.wrap (n2 - n1) = n2 - n1 := by rw [IntKind.wrap_i64]; omega
    have u2 : IntKind.i64.wrap (t2 - t1) = t2 - t1 := by rw [IntKind.wrap_i64]; omega
    have u3 : (n2 - n1 == IntKind.i64.wrap (n2 - n1)) = true := by rw [u1]; simp
    have u4 : (t2 - t1 == IntKind.i64.wrap (t2 - t1)) = true := by rw [u2]; simp
    go_enter Tryd.func3, Tryd.ntmps3
    go_wp2_with fail
    refine (up_any _ (HL.out.below B.out.1)).mono ?_; rintro e w1 ⟨rfl, hb⟩; have A := Lib.hid (A.out.below hb); have B := Lib.hid (B.out.below hb); clear hb
    obtain ⟨-, -, -, ⟨a0, a1, a2⟩, -⟩ := A.out
    obtain ⟨-, -, -, ⟨b0, b1, b2⟩, -⟩ := B.out
    go_wp2_with fail
    refine (H1.out _ (HL.out.below B.out.1)).mono ?_; rintro e w2 ⟨rfl, hb⟩; have A := Lib.hid (A.out.below hb); have B := Lib.hid (B.out.below hb); clear hb
    obtain ⟨-, -, -, ⟨a0, a1, a2⟩, -⟩ := A.out
    obtain ⟨-, -, -, ⟨b0, b1, b2⟩, -⟩ := B.out
    go_wp2_with fail
    refine (H2.out _ (HL.out.below B.out.1)).mono ?_; rintro e w3 ⟨rfl, hb⟩; have A := Lib.hid (A.out.below hb); have B := Lib.hid (B.out.below hb); clear hb
    obtain ⟨-, -, -, ⟨a0, a1, a2⟩, -⟩ := A.out
    obtain ⟨-, -, -, ⟨b0, b1, b2⟩, -⟩ := B.out
    go_wp2_with fail
    refine (refmay_any y m d _).mono ?_; rintro e w4 ⟨rfl, hb⟩; rw [decide_eq_true HM.out.1]; have A := Lib.hid (A.out.below hb); have B := Lib.hid (B.out.below hb); clear hb
    obtain ⟨-, -, -, ⟨a0, a1, a2⟩, -⟩ := A.out
    obtain ⟨-, -, -, ⟨b0, b1, b2⟩, -⟩ := B.out
    go_wp2_with fail
    refine (refmay_any Y M D _).mono ?_; rintro e w5 ⟨rfl, hb⟩; rw [decide_eq_true HM.out.2]; have A := Lib.hid (A.out.below hb); have B := Lib.hid (B.out.below hb); clear hb
    clear a0 a1 a2 b0 b1 b2
    obtain ⟨-, -, -, ⟨a0, a1, a2⟩, -⟩ := A.out
    obtain ⟨-, -, -, ⟨b0, b1, b2⟩, -⟩ := B.out
    go_wp2_with fail
    go_region_held3 (fun w' => (w'.cell? ⟨w.heap.size, 0, none⟩ = some (.int .i64 y) ∧ w'.cell? ⟨w.heap.size, 1, none⟩ = some (.int .i64 m) ∧ w'.cell? ⟨w.heap.size, 2, none⟩ = some (.int .i64 d)) ∧ (w'.cell? ⟨w.heap.size + 1, 0, none⟩ = some (.int .i64 Y) ∧ w'.cell? ⟨w.heap.size + 1, 1, none⟩ = some (.int .i64 M) ∧ w'.cell? ⟨w.heap.size + 1, 2, none⟩ = some (.int .i64 D)))
      (refine ⟨⟨?_, ?_, ?_⟩, ?_, ?_, ?_⟩ <;> (first | assumption | go_keep))
      (first
      | (go_at_call_has 10 (Value.int .i64 Y); refine (N2.out _).mono ?_; rintro e w6 ⟨rfl, hb⟩; have A := Lib.hid ((A.out.below (by first | exact Below.refl _ _ | exact (Below.refl _ _).drew)).below hb); have B := Lib.hid ((B.out.below (by first | exact Below.refl _ _ | exact (Below.refl _ _).drew)).below hb); obtain ⟨-, -, -, ⟨a0, a1, a2⟩, -⟩ := A.out; obtain ⟨-, -, -, ⟨b0, b1, b2⟩, -⟩ := B.out; clear hb)
      | (go_at_call_has 10 (Value.int .i64 y); refine (N1.out _).mono ?_; rintro e w7 ⟨rfl, hb⟩; have A := Lib.hid ((A.out.below (by first | exact Below.refl _ _ | exact (Below.refl _ _).drew)).below hb); have B := Lib.hid ((B.out.below (by first | exact Below.refl _ _ | exact (Below.refl _ _).drew)).below hb); obtain ⟨-, -, -, ⟨a0, a1, a2⟩, -⟩ := A.out; obtain ⟨-, -, -, ⟨b0, b1, b2⟩, -⟩ := B.out; clear hb)
      | (go_at_call_has 11 (Value.int .i64 Y); refine (T2.out _).mono ?_; rintro e w8 ⟨rfl, hb⟩; have A := Lib.hid ((A.out.below (by first | exact Below.refl _ _ | exact (Below.refl _ _).drew)).below hb); have B := Lib.hid ((B.out.below (by first | exact Below.refl _ _ | exact (Below.refl _ _).drew)).below hb); obtain ⟨-, -, -, ⟨a0, a1, a2⟩, -⟩ := A.out; obtain ⟨-, -, -, ⟨b0, b1, b2⟩, -⟩ := B.out; clear hb)
      | (go_at_call_has 11 (Value.int .i64 y); refine (T1.out _).mono ?_; rintro e w9 ⟨rfl, hb⟩; have A := Lib.hid ((A.out.below (by first | exact Below.refl _ _ | exact (Below.refl _ _).drew)).below hb); have B := Lib.hid ((B.out.below (by first | exact Below.refl _ _ | exact (Below.refl _ _).drew)).below hb); obtain ⟨-, -, -, ⟨a0, a1, a2⟩, -⟩ := A.out; obtain ⟨-, -, -, ⟨b0, b1, b2⟩, -⟩ := B.out; clear hb))
    all_goals
      go_wp2_with fail
      go_ret
      exact ⟨by simp, B.out.1⟩
  · have HM := Lib.hid h
    have HQ := Lib.hid (show (decide (Dt.May y m d) && decide (Dt.May Y M D)) = false by simpa using h)
    clear h
    have H1 := Lib.hid (fun (w : World) (hL : Laid w) => cbt_no false y m d Y M D HM.out w hL)
    have H2 := Lib.hid (fun (w : World) (hL : Laid w) => cbt_no true y m d Y M D HM.out w hL)
    have P1 := Lib.hid (fun (w : World) => refmay_any y m d w)
    have P2 := Lib.hid (fun (w : World) => refmay_any Y M D w)
    generalize decide (Dt.May y m d) = p at *
    generalize decide (Dt.May Y M D) = q at *
    go_enter Tryd.func3, Tryd.ntmps3
    go_wp2_with fail
    refine (up_any _ (HL.out.below B.out.1)).mono ?_; rintro e w1 ⟨rfl, hb⟩; have A := Lib.hid (A.out.below hb); have B := Lib.hid (B.out.below hb); clear hb
    obtain ⟨-, -, -, ⟨a0, a1, a2⟩, -⟩ := A.out
    obtain ⟨-, -, -, ⟨b0, b1, b2⟩, -⟩ := B.out
    go_wp2_with fail
    refine (H1.out _ (HL.out.below B.out.1)).mono ?_; rintro e w2 ⟨rfl, hb⟩; have A := Lib.hid (A.out.below hb); have B := Lib.hid (B.out.below hb); clear hb
    obtain ⟨-, -, -, ⟨a0, a1, a2⟩, -⟩ := A.out
    obtain ⟨-, -, -, ⟨b0, b1, b2⟩, -⟩ := B.out
    go_wp2_with fail
    refine (H2.out _ (HL.out.below B.out.1)).mono ?_; rintro e w3 ⟨rfl, hb⟩; have A := Lib.hid (A.out.below hb); have B := Lib.hid (B.out.below hb); clear hb
    obtain ⟨-, -, -, ⟨a0, a1, a2⟩, -⟩ := A.out
    obtain ⟨-, -, -, ⟨b0, b1, b2⟩, -⟩ := B.out
    go_wp2_with fail
    refine (P1.out _).mono ?_; rintro e w4 ⟨rfl, hb⟩; have A := Lib.hid (A.out.below hb); have B := Lib.hid (B.out.below hb); clear hb
    obtain ⟨-, -, -, ⟨a0, a1, a2⟩, -⟩ := A.out
    obtain ⟨-, -, -, ⟨b0, b1, b2⟩, -⟩ := B.out
    go_wp2_with fail
    refine (P2.out _).mono ?_; rintro e w5 ⟨rfl, hb⟩; have A := Lib.hid (A.out.below hb); have B := Lib.hid (B.out.below hb); clear hb
    clear P1 P2
    cases p
    · go_wp2_with fail
      go_ret
      exact ⟨by simp, B.out.1⟩
    · have hq : q = false := by have := HQ.out; simpa using this
      subst hq
      go_wp2_with fail
      go_ret
      exact ⟨by simp, B.out.1⟩
end Go.Proofs.YtmfjnnjjoagbiaaDoor
