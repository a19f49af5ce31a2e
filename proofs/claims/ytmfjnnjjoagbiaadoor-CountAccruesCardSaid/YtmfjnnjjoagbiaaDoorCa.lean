import Derived.Test.YtmfjnnjjoagbiaaDoorCl
import Derived.Test.YtmfjnnjjoagbiaaDoorQuo
/- written by wip/tools/gen_ca.py -/
namespace Go.Proofs.YtmfjnnjjoagbiaaDoor
open Go.RowKit Go.Lib Go.ChangeShapes Go.WideShapes Go.ChangeAt Ar Dg

theorem qv_rq {c x : Int} (hc : c = 360000000 ∨ c = 365000000) : qv (if c < 0 then -x else x) (abs c) 4 = Ct.rq c x := by
  rcases hc with rfl | rfl <;> (unfold qv Ct.rq abs; simp; split <;> split <;> (try split) <;> (try split) <;> omega)

set_option maxHeartbeats 2000000 in
theorem accrues_walk (b r d : Int) (mo : Bool) (hb : -9223372036854775808 ≤ b ∧ b ≤ 9223372036854775807) (hr : -9223372036854775808 ≤ r ∧ r ≤ 9223372036854775807) (hd : -9223372036854775808 ≤ d ∧ d ≤ 9223372036854775807) (w : World) (hL : Laid w) : Calls Tryd.prog 4 #[.int .i64 b, .int .i64 r, .int .i64 d, .bool mo] w fun e w' => e = .returned (.bool true) ∧ Below w.heap.size w w' := by
  have HL := Lib.hid hL
  have q1 := eqE1
  clear hL
  by_cases h : Ct.AMay b r d
  · have HM := Lib.hid h
    have hp := Ct.pr_bd h
    have HX := Lib.hid hp.2.2
    have p0 := hp.1
    have p1 := hp.2.1
    have f0 : 0 ≤ b := h.1.1
    have f1 : b ≤ 10000000000000 := h.1.2.1
    have f2 : 0 ≤ r := h.1.2.2.1
    have f3 : r ≤ 300000 := h.1.2.2.2
    have f4 : 0 ≤ d := h.2.1
    have f5 : d ≤ 40000 := h.2.2
    have g0 : decide (b < 0) = false := by simp; omega
    have g1 : decide (10000000000000 < b) = false := by simp; omega
    have g2 : decide (r < 0) = false := by simp; omega
    have g3 : decide (300000 < r) = false := by simp; omega
    have g4 : decide (d < 0) = false := by simp; omega
    have g5 : decide (40000 < d) = false := by simp; omega
    have H2 := Lib.hid (fun (w : World) (hL : Laid w) => cac_yes mo b r d HM.out w hL)
    have hv := Ct.aq_bd mo h
    have v0 := hv.1
    have v1 := hv.2
    have HV := Lib.hid (show Ct.aq mo b r d = Ct.rq (Ct.yr mo) (b * (r * d)) from rfl)
    generalize Ct.aq mo b r d = V at *
    clear h hp hv hb hr hd
    cases mo
    · have HV := Lib.hid (show V = Ct.rq 365000000 (b * (r * d)) from HV.out)
      have B := Lib.hid (Below.refl w.heap.size w)
      go_enter Tryd.func4, Tryd.ntmps4
      go_wp2_with fail
      refine (up_any _ (HL.out.below B.out)).mono ?_; rintro e w1 ⟨rfl, hb⟩; have B := Lib.hid (ext B.out hb); clear hb
      go_wp2_with fail
      refine (H2.out _ (HL.out.below B.out)).mono ?_; rintro e w2 ⟨rfl, hb⟩; have B := Lib.hid (ext B.out hb); clear hb
      go_wp2_with fail
      refine (of_any b _ (by unfold In; omega)).mono ?_; rintro e w3 ⟨n1, rfl, hn, hb⟩; have N1 := Lib.hid hn; have B := Lib.hid (ext B.out hb); clear hb hn
      go_wp2_with fail
      refine (of_any (r * d) _ (by unfold In; omega)).mono ?_; rintro e w4 ⟨n2, rfl, hn, hb⟩; have N2 := Lib.hid hn; have N1 := Lib.hid ((N1.out.below hb).more hb.size); have B := Lib.hid (ext B.out hb); clear hb hn
      go_wp2_with fail
      refine (mul_num _ _ b (r * d) _ N1.out N2.out (small_of (by omega) (by omega)) (small_of (by omega) (by omega))).mono ?_; rintro e w5 ⟨v, rfl, ⟨A, n, c, ds, m, rfl, hn⟩, hb⟩
      have V5 := Lib.hid (VarN.new (show NumV w5 w5.heap.size (.agg #[.slice A n c, .bool m]) (b * (r * d)) from ⟨A, n, c, ds, m, rfl, hn⟩))
      have B := Lib.hid ((ext B.out hb).alloc (ext B.out hb).size (.cells #[.slice A n c, .bool m] 37))
      clear hb hn N1 N2
      have HX5 := Lib.hid (show -85070591730234615865843651857942052865 < b * (r * d) ∧ b * (r * d) < 85070591730234615865843651857942052865 by have := HX.out; omega)
      have HF := Lib.hid (show Fits V by unfold Fits; omega)
      generalize b * (r * d) = X at *
      have v0a := V5.out.a0
      have v0b := V5.out.a1
      go_wp2_with fail
      go_region_held3 (fun w' => w'.cell? ⟨w5.heap.size, 0, none⟩ = some (.slice A n c) ∧ w'.cell? ⟨w5.heap.size, 1, none⟩ = some (.bool m))
        (refine ⟨?_, ?_⟩ <;> (first | assumption | go_keep))
        (first
        | (go_at_call 14; refine (of_any 365000000 _ (by unfold In; omega)).mono ?_; rintro e w6 ⟨n6, rfl, hn, hb⟩; have N6 := Lib.hid hn; have V5 := Lib.hid ((V5.out.below (by first | exact Below.refl _ _ | exact (Below.refl _ _).drew)).below hb); have B := Lib.hid (ext (ext B.out (by first | exact Below.refl _ _ | exact (Below.refl _ _).drew)) hb); have v0a := V5.out.a0; have v0b := V5.out.a1; clear hb hn)
        | (go_at_call 16; refine (quotient_num _ _ X 365000000 4 _ (by exact V5.out.num) (by exact N6.out) HX5.out.1 HX5.out.2 (by decide) (by decide) (by decide) (by decide) (by decide)).mono ?_; rw [qv_rq (.inr rfl), ← HV.out]; rintro e w7 ⟨n7, rfl, hn, hb⟩; have N7 := Lib.hid hn; have V5 := Lib.hid (V5.out.below hb); have B := Lib.hid (ext B.out hb); have v0a := V5.out.a0; have v0b := V5.out.a1; clear hb hn)
        | (go_at_call 15; refine (to_num _ V _ (by exact N7.out)).mono ?_; rintro e w8 ⟨t, rfl, ht, hb⟩; obtain rfl := ht HF.out; rw [decide_eq_true HF.out]; have V5 := Lib.hid (V5.out.below hb); have B := Lib.hid (ext B.out hb); have v0a := V5.out.a0; have v0b := V5.out.a1; clear hb ht))
      all_goals
        go_wp2_with fail
        go_ret
        exact ⟨by simp, B.out⟩
    · have HV := Lib.hid (show V = Ct.rq 360000000 (b * (r * d)) from HV.out)
      have B := Lib.hid (Below.refl w.heap.size w)
      go_enter Tryd.func4, Tryd.ntmps4
      go_wp2_with fail
      refine (up_any _ (HL.out.below B.out)).mono ?_; rintro e w1 ⟨rfl, hb⟩; have B := Lib.hid (ext B.out hb); clear hb
      go_wp2_with fail
      refine (H2.out _ (HL.out.below B.out)).mono ?_; rintro e w2 ⟨rfl, hb⟩; have B := Lib.hid (ext B.out hb); clear hb
      go_wp2_with fail
      refine (of_any b _ (by unfold In; omega)).mono ?_; rintro e w3 ⟨n1, rfl, hn, hb⟩; have N1 := Lib.hid hn; have B := Lib.hid (ext B.out hb); clear hb hn
      go_wp2_with fail
      refine (of_any (r * d) _ (by unfold In; omega)).mono ?_; rintro e w4 ⟨n2, rfl, hn, hb⟩; have N2 := Lib.hid hn; have N1 := Lib.hid ((N1.out.below hb).more hb.size); have B := Lib.hid (ext B.out hb); clear hb hn
      go_wp2_with fail
      refine (mul_num _ _ b (r * d) _ N1.out N2.out (small_of (by omega) (by omega)) (small_of (by omega) (by omega))).mono ?_; rintro e w5 ⟨v, rfl, ⟨A, n, c, ds, m, rfl, hn⟩, hb⟩
      have V5 := Lib.hid (VarN.new (show NumV w5 w5.heap.size (.agg #[.slice A n c, .bool m]) (b * (r * d)) from ⟨A, n, c, ds, m, rfl, hn⟩))
      have B := Lib.hid ((ext B.out hb).alloc (ext B.out hb).size (.cells #[.slice A n c, .bool m] 37))
      clear hb hn N1 N2
      have HX5 := Lib.hid (show -85070591730234615865843651857942052865 < b * (r * d) ∧ b * (r * d) < 85070591730234615865843651857942052865 by have := HX.out; omega)
      have HF := Lib.hid (show Fits V by unfold Fits; omega)
      generalize b * (r * d) = X at *
      have v0a := V5.out.a0
      have v0b := V5.out.a1
      go_wp2_with fail
      go_region_held3 (fun w' => w'.cell? ⟨w5.heap.size, 0, none⟩ = some (.slice A n c) ∧ w'.cell? ⟨w5.heap.size, 1, none⟩ = some (.bool m))
        (refine ⟨?_, ?_⟩ <;> (first | assumption | go_keep))
        (first
        | (go_at_call 14; refine (of_any 360000000 _ (by unfold In; omega)).mono ?_; rintro e w6 ⟨n6, rfl, hn, hb⟩; have N6 := Lib.hid hn; have V5 := Lib.hid ((V5.out.below (by first | exact Below.refl _ _ | exact (Below.refl _ _).drew)).below hb); have B := Lib.hid (ext (ext B.out (by first | exact Below.refl _ _ | exact (Below.refl _ _).drew)) hb); have v0a := V5.out.a0; have v0b := V5.out.a1; clear hb hn)
        | (go_at_call 16; refine (quotient_num _ _ X 360000000 4 _ (by exact V5.out.num) (by exact N6.out) HX5.out.1 HX5.out.2 (by decide) (by decide) (by decide) (by decide) (by decide)).mono ?_; rw [qv_rq (.inl rfl), ← HV.out]; rintro e w7 ⟨n7, rfl, hn, hb⟩; have N7 := Lib.hid hn; have V5 := Lib.hid (V5.out.below hb); have B := Lib.hid (ext B.out hb); have v0a := V5.out.a0; have v0b := V5.out.a1; clear hb hn)
        | (go_at_call 15; refine (to_num _ V _ (by exact N7.out)).mono ?_; rintro e w8 ⟨t, rfl, ht, hb⟩; obtain rfl := ht HF.out; rw [decide_eq_true HF.out]; have V5 := Lib.hid (V5.out.below hb); have B := Lib.hid (ext B.out hb); have v0a := V5.out.a0; have v0b := V5.out.a1; clear hb ht))
      all_goals
        go_wp2_with fail
        go_ret
        exact ⟨by simp, B.out⟩
  · have H2 := Lib.hid (fun (w : World) (hL : Laid w) => cac_no mo b r d h hb hr hd w hL)
    have HN := Lib.hid h
    clear hb hr hd h
    by_cases f0 : b < 0
    · have B := Lib.hid (Below.refl w.heap.size w)
      go_enter Tryd.func4, Tryd.ntmps4
      go_wp2_with fail
      refine (up_any _ (HL.out.below B.out)).mono ?_; rintro e w1 ⟨rfl, hb⟩; have B := Lib.hid (ext B.out hb); clear hb
      go_wp2_with fail
      refine (H2.out _ (HL.out.below B.out)).mono ?_; rintro e w2 ⟨rfl, hb⟩; have B := Lib.hid (ext B.out hb); clear hb
      go_wp2_with fail
      all_goals
        go_ret
        exact ⟨by simp, B.out⟩
    replace f0 : 0 ≤ b := by omega
    have g0 : decide (b < 0) = false := by simp; omega
    by_cases f1 : 10000000000000 < b
    · have B := Lib.hid (Below.refl w.heap.size w)
      go_enter Tryd.func4, Tryd.ntmps4
      go_wp2_with fail
      refine (up_any _ (HL.out.below B.out)).mono ?_; rintro e w1 ⟨rfl, hb⟩; have B := Lib.hid (ext B.out hb); clear hb
      go_wp2_with fail
      refine (H2.out _ (HL.out.below B.out)).mono ?_; rintro e w2 ⟨rfl, hb⟩; have B := Lib.hid (ext B.out hb); clear hb
      go_wp2_with fail
      all_goals
        go_ret
        exact ⟨by simp, B.out⟩
    replace f1 : b ≤ 10000000000000 := by omega
    have g1 : decide (10000000000000 < b) = false := by simp; omega
    by_cases f2 : r < 0
    · have B := Lib.hid (Below.refl w.heap.size w)
      go_enter Tryd.func4, Tryd.ntmps4
      go_wp2_with fail
      refine (up_any _ (HL.out.below B.out)).mono ?_; rintro e w1 ⟨rfl, hb⟩; have B := Lib.hid (ext B.out hb); clear hb
      go_wp2_with fail
      refine (H2.out _ (HL.out.below B.out)).mono ?_; rintro e w2 ⟨rfl, hb⟩; have B := Lib.hid (ext B.out hb); clear hb
      go_wp2_with fail
      all_goals
        go_ret
        exact ⟨by simp, B.out⟩
    replace f2 : 0 ≤ r := by omega
    have g2 : decide (r < 0) = false := by simp; omega
    by_cases f3 : 300000 < r
    · have B := Lib.hid (Below.refl w.heap.size w)
      go_enter Tryd.func4, Tryd.ntmps4
      go_wp2_with fail
      refine (up_any _ (HL.out.below B.out)).mono ?_; rintro e w1 ⟨rfl, hb⟩; have B := Lib.hid (ext B.out hb); clear hb
      go_wp2_with fail
      refine (H2.out _ (HL.out.below B.out)).mono ?_; rintro e w2 ⟨rfl, hb⟩; have B := Lib.hid (ext B.out hb); clear hb
      go_wp2_with fail
      all_goals
        go_ret
        exact ⟨by simp, B.out⟩
    replace f3 : r ≤ 300000 := by omega
    have g3 : decide (300000 < r) = false := by simp; omega
    by_cases f4 : d < 0
    · have B := Lib.hid (Below.refl w.heap.size w)
      go_enter Tryd.func4, Tryd.ntmps4
      go_wp2_with fail
      refine (up_any _ (HL.out.below B.out)).mono ?_; rintro e w1 ⟨rfl, hb⟩; have B := Lib.hid (ext B.out hb); clear hb
      go_wp2_with fail
      refine (H2.out _ (HL.out.below B.out)).mono ?_; rintro e w2 ⟨rfl, hb⟩; have B := Lib.hid (ext B.out hb); clear hb
      go_wp2_with fail
      all_goals
        go_ret
        exact ⟨by simp, B.out⟩
    replace f4 : 0 ≤ d := by omega
    have g4 : decide (d < 0) = false := by simp; omega
    by_cases f5 : 40000 < d
    · have B := Lib.hid (Below.refl w.heap.size w)
      go_enter Tryd.func4, Tryd.ntmps4
      go_wp2_with fail
      refine (up_any _ (HL.out.below B.out)).mono ?_; rintro e w1 ⟨rfl, hb⟩; have B := Lib.hid (ext B.out hb); clear hb
      go_wp2_with fail
      refine (H2.out _ (HL.out.below B.out)).mono ?_; rintro e w2 ⟨rfl, hb⟩; have B := Lib.hid (ext B.out hb); clear hb
      go_wp2_with fail
      all_goals
        go_ret
        exact ⟨by simp, B.out⟩
    replace f5 : d ≤ 40000 := by omega
    have g5 : decide (40000 < d) = false := by simp; omega
    exact absurd ⟨⟨f0, f1, f2, f3⟩, f4, f5⟩ HN.out
end Go.Proofs.YtmfjnnjjoagbiaaDoor
