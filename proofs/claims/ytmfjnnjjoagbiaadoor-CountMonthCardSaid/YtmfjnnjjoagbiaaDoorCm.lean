import Derived.Test.YtmfjnnjjoagbiaaDoorCl
import Derived.Test.YtmfjnnjjoagbiaaDoorRm
/- written by wip/tools/gen_cm.py -/
namespace Go.Proofs.YtmfjnnjjoagbiaaDoor
open Go.RowKit Go.Lib Go.ChangeShapes Go.WideShapes Go.ChangeAt

/-- a month's interest, of whatever balance and rate; and interest of days -/
def mvl (b r : Int) : Int := if Rt.May b r then Rt.mi b r else 0
def mer (b r : Int) : Value := if Rt.May b r then .nilIface else vErr 1
def avl (mo : Bool) (b r d : Int) : Int := if Ct.AMay b r d then Ct.aq mo b r d else 0
def aer (b r d : Int) : Value := if Ct.AMay b r d then .nilIface else vErr 1
theorem cmonth (b r : Int) (w : World) : Calls Tryd.prog 18 #[.int .i64 b, .int .i64 r] w fun e w' => e = .returned (.tuple #[.int .i64 (mvl b r), mer b r]) ∧ Below w.heap.size w w' := by
  by_cases h : Rt.May b r
  · rw [mvl, if_pos h, mer, if_pos h]; exact (month_yes b r h w).mono fun _ _ ⟨he, n, hw⟩ => ⟨he, by rw [hw]; exact below_drewN _ w n⟩
  · rw [mvl, if_neg h, mer, if_neg h]; exact (month_no b r h w).mono fun _ _ ⟨he, n, hw⟩ => ⟨he, by rw [hw]; exact below_drewN _ w n⟩
theorem cacc (mo : Bool) (b r d : Int) (hb : -9223372036854775808 ≤ b ∧ b ≤ 9223372036854775807) (hr : -9223372036854775808 ≤ r ∧ r ≤ 9223372036854775807) (hd : -9223372036854775808 ≤ d ∧ d ≤ 9223372036854775807) (w : World) (hL : Laid w) : Calls Tryd.prog 12 #[.int .i64 b, .int .i64 r, .int .i64 d, .bool mo] w fun e w' => e = .returned (.tuple #[.int .i64 (avl mo b r d), aer b r d]) ∧ Below w.heap.size w w' := by
  by_cases h : Ct.AMay b r d
  · rw [avl, if_pos h, aer, if_pos h]; exact cac_yes mo b r d h w hL
  · rw [avl, if_neg h, aer, if_neg h]; exact cac_no mo b r d h hb hr hd w hL

set_option maxHeartbeats 1000000 in
theorem month_walk (b r d m : Int) (mo : Bool) (hb : -9223372036854775808 ≤ b ∧ b ≤ 9223372036854775807) (hr : -9223372036854775808 ≤ r ∧ r ≤ 9223372036854775807) (hd : -9223372036854775808 ≤ d ∧ d ≤ 9223372036854775807) (hm : -9223372036854775808 ≤ m ∧ m ≤ 9223372036854775807) (w : World) (hL : Laid w) : Calls Tryd.prog 6 #[.int .i64 b, .int .i64 r, .int .i64 d, .int .i64 m, .bool mo] w fun e w' => e = .returned (.bool true) ∧ Below w.heap.size w w' := by
  have HL := Lib.hid hL
  clear hL
  have H1 := Lib.hid (fun (w : World) => cmonth b r w)
  have H2 := Lib.hid (fun (w : World) (hL : Laid w) => cacc true b r 30 hb hr (by decide) w hL)
  have H3 := Lib.hid (fun (w : World) (hL : Laid w) => cacc mo b r d hb hr hd w hL)
  have H4 := Lib.hid (fun (w : World) (hL : Laid w) => cacc mo b r m hb hr hm w hL)
  have H5 := Lib.hid (fun (w : World) (hL : Laid w) => cacc mo b r 0 hb hr (by decide) w hL)
  clear hb hr hd hm
  by_cases h : Rt.May b r
  · have h30 : Ct.AMay b r 30 := ⟨h, by decide, by decide⟩
    have h00 : Ct.AMay b r 0 := ⟨h, by decide, by decide⟩
    rw [mvl, if_pos h, mer, if_pos h] at H1
    rw [avl, if_pos h30, aer, if_pos h30, Ct.aq_month] at H2
    rw [avl, if_pos h00, aer, if_pos h00, Ct.aq_zero] at H5
    have HH := Lib.hid h
    clear h30 h00
    generalize Rt.mi b r = I at *
    by_cases h1 : Ct.AMay b r d
    · rw [avl, if_pos h1, aer, if_pos h1] at H3
      have D1 := Lib.hid h1
      clear h1
      by_cases h2 : Ct.AMay b r m
      · rw [avl, if_pos h2, aer, if_pos h2] at H4
        clear h2
        have HMO := Lib.hid (fun (h : d ≤ m) => Ct.aq_mono (b := b) (r := r) mo HH.out.1 HH.out.2.2.1 h)
        generalize Ct.aq mo b r d = x at *
        generalize Ct.aq mo b r m = y at *
        clear h
        by_cases hg : m < d
        · clear HMO
          have B := Lib.hid (Below.refl w.heap.size w)
          go_enter Tryd.func6, Tryd.ntmps6
          go_wp2_with fail
          refine (up_any _ (HL.out.below B.out)).mono ?_; rintro e w1 ⟨rfl, hb⟩; have B := Lib.hid (ext B.out hb); clear hb
          go_wp2_with fail
          refine (H1.out _).mono ?_; rintro e w2 ⟨rfl, hb⟩; have B := Lib.hid (ext B.out hb); clear hb
          go_wp2_with fail
          refine (H2.out _ (HL.out.below B.out)).mono ?_; rintro e w3 ⟨rfl, hb⟩; have B := Lib.hid (ext B.out hb); clear hb
          go_wp2_with fail
          go_quiet (fail)
          have B := Lib.hid (ext B.out (below_drewN _ _ nq))
          generalize w3.drewN nq = w4 at *
          go_wp2_with fail
          refine (H3.out _ (HL.out.below B.out)).mono ?_; rintro e w5 ⟨rfl, hb⟩; have B := Lib.hid (ext B.out hb); clear hb
          go_wp2_with fail
          refine (H4.out _ (HL.out.below B.out)).mono ?_; rintro e w6 ⟨rfl, hb⟩; have B := Lib.hid (ext B.out hb); clear hb
          go_wp2_with fail
          refine (H5.out _ (HL.out.below B.out)).mono ?_; rintro e w7 ⟨rfl, hb⟩; have B := Lib.hid (ext B.out hb); clear hb
          go_wp2_with fail
          all_goals
            go_ret
            exact ⟨by simp, B.out⟩
        · have hx : x ≤ y := HMO.out (by omega)
          have hg2 : decide (m < d) = false := by simpa using hg
          clear HMO
          have B := Lib.hid (Below.refl w.heap.size w)
          go_enter Tryd.func6, Tryd.ntmps6
          go_wp2_with fail
          refine (up_any _ (HL.out.below B.out)).mono ?_; rintro e w1 ⟨rfl, hb⟩; have B := Lib.hid (ext B.out hb); clear hb
          go_wp2_with fail
          refine (H1.out _).mono ?_; rintro e w2 ⟨rfl, hb⟩; have B := Lib.hid (ext B.out hb); clear hb
          go_wp2_with fail
          refine (H2.out _ (HL.out.below B.out)).mono ?_; rintro e w3 ⟨rfl, hb⟩; have B := Lib.hid (ext B.out hb); clear hb
          go_wp2_with fail
          go_quiet (fail)
          have B := Lib.hid (ext B.out (below_drewN _ _ nq))
          generalize w3.drewN nq = w4 at *
          go_wp2_with fail
          refine (H3.out _ (HL.out.below B.out)).mono ?_; rintro e w5 ⟨rfl, hb⟩; have B := Lib.hid (ext B.out hb); clear hb
          go_wp2_with fail
          refine (H4.out _ (HL.out.below B.out)).mono ?_; rintro e w6 ⟨rfl, hb⟩; have B := Lib.hid (ext B.out hb); clear hb
          go_wp2_with fail
          refine (H5.out _ (HL.out.below B.out)).mono ?_; rintro e w7 ⟨rfl, hb⟩; have B := Lib.hid (ext B.out hb); clear hb
          go_wp2_with fail
          all_goals
            go_ret
            exact ⟨by simp, B.out⟩
      · rw [avl, if_neg h2, aer, if_neg h2] at H4
        clear h2 h
        have B := Lib.hid (Below.refl w.heap.size w)
        go_enter Tryd.func6, Tryd.ntmps6
        go_wp2_with fail
        refine (up_any _ (HL.out.below B.out)).mono ?_; rintro e w1 ⟨rfl, hb⟩; have B := Lib.hid (ext B.out hb); clear hb
        go_wp2_with fail
        refine (H1.out _).mono ?_; rintro e w2 ⟨rfl, hb⟩; have B := Lib.hid (ext B.out hb); clear hb
        go_wp2_with fail
        refine (H2.out _ (HL.out.below B.out)).mono ?_; rintro e w3 ⟨rfl, hb⟩; have B := Lib.hid (ext B.out hb); clear hb
        go_wp2_with fail
        go_quiet (fail)
        have B := Lib.hid (ext B.out (below_drewN _ _ nq))
        generalize w3.drewN nq = w4 at *
        go_wp2_with fail
        refine (H3.out _ (HL.out.below B.out)).mono ?_; rintro e w5 ⟨rfl, hb⟩; have B := Lib.hid (ext B.out hb); clear hb
        go_wp2_with fail
        refine (H4.out _ (HL.out.below B.out)).mono ?_; rintro e w6 ⟨rfl, hb⟩; have B := Lib.hid (ext B.out hb); clear hb
        go_wp2_with fail
        refine (H5.out _ (HL.out.below B.out)).mono ?_; rintro e w7 ⟨rfl, hb⟩; have B := Lib.hid (ext B.out hb); clear hb
        go_wp2_with fail
        all_goals
          go_ret
          exact ⟨by simp, B.out⟩
    · rw [avl, if_neg h1, aer, if_neg h1] at H3
      generalize avl mo b r m = y at *
      generalize aer b r m = f at *
      clear h1 h
      have B := Lib.hid (Below.refl w.heap.size w)
      go_enter Tryd.func6, Tryd.ntmps6
      go_wp2_with fail
      refine (up_any _ (HL.out.below B.out)).mono ?_; rintro e w1 ⟨rfl, hb⟩; have B := Lib.hid (ext B.out hb); clear hb
      go_wp2_with fail
      refine (H1.out _).mono ?_; rintro e w2 ⟨rfl, hb⟩; have B := Lib.hid (ext B.out hb); clear hb
      go_wp2_with fail
      refine (H2.out _ (HL.out.below B.out)).mono ?_; rintro e w3 ⟨rfl, hb⟩; have B := Lib.hid (ext B.out hb); clear hb
      go_wp2_with fail
      go_quiet (fail)
      have B := Lib.hid (ext B.out (below_drewN _ _ nq))
      generalize w3.drewN nq = w4 at *
      go_wp2_with fail
      refine (H3.out _ (HL.out.below B.out)).mono ?_; rintro e w5 ⟨rfl, hb⟩; have B := Lib.hid (ext B.out hb); clear hb
      go_wp2_with fail
      refine (H4.out _ (HL.out.below B.out)).mono ?_; rintro e w6 ⟨rfl, hb⟩; have B := Lib.hid (ext B.out hb); clear hb
      go_wp2_with fail
      refine (H5.out _ (HL.out.below B.out)).mono ?_; rintro e w7 ⟨rfl, hb⟩; have B := Lib.hid (ext B.out hb); clear hb
      go_wp2_with fail
      all_goals
        go_ret
        exact ⟨by simp, B.out⟩
  · have n30 : ¬ Ct.AMay b r 30 := fun k => h k.1
    have n1 : ¬ Ct.AMay b r d := fun k => h k.1
    have n2 : ¬ Ct.AMay b r m := fun k => h k.1
    have n0 : ¬ Ct.AMay b r 0 := fun k => h k.1
    rw [mvl, if_neg h, mer, if_neg h] at H1
    rw [avl, if_neg n30, aer, if_neg n30] at H2
    rw [avl, if_neg n1, aer, if_neg n1] at H3
    rw [avl, if_neg n2, aer, if_neg n2] at H4
    rw [avl, if_neg n0, aer, if_neg n0] at H5
    clear n30 n1 n2 n0 h
    have B := Lib.hid (Below.refl w.heap.size w)
    go_enter Tryd.func6, Tryd.ntmps6
    go_wp2_with fail
    refine (up_any _ (HL.out.below B.out)).mono ?_; rintro e w1 ⟨rfl, hb⟩; have B := Lib.hid (ext B.out hb); clear hb
    go_wp2_with fail
    refine (H1.out _).mono ?_; rintro e w2 ⟨rfl, hb⟩; have B := Lib.hid (ext B.out hb); clear hb
    go_wp2_with fail
    refine (H2.out _ (HL.out.below B.out)).mono ?_; rintro e w3 ⟨rfl, hb⟩; have B := Lib.hid (ext B.out hb); clear hb
    go_wp2_with fail
    go_quiet (fail)
    have B := Lib.hid (ext B.out (below_drewN _ _ nq))
    generalize w3.drewN nq = w4 at *
    go_wp2_with fail
    refine (H3.out _ (HL.out.below B.out)).mono ?_; rintro e w5 ⟨rfl, hb⟩; have B := Lib.hid (ext B.out hb); clear hb
    go_wp2_with fail
    refine (H4.out _ (HL.out.below B.out)).mono ?_; rintro e w6 ⟨rfl, hb⟩; have B := Lib.hid (ext B.out hb); clear hb
    go_wp2_with fail
    refine (H5.out _ (HL.out.below B.out)).mono ?_; rintro e w7 ⟨rfl, hb⟩; have B := Lib.hid (ext B.out hb); clear hb
    go_wp2_with fail
    all_goals
      go_ret
      exact ⟨by simp, B.out⟩
end Go.Proofs.YtmfjnnjjoagbiaaDoor
