import Derived.Test.YtmfjnnjjoagbiaaDoorCl
import Derived.Test.YtmfjnnjjoagbiaaDoorDmo
/- written by wip/tools/gen_cu.py -/
namespace Go.Proofs.YtmfjnnjjoagbiaaDoor.Dt
theorem md_small {y m d n : Int} (hd : d ≤ 28) (h : mok y m n) : md y m d n = d := by
  have h3 := h.2.2
  have hin : InY (my y m n) ∧ InM (mm y m n) := by
    by_cases c : InY (my y m n) ∧ InM (mm y m n)
    · exact c
    · exfalso; unfold dys at h3; rw [if_pos (by unfold InY InM at c; omega)] at h3; omega
  have := dys_bd hin.1 hin.2
  unfold md; rw [if_neg (by omega)]
end Go.Proofs.YtmfjnnjjoagbiaaDoor.Dt
namespace Go.Proofs.YtmfjnnjjoagbiaaDoor
open Go.RowKit Go.Lib Go.ChangeShapes Go.WideShapes Go.ChangeAt

/-- Between, of whatever days: what it is, and whether there is an error -/
def bv (mo : Bool) (y m d Y M D : Int) : Int := if Dt.May y m d ∧ Dt.May Y M D then Ct.bt mo y m d Y M D else 0
def be (y m d Y M D : Int) : Value := if Dt.May y m d ∧ Dt.May Y M D then .nilIface else vErr 2
theorem cbt (mo : Bool) (y m d Y M D : Int) (w : World) (hL : Laid w) : Calls Tryd.prog 8 #[dtv y m d, dtv Y M D, .bool mo] w fun e w' => e = .returned (.tuple #[.int .i64 (bv mo y m d Y M D), be y m d Y M D]) ∧ Below w.heap.size w w' := by
  by_cases h : Dt.May y m d ∧ Dt.May Y M D
  · rw [bv, if_pos h, be, if_pos h]; exact cbt_yes mo y m d Y M D h.1 h.2 w hL
  · rw [bv, if_neg h, be, if_neg h]; exact cbt_no mo y m d Y M D h w hL

set_option maxHeartbeats 1000000 in
theorem turns_walk (y m d Y M D p q r : Int) (mo : Bool) (w : World) (hL : Laid w) : Calls Tryd.prog 5 #[dtv y m d, dtv Y M D, dtv p q r, .bool mo] w fun e w' => e = .returned (.bool true) ∧ Below w.heap.size w w' := by
  have HL := Lib.hid hL
  clear hL
  have A := Lib.hid (DV.new (Below.refl w.heap.size w) 23 y m d)
  have B := Lib.hid (show DV w _ (w.heap.size + 1) Y M D by simpa using DV.new A.out.1 23 Y M D)
  have A := Lib.hid (A.out.alloc (.cells #[.int .i64 Y, .int .i64 M, .int .i64 D] 23))
  have C := Lib.hid (show DV w _ (w.heap.size + 1 + 1) p q r by simpa using DV.new B.out.1 23 p q r)
  have A := Lib.hid (A.out.alloc (.cells #[.int .i64 p, .int .i64 q, .int .i64 r] 23))
  have B := Lib.hid (B.out.alloc (.cells #[.int .i64 p, .int .i64 q, .int .i64 r] 23))
  by_cases h : Dt.May y m d ∧ Dt.May Y M D
  · by_cases h' : Dt.May p q r
    · have HM := Lib.hid (And.intro h h')
      clear h h'
      have x1 := Ct.bt_bd mo HM.out.1.1 HM.out.1.2
      have x2 := Ct.bt_bd mo HM.out.1.2 HM.out.2
      have hx := Ct.bt_sum mo y m d Y M D p q r
      have hu := Ct.bt_turn mo y m d Y M D
      have H1 := Lib.hid (fun (w : World) (hL : Laid w) => cbt_yes mo y m d Y M D HM.out.1.1 HM.out.1.2 w hL)
      have H2 := Lib.hid (fun (w : World) (hL : Laid w) => cbt_yes mo Y M D p q r HM.out.1.2 HM.out.2 w hL)
      have H3 := Lib.hid (fun (w : World) (hL : Laid w) => cbt_yes mo y m d p q r HM.out.1.1 HM.out.2 w hL)
      have H4 := Lib.hid (fun (w : World) (hL : Laid w) => cbt_yes mo Y M D y m d HM.out.1.2 HM.out.1.1 w hL)
      generalize Ct.bt mo y m d Y M D = n1 at *
      generalize Ct.bt mo Y M D p q r = n2 at *
      generalize Ct.bt mo y m d p q r = n3 at *
      generalize Ct.bt mo Y M D y m d = n4 at *
      obtain ⟨g1, g2⟩ := x1
      obtain ⟨g3, g4⟩ := x2
      have g5 : -800000 ≤ n4 := by omega
      have g6 : n4 ≤ 800000 := by omega
      by_cases hk : Dt.mok y m 1
      · have HK := Lib.hid hk
        by_cases hd : d ≤ 28
        · have HE := Lib.hid (mvv_is (d := d) hk rfl rfl (Dt.md_small hd hk))
          have HI := Lib.hid (Dt.may_in HM.out.1.1)
          have HN := Lib.hid (Dt.md_may (d := d) HM.out.1.1.1 hk)
          rw [Dt.md_small hd hk] at HN
          have HT := Lib.hid (Ct.bt_next (y := y) HI.out.2 hd)
          have H5 := Lib.hid (fun (w : World) (hL : Laid w) => cmon_yes y m d 1 HM.out.1.1 (by decide) w hL)
          have H6 := Lib.hid (fun (w : World) (hL : Laid w) => cbt_yes true y m d (Dt.my y m 1) (Dt.mm y m 1) d HM.out.1.1 HN.out w hL)
          rw [HT.out] at H6
          clear hk HT HN
          generalize Dt.my y m 1 = U at *
          generalize Dt.mm y m 1 = V at *
          have hd2 : decide (28 < d) = false := by simp; omega
          go_enter Tryd.func5, Tryd.ntmps5
          go_wp2_with fail
          refine (up_any _ (HL.out.below A.out.1)).mono ?_; rintro e w1 ⟨rfl, hb⟩; have A := Lib.hid (A.out.below hb); have B := Lib.hid (B.out.below hb); have C := Lib.hid (C.out.below hb); clear hb
          obtain ⟨-, -, -, ⟨a0, a1, a2⟩, -⟩ := A.out
          obtain ⟨-, -, -, ⟨b0, b1, b2⟩, -⟩ := B.out
          obtain ⟨-, -, -, ⟨c0, c1, c2⟩, -⟩ := C.out
          go_wp2_with fail
          refine (H1.out _ (HL.out.below A.out.1)).mono ?_; rintro e w2 ⟨rfl, hb⟩; have A := Lib.hid (A.out.below hb); have B := Lib.hid (B.out.below hb); have C := Lib.hid (C.out.below hb); clear hb
          obtain ⟨-, -, -, ⟨a0, a1, a2⟩, -⟩ := A.out
          obtain ⟨-, -, -, ⟨b0, b1, b2⟩, -⟩ := B.out
          obtain ⟨-, -, -, ⟨c0, c1, c2⟩, -⟩ := C.out
          go_wp2_with fail
          refine (H2.out _ (HL.out.below A.out.1)).mono ?_; rintro e w3 ⟨rfl, hb⟩; have A := Lib.hid (A.out.below hb); have B := Lib.hid (B.out.below hb); have C := Lib.hid (C.out.below hb); clear hb
          obtain ⟨-, -, -, ⟨a0, a1, a2⟩, -⟩ := A.out
          obtain ⟨-, -, -, ⟨b0, b1, b2⟩, -⟩ := B.out
          obtain ⟨-, -, -, ⟨c0, c1, c2⟩, -⟩ := C.out
          go_wp2_with fail
          refine (H3.out _ (HL.out.below A.out.1)).mono ?_; rintro e w4 ⟨rfl, hb⟩; have A := Lib.hid (A.out.below hb); have B := Lib.hid (B.out.below hb); have C := Lib.hid (C.out.below hb); clear hb
          obtain ⟨-, -, -, ⟨a0, a1, a2⟩, -⟩ := A.out
          obtain ⟨-, -, -, ⟨b0, b1, b2⟩, -⟩ := B.out
          obtain ⟨-, -, -, ⟨c0, c1, c2⟩, -⟩ := C.out
          go_wp2_with fail
          refine (H4.out _ (HL.out.below A.out.1)).mono ?_; rintro e w5 ⟨rfl, hb⟩; have A := Lib.hid (A.out.below hb); have B := Lib.hid (B.out.below hb); have C := Lib.hid (C.out.below hb); clear hb
          obtain ⟨-, -, -, ⟨a0, a1, a2⟩, -⟩ := A.out
          obtain ⟨-, -, -, ⟨b0, b1, b2⟩, -⟩ := B.out
          obtain ⟨-, -, -, ⟨c0, c1, c2⟩, -⟩ := C.out
          go_wp2_with fail
          refine (H5.out _ (HL.out.below A.out.1)).mono ?_; rintro e w6 ⟨rfl, hb⟩; rw [HE.out.1, HE.out.2]; have A := Lib.hid (A.out.below hb); have B := Lib.hid (B.out.below hb); have C := Lib.hid (C.out.below hb); clear hb
          have E := Lib.hid (DV.new A.out.1 23 U V d)
          have A := Lib.hid (A.out.alloc (.cells #[.int .i64 U, .int .i64 V, .int .i64 d] 23))
          have B := Lib.hid (B.out.alloc (.cells #[.int .i64 U, .int .i64 V, .int .i64 d] 23))
          have C := Lib.hid (C.out.alloc (.cells #[.int .i64 U, .int .i64 V, .int .i64 d] 23))
          obtain ⟨-, -, -, ⟨a0, a1, a2⟩, -⟩ := A.out
          obtain ⟨-, -, -, ⟨b0, b1, b2⟩, -⟩ := B.out
          obtain ⟨-, -, -, ⟨c0, c1, c2⟩, -⟩ := C.out
          obtain ⟨-, -, -, ⟨k0, k1, k2⟩, -⟩ := E.out
          go_wp2_with fail
          refine (H6.out _ (HL.out.below A.out.1)).mono ?_; rintro e w7 ⟨rfl, hb⟩; have A := Lib.hid (A.out.below hb); have B := Lib.hid (B.out.below hb); have C := Lib.hid (C.out.below hb); have E := Lib.hid (E.out.below hb); clear hb
          go_wp2_with fail
          go_ret
          exact ⟨by simp, A.out.1⟩
        · have HE := Lib.hid (mvv_is (d := d) hk rfl rfl rfl)
          have H5 := Lib.hid (fun (w : World) (hL : Laid w) => cmon_yes y m d 1 HM.out.1.1 (by decide) w hL)
          clear hk
          generalize Dt.my y m 1 = U at *
          generalize Dt.mm y m 1 = V at *
          generalize Dt.md y m d 1 = F at *
          have hd2 : 28 < d := by omega
          clear hd
          go_enter Tryd.func5, Tryd.ntmps5
          go_wp2_with fail
          refine (up_any _ (HL.out.below A.out.1)).mono ?_; rintro e w1 ⟨rfl, hb⟩; have A := Lib.hid (A.out.below hb); have B := Lib.hid (B.out.below hb); have C := Lib.hid (C.out.below hb); clear hb
          obtain ⟨-, -, -, ⟨a0, a1, a2⟩, -⟩ := A.out
          obtain ⟨-, -, -, ⟨b0, b1, b2⟩, -⟩ := B.out
          obtain ⟨-, -, -, ⟨c0, c1, c2⟩, -⟩ := C.out
          go_wp2_with fail
          refine (H1.out _ (HL.out.below A.out.1)).mono ?_; rintro e w2 ⟨rfl, hb⟩; have A := Lib.hid (A.out.below hb); have B := Lib.hid (B.out.below hb); have C := Lib.hid (C.out.below hb); clear hb
          obtain ⟨-, -, -, ⟨a0, a1, a2⟩, -⟩ := A.out
          obtain ⟨-, -, -, ⟨b0, b1, b2⟩, -⟩ := B.out
          obtain ⟨-, -, -, ⟨c0, c1, c2⟩, -⟩ := C.out
          go_wp2_with fail
          refine (H2.out _ (HL.out.below A.out.1)).mono ?_; rintro e w3 ⟨rfl, hb⟩; have A := Lib.hid (A.out.below hb); have B := Lib.hid (B.out.below hb); have C := Lib.hid (C.out.below hb); clear hb
          obtain ⟨-, -, -, ⟨a0, a1, a2⟩, -⟩ := A.out
          obtain ⟨-, -, -, ⟨b0, b1, b2⟩, -⟩ := B.out
          obtain ⟨-, -, -, ⟨c0, c1, c2⟩, -⟩ := C.out
          go_wp2_with fail
          refine (H3.out _ (HL.out.below A.out.1)).mono ?_; rintro e w4 ⟨rfl, hb⟩; have A := Lib.hid (A.out.below hb); have B := Lib.hid (B.out.below hb); have C := Lib.hid (C.out.below hb); clear hb
          obtain ⟨-, -, -, ⟨a0, a1, a2⟩, -⟩ := A.out
          obtain ⟨-, -, -, ⟨b0, b1, b2⟩, -⟩ := B.out
          obtain ⟨-, -, -, ⟨c0, c1, c2⟩, -⟩ := C.out
          go_wp2_with fail
          refine (H4.out _ (HL.out.below A.out.1)).mono ?_; rintro e w5 ⟨rfl, hb⟩; have A := Lib.hid (A.out.below hb); have B := Lib.hid (B.out.below hb); have C := Lib.hid (C.out.below hb); clear hb
          obtain ⟨-, -, -, ⟨a0, a1, a2⟩, -⟩ := A.out
          obtain ⟨-, -, -, ⟨b0, b1, b2⟩, -⟩ := B.out
          obtain ⟨-, -, -, ⟨c0, c1, c2⟩, -⟩ := C.out
          go_wp2_with fail
          refine (H5.out _ (HL.out.below A.out.1)).mono ?_; rintro e w6 ⟨rfl, hb⟩; rw [HE.out.1, HE.out.2]; have A := Lib.hid (A.out.below hb); have B := Lib.hid (B.out.below hb); have C := Lib.hid (C.out.below hb); clear hb
          have E := Lib.hid (DV.new A.out.1 23 U V F)
          have A := Lib.hid (A.out.alloc (.cells #[.int .i64 U, .int .i64 V, .int .i64 F] 23))
          have B := Lib.hid (B.out.alloc (.cells #[.int .i64 U, .int .i64 V, .int .i64 F] 23))
          have C := Lib.hid (C.out.alloc (.cells #[.int .i64 U, .int .i64 V, .int .i64 F] 23))
          obtain ⟨-, -, -, ⟨a0, a1, a2⟩, -⟩ := A.out
          obtain ⟨-, -, -, ⟨b0, b1, b2⟩, -⟩ := B.out
          obtain ⟨-, -, -, ⟨c0, c1, c2⟩, -⟩ := C.out
          obtain ⟨-, -, -, ⟨k0, k1, k2⟩, -⟩ := E.out
          go_wp2_with fail
          go_ret
          exact ⟨by simp, A.out.1⟩
      · have H5 := Lib.hid (fun (w : World) (hL : Laid w) => cmon_yes y m d 1 HM.out.1.1 (by decide) w hL)
        rw [mvv, if_neg hk, mev, if_neg hk] at H5
        clear hk
        go_enter Tryd.func5, Tryd.ntmps5
        go_wp2_with fail
        refine (up_any _ (HL.out.below A.out.1)).mono ?_; rintro e w1 ⟨rfl, hb⟩; have A := Lib.hid (A.out.below hb); have B := Lib.hid (B.out.below hb); have C := Lib.hid (C.out.below hb); clear hb
        obtain ⟨-, -, -, ⟨a0, a1, a2⟩, -⟩ := A.out
        obtain ⟨-, -, -, ⟨b0, b1, b2⟩, -⟩ := B.out
        obtain ⟨-, -, -, ⟨c0, c1, c2⟩, -⟩ := C.out
        go_wp2_with fail
        refine (H1.out _ (HL.out.below A.out.1)).mono ?_; rintro e w2 ⟨rfl, hb⟩; have A := Lib.hid (A.out.below hb); have B := Lib.hid (B.out.below hb); have C := Lib.hid (C.out.below hb); clear hb
        obtain ⟨-, -, -, ⟨a0, a1, a2⟩, -⟩ := A.out
        obtain ⟨-, -, -, ⟨b0, b1, b2⟩, -⟩ := B.out
        obtain ⟨-, -, -, ⟨c0, c1, c2⟩, -⟩ := C.out
        go_wp2_with fail
        refine (H2.out _ (HL.out.below A.out.1)).mono ?_; rintro e w3 ⟨rfl, hb⟩; have A := Lib.hid (A.out.below hb); have B := Lib.hid (B.out.below hb); have C := Lib.hid (C.out.below hb); clear hb
        obtain ⟨-, -, -, ⟨a0, a1, a2⟩, -⟩ := A.out
        obtain ⟨-, -, -, ⟨b0, b1, b2⟩, -⟩ := B.out
        obtain ⟨-, -, -, ⟨c0, c1, c2⟩, -⟩ := C.out
        go_wp2_with fail
        refine (H3.out _ (HL.out.below A.out.1)).mono ?_; rintro e w4 ⟨rfl, hb⟩; have A := Lib.hid (A.out.below hb); have B := Lib.hid (B.out.below hb); have C := Lib.hid (C.out.below hb); clear hb
        obtain ⟨-, -, -, ⟨a0, a1, a2⟩, -⟩ := A.out
        obtain ⟨-, -, -, ⟨b0, b1, b2⟩, -⟩ := B.out
        obtain ⟨-, -, -, ⟨c0, c1, c2⟩, -⟩ := C.out
        go_wp2_with fail
        refine (H4.out _ (HL.out.below A.out.1)).mono ?_; rintro e w5 ⟨rfl, hb⟩; have A := Lib.hid (A.out.below hb); have B := Lib.hid (B.out.below hb); have C := Lib.hid (C.out.below hb); clear hb
        obtain ⟨-, -, -, ⟨a0, a1, a2⟩, -⟩ := A.out
        obtain ⟨-, -, -, ⟨b0, b1, b2⟩, -⟩ := B.out
        obtain ⟨-, -, -, ⟨c0, c1, c2⟩, -⟩ := C.out
        go_wp2_with fail
        refine (H5.out _ (HL.out.below A.out.1)).mono ?_; rintro e w6 ⟨rfl, hb⟩; have A := Lib.hid (A.out.below hb); have B := Lib.hid (B.out.below hb); have C := Lib.hid (C.out.below hb); clear hb
        have E := Lib.hid (DV.new A.out.1 23 0 0 0)
        have A := Lib.hid (A.out.alloc (.cells #[.int .i64 0, .int .i64 0, .int .i64 0] 23))
        have B := Lib.hid (B.out.alloc (.cells #[.int .i64 0, .int .i64 0, .int .i64 0] 23))
        have C := Lib.hid (C.out.alloc (.cells #[.int .i64 0, .int .i64 0, .int .i64 0] 23))
        obtain ⟨-, -, -, ⟨a0, a1, a2⟩, -⟩ := A.out
        obtain ⟨-, -, -, ⟨b0, b1, b2⟩, -⟩ := B.out
        obtain ⟨-, -, -, ⟨c0, c1, c2⟩, -⟩ := C.out
        obtain ⟨-, -, -, ⟨k0, k1, k2⟩, -⟩ := E.out
        go_wp2_with fail
        go_ret
        exact ⟨by simp, A.out.1⟩
    · have HM := Lib.hid (And.intro h h')
      clear h h'
      have x1 := Ct.bt_bd mo HM.out.1.1 HM.out.1.2
      have H1 := Lib.hid (fun (w : World) (hL : Laid w) => cbt_yes mo y m d Y M D HM.out.1.1 HM.out.1.2 w hL)
      have H2 := Lib.hid (fun (w : World) (hL : Laid w) => cbt_no mo Y M D p q r (fun h => HM.out.2 h.2) w hL)
      have H3 := Lib.hid (fun (w : World) (hL : Laid w) => cbt_no mo y m d p q r (fun h => HM.out.2 h.2) w hL)
      have H4 := Lib.hid (fun (w : World) (hL : Laid w) => cbt_yes mo Y M D y m d HM.out.1.2 HM.out.1.1 w hL)
      generalize Ct.bt mo y m d Y M D = n1 at *
      generalize Ct.bt mo Y M D y m d = n4 at *
      go_enter Tryd.func5, Tryd.ntmps5
      go_wp2_with fail
      refine (up_any _ (HL.out.below A.out.1)).mono ?_; rintro e w1 ⟨rfl, hb⟩; have A := Lib.hid (A.out.below hb); have B := Lib.hid (B.out.below hb); have C := Lib.hid (C.out.below hb); clear hb
      obtain ⟨-, -, -, ⟨a0, a1, a2⟩, -⟩ := A.out
      obtain ⟨-, -, -, ⟨b0, b1, b2⟩, -⟩ := B.out
      obtain ⟨-, -, -, ⟨c0, c1, c2⟩, -⟩ := C.out
      go_wp2_with fail
      refine (H1.out _ (HL.out.below A.out.1)).mono ?_; rintro e w2 ⟨rfl, hb⟩; have A := Lib.hid (A.out.below hb); have B := Lib.hid (B.out.below hb); have C := Lib.hid (C.out.below hb); clear hb
      obtain ⟨-, -, -, ⟨a0, a1, a2⟩, -⟩ := A.out
      obtain ⟨-, -, -, ⟨b0, b1, b2⟩, -⟩ := B.out
      obtain ⟨-, -, -, ⟨c0, c1, c2⟩, -⟩ := C.out
      go_wp2_with fail
      refine (H2.out _ (HL.out.below A.out.1)).mono ?_; rintro e w3 ⟨rfl, hb⟩; have A := Lib.hid (A.out.below hb); have B := Lib.hid (B.out.below hb); have C := Lib.hid (C.out.below hb); clear hb
      obtain ⟨-, -, -, ⟨a0, a1, a2⟩, -⟩ := A.out
      obtain ⟨-, -, -, ⟨b0, b1, b2⟩, -⟩ := B.out
      obtain ⟨-, -, -, ⟨c0, c1, c2⟩, -⟩ := C.out
      go_wp2_with fail
      refine (H3.out _ (HL.out.below A.out.1)).mono ?_; rintro e w4 ⟨rfl, hb⟩; have A := Lib.hid (A.out.below hb); have B := Lib.hid (B.out.below hb); have C := Lib.hid (C.out.below hb); clear hb
      obtain ⟨-, -, -, ⟨a0, a1, a2⟩, -⟩ := A.out
      obtain ⟨-, -, -, ⟨b0, b1, b2⟩, -⟩ := B.out
      obtain ⟨-, -, -, ⟨c0, c1, c2⟩, -⟩ := C.out
      go_wp2_with fail
      refine (H4.out _ (HL.out.below A.out.1)).mono ?_; rintro e w5 ⟨rfl, hb⟩; have A := Lib.hid (A.out.below hb); have B := Lib.hid (B.out.below hb); have C := Lib.hid (C.out.below hb); clear hb
      obtain ⟨-, -, -, ⟨a0, a1, a2⟩, -⟩ := A.out
      obtain ⟨-, -, -, ⟨b0, b1, b2⟩, -⟩ := B.out
      obtain ⟨-, -, -, ⟨c0, c1, c2⟩, -⟩ := C.out
      go_wp2_with fail
      go_ret
      exact ⟨by simp, A.out.1⟩
  · have HM := Lib.hid h
    clear h
    have H1 := Lib.hid (fun (w : World) (hL : Laid w) => cbt_no mo y m d Y M D HM.out w hL)
    have H2 := Lib.hid (fun (w : World) (hL : Laid w) => cbt mo Y M D p q r w hL)
    have H3 := Lib.hid (fun (w : World) (hL : Laid w) => cbt mo y m d p q r w hL)
    have H4 := Lib.hid (fun (w : World) (hL : Laid w) => cbt_no mo Y M D y m d (fun h => HM.out ⟨h.2, h.1⟩) w hL)
    generalize bv mo Y M D p q r = n2 at *
    generalize be Y M D p q r = e2 at *
    generalize bv mo y m d p q r = n3 at *
    generalize be y m d p q r = e3 at *
    go_enter Tryd.func5, Tryd.ntmps5
    go_wp2_with fail
    refine (up_any _ (HL.out.below A.out.1)).mono ?_; rintro e w1 ⟨rfl, hb⟩; have A := Lib.hid (A.out.below hb); have B := Lib.hid (B.out.below hb); have C := Lib.hid (C.out.below hb); clear hb
    obtain ⟨-, -, -, ⟨a0, a1, a2⟩, -⟩ := A.out
    obtain ⟨-, -, -, ⟨b0, b1, b2⟩, -⟩ := B.out
    obtain ⟨-, -, -, ⟨c0, c1, c2⟩, -⟩ := C.out
    go_wp2_with fail
    refine (H1.out _ (HL.out.below A.out.1)).mono ?_; rintro e w2 ⟨rfl, hb⟩; have A := Lib.hid (A.out.below hb); have B := Lib.hid (B.out.below hb); have C := Lib.hid (C.out.below hb); clear hb
    obtain ⟨-, -, -, ⟨a0, a1, a2⟩, -⟩ := A.out
    obtain ⟨-, -, -, ⟨b0, b1, b2⟩, -⟩ := B.out
    obtain ⟨-, -, -, ⟨c0, c1, c2⟩, -⟩ := C.out
    go_wp2_with fail
    refine (H2.out _ (HL.out.below A.out.1)).mono ?_; rintro e w3 ⟨rfl, hb⟩; have A := Lib.hid (A.out.below hb); have B := Lib.hid (B.out.below hb); have C := Lib.hid (C.out.below hb); clear hb
    obtain ⟨-, -, -, ⟨a0, a1, a2⟩, -⟩ := A.out
    obtain ⟨-, -, -, ⟨b0, b1, b2⟩, -⟩ := B.out
    obtain ⟨-, -, -, ⟨c0, c1, c2⟩, -⟩ := C.out
    go_wp2_with fail
    refine (H3.out _ (HL.out.below A.out.1)).mono ?_; rintro e w4 ⟨rfl, hb⟩; have A := Lib.hid (A.out.below hb); have B := Lib.hid (B.out.below hb); have C := Lib.hid (C.out.below hb); clear hb
    obtain ⟨-, -, -, ⟨a0, a1, a2⟩, -⟩ := A.out
    obtain ⟨-, -, -, ⟨b0, b1, b2⟩, -⟩ := B.out
    obtain ⟨-, -, -, ⟨c0, c1, c2⟩, -⟩ := C.out
    go_wp2_with fail
    refine (H4.out _ (HL.out.below A.out.1)).mono ?_; rintro e w5 ⟨rfl, hb⟩; have A := Lib.hid (A.out.below hb); have B := Lib.hid (B.out.below hb); have C := Lib.hid (C.out.below hb); clear hb
    obtain ⟨-, -, -, ⟨a0, a1, a2⟩, -⟩ := A.out
    obtain ⟨-, -, -, ⟨b0, b1, b2⟩, -⟩ := B.out
    obtain ⟨-, -, -, ⟨c0, c1, c2⟩, -⟩ := C.out
    go_wp2_with fail
    go_ret
    exact ⟨by simp, A.out.1⟩
end Go.Proofs.YtmfjnnjjoagbiaaDoor
