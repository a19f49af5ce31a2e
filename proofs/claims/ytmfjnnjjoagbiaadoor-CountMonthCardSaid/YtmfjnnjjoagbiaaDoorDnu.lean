import Derived.Test.YtmfjnnjjoagbiaaDoorDa
import Derived.Test.YtmfjnnjjoagbiaaDoorDny
namespace Go.Proofs.YtmfjnnjjoagbiaaDoor
open Go.RowKit Go.Lib Go.ChangeShapes Go.WideShapes Go.ChangeAt

theorem cnum_no (y m d : Int) (h : ¬ Dt.May y m d) (w : World) (hL : Laid w) : Calls Tryd.prog 19 #[dtv y m d] w fun e w' => e = .returned (.tuple #[.int .i64 0, vErr 2]) ∧ Below w.heap.size w w' := by
  have HL := Lib.hid hL
  have HM := Lib.hid h
  clear hL h
  have B := Lib.hid (DV.new (Below.refl w.heap.size w) 23 y m d)
  go_enter Tryd.func19, Tryd.ntmps19
  go_wp2_with fail
  refine (cmay y m d _ (HL.out.below B.out.1)).mono ?_; rintro e w1 ⟨rfl, hb⟩; rw [decide_eq_false HM.out]; have B := Lib.hid (B.out.below hb); clear hb
  go_wp2_with fail
  exact bodyPost_ret (v := .tuple #[.int .i64 0, vErr 2]) (by simp [results, Tryd.results19, go_sem]) rfl ⟨rfl, B.out.1⟩
theorem cnum_yes (y m d : Int) (h : Dt.May y m d) (w : World) (hL : Laid w) : Calls Tryd.prog 19 #[dtv y m d] w fun e w' => e = .returned (.tuple #[.int .i64 (Dt.nm y m d), .nilIface]) ∧ Below w.heap.size w w' := by
  have HL := Lib.hid hL
  have HM := Lib.hid h
  have HI := Lib.hid (Dt.may_in h)
  clear hL h
  have hd : 1 ≤ d ∧ d ≤ 31 := by have := HM.out; have := Dt.dys_nn y m; unfold Dt.May at *; omega
  obtain ⟨hd1, hd2⟩ := hd
  have hy1 : 1900 ≤ y := HI.out.1.1
  have hy2 : y ≤ 2199 := HI.out.1.2
  have hm1 : 1 ≤ m := HI.out.2.1
  have hm2 : m ≤ 12 := HI.out.2.2
  have HC := Lib.hid (Dt.cy_bd hy1 (by omega : y ≤ 2200))
  have g1 := HC.out.1
  have g2 := HC.out.2
  have B := Lib.hid (DV.new (Below.refl w.heap.size w) 23 y m d)
  have HN := Lib.hid (show Dt.nm y m d = Dt.cy y + Dt.cm y m + d - 1 from rfl)
  have HY := Lib.hid (fun (w : World) (n : Nat) => newYear_q y (by omega) (by omega) w n)
  generalize Dt.nm y m d = N at *
  generalize Dt.cy y = C at *
  go_enter Tryd.func19, Tryd.ntmps19
  go_wp2_with fail
  refine (cmay y m d _ (HL.out.below B.out.1)).mono ?_; rintro e w1 ⟨rfl, hb⟩; rw [decide_eq_true HM.out]; have B := Lib.hid (B.out.below hb); clear hb
  obtain ⟨-, -, -, ⟨c0, c1, c2⟩, -⟩ := B.out
  go_wp2_with fail
  go_quiet ((go_at_call 34; exact Calls.quiet_of_same (HY.out _ _)))
  have B := Lib.hid (B.out.below (below_drewN _ _ nq))
  clear c0 c1 c2
  obtain ⟨-, -, -, ⟨c0, c1, c2⟩, -⟩ := B.out
  generalize w1.drewN nq = w2 at *
  go_wp2_with fail
  go_loopw [4, 5] (fun x i wr => ∃ (I : Int), 1 ≤ I ∧ I ≤ m ∧ x = .int .i64 (C + d - 1 + Dt.cm y I) ∧ i = .int .i64 I ∧ w2 = wr) (fun _ i _ => (m - RowKit.intOf i).toNat)
  case atStart => exact ⟨1, by omega, hm1, by rw [Dt.cm_one]; simp, rfl, rfl⟩
  case round =>
    obtain ⟨I, i0, i1, rfl, rfl, rfl⟩ := hrel
    have HMI := Lib.hid (show Dt.InM I from ⟨i0, by omega⟩)
    have hz : 0 ≤ Dt.cm y I ∧ Dt.cm y I ≤ 366 ∧ 0 ≤ Dt.dys y I ∧ Dt.dys y I ≤ 31 := by have := Dt.cm_bd HI.out.1 HMI.out; have := Dt.dys_nn y I; have := Dt.fb_cases y; omega
    obtain ⟨z1, z2, z3, z4⟩ := hz
    by_cases hlt : I < m
    · have HS := Lib.hid (Dt.cm_step HI.out.1 HMI.out)
      go_wp2_with fail
      refine (days_same y I _ (HL.out.below B.out.1)).mono ?_; rintro e w' ⟨rfl, rfl⟩
      go_wp2_with fail
      go_roundw
      case rel => exact ⟨_, by omega, by omega, by rw [HS.out]; simp; omega, rfl, trivial⟩
      case measure => simp [RowKit.intOf]; omega
    · have hI : I = m := by omega
      subst hI
      go_wp2_with fail
      exact bodyPost_ret (v := .tuple #[.int .i64 (C + d - 1 + Dt.cm y I), .nilIface]) (by simp [results, Tryd.results19, go_sem]) rfl ⟨by rw [HN.out]; simp; omega, B.out.1⟩
end Go.Proofs.YtmfjnnjjoagbiaaDoor
