import Derived.Test.YthnhfilackghgaaDoorDe
import Derived.StillTailTactics
namespace Go.Proofs.YthnhfilackghgaaDoor
open Go.RowKit Go.Lib Go.ChangeShapes Go.WideShapes Go.ChangeAt

theorem clast_yes (y m d : Int) (h : Dt.May y m d) (w : World) (hL : Laid w) : Calls Tryd.prog 19 #[dv y m d] w fun e w' => e = .returned (.tuple #[dv y m (Dt.dys y m), .nilIface]) ∧ Below w.heap.size w w' := by
  have HL := Lib.hid hL
  have HM := Lib.hid h
  clear hL h
  have D := Lib.hid (DV.new (Below.refl w.heap.size w) 23 y m d)
  have B := Lib.hid (show DV w _ (w.heap.size + 1) 0 0 0 by simpa using DV.new D.out.1 23 0 0 0)
  have D := Lib.hid (D.out.alloc (.cells #[.int .i64 0, .int .i64 0, .int .i64 0] 23))
  go_enter Tryd.func19, Tryd.ntmps19
  go_wp2_with fail
  refine (cmay y m d _ (HL.out.below B.out.1)).mono ?_; rintro e w1 ⟨rfl, hb⟩; rw [decide_eq_true HM.out]; have B := Lib.hid (B.out.below hb); have D := Lib.hid (D.out.below hb); clear hb
  obtain ⟨-, hs, -, ⟨c0, c1, c2⟩, f0, f1, f2⟩ := B.out
  obtain ⟨-, -, -, ⟨d0, d1, d2⟩, -⟩ := D.out
  obtain ⟨E, hE⟩ : ∃ E, Dt.dys y m = E := ⟨_, rfl⟩
  have HD := Lib.hid (fun (w : World) (hL : Laid w) => (days_same y m w hL).mono fun _ _ h => (And.intro h.1 h.2.symm : _ ∧ _))
  rw [hE] at HD
  have HE := Lib.hid hE
  clear hE
  go_wp2_with fail
  go_still_tail 10, (by kernel_rfl)
  still_call (HD.out _ (HL.out.below B.out.1).drew)
  repeat still_step
  refine wpStill_nil ?_
  change wpList _ _ _ _ _ w1.drew
  have B := Lib.hid (B.out.below (Below.refl _ _).drew)
  clear c0 c1 c2 f0 f1 f2 d0 d1 d2 D
  obtain ⟨-, hs, -, ⟨c0, c1, c2⟩, f0, f1, f2⟩ := B.out
  generalize w1.drew = w2 at *
  go_wp2_with fail
  exact bodyPost_ret (v := .tuple #[dv y m E, .nilIface]) (by simp [results, Tryd.results19, go_sem, c0, c1, c2]) rfl ⟨by rw [HE.out], ((B.out.1.setCell hs _).setCell hs _).setCell hs _⟩
theorem cmon_no (y m d n : Int) (h : ¬ Dt.May y m d) (w : World) (hL : Laid w) : Calls Tryd.prog 17 #[dv y m d, .int .i64 n] w fun e w' => e = .returned (.tuple #[dv 0 0 0, vErr 2]) ∧ Below w.heap.size w w' := by
  have HL := Lib.hid hL
  have HM := Lib.hid h
  clear hL h
  have D := Lib.hid (DV.new (Below.refl w.heap.size w) 23 y m d)
  have B := Lib.hid (show DV w _ (w.heap.size + 1) 0 0 0 by simpa using DV.new D.out.1 23 0 0 0)
  go_enter Tryd.func17, Tryd.ntmps17
  go_wp2_with fail
  refine (cmay y m d _ (HL.out.below B.out.1)).mono ?_; rintro e w1 ⟨rfl, hb⟩; rw [decide_eq_false HM.out]; have B := Lib.hid (B.out.below hb); clear hb
  obtain ⟨-, hs, -, ⟨c0, c1, c2⟩, f0, f1, f2⟩ := B.out
  go_wp2_with fail
  exact bodyPost_ret (v := .tuple #[dv 0 0 0, vErr 2]) (by simp [results, Tryd.results17, go_sem, c0, c1, c2]) rfl ⟨rfl, ((B.out.1.setCell hs _).setCell hs _).setCell hs _⟩
theorem cmon_far (y m d n : Int) (h : Dt.May y m d) (hk : ¬ Dt.mok y m n) (hn : -9223372036854775808 ≤ n ∧ n ≤ 9223372036854775807) (w : World) (hL : Laid w) : Calls Tryd.prog 17 #[dv y m d, .int .i64 n] w fun e w' => e = .returned (.tuple #[dv 0 0 0, vErr 1]) ∧ Below w.heap.size w w' := by
  have HL := Lib.hid hL
  have HM := Lib.hid h
  have HI := Lib.hid (Dt.may_in h)
  have HN := Lib.hid hn
  have HK := Lib.hid (show n < -(12 * (y - 1900) + m - 1) ∨ 3600 - (12 * (y - 1900) + m - 1) ≤ n by have := mt (Dt.mok_at HI.out.1 HI.out.2).2 hk; omega)
  clear hL h hk hn
  have hy1 : 1900 ≤ y := HI.out.1.1
  have hy2 : y ≤ 2199 := HI.out.1.2
  have hm1 : 1 ≤ m := HI.out.2.1
  have hm2 : m ≤ 12 := HI.out.2.2
  have D := Lib.hid (DV.new (Below.refl w.heap.size w) 23 y m d)
  have B := Lib.hid (show DV w _ (w.heap.size + 1) 0 0 0 by simpa using DV.new D.out.1 23 0 0 0)
  have D := Lib.hid (D.out.alloc (.cells #[.int .i64 0, .int .i64 0, .int .i64 0] 23))
  by_cases h1 : n < -(12 * (y - 1900) + m - 1)
  · go_enter Tryd.func17, Tryd.ntmps17
    go_wp2_with fail
    refine (cmay y m d _ (HL.out.below B.out.1)).mono ?_; rintro e w1 ⟨rfl, hb⟩; rw [decide_eq_true HM.out]; have B := Lib.hid (B.out.below hb); have D := Lib.hid (D.out.below hb); clear hb
    obtain ⟨-, hs, -, ⟨c0, c1, c2⟩, f0, f1, f2⟩ := B.out
    obtain ⟨-, -, -, ⟨d0, d1, d2⟩, -⟩ := D.out
    go_wp2_with fail
    exact bodyPost_ret (v := .tuple #[dv 0 0 0, vErr 1]) (by simp [results, Tryd.results17, go_sem, c0, c1, c2]) rfl ⟨rfl, ((B.out.1.setCell hs _).setCell hs _).setCell hs _⟩
  · have h2 : 3600 - (12 * (y - 1900) + m - 1) ≤ n := by have := HK.out; omega
    have h3 : decide (n < -(12 * (y - 1900) + m - 1)) = false := by simp; omega
    go_enter Tryd.func17, Tryd.ntmps17
    go_wp2_with fail
    refine (cmay y m d _ (HL.out.below B.out.1)).mono ?_; rintro e w1 ⟨rfl, hb⟩; rw [decide_eq_true HM.out]; have B := Lib.hid (B.out.below hb); have D := Lib.hid (D.out.below hb); clear hb
    obtain ⟨-, hs, -, ⟨c0, c1, c2⟩, f0, f1, f2⟩ := B.out
    obtain ⟨-, -, -, ⟨d0, d1, d2⟩, -⟩ := D.out
    go_wp2_with fail
    exact bodyPost_ret (v := .tuple #[dv 0 0 0, vErr 1]) (by simp [results, Tryd.results17, go_sem, c0, c1, c2]) rfl ⟨rfl, ((B.out.1.setCell hs _).setCell hs _).setCell hs _⟩
end Go.Proofs.YthnhfilackghgaaDoor
