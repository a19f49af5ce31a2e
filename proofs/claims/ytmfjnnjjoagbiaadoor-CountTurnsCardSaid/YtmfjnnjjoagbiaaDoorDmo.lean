import Derived.Test.YtmfjnnjjoagbiaaDoorDa
import Derived.StillTailTactics
namespace Go.Proofs.YtmfjnnjjoagbiaaDoor.Dt
/-- there is such a day: by the months from January 1900 -/
theorem mok_at {y m n : Int} (hy : InY y) (hm : InM m) : mok y m n ↔ -(12 * (y - 1900) + m - 1) ≤ n ∧ n < 3600 - (12 * (y - 1900) + m - 1) := by
  have hn := dys_nn (my y m n) (mm y m n)
  have hi := mm_in y m n
  have e : 12 * my y m n + mm y m n = 12 * y + m + n := my_mm y m n
  constructor
  · rintro ⟨_, _, h3⟩
    have hY : InY (my y m n) := by
      by_cases c : my y m n < 1900 ∨ 2199 < my y m n ∨ mm y m n < 1 ∨ 12 < mm y m n
      · unfold dys at h3; rw [if_pos c] at h3; omega
      · unfold InY; omega
    unfold InY InM at *; omega
  · intro h
    have hY : InY (my y m n) := by unfold InY InM at *; omega
    have := dys_bd hY hi
    refine ⟨?_, ?_, by omega⟩ <;> (unfold InY InM at *; omega)
/-- the month so many months behind, as it is reckoned from January 1900 -/
theorem at_div {y m n : Int} (h : 0 ≤ 12 * (y - 1900) + m - 1 + n) : (12 * (y - 1900) + m - 1 + n).tdiv 12 = my y m n - 1900 ∧ (12 * (y - 1900) + m - 1 + n).tmod 12 = mm y m n - 1 := by
  rw [Int.tdiv_eq_ediv_of_nonneg h, Int.tmod_eq_emod_of_nonneg h]; unfold my mm; omega
end Go.Proofs.YtmfjnnjjoagbiaaDoor.Dt
namespace Go.Proofs.YtmfjnnjjoagbiaaDoor
open Go.RowKit Go.Lib Go.ChangeShapes Go.WideShapes Go.ChangeAt

theorem cmon_no (y m d n : Int) (h : ¬ Dt.May y m d) (w : World) (hL : Laid w) : Calls Tryd.prog 17 #[dtv y m d, .int .i64 n] w fun e w' => e = .returned (.tuple #[dtv 0 0 0, vErr 2]) ∧ Below w.heap.size w w' := by
  have HL := Lib.hid hL
  have HM := Lib.hid h
  clear hL h
  have D := Lib.hid (DV.new (Below.refl w.heap.size w) 23 y m d)
  have B := Lib.hid (show DV w _ (w.heap.size + 1) 0 0 0 by simpa using DV.new D.out.1 23 0 0 0)
  go_enter Tryd.func17, Tryd.ntmps17
  go_wp2_with fail
  refine (cmay y m d _ (HL.out.below B.out.1)).mono ?_; rintro e w1 ⟨rfl, hb⟩; rw [decide_eq_false HM.out]; have B := Lib.hid (B.out.below hb); clear hb
  obtain ⟨-, hs, -, ⟨c0, c1, c2⟩, f0, f1, f2⟩ := B.out
  go_wp2_with fail
  exact bodyPost_ret (v := .tuple #[dtv 0 0 0, vErr 2]) (by simp [results, Tryd.results17, go_sem, c0, c1, c2]) rfl ⟨rfl, ((B.out.1.setCell hs _).setCell hs _).setCell hs _⟩
theorem cmon_far (y m d n : Int) (h : Dt.May y m d) (hk : ¬ Dt.mok y m n) (hn : -9223372036854775808 ≤ n ∧ n ≤ 9223372036854775807) (w : World) (hL : Laid w) : Calls Tryd.prog 17 #[dtv y m d, .int .i64 n] w fun e w' => e = .returned (.tuple #[dtv 0 0 0, vErr 1]) ∧ Below w.heap.size w w' := by
  have HL := Lib.hid hL
  have HM := Lib.hid h
  have HI := Lib.hid (Dt.may_in h)
  have HN := Lib.hid hn
  have HK := Lib.hid (show n < -(12 * (y - 1900) + m - 1) ∨ 3600 - (12 * (y - 1900) + m - 1) ≤ n by have := mt (Dt.mok_at HI.out.1 HI.out.2).2 hk; omega)
  clear hL h hk hn
  have hy1 : 1900 ≤ y := HI.out.1.1
  have hy2 : y ≤ 2199 := HI.out.1.2
  have hm1 : 1 ≤ m := HI.out.2.1
  have hm2 : m ≤ 12 := HI.out.2.2
  have D := Lib.hid (DV.new (Below.refl w.heap.size w) 23 y m d)
  have B := Lib.hid (show DV w _ (w.heap.size + 1) 0 0 0 by simpa using DV.new D.out.1 23 0 0 0)
  have D := Lib.hid (D.out.alloc (.cells #[.int .i64 0, .int .i64 0, .int .i64 0] 23))
  by_cases h1 : n < -(12 * (y - 1900) + m - 1)
  · go_enter Tryd.func17, Tryd.ntmps17
    go_wp2_with fail
    refine (cmay y m d _ (HL.out.below B.out.1)).mono ?_; rintro e w1 ⟨rfl, hb⟩; rw [decide_eq_true HM.out]; have B := Lib.hid (B.out.below hb); have D := Lib.hid (D.out.below hb); clear hb
    obtain ⟨-, hs, -, ⟨c0, c1, c2⟩, f0, f1, f2⟩ := B.out
    obtain ⟨-, -, -, ⟨d0, d1, d2⟩, -⟩ := D.out
    go_wp2_with fail
    exact bodyPost_ret (v := .tuple #[dtv 0 0 0, vErr 1]) (by simp [results, Tryd.results17, go_sem, c0, c1, c2]) rfl ⟨rfl, ((B.out.1.setCell hs _).setCell hs _).setCell hs _⟩
  · have h2 : 3600 - (12 * (y - 1900) + m - 1) ≤ n := by have := HK.out; omega
    have h3 : decide (n < -(12 * (y - 1900) + m - 1)) = false := by simp; omega
    go_enter Tryd.func17, Tryd.ntmps17
    go_wp2_with fail
    refine (cmay y m d _ (HL.out.below B.out.1)).mono ?_; rintro e w1 ⟨rfl, hb⟩; rw [decide_eq_true HM.out]; have B := Lib.hid (B.out.below hb); have D := Lib.hid (D.out.below hb); clear hb
    obtain ⟨-, hs, -, ⟨c0, c1, c2⟩, f0, f1, f2⟩ := B.out
    obtain ⟨-, -, -, ⟨d0, d1, d2⟩, -⟩ := D.out
    go_wp2_with fail
    exact bodyPost_ret (v := .tuple #[dtv 0 0 0, vErr 1]) (by simp [results, Tryd.results17, go_sem, c0, c1, c2]) rfl ⟨rfl, ((B.out.1.setCell hs _).setCell hs _).setCell hs _⟩
theorem cmon_near (y m d n : Int) (h : Dt.May y m d) (hk : Dt.mok y m n) (w : World) (hL : Laid w) : Calls Tryd.prog 17 #[dtv y m d, .int .i64 n] w fun e w' => e = .returned (.tuple #[dtv (Dt.my y m n) (Dt.mm y m n) (Dt.md y m d n), .nilIface]) ∧ Below w.heap.size w w' := by
  have HL := Lib.hid hL
  have HM := Lib.hid h
  have HI := Lib.hid (Dt.may_in h)
  have hK := (Dt.mok_at HI.out.1 HI.out.2).1 hk
  have k1 := hK.1
  have k2 := hK.2
  have hb1 := Dt.dys_nn (Dt.my y m n) (Dt.mm y m n)
  have b1 := hb1.1
  have b2 := hb1.2
  have hd1 : 1 ≤ d := h.1
  have hd2 : d ≤ 31 := by have := h.2; have := Dt.dys_nn y m; omega
  have hq := Dt.at_div (y := y) (m := m) (n := n) (by omega)
  have q1 := hq.1
  have q2 := hq.2
  have hy1 : 1900 ≤ y := HI.out.1.1
  have hy2 : y ≤ 2199 := HI.out.1.2
  have hm1 : 1 ≤ m := HI.out.2.1
  have hm2 : m ≤ 12 := HI.out.2.2
  have hi := Dt.mm_in y m n
  have i1 : 1 ≤ Dt.mm y m n := hi.1
  have i2 : Dt.mm y m n ≤ 12 := hi.2
  have hY := Dt.my_mm y m n
  have j1 : 1900 ≤ Dt.my y m n := by omega
  have j2 : Dt.my y m n ≤ 2199 := by omega
  have HE := Lib.hid (show Dt.md y m d n = if d > Dt.dys (Dt.my y m n) (Dt.mm y m n) then Dt.dys (Dt.my y m n) (Dt.mm y m n) else d from rfl)
  have HD := Lib.hid (fun (w : World) (hL : Laid w) => (days_same (Dt.my y m n) (Dt.mm y m n) w hL).mono fun _ _ h => (And.intro h.1 h.2.symm : _ ∧ _))
  clear hL h hk hK hb1 hq hi hY
  generalize Dt.md y m d n = F at *
  generalize Dt.dys (Dt.my y m n) (Dt.mm y m n) = E at *
  generalize Dt.my y m n = Y at *
  generalize Dt.mm y m n = M at *
  obtain ⟨U, rfl⟩ : ∃ U, Y = 1900 + U := ⟨Y - 1900, by omega⟩
  obtain ⟨V, rfl⟩ : ∃ V, M = V + 1 := ⟨M - 1, by omega⟩
  replace q1 : (12 * (y - 1900) + m - 1 + n).tdiv 12 = U := q1.trans (by omega)
  replace q2 : (12 * (y - 1900) + m - 1 + n).tmod 12 = V := q2.trans (by omega)
  have D := Lib.hid (DV.new (Below.refl w.heap.size w) 23 y m d)
  have B := Lib.hid (show DV w _ (w.heap.size + 1) 0 0 0 by simpa using DV.new D.out.1 23 0 0 0)
  have D := Lib.hid (D.out.alloc (.cells #[.int .i64 0, .int .i64 0, .int .i64 0] 23))
  have h3 : decide (n < -(12 * (y - 1900) + m - 1)) = false := by simp; omega
  have h4 : decide (3600 - (12 * (y - 1900) + m - 1) ≤ n) = false := by simp; omega
  go_enter Tryd.func17, Tryd.ntmps17
  go_wp2_with fail
  refine (cmay y m d _ (HL.out.below B.out.1)).mono ?_; rintro e w1 ⟨rfl, hb⟩; rw [decide_eq_true HM.out]; have B := Lib.hid (B.out.below hb); have D := Lib.hid (D.out.below hb); clear hb
  obtain ⟨-, hs, -, ⟨c0, c1, c2⟩, f0, f1, f2⟩ := B.out
  obtain ⟨-, -, -, ⟨d0, d1, d2⟩, -⟩ := D.out
  by_cases hg : E < d
  · have hF : F = E := by rw [HE.out, if_pos (by omega)]
    have HF := Lib.hid hF
    clear hF
    go_wp2_with fail
    go_still_tail 9, (by kernel_rfl)
    still_call (HD.out _ (HL.out.below B.out.1).drew)
    repeat still_step
    refine wpStill_nil ?_
    change wpList _ _ _ _ _ w1.drew
    have B := Lib.hid (B.out.below (Below.refl _ _).drew)
    clear c0 c1 c2 f0 f1 f2 d0 d1 d2 D
    obtain ⟨-, hs, -, ⟨c0, c1, c2⟩, f0, f1, f2⟩ := B.out
    generalize w1.drew = w2 at *
    go_wp2_with fail
    exact bodyPost_ret (v := .tuple #[dtv (1900 + U) (V + 1) E, .nilIface]) (by simp [results, Tryd.results17, go_sem, c0, c1, c2]) rfl ⟨by rw [HF.out], ((B.out.1.setCell hs _).setCell hs _).setCell hs _⟩
  · have hg2 : decide (E < d) = false := by simpa using hg
    have hF : F = d := by rw [HE.out, if_neg (by omega)]
    have HF := Lib.hid hF
    clear hF
    go_wp2_with fail
    go_still_tail 9, (by kernel_rfl)
    still_call (HD.out _ (HL.out.below B.out.1).drew)
    repeat still_step
    refine wpStill_nil ?_
    change wpList _ _ _ _ _ w1.drew
    have B := Lib.hid (B.out.below (Below.refl _ _).drew)
    clear c0 c1 c2 f0 f1 f2 d0 d1 d2 D
    obtain ⟨-, hs, -, ⟨c0, c1, c2⟩, f0, f1, f2⟩ := B.out
    generalize w1.drew = w2 at *
    go_wp2_with fail
    exact bodyPost_ret (v := .tuple #[dtv (1900 + U) (V + 1) d, .nilIface]) (by simp [results, Tryd.results17, go_sem, c0, c1, c2]) rfl ⟨by rw [HF.out], ((B.out.1.setCell hs _).setCell hs _).setCell hs _⟩
theorem cmon_yes (y m d n : Int) (h : Dt.May y m d) (hn : -9223372036854775808 ≤ n ∧ n ≤ 9223372036854775807) (w : World) (hL : Laid w) : Calls Tryd.prog 17 #[dtv y m d, .int .i64 n] w fun e w' => e = .returned (.tuple #[mvv y m d n, mev y m n]) ∧ Below w.heap.size w w' := by
  by_cases hk : Dt.mok y m n
  · rw [mvv, if_pos hk, mev, if_pos hk]; exact cmon_near y m d n h hk w hL
  · rw [mvv, if_neg hk, mev, if_neg hk]; exact cmon_far y m d n h hk hn w hL
end Go.Proofs.YtmfjnnjjoagbiaaDoor
