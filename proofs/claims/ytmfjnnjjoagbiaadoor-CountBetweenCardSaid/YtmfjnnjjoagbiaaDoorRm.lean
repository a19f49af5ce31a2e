import Derived.Test.YtmfjnnjjoagbiaaDoorCents
import Derived.Test.YtmfjnnjjoagbiaaDoorRt
namespace Go.Proofs.YtmfjnnjjoagbiaaDoor
open Go.RowKit Go.Shelf Go.Lib Ar

theorem abs_nn {a : Int} (h : 0 ≤ a) : abs a = a := by unfold abs; rw [if_neg (by omega)]
theorem neg3_nn {a b c : Int} (ha : 0 ≤ a) (hb : 0 ≤ b) (hc : 0 ≤ c) : neg3 a b c = false := by
  unfold neg3
  rw [decide_eq_false (by omega), decide_eq_false (by omega), decide_eq_false (by omega)]; rfl
theorem mdv_nn {a b c m : Int} (ha : 0 ≤ a) (hb : 0 ≤ b) (hc : 0 ≤ c) : mdv a b c m = a * b / c + if rup (a * b / c) (a * b % c) c false m then 1 else 0 := by
  unfold mdv; rw [neg3_nn ha hb hc, if_neg (by decide)]; unfold mag; rw [neg3_nn ha hb hc, abs_nn ha, abs_nn hb, abs_nn hc]
theorem mdv_month {b r : Int} (hb : 0 ≤ b) (hr : 0 ≤ r) : mdv b r 12000000 4 = Rt.mi b r := by
  rw [mdv_nn hb hr (by decide)]
  unfold Rt.mi Rt.rd
  generalize b * r = n
  have e : rup (n / 12000000) (n % 12000000) 12000000 false 4 = decide (6000000 < n % 12000000 ∨ (n % 12000000 = 6000000 ∧ n / 12000000 % 2 = 1)) := by
    rw [Bool.eq_iff_iff]
    by_cases h0 : n % 12000000 = 0
    · simp [rup, h0]
    · simp only [rup, h0]
      simp
      omega
  rw [e]
  by_cases h1 : 6000000 < n % 12000000 ∨ (n % 12000000 = 6000000 ∧ n / 12000000 % 2 = 1)
  · rw [if_pos h1, if_pos (by simpa using h1)]
  · rw [if_neg h1, if_neg (by simpa using h1)]; omega
theorem month_mv {b r : Int} (h : Rt.May b r) : mv b r 12000000 4 = Rt.mi b r ∧ me b r 12000000 4 = .nilIface := by
  have e := mdv_month h.1 h.2.2.1
  have hb := Rt.mi_bd h
  have hf : Fits (mdv b r 12000000 4) := by rw [e]; unfold Fits; omega
  have hbad : ¬ Bad 12000000 4 := by unfold Bad; omega
  unfold mv me
  rw [if_neg hbad, if_neg hbad, if_pos hf, if_pos hf, e]; exact ⟨rfl, rfl⟩
theorem may_in {b r : Int} (h : Rt.May b r) : In b ∧ In r ∧ In 12000000 := by obtain ⟨h1, h2, h3, h4⟩ := h; unfold In; omega

theorem maybe_yes (b r : Int) (h : Rt.May b r) (w : World) : Calls Tryd.prog 33 #[.int .i64 b, .int .i64 r] w fun e w' => e = .returned (.bool true) ∧ w = w' := by
  obtain ⟨h1, h2, h3, h4⟩ := h
  go_enter Tryd.func33, Tryd.ntmps33
  go_wp2
  go_ret
  exact ⟨by simp, rfl⟩
theorem maybe_no (b r : Int) (h : ¬ Rt.May b r) (w : World) : Calls Tryd.prog 33 #[.int .i64 b, .int .i64 r] w fun e w' => e = .returned (.bool false) ∧ w = w' := by
  go_enter Tryd.func33, Tryd.ntmps33
  unfold Rt.May at h
  go_wp2
  all_goals (go_ret; exact ⟨by simp; try omega, rfl⟩)
theorem month_yes (b r : Int) (h : Rt.May b r) (w : World) : Calls Tryd.prog 18 #[.int .i64 b, .int .i64 r] w fun e w' => e = .returned (.tuple #[.int .i64 (Rt.mi b r), .nilIface]) ∧ ∃ n, w' = w.drewN n := by
  have H := Lib.hid h
  clear h
  go_enter Tryd.func18, Tryd.ntmps18
  go_wp2_with fail
  refine (maybe_yes b r H.out _).mono ?_; rintro e w' ⟨rfl, rfl⟩
  go_wp2_with fail
  refine (muldiv_any b r 12000000 4 (may_in H.out).1 (may_in H.out).2.1 (may_in H.out).2.2 _).mono ?_; rintro e w' ⟨rfl, n, rfl⟩
  rw [(month_mv H.out).1, (month_mv H.out).2]
  go_wp2_with fail
  go_ret2
  exact ⟨rfl, _, rfl⟩
theorem month_no (b r : Int) (h : ¬ Rt.May b r) (w : World) : Calls Tryd.prog 18 #[.int .i64 b, .int .i64 r] w fun e w' => e = .returned (.tuple #[.int .i64 0, .iface 30 (.int .i64 1)]) ∧ ∃ n, w' = w.drewN n := by
  have H := Lib.hid h
  clear h
  go_enter Tryd.func18, Tryd.ntmps18
  go_wp2_with fail
  refine (maybe_no b r H.out _).mono ?_; rintro e w' ⟨rfl, rfl⟩
  go_wp2_with fail
  go_ret2
  exact ⟨rfl, 0, rfl⟩
end Go.Proofs.YtmfjnnjjoagbiaaDoor
