/- ChartAccounts. -/
import Derived.Test.YtnbieibbfpajeaaDoorHl
namespace Go.Proofs.YtnbieibbfpajeaaDoor
open Go.ChangeShapes Go.WideShapes Go.ChangeAt Go.RowKit Go.Lib

theorem accounts_no (k o : Int) (hm : ¬ Hp.May k o) (w : World) (hL : Laid w) : Calls Tryd.prog 3 #[acv k o] w fun e w' => e = .returned (.bool true) ∧ Below w.heap.size w w' := by
  have HL := Lib.hid hL
  clear hL
  have q1 := eqE1
  have HM := Lib.hid (decide_eq_false hm)
  have HC := Lib.hid (fun w h => cname_no k o hm w h)
  have HD := Lib.hid (decide_eq_false (fun h : Hp.May k o ∧ (k ≤ 3 ∨ k = 7 ∨ k = 12) => hm h.1))
  clear hm
  have V := Lib.hid (AV.new w 23 k o)
  have B := Lib.hid (alloc_below w (.cells #[.int .i64 k, .int .i64 o] 23))
  go_enter Tryd.func3, Tryd.ntmps3
  go_wp2_with fail
  generalize w.alloc (.cells #[.int .i64 k, .int .i64 o] 23) = w1 at *
  refine (up_any _ (by first | exact HL.out.below B.out | exact HL.out.below V.out.2.2 | exact HL.out)).mono ?_; rintro e w2 ⟨rfl, hb⟩
  have V := Lib.hid (V.out.below hb)
  have B := Lib.hid (B.out.trans (hb.mono B.out.size))
  clear hb
  obtain ⟨-, ⟨c0, c1⟩, -⟩ := V.out
  go_wp2_with fail
  refine (refmay_any k o _).mono ?_; rintro e w3 ⟨rfl, hb⟩; rw [HM.out]

  have V := Lib.hid (V.out.below hb)
  have B := Lib.hid (B.out.trans (hb.mono B.out.size))
  clear hb
  clear c0 c1
  obtain ⟨-, ⟨c0, c1⟩, -⟩ := V.out
  go_wp2_with fail
  refine (HC.out _ (by first | exact HL.out.below B.out | exact HL.out.below V.out.2.2 | exact HL.out)).mono ?_; rintro e w4 ⟨rfl, hb⟩

  have V := Lib.hid (V.out.below hb)
  have B := Lib.hid (B.out.trans (hb.mono B.out.size))
  clear hb
  clear c0 c1
  obtain ⟨-, ⟨c0, c1⟩, -⟩ := V.out
  go_wp2_with fail
  refine (cmay k o _ (by first | exact (HL.out.below B.out).1 | exact (HL.out.below V.out.2.2).1 | exact HL.out.1)).mono ?_; rintro e w5 ⟨rfl, hb⟩; rw [HM.out]

  have V := Lib.hid (V.out.below hb)
  have B := Lib.hid (B.out.trans (hb.mono B.out.size))
  clear hb
  clear c0 c1
  obtain ⟨-, ⟨c0, c1⟩, -⟩ := V.out
  go_wp2_with fail
  refine (cdebit k o _ (by first | exact (HL.out.below B.out).1 | exact (HL.out.below V.out.2.2).1 | exact HL.out.1)).mono ?_; rintro e w6 ⟨rfl, hb⟩; rw [HD.out]

  have V := Lib.hid (V.out.below hb)
  have B := Lib.hid (B.out.trans (hb.mono B.out.size))
  clear hb
  clear c0 c1
  go_wp2_with fail
  go_ret
  exact ⟨by simp, B.out⟩
theorem cname_k (k : Int) (o : Nat) (hm : Hp.May k o) (w : World) (hL : Laid w) : Calls Tryd.prog 9 #[acv k o] w fun e w' => e = .returned (.tuple #[.string (strOfNums (Hp.name k.toNat o)), .nilIface]) ∧ Below w.heap.size w w' := by
  obtain ⟨J, rfl⟩ : ∃ J : Nat, k = (J : Int) + 1 := ⟨(k - 1).toNat, by unfold Hp.May at hm; omega⟩
  have e : ((J : Int) + 1).toNat = J + 1 := by omega
  rw [e]; exact cname_yes J o hm w hL
theorem refname_k (k : Int) (o : Nat) (hm : Hp.May k o) (w : World) : Calls Tryd.prog 12 #[acv k o] w fun e w' => e = .returned (.string (strOfNums (Hp.name k.toNat o))) ∧ Below w.heap.size w w' := by
  obtain ⟨J, rfl⟩ : ∃ J : Nat, k = (J : Int) + 1 := ⟨(k - 1).toNat, by unfold Hp.May at hm; omega⟩
  have e : ((J : Int) + 1).toNat = J + 1 := by omega
  rw [e]; exact refname_any J o (by unfold Hp.May at hm; omega) (by unfold Hp.May at hm; omega) w
set_option maxHeartbeats 1000000 in
theorem accounts_yes (k : Int) (o : Nat) (hm : Hp.May k o) (w : World) (hL : Laid w) : Calls Tryd.prog 3 #[acv k o] w fun e w' => e = .returned (.bool true) ∧ Below w.heap.size w w' := by
  have HL := Lib.hid hL
  clear hL
  have HM := Lib.hid (decide_eq_true hm)
  have HC := Lib.hid (fun w h => cname_k k o hm w h)
  have HR := Lib.hid (fun w => refname_k k o hm w)
  have HH := Lib.hid hm
  clear hm
  have V := Lib.hid (AV.new w 23 k o)
  have B := Lib.hid (alloc_below w (.cells #[.int .i64 k, .int .i64 o] 23))
  go_enter Tryd.func3, Tryd.ntmps3
  go_wp2_with fail
  generalize w.alloc (.cells #[.int .i64 k, .int .i64 o] 23) = w1 at *
  refine (up_any _ (by first | exact HL.out.below B.out | exact HL.out.below V.out.2.2 | exact HL.out)).mono ?_; rintro e w2 ⟨rfl, hb⟩
  have V := Lib.hid (V.out.below hb)
  have B := Lib.hid (B.out.trans (hb.mono B.out.size))
  clear hb
  obtain ⟨-, ⟨c0, c1⟩, -⟩ := V.out
  go_wp2_with fail
  refine (refmay_any _ _ _).mono ?_; rintro e w3 ⟨rfl, hb⟩; rw [HM.out]

  have V := Lib.hid (V.out.below hb)
  have B := Lib.hid (B.out.trans (hb.mono B.out.size))
  clear hb
  clear c0 c1
  obtain ⟨-, ⟨c0, c1⟩, -⟩ := V.out
  go_wp2_with fail
  refine (HC.out _ (by first | exact HL.out.below B.out | exact HL.out.below V.out.2.2 | exact HL.out)).mono ?_; rintro e w4 ⟨rfl, hb⟩

  have V := Lib.hid (V.out.below hb)
  have B := Lib.hid (B.out.trans (hb.mono B.out.size))
  clear hb
  clear c0 c1
  obtain ⟨-, ⟨c0, c1⟩, -⟩ := V.out
  go_wp2_with fail
  refine (cmay _ _ _ (by first | exact (HL.out.below B.out).1 | exact (HL.out.below V.out.2.2).1 | exact HL.out.1)).mono ?_; rintro e w5 ⟨rfl, hb⟩; rw [HM.out]

  have V := Lib.hid (V.out.below hb)
  have B := Lib.hid (B.out.trans (hb.mono B.out.size))
  clear hb
  clear c0 c1
  obtain ⟨-, ⟨c0, c1⟩, -⟩ := V.out
  by_cases g0 : k ≤ 3
  · have HD := Lib.hid (fun w (hK : LaidK w) => show Calls Tryd.prog 11 #[acv k o] w (fun e w' => e = .returned (.bool true) ∧ Below w.heap.size w w') from by
      have h := cdebit k o w hK
      rw [decide_eq_true (show Hp.May k o ∧ (k ≤ 3 ∨ k = 7 ∨ k = 12) from ⟨HH.out, .inl g0⟩)] at h; exact h)
    have d1 : decide (k ≤ 3) = true := decide_eq_true g0
    go_wp2_with fail
    refine (HR.out _).mono ?_; rintro e w6 ⟨rfl, hb⟩
    have V := Lib.hid (V.out.below hb)
    have B := Lib.hid (B.out.trans (hb.mono B.out.size))
    clear hb
    clear c0 c1
    obtain ⟨-, ⟨c0, c1⟩, -⟩ := V.out
    go_wp2_with fail
    refine (HD.out _ (by first | exact (HL.out.below B.out).1 | exact (HL.out.below V.out.2.2).1 | exact HL.out.1)).mono ?_; rintro e w7 ⟨rfl, hb⟩
    have V := Lib.hid (V.out.below hb)
    have B := Lib.hid (B.out.trans (hb.mono B.out.size))
    clear hb
    go_wp2_with fail
    go_ret
    exact ⟨by simp, B.out⟩
  · by_cases g1 : k = 7
    · have HD := Lib.hid (fun w (hK : LaidK w) => show Calls Tryd.prog 11 #[acv k o] w (fun e w' => e = .returned (.bool true) ∧ Below w.heap.size w w') from by
        have h := cdebit k o w hK
        rw [decide_eq_true (show Hp.May k o ∧ (k ≤ 3 ∨ k = 7 ∨ k = 12) from ⟨HH.out, .inr (.inl g1)⟩)] at h; exact h)
      subst g1
      go_wp2_with fail
      refine (HR.out _).mono ?_; rintro e w6 ⟨rfl, hb⟩
      have V := Lib.hid (V.out.below hb)
      have B := Lib.hid (B.out.trans (hb.mono B.out.size))
      clear hb
      clear c0 c1
      obtain ⟨-, ⟨c0, c1⟩, -⟩ := V.out
      go_wp2_with fail
      refine (HD.out _ (by first | exact (HL.out.below B.out).1 | exact (HL.out.below V.out.2.2).1 | exact HL.out.1)).mono ?_; rintro e w7 ⟨rfl, hb⟩
      have V := Lib.hid (V.out.below hb)
      have B := Lib.hid (B.out.trans (hb.mono B.out.size))
      clear hb
      go_wp2_with fail
      go_ret
      exact ⟨by simp, B.out⟩
    · by_cases g2 : k = 12
      · have HD := Lib.hid (fun w (hK : LaidK w) => show Calls Tryd.prog 11 #[acv k o] w (fun e w' => e = .returned (.bool true) ∧ Below w.heap.size w w') from by
          have h := cdebit k o w hK
          rw [decide_eq_true (show Hp.May k o ∧ (k ≤ 3 ∨ k = 7 ∨ k = 12) from ⟨HH.out, .inr (.inr g2)⟩)] at h; exact h)
        subst g2
        go_wp2_with fail
        refine (HR.out _).mono ?_; rintro e w6 ⟨rfl, hb⟩
        have V := Lib.hid (V.out.below hb)
        have B := Lib.hid (B.out.trans (hb.mono B.out.size))
        clear hb
        clear c0 c1
        obtain ⟨-, ⟨c0, c1⟩, -⟩ := V.out
        go_wp2_with fail
        refine (HD.out _ (by first | exact (HL.out.below B.out).1 | exact (HL.out.below V.out.2.2).1 | exact HL.out.1)).mono ?_; rintro e w7 ⟨rfl, hb⟩
        have V := Lib.hid (V.out.below hb)
        have B := Lib.hid (B.out.trans (hb.mono B.out.size))
        clear hb
        go_wp2_with fail
        go_ret
        exact ⟨by simp, B.out⟩
      · have HD := Lib.hid (fun w (hK : LaidK w) => show Calls Tryd.prog 11 #[acv k o] w (fun e w' => e = .returned (.bool false) ∧ Below w.heap.size w w') from by
          have h := cdebit k o w hK
          rw [decide_eq_false (show ¬ (Hp.May k o ∧ (k ≤ 3 ∨ k = 7 ∨ k = 12)) from fun h => by have := h.2; omega)] at h; exact h)
        have d1 : decide (k ≤ 3) = false := decide_eq_false g0
        have d2 : (k == 7) = false := by simpa using g1
        have d3 : (k == 12) = false := by simpa using g2
        go_wp2_with fail
        refine (HR.out _).mono ?_; rintro e w6 ⟨rfl, hb⟩
        have V := Lib.hid (V.out.below hb)
        have B := Lib.hid (B.out.trans (hb.mono B.out.size))
        clear hb
        clear c0 c1
        obtain ⟨-, ⟨c0, c1⟩, -⟩ := V.out
        go_wp2_with fail
        refine (HD.out _ (by first | exact (HL.out.below B.out).1 | exact (HL.out.below V.out.2.2).1 | exact HL.out.1)).mono ?_; rintro e w7 ⟨rfl, hb⟩
        have V := Lib.hid (V.out.below hb)
        have B := Lib.hid (B.out.trans (hb.mono B.out.size))
        clear hb
        go_wp2_with fail
        go_ret
        exact ⟨by simp, B.out⟩
theorem accounts_walk (k o : Int) (w : World) (hL : Laid w) : Calls Tryd.prog 3 #[acv k o] w fun e w' => e = .returned (.bool true) ∧ Below w.heap.size w w' := by
  by_cases hm : Hp.May k o
  · obtain ⟨O, rfl⟩ : ∃ O : Nat, o = O := ⟨o.toNat, by unfold Hp.May at hm; omega⟩
    exact accounts_yes k O hm w hL
  · exact accounts_no k o hm w hL
end Go.Proofs.YtnbieibbfpajeaaDoor
