/- The chart's table of kinds; whether an account is there, its side, what stands ahead. -/
import Derived.Test.YtnbieibbfpajeaaDoorHv
namespace Go.Proofs.YtnbieibbfpajeaaDoor
open Go.ChangeShapes Go.WideShapes Go.ChangeAt Go.RowKit Go.Lib

/-- is a kind of the debit side? -/
def Hp.deb (k : Nat) : Bool := decide ((1 ≤ k ∧ k ≤ 3) ∨ k = 7 ∨ k = 12)
/-- the table of kinds, three cells a kind: its name, whether its accounts are somebody's, whether its side is debit -/
def LaidK (w : World) : Prop := ∀ k, k < 13 → w.cell? ⟨0, k * 3, none⟩ = some (.string (strOfNums (Hp.nm k))) ∧ w.cell? ⟨0, k * 3 + 1, none⟩ = some (.bool (decide (4 ≤ k))) ∧ w.cell? ⟨0, k * 3 + 2, none⟩ = some (.bool (Hp.deb k))
theorem LaidK.pos {w : World} (h : LaidK w) : 0 < w.heap.size := cell_lt (h 0 (by decide)).1
theorem LaidK.keep {w w' : World} (h : LaidK w) (hk : ∀ k, w'.cell? ⟨0, k, none⟩ = w.cell? ⟨0, k, none⟩) : LaidK w' := fun k hk3 => ⟨(hk _).trans (h k hk3).1, (hk _).trans (h k hk3).2.1, (hk _).trans (h k hk3).2.2⟩
theorem LaidK.below {w w' : World} (h : LaidK w) (hb : Below w.heap.size w w') : LaidK w' := h.keep fun k => hb.cell (p := ⟨0, k, none⟩) h.pos
theorem ret_bool {a b : Bool} (h : a = b) : Ending.returned (Value.bool a) = Ending.returned (Value.bool b) := by rw [h]
theorem cmay (k o : Int) (w : World) (hL : LaidK w) : Calls Tryd.prog 10 #[acv k o] w fun e w' => e = .returned (.bool (decide (Hp.May k o))) ∧ Below w.heap.size w w' := by
  obtain ⟨c0, c1⟩ := ac_new w 23 k o
  have B := Lib.hid (alloc_below w (.cells #[.int .i64 k, .int .i64 o] 23))
  have HL := Lib.hid (hL.below B.out)
  clear hL
  go_enter Tryd.func10, Tryd.ntmps10
  by_cases h1 : k < 1
  · have d1 : decide (k < 1) = true := decide_eq_true h1
    go_wp2_with fail
    go_ret
    exact ⟨ret_bool (by rw [Bool.eq_iff_iff]; simp only [decide_eq_true_iff]; unfold Hp.May; first | omega | (simp; omega)), B.out⟩
  have d1 : decide (k < 1) = false := decide_eq_false h1
  by_cases h2 : 13 ≤ k
  · have d2 : decide (13 ≤ k) = true := decide_eq_true h2
    go_wp2_with fail
    go_ret
    exact ⟨ret_bool (by rw [Bool.eq_iff_iff]; simp only [decide_eq_true_iff]; unfold Hp.May; first | omega | (simp; omega)), B.out⟩
  have d2 : decide (13 ≤ k) = false := decide_eq_false h2
  obtain ⟨J, rfl⟩ : ∃ J : Nat, k = (J : Int) := ⟨k.toNat, by omega⟩
  have hJ : J < 13 := by omega
  obtain ⟨-, k1, -⟩ := HL.out J hJ
  have e1 : (0 : Int) ≤ (J : Int) := by omega
  have e2 : (J : Int) < 13 := by omega
  have e3 : ((J : Int)).toNat = J := by omega
  by_cases h4 : 4 ≤ J
  · rw [decide_eq_true h4] at k1
    by_cases h5 : 1 ≤ o
    · have d5 : decide (1 ≤ o) = true := decide_eq_true h5
      go_wp2_with fail
      go_ret
      exact ⟨ret_bool (by rw [Bool.eq_iff_iff]; simp only [decide_eq_true_iff]; unfold Hp.May; first | omega | (simp; omega)), B.out⟩
    · have d5 : decide (1 ≤ o) = false := decide_eq_false h5
      go_wp2_with fail
      go_ret
      exact ⟨ret_bool (by rw [Bool.eq_iff_iff]; simp only [decide_eq_true_iff]; unfold Hp.May; first | omega | (simp; omega)), B.out⟩
  · rw [decide_eq_false h4] at k1
    go_wp2_with fail
    go_ret
    exact ⟨ret_bool (by rw [Bool.eq_iff_iff]; simp only [beq_iff_eq, decide_eq_true_iff]; unfold Hp.May; constructor <;> intro h <;> omega), B.out⟩
theorem cdebit (k o : Int) (w : World) (hL : LaidK w) : Calls Tryd.prog 11 #[acv k o] w fun e w' => e = .returned (.bool (decide (Hp.May k o ∧ (k ≤ 3 ∨ k = 7 ∨ k = 12)))) ∧ Below w.heap.size w w' := by
  obtain ⟨c0, c1⟩ := ac_new w 23 k o
  have B := Lib.hid (alloc_below w (.cells #[.int .i64 k, .int .i64 o] 23))
  have HL := Lib.hid (hL.below B.out)
  clear hL
  go_enter Tryd.func11, Tryd.ntmps11
  by_cases hm : Hp.May k o
  · have hm2 : decide (Hp.May k o) = true := decide_eq_true hm
    obtain ⟨J, rfl⟩ : ∃ J : Nat, k = (J : Int) := ⟨k.toNat, by unfold Hp.May at hm; omega⟩
    have hJ : J < 13 := by unfold Hp.May at hm; omega
    have HM := Lib.hid hm
    clear hm
    have e1 : (0 : Int) ≤ (J : Int) := by omega
    have e2 : (J : Int) < 13 := by omega
    have e3 : ((J : Int)).toNat = J := by omega
    have hk := HL.out.pos
    obtain ⟨-, -, k2⟩ := HL.out J hJ
    go_wp2_with fail
    refine (cmay _ _ _ HL.out).mono ?_; rintro e w2 ⟨rfl, hb⟩
    have c0' := (hb.cell (p := ⟨w.heap.size, 0, none⟩) (by simp)).trans c0
    have k2' := (hb.cell (p := ⟨0, J * 3 + 2, none⟩) hk).trans k2
    have B2 := Lib.hid (B.out.trans (hb.mono (by simp)))
    clear hb
    rw [hm2]
    go_wp2_with fail
    go_ret
    exact ⟨ret_bool (by rw [Bool.eq_iff_iff]; simp only [decide_eq_true_iff]; have := HM.out; unfold Hp.deb; unfold Hp.May at this ⊢; simp only [decide_eq_true_iff]; omega), B2.out⟩
  · have hm2 : decide (Hp.May k o) = false := decide_eq_false hm
    go_wp2_with fail
    refine (cmay _ _ _ HL.out).mono ?_; rintro e w2 ⟨rfl, hb⟩
    have B2 := Lib.hid (B.out.trans (hb.mono (by simp)))
    clear hb
    rw [hm2]
    go_wp2_with fail
    go_ret
    exact ⟨ret_bool (by rw [Bool.eq_iff_iff]; simp [hm]), B2.out⟩
theorem cless (k o j p : Int) (w : World) : Calls Tryd.prog 15 #[acv k o, acv j p] w fun e w' => e = .returned (.bool (decide (Hp.lt k o j p))) ∧ Below w.heap.size w w' := by
  have B := Lib.hid ((alloc_below w (.cells #[.int .i64 k, .int .i64 o] 23)).alloc (by simp) (.cells #[.int .i64 j, .int .i64 p] 23))
  go_enter Tryd.func15, Tryd.ntmps15
  by_cases h1 : k = j
  · subst h1
    go_wp2_with fail
    go_ret
    exact ⟨ret_bool (by rw [Bool.eq_iff_iff]; unfold Hp.lt; simp), B.out⟩
  · have d1 : (k != j) = true := by simpa using h1
    have d2 : (k == j) = false := by simpa using h1
    go_wp2_with fail
    go_ret
    exact ⟨ret_bool (by rw [Bool.eq_iff_iff]; simp only [decide_eq_true_iff]; unfold Hp.lt; constructor <;> intro h <;> omega), B.out⟩
end Go.Proofs.YtnbieibbfpajeaaDoor
