/- The program's journal: is a byte behind its end not 0? -/
import Derived.Test.YtghepjppjmpihaaJqm
import Derived.Lib.SliceRun
namespace Go.Proofs.Ytghepjppjmpihaa
open Go.ChangeShapes Go.WideShapes Go.ChangeAt Go.RowKit Go.Lib

theorem cpred0 (w : World) : Calls Try.prog 40 #[.int .u8 0] w fun e w' => e = .returned (.bool false) ∧ w = w' := by
  go_enter Try.func40, Try.ntmps40
  go_wp2_with fail
  go_ret
  exact ⟨rfl, rfl⟩
theorem cpred1 {x : Int} (hx : ¬ x = 0) (w : World) : Calls Try.prog 40 #[.int .u8 x] w fun e w' => e = .returned (.bool true) ∧ w = w' := by
  have h2 : (x != 0) = true := by simpa using hx
  go_enter Try.func40, Try.ntmps40
  go_wp2_with fail
  go_ret
  exact ⟨by simp, rfl⟩
abbrev predV : Value := .func (.func 40) #[] #[]
set_option maxHeartbeats 1000000 in
theorem cindex {A : Option Addr} {n c : Nat} {l : List Int} (w : World) (hr : RdK .u8 w w.heap.size A n l) (hn : (n : Int) ≤ 65536) :
    Calls Try.prog 48 #[.slice A n c, predV] w fun e w' => ((∃ i : Nat, i < n ∧ l.getD i 0 ≠ 0 ∧ e = .returned (.int .i64 i)) ∨ ((∀ j, j < n → l.getD j 0 = 0) ∧ e = .returned (.int .i64 (-1)))) ∧ w = w' := by
  have R := Lib.hid hr
  clear hr
  go_enter Try.func48, Try.ntmps48
  go_wp2_with fail
  go_loopw [8] (fun iv wr => ∃ i : Nat, iv = .int .i64 i ∧ i ≤ n ∧ w = wr ∧ Hid (∀ j, j < i → l.getD j 0 = 0)) (fun iv _ => n - (RowKit.intOf iv).toNat)
  case atStart => exact ⟨0, rfl, Nat.zero_le _, rfl, fun j hj => absurd hj (Nat.not_lt_zero _)⟩
  case round =>
    obtain ⟨i, rfl, hin, rfl, HZ⟩ := hrel
    by_cases hlt : i < n
    · have hltz : (i : Int) < (n : Int) := by omega
      obtain ⟨g, off, rfl, -, hc⟩ := R.out.2 i hlt
      by_cases hx : l.getD i 0 = 0
      · have HX := Lib.hid hx
        rw [hx] at hc
        clear hx
        go_wp2_with fail
        refine (cpred0 _).mono ?_; rintro e w1 ⟨rfl, rfl⟩
        go_wp2_with fail
        exact ⟨⟨i + 1, by go_num, by omega, trivial, fun j hj => by
          rcases Nat.lt_or_ge j i with h | h
          · exact HZ.out j h
          · rw [show j = i by omega]; exact HX.out⟩, by simp [RowKit.intOf]; omega⟩
      · have HX := Lib.hid hx
        have LP := Lib.hid (fun w => cpred1 hx w)
        generalize hxx : l.getD i 0 = x at hc LP
        have HE := Lib.hid hxx
        clear hx hxx
        go_wp2_with fail
        refine (LP.out _).mono ?_; rintro e w1 ⟨rfl, rfl⟩
        go_wp2_with fail
        go_ret
        exact ⟨.inl ⟨i, hlt, HX.out, rfl⟩, rfl⟩
    · obtain rfl : i = n := by omega
      have hltz : ¬ (i : Int) < (i : Int) := by omega
      go_wp2_with fail
      go_ret
      exact ⟨.inr ⟨HZ.out, rfl⟩, rfl⟩
theorem ccontains {A : Option Addr} {n c : Nat} {l : List Int} (w : World) (hr : RdK .u8 w w.heap.size A n l) (hn : (n : Int) ≤ 65536) :
    Calls Try.prog 39 #[.slice A n c, predV] w fun e w' => (((∃ i : Nat, i < n ∧ l.getD i 0 ≠ 0) ∧ e = .returned (.bool true)) ∨ ((∀ j, j < n → l.getD j 0 = 0) ∧ e = .returned (.bool false))) ∧ w = w' := by
  have LI := Lib.hid (cindex (c := c) w hr hn)
  clear hr hn
  go_enter Try.func39, Try.ntmps39
  go_wp2_with fail
  refine LI.out.mono ?_
  rintro e w1 ⟨⟨i, h1, h2, rfl⟩ | ⟨h1, rfl⟩, rfl⟩
  · have H := Lib.hid (⟨i, h1, h2⟩ : ∃ i : Nat, i < n ∧ l.getD i 0 ≠ 0)
    have h3 : (0 : Int) ≤ (i : Int) := by omega
    clear h1 h2 LI
    go_wp2_with fail
    go_ret
    exact ⟨.inl ⟨H.out, by simp⟩, rfl⟩
  · have H := Lib.hid h1
    clear h1 LI
    go_wp2_with fail
    go_ret
    exact ⟨.inr ⟨H.out, by simp⟩, rfl⟩
end Go.Proofs.Ytghepjppjmpihaa
