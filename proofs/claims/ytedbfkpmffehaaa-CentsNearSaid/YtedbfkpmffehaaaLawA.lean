import Derived.Test.YtedbfkpmffehaaaUp
namespace Go.Proofs.Ytedbfkpmffehaaa
open Go.RowKit Go.Shelf Go.Lib Ar

theorem me_cases (a b c m : Int) : me a b c m = .nilIface ∨ me a b c m = .iface 39 (.int .i64 1) ∨ me a b c m = .iface 39 (.int .i64 3) := by
  unfold me
  by_cases h : Bad c m
  · rw [if_pos h]; exact .inr (.inl rfl)
  · rw [if_neg h]
    by_cases g : Fits (mdv a b c m)
    · rw [if_pos g]; exact .inl rfl
    · rw [if_neg g]; exact .inr (.inr rfl)

theorem abs_neg (a : Int) : abs (-a) = abs a := by unfold abs; split <;> split <;> omega
theorem mdv_signs (a b c m : Int) (hc : c ≠ 0) : mdv a (-b) (-c) m = mdv a b c m := by
  have h : mag a (-b) (-c) m = mag a b c m ∧ (b ≠ 0 → neg3 a (-b) (-c) = neg3 a b c) ∧ (b = 0 → mag a b c m = 0) := by
    have hn : b ≠ 0 → neg3 a (-b) (-c) = neg3 a b c := by
      intro hb
      unfold neg3
      have e1 : decide (-b < 0) = !decide (b < 0) := by by_cases h : b < 0 <;> simp [h] <;> omega
      have e2 : decide (-c < 0) = !decide (c < 0) := by by_cases h : c < 0 <;> simp [h] <;> omega
      rw [e1, e2]
      cases decide (a < 0) <;> cases decide (b < 0) <;> cases decide (c < 0) <;> rfl
    have h0 : b = 0 → ∀ c, mag a b c m = 0 := by
      intro hb c; subst hb
      have : abs a * abs 0 = 0 := by have : abs 0 = 0 := rfl; rw [this]; omega
      unfold mag; rw [this]; simp [rup]
    refine ⟨?_, hn, fun h => h0 h c⟩
    by_cases hb : b = 0
    · rw [h0 hb]; subst hb; exact h0 rfl (-c)
    · unfold mag; rw [hn hb, abs_neg, abs_neg]
  unfold mdv
  rw [h.1]
  by_cases hb : b = 0
  · rw [h.2.2 hb]; split <;> split <;> rfl
  · rw [h.2.1 hb]
theorem bad_neg (c m : Int) : Bad (-c) m ↔ Bad c m := by unfold Bad; omega
theorem mv_signs (a b c m : Int) : mv a (-b) (-c) m = mv a b c m ∧ me a (-b) (-c) m = me a b c m := by
  unfold mv me
  by_cases h : Bad c m
  · have h' := (bad_neg c m).2 h; simp only [if_pos h, if_pos h', and_self]
  · have h' := fun g => h ((bad_neg c m).1 g)
    rw [if_neg h, if_neg h', if_neg h, if_neg h', mdv_signs a b c m (fun g => h (.inl g))]; exact ⟨rfl, rfl⟩

theorem signs_any (a b c m : Int) (ha : In a) (hb : In b) (hc : In c) (w : World) :
    Calls Try.prog 9 #[.int .i64 a, .int .i64 b, .int .i64 c, .int .i64 m] w fun e w' => e = .returned (.bool true) ∧ ∃ n, w' = w.drewN n := by
  by_cases h1 : b = -9223372036854775808
  · have e1 : (b == -9223372036854775808) = true := by rw [h1]; rfl
    clear h1
    go_enter Try.func9, Try.ntmps9
    go_wp2_with fail
    refine (up_any _).mono ?_; rintro e w' ⟨rfl, n, rfl⟩
    go_wp2_with fail
    go_ret
    exact ⟨rfl, _, rfl⟩
  have e1 : (b == -9223372036854775808) = false := by rw [beq_eq_false_iff_ne]; exact h1
  by_cases h2 : c = -9223372036854775808
  · have e2 : (c == -9223372036854775808) = true := by rw [h2]; rfl
    clear h1 h2
    go_enter Try.func9, Try.ntmps9
    go_wp2_with fail
    refine (up_any _).mono ?_; rintro e w' ⟨rfl, n, rfl⟩
    go_wp2_with fail
    go_ret
    exact ⟨rfl, _, rfl⟩
  have e2 : (c == -9223372036854775808) = false := by rw [beq_eq_false_iff_ne]; exact h2
  have b1 : -9223372036854775807 ≤ b := by have := hb.1; omega
  have b2 : b ≤ 9223372036854775807 := hb.2
  have b3 : -9223372036854775807 ≤ c := by have := hc.1; omega
  have b4 : c ≤ 9223372036854775807 := hc.2
  have H := Lib.hid (show In a ∧ In b ∧ In c ∧ In (-b) ∧ In (-c) from ⟨ha, hb, hc, by unfold In; omega, by unfold In; omega⟩)
  clear ha hb hc h1 h2
  obtain ⟨s1, s2⟩ := mv_signs a b c m
  have hcs := me_cases a b c m
  rcases hcs with h | h | h
  all_goals
    rw [h] at s2
    go_enter Try.func9, Try.ntmps9
    go_wp2_with fail
    refine (up_any _).mono ?_; rintro e w' ⟨rfl, n, rfl⟩
    go_wp2_with fail
    refine (muldiv_any a b c m H.out.1 H.out.2.1 H.out.2.2.1 _).mono ?_; rintro e w' ⟨rfl, n2, rfl⟩
    go_wp2_with fail
    refine (muldiv_any a (-b) (-c) m H.out.1 H.out.2.2.2.1 H.out.2.2.2.2 _).mono ?_; rintro e w' ⟨rfl, n3, rfl⟩
    go_wp2_with fail
    go_quiet (fail)
    go_wp2_with fail
    go_ret
    exact ⟨rfl, _, World.drewN_drewN _ _ _⟩

/-! ### a times b by b -/
theorem mdv_whole (a b m : Int) (hb : b ≠ 0) : mdv a b b m = a := by
  have h1 := abs_pos hb
  have e1 : abs a * abs b / abs b = abs a := Int.mul_ediv_cancel _ (by omega)
  have e2 : abs a * abs b % abs b = 0 := Int.mul_emod_left _ _
  have e3 : mag a b b m = abs a := by unfold mag; rw [e1, e2]; simp [rup]
  have e4 : neg3 a b b = decide (a < 0) := by unfold neg3; cases decide (a < 0) <;> cases decide (b < 0) <;> rfl
  unfold mdv; rw [e3, e4]; unfold abs
  by_cases h : a < 0
  · simp [h]
  · simp [h]
theorem mv_whole (a b m : Int) (ha : In a) (h : ¬ Bad b m) : mv a b b m = a ∧ me a b b m = .nilIface := by
  have e := mdv_whole a b m (fun g => h (.inl g))
  have hf : Fits (mdv a b b m) := by rw [e]; exact ha
  unfold mv me
  rw [if_neg h, if_pos hf, if_neg h, if_pos hf]; exact ⟨e, rfl⟩

theorem whole_any (a b m : Int) (ha : In a) (hb : In b) (w : World) :
    Calls Try.prog 11 #[.int .i64 a, .int .i64 b, .int .i64 m] w fun e w' => e = .returned (.bool true) ∧ ∃ n, w' = w.drewN n := by
  have H := Lib.hid (show In a ∧ In b from ⟨ha, hb⟩)
  by_cases hbad : Bad b m
  · have s1 : mv a b b m = 0 := if_pos hbad
    have s2 : me a b b m = .iface 39 (.int .i64 1) := if_pos hbad
    have q11 := eq11
    clear ha hb
    rcases hbad with h | h | h
    · have e1 : (b == 0) = true := by rw [h]; rfl
      clear h
      go_enter Try.func11, Try.ntmps11
      go_wp2_with fail
      refine (up_any _).mono ?_; rintro e w' ⟨rfl, n, rfl⟩
      go_wp2_with fail
      refine (muldiv_any a b b m H.out.1 H.out.2 H.out.2 _).mono ?_; rintro e w' ⟨rfl, n2, rfl⟩
      go_wp2_with fail
      go_ret
      exact ⟨rfl, _, rfl⟩
    all_goals
      by_cases hz : b = 0
      · have e1 : (b == 0) = true := by rw [hz]; rfl
        clear h hz
        go_enter Try.func11, Try.ntmps11
        go_wp2_with fail
        refine (up_any _).mono ?_; rintro e w' ⟨rfl, n, rfl⟩
        go_wp2_with fail
        refine (muldiv_any a b b m H.out.1 H.out.2 H.out.2 _).mono ?_; rintro e w' ⟨rfl, n2, rfl⟩
        go_wp2_with fail
        go_ret
        exact ⟨rfl, _, rfl⟩
      · have e1 : (b == 0) = false := by rw [beq_eq_false_iff_ne]; exact hz
        clear hz
        go_enter Try.func11, Try.ntmps11
        go_wp2_with fail
        refine (up_any _).mono ?_; rintro e w' ⟨rfl, n, rfl⟩
        go_wp2_with fail
        refine (muldiv_any a b b m H.out.1 H.out.2 H.out.2 _).mono ?_; rintro e w' ⟨rfl, n2, rfl⟩
        go_wp2_with fail
        go_ret
        exact ⟨rfl, _, rfl⟩
  · obtain ⟨s1, s2⟩ := mv_whole a b m ha hbad
    have e1 : (b == 0) = false := by rw [beq_eq_false_iff_ne]; exact fun h => hbad (.inl h)
    have h1 : 1 ≤ m := Int.not_lt.1 fun h => hbad (.inr (.inl h))
    have h2 : m ≤ 4 := Int.not_lt.1 fun h => hbad (.inr (.inr h))
    clear ha hb hbad
    go_enter Try.func11, Try.ntmps11
    go_wp2_with fail
    refine (up_any _).mono ?_; rintro e w' ⟨rfl, n, rfl⟩
    go_wp2_with fail
    refine (muldiv_any a b b m H.out.1 H.out.2 H.out.2 _).mono ?_; rintro e w' ⟨rfl, n2, rfl⟩
    go_wp2_with fail
    go_ret
    exact ⟨rfl, _, rfl⟩
