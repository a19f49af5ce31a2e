import Derived.Test.YtjidnicmfdkehaaRw
namespace Go.Proofs.Ytjidnicmfdkehaa
open Go.RowKit Go.Shelf Go.Lib Ar

/-- Month and Left, whatever their arguments are -/
def mm (b r : Int) : Int := if Rt.May b r then Rt.mi b r else 0
def mer (b r : Int) : Value := if Rt.May b r then .nilIface else .iface 30 (.int .i64 1)
instance (b r p m : Int) : Decidable (LArg b r p m) := inferInstanceAs (Decidable (_ ∨ _ ∨ _ ∨ _))
def lv (b r p m : Int) : Int := if LArg b r p m then 0 else lw (Rt.lf r p m.toNat b)
def lev (b r p m : Int) : Value := if LArg b r p m then .iface 30 (.int .i64 1) else le (Rt.lf r p m.toNat b)

theorem month_any (b r : Int) (w : World) : Calls Try.prog 10 #[.int .i64 b, .int .i64 r] w fun e w' => e = .returned (.tuple #[.int .i64 (mm b r), mer b r]) ∧ ∃ n, w' = w.drewN n := by
  unfold mm mer
  by_cases h : Rt.May b r
  · rw [if_pos h, if_pos h]; exact month_yes b r h w
  · rw [if_neg h, if_neg h]; exact month_no b r h w
theorem left_all (b r p m : Int) (hp : In p) (w : World) : Calls Try.prog 15 #[.int .i64 b, .int .i64 r, .int .i64 p, .int .i64 m] w fun e w' => e = .returned (.tuple #[.int .i64 (lv b r p m), lev b r p m]) ∧ ∃ n, w' = w.drewN n := by
  unfold lv lev
  by_cases h : LArg b r p m
  · rw [if_pos h, if_pos h]; exact left_arg b r p m h w
  · rw [if_neg h, if_neg h]
    have hm : Rt.May b r := by by_cases g : Rt.May b r; exact g; exact absurd (.inl g) h
    have h1 : ¬ (p < 0 ∨ m < 0 ∨ 480 < m) := fun g => h (.inr g)
    exact left_any b r p m _ hm (by omega) hp.2 (by omega) (by omega) rfl w

theorem le_cases (R : Option Int) : (le R = .nilIface ∧ ∃ v, R = some v) ∨ (le R = .iface 30 (.int .i64 3) ∧ R = none) := by
  cases R with
  | none => exact .inr ⟨rfl, rfl⟩
  | some v => exact .inl ⟨rfl, v, rfl⟩
theorem larg_not {b r p m : Int} (h : ¬ LArg b r p m) : Rt.May b r ∧ 0 ≤ p ∧ 0 ≤ m ∧ m ≤ 480 := by
  have hm : Rt.May b r := by by_cases g : Rt.May b r; exact g; exact absurd (.inl g) h
  have h1 : ¬ (p < 0 ∨ m < 0 ∨ 480 < m) := fun g => h (.inr g)
  exact ⟨hm, by omega, by omega, by omega⟩
theorem lev_cases (b r p m : Int) : lev b r p m = .iface 30 (.int .i64 1) ∨ lev b r p m = .iface 30 (.int .i64 3) ∨ (lev b r p m = .nilIface ∧ ¬ LArg b r p m ∧ ∃ v, Rt.lf r p m.toNat b = some v ∧ lv b r p m = v) := by
  unfold lev lv
  by_cases h : LArg b r p m
  · rw [if_pos h]; exact .inl rfl
  · rw [if_neg h, if_neg h]
    rcases le_cases (Rt.lf r p m.toNat b) with ⟨g, v, e⟩ | ⟨g, e⟩
    · exact .inr (.inr ⟨g, h, v, e, by rw [e]; rfl⟩)
    · exact .inr (.inl g)
theorem more_facts (a r p q m : Int) (hpq : p ≤ q) (h : lev a r p m = .nilIface) : lev a r q m = .nilIface ∧ lv a r q m ≤ lv a r p m := by
  rcases lev_cases a r p m with g | g | ⟨_, g, v, e, ev⟩
  · rw [g] at h; cases h
  · rw [g] at h; cases h
  · obtain ⟨h1, h2, h3, h4⟩ := larg_not g
    obtain ⟨u, eu, huv⟩ := Rt.lf_mono h1.2.2.1 m.toNat (Int.le_refl a) hpq e
    have g2 : ¬ LArg a r q m := by
      rintro (k | k)
      · exact k h1
      · omega
    refine ⟨?_, ?_⟩
    · unfold lev; rw [if_neg g2, eu]; rfl
    · rw [ev]; unfold lv; rw [if_neg g2, eu]; exact huv
theorem month_cases (a b r : Int) : (∃ c, mer a r = .iface 30 (.int .i64 c)) ∨ (mer a r = .nilIface ∧ mer b r = .iface 30 (.int .i64 1)) ∨ (mer a r = .nilIface ∧ mer b r = .nilIface ∧ ¬ a ≤ b) ∨ (mer a r = .nilIface ∧ mer b r = .nilIface ∧ a ≤ b ∧ mm a r ≤ mm b r) := by
  by_cases ha : Rt.May a r
  · by_cases hb : Rt.May b r
    · by_cases h : a ≤ b
      · exact .inr (.inr (.inr ⟨if_pos ha, if_pos hb, h, by unfold mm; rw [if_pos ha, if_pos hb]; exact Rt.mi_mono ha.2.2.1 h⟩))
      · exact .inr (.inr (.inl ⟨if_pos ha, if_pos hb, h⟩))
    · exact .inr (.inl ⟨if_pos ha, if_neg hb⟩)
  · exact .inl ⟨1, if_neg ha⟩

theorem holds_any (b r q : Int) (w : World) : Calls Try.prog 8 #[.int .i64 b, .int .i64 r, .int .i64 q] w fun e w' => e = .returned (.bool true) ∧ ∃ n, w' = w.drewN n := by
  by_cases hm : Rt.May b r
  · have H := Lib.hid hm
    obtain ⟨i0, i1⟩ := Rt.mi_bd hm
    obtain ⟨i, hi⟩ : ∃ i, Rt.mi b r = i := ⟨_, rfl⟩
    rw [hi] at i0 i1
    have HI := Lib.hid hi
    obtain ⟨b0, b1, _, _⟩ := hm
    by_cases c1 : q < 0
    · clear hi
      go_enter Try.func8, Try.ntmps8
      go_wp2_with fail
      refine (up_any _).mono ?_; rintro e w' ⟨rfl, n, rfl⟩
      go_wp2_with fail
      refine (month_yes b r H.out _).mono ?_; rintro e w' ⟨rfl, n1, rfl⟩
      rw [HI.out]
      go_wp2_with fail
      go_ret
      exact ⟨rfl, _, rfl⟩
    have d1 : decide (q < 0) = false := decide_eq_false c1
    by_cases c2 : 10000000000000 < q
    · clear hi
      go_enter Try.func8, Try.ntmps8
      go_wp2_with fail
      refine (up_any _).mono ?_; rintro e w' ⟨rfl, n, rfl⟩
      go_wp2_with fail
      refine (month_yes b r H.out _).mono ?_; rintro e w' ⟨rfl, n1, rfl⟩
      rw [HI.out]
      go_wp2_with fail
      go_ret
      exact ⟨rfl, _, rfl⟩
    have d2 : decide (10000000000000 < q) = false := decide_eq_false c2
    have n1 : Rt.nx b r i = b := by unfold Rt.nx; rw [hi]; split <;> omega
    have n2 : Rt.nx b r (b + i + q) = 0 := by unfold Rt.nx; rw [hi]; split <;> omega
    have HN := Lib.hid (show Rt.nx b r i = b ∧ Rt.nx b r (b + i + q) = 0 from ⟨n1, n2⟩)
    have HO := Lib.hid (show ¬ 10000000000000 < Rt.nx b r i ∧ ¬ 10000000000000 < Rt.nx b r (b + i + q) from ⟨by omega, by omega⟩)
    clear hi n1 n2
    go_enter Try.func8, Try.ntmps8
    go_wp2_with fail
    refine (up_any _).mono ?_; rintro e w' ⟨rfl, n, rfl⟩
    go_wp2_with fail
    refine (month_yes b r H.out _).mono ?_; rintro e w' ⟨rfl, n1, rfl⟩
    rw [HI.out]
    go_wp2_with fail
    refine (next_ok b r i H.out i0 (by omega) (by have := HO.out.1; omega) _).mono ?_; rintro e w' ⟨rfl, n2, rfl⟩
    rw [HN.out.1, HI.out]
    go_wp2_with fail
    refine (next_ok b r (b + i + q) H.out (by omega) (by omega) (by have := HO.out.2; omega) _).mono ?_; rintro e w' ⟨rfl, n3, rfl⟩
    rw [HN.out.2, HI.out]
    go_wp2_with fail
    go_ret
    exact ⟨rfl, _, rfl⟩
  · have H := Lib.hid hm
    clear hm
    go_enter Try.func8, Try.ntmps8
    go_wp2_with fail
    refine (up_any _).mono ?_; rintro e w' ⟨rfl, n, rfl⟩
    go_wp2_with fail
    refine (month_no b r H.out _).mono ?_; rintro e w' ⟨rfl, n1, rfl⟩
    go_wp2_with fail
    go_ret
    exact ⟨rfl, _, rfl⟩

theorem more_any (a b r p q m : Int) (hp : In p) (hq : In q) (w : World) : Calls Try.prog 6 #[.int .i64 a, .int .i64 b, .int .i64 r, .int .i64 p, .int .i64 q, .int .i64 m] w fun e w' => e = .returned (.bool true) ∧ ∃ n, w' = w.drewN n := by
  have HP := Lib.hid (show In p ∧ In q from ⟨hp, hq⟩)
  have HC := Lib.hid (month_cases a b r)
  clear hp hq
  obtain ⟨x, hx⟩ : ∃ x, mm a r = x := ⟨_, rfl⟩
  obtain ⟨y, hy⟩ : ∃ y, mm b r = y := ⟨_, rfl⟩
  obtain ⟨E, hE⟩ : ∃ x, mer a r = x := ⟨_, rfl⟩
  obtain ⟨F, hF⟩ : ∃ x, mer b r = x := ⟨_, rfl⟩
  rw [hx, hy, hE, hF] at HC
  have HM := Lib.hid (show mm a r = x ∧ mm b r = y ∧ mer a r = E ∧ mer b r = F from ⟨hx, hy, hE, hF⟩)
  clear hx hy hE hF
  have HT : (p < 0) ∨ (¬ p < 0 ∧ q < p) ∨ (¬ p < 0 ∧ ¬ q < p) := by omega
  rcases HT with t1 | ⟨t1, t2⟩ | ⟨t1, t2⟩
  · rcases HC.out with ⟨c, rfl⟩ | ⟨rfl, rfl⟩ | ⟨rfl, rfl, c⟩ | ⟨rfl, rfl, c, c2⟩
    all_goals
      go_enter Try.func6, Try.ntmps6
      go_wp2_with fail
      refine (up_any _).mono ?_; rintro e w' ⟨rfl, n, rfl⟩
      go_wp2_with fail
      refine (month_any a r _).mono ?_; rintro e w' ⟨rfl, n1, rfl⟩
      rw [HM.out.1, HM.out.2.2.1]
      go_wp2_with fail
      refine (month_any b r _).mono ?_; rintro e w' ⟨rfl, n2, rfl⟩
      rw [HM.out.2.1, HM.out.2.2.2]
      go_wp2_with fail
      go_ret
      exact ⟨rfl, _, rfl⟩
  · have d1 : decide (p < 0) = false := decide_eq_false t1
    have d2 : decide (q < p) = true := decide_eq_true t2
    rcases HC.out with ⟨c, rfl⟩ | ⟨rfl, rfl⟩ | ⟨rfl, rfl, c⟩ | ⟨rfl, rfl, c, c2⟩
    all_goals
      go_enter Try.func6, Try.ntmps6
      go_wp2_with fail
      refine (up_any _).mono ?_; rintro e w' ⟨rfl, n, rfl⟩
      go_wp2_with fail
      refine (month_any a r _).mono ?_; rintro e w' ⟨rfl, n1, rfl⟩
      rw [HM.out.1, HM.out.2.2.1]
      go_wp2_with fail
      refine (month_any b r _).mono ?_; rintro e w' ⟨rfl, n2, rfl⟩
      rw [HM.out.2.1, HM.out.2.2.2]
      go_wp2_with fail
      go_ret
      exact ⟨rfl, _, rfl⟩
  · have d1 : decide (p < 0) = false := decide_eq_false t1
    have d2 : decide (q < p) = false := decide_eq_false t2
    obtain ⟨u, hu⟩ : ∃ x, lv a r p m = x := ⟨_, rfl⟩
    obtain ⟨G, hG⟩ : ∃ x, lev a r p m = x := ⟨_, rfl⟩
    obtain ⟨v, hv⟩ : ∃ x, lv a r q m = x := ⟨_, rfl⟩
    obtain ⟨K, hK⟩ : ∃ x, lev a r q m = x := ⟨_, rfl⟩
    have HL := Lib.hid (show lv a r p m = u ∧ lev a r p m = G ∧ lv a r q m = v ∧ lev a r q m = K from ⟨hu, hG, hv, hK⟩)
    have HF : (∃ c, G = .iface 30 (.int .i64 c)) ∨ (G = .nilIface ∧ K = .nilIface ∧ v ≤ u) := by
      rcases lev_cases a r p m with g | g | ⟨g, _⟩
      · exact .inl ⟨1, by rw [← hG, g]⟩
      · exact .inl ⟨3, by rw [← hG, g]⟩
      · obtain ⟨k1, k2⟩ := more_facts a r p q m (by omega) g
        exact .inr ⟨by rw [← hG, g], by rw [← hK, k1], by omega⟩
    clear hu hG hv hK
    rcases HF with ⟨c0, rfl⟩ | ⟨rfl, rfl, k⟩
    all_goals
      rcases HC.out with ⟨c, rfl⟩ | ⟨rfl, rfl⟩ | ⟨rfl, rfl, c⟩ | ⟨rfl, rfl, c, c2⟩
    all_goals
      go_enter Try.func6, Try.ntmps6
      go_wp2_with fail
      refine (up_any _).mono ?_; rintro e w' ⟨rfl, n, rfl⟩
      go_wp2_with fail
      refine (month_any a r _).mono ?_; rintro e w' ⟨rfl, n1, rfl⟩
      rw [HM.out.1, HM.out.2.2.1]
      go_wp2_with fail
      refine (month_any b r _).mono ?_; rintro e w' ⟨rfl, n2, rfl⟩
      rw [HM.out.2.1, HM.out.2.2.2]
      go_wp2_with fail
      refine (left_all a r p m HP.out.1 _).mono ?_; rintro e w' ⟨rfl, n3, rfl⟩
      rw [HL.out.1, HL.out.2.1]
      go_wp2_with fail
      refine (left_all a r q m HP.out.2 _).mono ?_; rintro e w' ⟨rfl, n4, rfl⟩
      rw [HL.out.2.2.1, HL.out.2.2.2]
      go_wp2_with fail
      go_ret
      exact ⟨rfl, _, rfl⟩

theorem steps_any (b r p i j : Int) (hp : In p) (hi : In i) (hj : In j) (w : World) : Calls Try.prog 7 #[.int .i64 b, .int .i64 r, .int .i64 p, .int .i64 i, .int .i64 j] w fun e w' => e = .returned (.bool true) ∧ ∃ n, w' = w.drewN n := by
  have HP := Lib.hid hp
  obtain ⟨i1, i2⟩ := hi
  obtain ⟨j1, j2⟩ := hj
  clear hp
  obtain ⟨s, hs⟩ : ∃ s, IntKind.i64.wrap (i + j) = s := ⟨_, rfl⟩
  have hs' := hs
  rw [IntKind.wrap_i64] at hs'
  by_cases c1 : i < 0
  · clear hs hs'
    go_enter Try.func7, Try.ntmps7
    go_wp2_with fail
    refine (up_any _).mono ?_; rintro e w' ⟨rfl, n, rfl⟩
    go_wp2_with fail
    go_ret
    exact ⟨rfl, _, rfl⟩
  have d1 : decide (i < 0) = false := decide_eq_false c1
  by_cases c2 : 480 < i
  · have d2 : decide (480 < i) = true := decide_eq_true c2
    clear hs hs'
    go_enter Try.func7, Try.ntmps7
    go_wp2_with fail
    refine (up_any _).mono ?_; rintro e w' ⟨rfl, n, rfl⟩
    go_wp2_with fail
    go_ret
    exact ⟨rfl, _, rfl⟩
  have d2 : decide (480 < i) = false := decide_eq_false c2
  by_cases c3 : j < 0
  · have d3 : decide (j < 0) = true := decide_eq_true c3
    clear hs hs'
    go_enter Try.func7, Try.ntmps7
    go_wp2_with fail
    refine (up_any _).mono ?_; rintro e w' ⟨rfl, n, rfl⟩
    go_wp2_with fail
    go_ret
    exact ⟨rfl, _, rfl⟩
  have d3 : decide (j < 0) = false := decide_eq_false c3
  by_cases c4 : 480 < s
  · have d4 : decide (480 < s) = true := decide_eq_true c4
    clear hs'
    go_enter Try.func7, Try.ntmps7
    go_wp2_with fail
    refine (up_any _).mono ?_; rintro e w' ⟨rfl, n, rfl⟩
    go_wp2_with fail
    all_goals (go_ret; exact ⟨rfl, _, rfl⟩)
  have d4 : decide (480 < s) = false := decide_eq_false c4
  obtain ⟨x, hx⟩ : ∃ x, lv b r p i = x := ⟨_, rfl⟩
  obtain ⟨E, hE⟩ : ∃ x, lev b r p i = x := ⟨_, rfl⟩
  obtain ⟨z, hz⟩ : ∃ y, lv b r p s = y := ⟨_, rfl⟩
  obtain ⟨G, hG⟩ : ∃ y, lev b r p s = y := ⟨_, rfl⟩
  obtain ⟨y, hy⟩ : ∃ y, lv x r p j = y := ⟨_, rfl⟩
  obtain ⟨F, hF⟩ : ∃ y, lev x r p j = y := ⟨_, rfl⟩
  have HX : (∃ c d, E = .iface 30 (.int .i64 c) ∧ G = .iface 30 (.int .i64 d)) ∨ (∃ c, E = .nilIface ∧ F = .iface 30 (.int .i64 c) ∧ G = .iface 30 (.int .i64 c) ∧ y = z) ∨ (E = .nilIface ∧ F = .nilIface ∧ G = .nilIface ∧ y = z) := by
    by_cases c5 : s < 0
    · have a1 : LArg b r p s := .inr (.inr (.inl c5))
      have g1 : G = .iface 30 (.int .i64 1) := by rw [← hG]; exact if_pos a1
      have a2 : LArg x r p j := .inr (.inr (.inr (by omega)))
      rcases lev_cases b r p i with g | g | ⟨g, _⟩
      · exact .inl ⟨1, 1, by rw [← hE, g], g1⟩
      · exact .inl ⟨3, 1, by rw [← hE, g], g1⟩
      · refine .inr (.inl ⟨1, by rw [← hE, g], by rw [← hF]; exact if_pos a2, g1, ?_⟩)
        rw [← hy, ← hz, show lv x r p j = 0 from if_pos a2, show lv b r p s = 0 from if_pos a1]
    · have es : s = i + j := by omega
      have en : s.toNat = i.toNat + j.toNat := by omega
      by_cases ha : LArg b r p i
      · have a1 : LArg b r p s := by
          rcases ha with k | k | k | k
          · exact .inl k
          · exact .inr (.inl k)
          · omega
          · omega
        exact .inl ⟨1, 1, by rw [← hE]; exact if_pos ha, by rw [← hG]; exact if_pos a1⟩
      · obtain ⟨h1, h2, h3, h4⟩ := larg_not ha
        have a1 : ¬ LArg b r p s := by
          rintro (k | k)
          · exact k h1
          · omega
        have hadd := Rt.lf_add (r := r) (p := p) i.toNat j.toNat (b := b)
        rw [← en] at hadd
        rcases le_cases (Rt.lf r p i.toNat b) with ⟨g, v, e⟩ | ⟨g, e⟩
        · have hv := Rt.lf_range i.toNat h1.1 h1.2.1 e
          have ex : x = v := by rw [← hx]; unfold lv; rw [if_neg ha, e]; rfl
          subst ex
          have a2 : ¬ LArg x r p j := by
            rintro (k | k)
            · exact k ⟨hv.1, hv.2, h1.2.2.1, h1.2.2.2⟩
            · omega
          have hadd2 : Rt.lf r p s.toNat b = Rt.lf r p j.toNat x := by rw [hadd, e]; rfl
          have e1 : E = .nilIface := by rw [← hE]; unfold lev; rw [if_neg ha, g]
          have e2 : y = z := by rw [← hy, ← hz]; unfold lv; rw [if_neg a1, if_neg a2, hadd2]
          have e3 : G = F := by rw [← hG, ← hF]; unfold lev; rw [if_neg a1, if_neg a2, hadd2]
          rcases le_cases (Rt.lf r p j.toNat x) with ⟨g3, _⟩ | ⟨g3, _⟩
          · have e4 : F = .nilIface := by rw [← hF]; unfold lev; rw [if_neg a2, g3]
            exact .inr (.inr ⟨e1, e4, by rw [e3, e4], e2⟩)
          · have e4 : F = .iface 30 (.int .i64 3) := by rw [← hF]; unfold lev; rw [if_neg a2, g3]
            exact .inr (.inl ⟨3, e1, e4, by rw [e3, e4], e2⟩)
        · refine .inl ⟨3, 3, ?_, ?_⟩
          · rw [← hE]; unfold lev; rw [if_neg ha, g]
          · rw [← hG]; unfold lev; rw [if_neg a1, hadd, e]; rfl
  have HM := Lib.hid (show lv b r p i = x ∧ lev b r p i = E ∧ lv b r p s = z ∧ lev b r p s = G ∧ lv x r p j = y ∧ lev x r p j = F from ⟨hx, hE, hz, hG, hy, hF⟩)
  clear hx hE hz hG hy hF hs'
  rcases HX with ⟨c, d, rfl, rfl⟩ | ⟨c, rfl, rfl, rfl, rfl⟩ | ⟨rfl, rfl, rfl, rfl⟩
  all_goals
    go_enter Try.func7, Try.ntmps7
    go_wp2_with fail
    refine (up_any _).mono ?_; rintro e w' ⟨rfl, n, rfl⟩
    go_wp2_with fail
    refine (left_all b r p i HP.out _).mono ?_; rintro e w' ⟨rfl, n1, rfl⟩
    rw [HM.out.1, HM.out.2.1]
    go_wp2_with fail
    refine (left_all b r p s HP.out _).mono ?_; rintro e w' ⟨rfl, n2, rfl⟩
    rw [HM.out.2.2.1, HM.out.2.2.2.1]
    go_wp2_with fail
    first
      | (go_ret; exact ⟨rfl, _, rfl⟩)
      | (refine (left_all x r p j HP.out _).mono ?_; rintro e w' ⟨rfl, n3, rfl⟩; rw [HM.out.2.2.2.2.1, HM.out.2.2.2.2.2]; go_wp2_with fail; go_quiet (fail); go_wp2_with fail; go_ret; exact ⟨rfl, _, World.drewN_drewN _ _ _⟩)
