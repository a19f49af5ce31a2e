import Derived.Test.YtedbfkpmffehaaaLawA
namespace Go.Proofs.Ytedbfkpmffehaaa
open Go.RowKit Go.Shelf Go.Lib Ar

/-- the four ways of one quotient -/
theorem near_mdv (a b c : Int) :
    (mdv a b c 2 = mdv a b c 1 ∨ mdv a b c 2 = mdv a b c 1 + 1) ∧ (mdv a b c 3 = mdv a b c 1 ∨ mdv a b c 3 = mdv a b c 2) ∧ (mdv a b c 4 = mdv a b c 1 ∨ mdv a b c 4 = mdv a b c 2) := by
  unfold mdv mag
  generalize abs a * abs b / abs c = q
  generalize abs a * abs b % abs c = r
  generalize abs c = C
  generalize neg3 a b c = s
  have hrup : (r = 0 ∧ ∀ m, rup q r C s m = false) ∨ (rup q r C s 1 = s ∧ rup q r C s 2 = !s) := by
    by_cases hr : r = 0
    · exact .inl ⟨hr, fun m => by simp [rup, hr]⟩
    · exact .inr ⟨by simp [rup, hr], by simp [rup, hr]⟩
  rcases hrup with ⟨_, h⟩ | ⟨h1, h2⟩
  · simp [h]
  · rw [h1, h2]
    generalize rup q r C s 3 = u3
    generalize rup q r C s 4 = u4
    cases s <;> cases u3 <;> cases u4 <;> simp <;> omega
theorem mdv_one (a b m : Int) : mdv a b 1 m = mdv a b 1 1 := by
  have : ∀ m, mag a b 1 m = mag a b 1 1 := by
    intro m
    have h : abs 1 = 1 := rfl
    unfold mag; rw [h]; simp [rup, Int.emod_one]
  unfold mdv; rw [this m]
theorem mv_one (a b m : Int) (h1 : 1 ≤ m) (h2 : m ≤ 4) : mv a b 1 m = mv a b 1 1 ∧ me a b 1 m = me a b 1 1 := by
  unfold mv me
  have h : ¬ Bad 1 m := by unfold Bad; omega
  have g : ¬ Bad 1 1 := by decide
  rw [if_neg h, if_neg h, if_neg g, if_neg g, mdv_one a b m]; exact ⟨rfl, rfl⟩
theorem me_one (a b : Int) : me a b 1 1 = .nilIface ∨ me a b 1 1 = .iface 39 (.int .i64 3) := by
  unfold me
  have g : ¬ Bad 1 1 := by decide
  rw [if_neg g]
  by_cases h : Fits (mdv a b 1 1)
  · rw [if_pos h]; exact .inl rfl
  · rw [if_neg h]; exact .inr rfl
theorem m_fit {a b c m v : Int} (h : ¬ Bad c m) (e : mdv a b c m = v) (g : Fits v) : mv a b c m = v ∧ me a b c m = .nilIface := by
  unfold mv me
  rw [if_neg h, if_neg h, e, if_pos g, if_pos g]; exact ⟨rfl, rfl⟩
theorem m_over {a b c m : Int} (h : ¬ Bad c m) (g : ¬ Fits (mdv a b c m)) : me a b c m = .iface 39 (.int .i64 3) := by
  unfold me
  rw [if_neg h, if_neg g]

set_option maxHeartbeats 2000000 in
/-- the walk where the tests' outcomes are known -/
theorem near_walk (a b c : Int) (ha : In a) (hb : In b) (hc : In c)
    (H : (∃ k, me a b c 1 = .iface 39 (.int .i64 k)) ∨ (me a b c 1 = .nilIface ∧ ∃ k, me a b c 2 = .iface 39 (.int .i64 k)) ∨
      (me a b c 1 = .nilIface ∧ me a b c 2 = .nilIface ∧ me a b c 3 = .nilIface ∧ me a b c 4 = .nilIface ∧ ∃ D : Int, -9223372036854775808 ≤ D ∧ D ≤ 9223372036854775807 ∧ mv a b c 1 = D ∧
        ((mv a b c 2 = D ∧ mv a b c 3 = D ∧ mv a b c 4 = D) ∨ (∃ U : Int, Hid (U = D + 1) ∧ U ≤ 9223372036854775807 ∧ mv a b c 2 = U ∧ (mv a b c 3 = D ∨ mv a b c 3 = U) ∧ (mv a b c 4 = D ∨ mv a b c 4 = U)))))
    (w : World) :
    Calls Try.prog 6 #[.int .i64 a, .int .i64 b, .int .i64 c] w fun e w' => e = .returned (.bool true) ∧ ∃ n, w' = w.drewN n := by
  have HI := Lib.hid (show In a ∧ In b ∧ In c ∧ In 1 from ⟨ha, hb, hc, by decide, by decide⟩)
  clear ha hb hc
  obtain ⟨o1, o2⟩ := mv_one a b 3 (by decide) (by decide)
  have hone := me_one a b
  rcases H with ⟨k, E⟩ | ⟨E1, k, E2⟩ | ⟨E1, E2, E3, E4, D, d1, d2, M1, ⟨M2, M3, M4⟩ | ⟨U, HU, d3, M2, M3 | M3, M4 | M4⟩⟩
  all_goals
    try (
      have g1 : D ≤ U ∧ U ≤ D + 1 ∧ (D == U) = false ∧ (U == D) = false ∧ (U - D == 1) = true := by
        have := HU.out
        refine ⟨by omega, by omega, by rw [beq_eq_false_iff_ne]; omega, by rw [beq_eq_false_iff_ne]; omega, by rw [beq_iff_eq]; omega⟩
      obtain ⟨g1, g2, g3, g4, g5⟩ := g1)
    rcases hone with h | h
    all_goals
      rw [h] at o2
      go_enter Try.func6, Try.ntmps6
      go_wp2_with fail
      refine (up_any _).mono ?_; rintro e w' ⟨rfl, n, rfl⟩
      go_wp2_with fail
      refine (muldiv_any a b c 1 HI.out.1 HI.out.2.1 HI.out.2.2.1 _).mono ?_; rintro e w' ⟨rfl, n2, rfl⟩
      go_wp2_with fail
      refine (muldiv_any a b c 2 HI.out.1 HI.out.2.1 HI.out.2.2.1 _).mono ?_; rintro e w' ⟨rfl, n2, rfl⟩
      go_wp2_with fail
      refine (muldiv_any a b c 3 HI.out.1 HI.out.2.1 HI.out.2.2.1 _).mono ?_; rintro e w' ⟨rfl, n2, rfl⟩
      go_wp2_with fail
      refine (muldiv_any a b c 4 HI.out.1 HI.out.2.1 HI.out.2.2.1 _).mono ?_; rintro e w' ⟨rfl, n2, rfl⟩
      go_wp2_with fail
      refine (muldiv_any a b 1 3 HI.out.1 HI.out.2.1 HI.out.2.2.2 _).mono ?_; rintro e w' ⟨rfl, n2, rfl⟩
      go_wp2_with fail
      refine (mul_any a b HI.out.1 HI.out.2.1 _).mono ?_; rintro e w' ⟨rfl, n2, rfl⟩
      go_wp2_with fail
      go_quiet (fail)
      go_wp2_with fail
      go_ret
      first | exact ⟨rfl, _, rfl⟩ | exact ⟨rfl, _, World.drewN_drewN _ _ _⟩

theorem near_any (a b c : Int) (ha : In a) (hb : In b) (hc : In c) (w : World) :
    Calls Try.prog 6 #[.int .i64 a, .int .i64 b, .int .i64 c] w fun e w' => e = .returned (.bool true) ∧ ∃ n, w' = w.drewN n := by
  refine near_walk a b c ha hb hc ?_ w
  by_cases h0 : c = 0
  · exact .inl ⟨1, if_pos (.inl h0)⟩
  have nb : ∀ m, 1 ≤ m → m ≤ 4 → ¬ Bad c m := by intro m h1 h2; unfold Bad; omega
  have n1 := nb 1 (by decide) (by decide)
  have n2 := nb 2 (by decide) (by decide)
  have n3 := nb 3 (by decide) (by decide)
  have n4 := nb 4 (by decide) (by decide)
  by_cases g1 : ¬ Fits (mdv a b c 1)
  · exact .inl ⟨3, m_over n1 g1⟩
  have f1 : Fits (mdv a b c 1) := Decidable.not_not.1 g1
  by_cases g2 : ¬ Fits (mdv a b c 2)
  · exact .inr (.inl ⟨(m_fit n1 rfl f1).2, 3, m_over n2 g2⟩)
  have f2 : Fits (mdv a b c 2) := Decidable.not_not.1 g2
  obtain ⟨k1, k2, k3⟩ := near_mdv a b c
  have f3 : Fits (mdv a b c 3) := by rcases k2 with k | k <;> rw [k] <;> assumption
  have f4 : Fits (mdv a b c 4) := by rcases k3 with k | k <;> rw [k] <;> assumption
  refine .inr (.inr ⟨(m_fit n1 rfl f1).2, (m_fit n2 rfl f2).2, (m_fit n3 rfl f3).2, (m_fit n4 rfl f4).2, mdv a b c 1, f1.1, f1.2, (m_fit n1 rfl f1).1, ?_⟩)
  rw [(m_fit n2 rfl f2).1, (m_fit n3 rfl f3).1, (m_fit n4 rfl f4).1]
  rcases k1 with k1 | k1
  · rw [k1] at k2 k3
    exact .inl ⟨k1, by rcases k2 with k | k <;> exact k, by rcases k3 with k | k <;> exact k⟩
  · exact .inr ⟨_, Lib.hid k1, f2.2, rfl, k2, k3⟩
