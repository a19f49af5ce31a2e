/- The law SplitEven: any total's shares of the same weight, or that there are none. -/
import Derived.Test.YtinimjejdkcodaaSe
namespace Go.Proofs.Ytinimjejdkcodaa
open Go.RowKit Go.Shelf Go.Lib Go.Sort

theorem may_even {t : Int} {n : Nat} (h1 : 1 ≤ n) (h2 : n ≤ 480) : Sv.May t (List.replicate n 1) ↔ 0 ≤ t ∧ t ≤ 10000000000000 := by
  have es : (List.replicate n (1 : Int)).sum = n := by
    clear h1 h2
    induction n with
    | zero => rfl
    | succ m ih => rw [List.replicate_succ, List.sum_cons, ih]; omega
  constructor
  · exact fun h => ⟨h.1, h.2.1⟩
  · exact fun h => ⟨h.1, h.2, by simpa using h2, fun x hx => by rw [List.eq_of_mem_replicate hx]; decide, by rw [es]; omega⟩

set_option maxHeartbeats 4000000 in
set_option maxRecDepth 1000000 in
theorem splitEven_walk (t z : Int) (w : World) :
    Calls Try.prog 4 #[.int .i64 t, .int .i64 z] w fun e w' => e = .returned (.bool true) ∧ Below w.heap.size w w' := by
  by_cases h1 : z < 1 ∨ 480 < z
  · have HO := Lib.hid h1
    have hd : t < 0 ∨ (¬ t < 0 ∧ decide (t > 10000000000000) = true) ∨ (¬ t < 0 ∧ decide (t > 10000000000000) = false ∧ decide (z < 1) = true) ∨ (¬ t < 0 ∧ decide (t > 10000000000000) = false ∧ decide (z < 1) = false ∧ decide (z > 480) = true) := by
      by_cases a : t < 0
      · exact Or.inl a
      · by_cases b : t > 10000000000000
        · exact Or.inr (Or.inl ⟨a, decide_eq_true b⟩)
        · by_cases c : z < 1
          · exact Or.inr (Or.inr (Or.inl ⟨a, decide_eq_false b, decide_eq_true c⟩))
          · exact Or.inr (Or.inr (Or.inr ⟨a, decide_eq_false b, decide_eq_false c, decide_eq_true (by omega)⟩))
    clear h1
    rcases hd with a | ⟨a, b⟩ | ⟨a, b, c⟩ | ⟨a, b, c, d⟩
    all_goals
      go_enter Try.func4, Try.ntmps4
      go_wp2_with (first | (go_at_call 9; refine (up_any _).mono ?_; rintro e w1 ⟨rfl, hb1⟩; have HB := Lib.hid hb1; clear hb1) | (go_at_call 14; refine (even_none t z _ HO.out).mono ?_; rintro e w2 ⟨rfl, hb2⟩; have HB2 := Lib.hid (HB.out.trans (hb2.mono HB.out.size)); clear hb2) | simp only [errEq])
      go_ret
      exact ⟨rfl, HB2.out⟩
  · obtain ⟨n, rfl⟩ : ∃ n : Nat, z = n := ⟨z.toNat, by omega⟩
    have n1 : 1 ≤ n := by omega
    have n2 : n ≤ 480 := by omega
    clear h1
    by_cases hm : 0 ≤ t ∧ t ≤ 10000000000000
    · have HM := Lib.hid ((may_even n1 n2).2 hm)
      obtain ⟨t0, t1⟩ := hm
      have a : ¬ t < 0 := by omega
      have b : decide (t > 10000000000000) = false := decide_eq_false (by omega)
      have c : decide ((n : Int) < 1) = false := decide_eq_false (by omega)
      have d : decide ((n : Int) > 480) = false := decide_eq_false (by omega)
      have a' : ¬ 10000000000000 < t := by omega
      have c' : ¬ (n : Int) < 1 := by omega
      have d' : ¬ 480 < (n : Int) := by omega
      have HE := Lib.hid (fun w0 => (even_any t n w0 n1 n2).mono (R' := fun e w' => ∃ blk, e = .returned (.tuple #[.slice (some ⟨blk, 0, none⟩) n n, .nilIface]) ∧ w0.heap.size ≤ blk ∧ Arr (.int .i64) w' blk (Sv.shares t (List.replicate n 1)) ∧ Below w0.heap.size w0 w') fun e w' h => by
        obtain ⟨q1, _, q3⟩ := h
        obtain ⟨blk, h1, h2, h3⟩ := q1 HM.out
        rw [List.length_replicate] at h1
        exact ⟨blk, h1, h2, h3, q3⟩)
      go_enter Try.func4, Try.ntmps4
      go_wp2_with (first | (go_at_call 9; refine (up_any _).mono ?_; rintro e w1 ⟨rfl, hb1⟩; have HB := Lib.hid hb1; clear hb1) | (go_at_call 14; refine (HE.out _).mono ?_; rintro e w2 ⟨blk, rfl, p1, p2, hb2⟩; have HB2 := Lib.hid (And.intro (HB.out.trans (hb2.mono HB.out.size)) p2); clear hb2 p1 p2))
      go_loop [8] (fun v => ∃ i : Nat, v = .int .i64 i ∧ i ≤ n) (fun v => n - (RowKit.intOf v).toNat)
      case atStart => exact ⟨0, rfl, Nat.zero_le _⟩
      case round =>
        obtain ⟨i, rfl, hin⟩ := hrel
        by_cases hlt : i < n
        · have hltz : (i : Int) < (n : Int) := by omega
          have c1 := HB2.out.2.c i (by rw [Sv.shares_length, List.length_replicate]; exact hlt)
          rw [Sv.shares_get t _ i (by rw [List.length_replicate]; exact hlt), Sv.sh_even hlt] at c1
          have nz : ((n : Int) == 0) = false := by rw [beq_eq_false_iff_ne]; omega
          have e1 : t.tdiv (n : Int) = t / (n : Int) := Int.tdiv_eq_ediv_of_nonneg t0
          have e2 : t.tmod (n : Int) = t % (n : Int) := Int.tmod_eq_emod_of_nonneg t0
          have d0 : 0 ≤ t / (n : Int) := Int.ediv_nonneg t0 (by omega)
          have d1 : t / (n : Int) ≤ 10000000000000 := Int.le_trans (Int.ediv_le_self _ t0) t1
          have m0 : 0 ≤ t % (n : Int) := Int.emod_nonneg _ (by omega)
          have m1 : t % (n : Int) < (n : Int) := Int.emod_lt_of_pos _ (by omega)
          by_cases hr : (i : Int) < t % (n : Int)
          · rw [if_pos hr] at c1
            generalize t / (n : Int) = q at *
            generalize t % (n : Int) = r at *
            go_wp2_with fail
            exact ⟨⟨i + 1, by go_num, by omega⟩, by simp [RowKit.intOf]; omega⟩
          · rw [if_neg hr, Int.add_zero] at c1
            generalize t / (n : Int) = q at *
            generalize t % (n : Int) = r at *
            go_wp2_with fail
            exact ⟨⟨i + 1, by go_num, by omega⟩, by simp [RowKit.intOf]; omega⟩
        · have hltz : ¬ (i : Int) < (n : Int) := by omega
          go_wp2_with fail
          go_ret
          exact ⟨rfl, HB2.out.1⟩
    · have HM := Lib.hid (fun h => hm ((may_even n1 n2).1 h))
      have hd : t < 0 ∨ (¬ t < 0 ∧ decide (t > 10000000000000) = true) := by
        by_cases a : t < 0
        · exact Or.inl a
        · exact Or.inr ⟨a, decide_eq_true (by omega)⟩
      have HE := Lib.hid (fun w0 => (even_any t n w0 n1 n2).mono (R' := fun e w' => e = .returned (.tuple #[.slice none 0 0, .iface 29 (.int .i64 1)]) ∧ Below w0.heap.size w0 w') fun e w' h => ⟨h.2.1 HM.out, h.2.2⟩)
      clear hm
      rcases hd with a | ⟨a, b⟩
      all_goals
        go_enter Try.func4, Try.ntmps4
        go_wp2_with (first | (go_at_call 9; refine (up_any _).mono ?_; rintro e w1 ⟨rfl, hb1⟩; have HB := Lib.hid hb1; clear hb1) | (go_at_call 14; refine (HE.out _).mono ?_; rintro e w2 ⟨rfl, hb2⟩; have HB2 := Lib.hid (HB.out.trans (hb2.mono HB.out.size)); clear hb2) | simp only [errEq])
        go_ret
        exact ⟨rfl, HB2.out⟩
end Go.Proofs.Ytinimjejdkcodaa
