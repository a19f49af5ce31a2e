/- The document's own answer: whether a total and weights may be. -/
import Derived.Test.YtinimjejdkcodaaSu
namespace Go.Proofs.Ytinimjejdkcodaa
open Go.RowKit Go.Shelf Go.Lib Go.Sort

theorem sum_nn {ws : List Int} {i : Nat} (h : ∀ j, j < i → 0 ≤ ws.getD j 0 ∧ ws.getD j 0 ≤ 10000000000000) (hi : i ≤ ws.length) : ∀ x ∈ ws.take i, 0 ≤ x ∧ x ≤ 10000000000000 := fun x hx => by
  obtain ⟨j, hj, rfl⟩ := List.getElem_of_mem hx
  rw [List.length_take] at hj
  have := h j (by omega)
  rwa [List.getD_eq_getElem?_getD, List.getElem?_eq_getElem (by omega), Option.getD_some, ← List.getElem_take (h := by rw [List.length_take]; omega)] at this

set_option maxHeartbeats 4000000 in
set_option maxRecDepth 1000000 in
theorem may_any (A : Option Addr) (n c : Nat) (t : Int) (ws : List Int) (w : World) (B : Nat) (hr : RdK .i64 w B A n ws) (hn : n ≤ 1000000) :
    Calls Try.prog 11 #[.int .i64 t, .slice A n c] w fun e w' => e = .returned (.bool (decide (Sv.May t ws))) ∧ w = w' := by
  have HR := Lib.hid hr
  have HL := Lib.hid hr.1
  have hl := hr.1
  clear hr
  have hd : (t < 0) ∨ (¬ t < 0 ∧ decide (t > 10000000000000) = true) ∨ (¬ t < 0 ∧ decide (t > 10000000000000) = false ∧ n = 0) ∨ (¬ t < 0 ∧ decide (t > 10000000000000) = false ∧ n ≠ 0 ∧ decide ((n : Int) > 480) = true) ∨ (¬ t < 0 ∧ decide (t > 10000000000000) = false ∧ n ≠ 0 ∧ decide ((n : Int) > 480) = false) := by
    by_cases a : t < 0
    · exact Or.inl a
    · by_cases b : t > 10000000000000
      · exact Or.inr (Or.inl ⟨a, decide_eq_true b⟩)
      · by_cases d : n = 0
        · exact Or.inr (Or.inr (Or.inl ⟨a, decide_eq_false b, d⟩))
        · by_cases f : (n : Int) > 480
          · exact Or.inr (Or.inr (Or.inr (Or.inl ⟨a, decide_eq_false b, d, decide_eq_true f⟩)))
          · exact Or.inr (Or.inr (Or.inr (Or.inr ⟨a, decide_eq_false b, d, decide_eq_false f⟩)))
  rcases hd with a | ⟨a, b⟩ | ⟨a, b, d⟩ | ⟨a, b, d, f⟩ | ⟨a, b, d, f⟩
  · have HF := Lib.hid (show decide (Sv.May t ws) = false from decide_eq_false fun h => by have := h.1; omega)
    clear hl
    go_enter Try.func11, Try.ntmps11
    go_wp2_with fail
    go_ret
    exact ⟨by rw [HF.out]; rfl, rfl⟩
  · have HF := Lib.hid (show decide (Sv.May t ws) = false from decide_eq_false fun h => by have := h.2.1; have := of_decide_eq_true b; omega)
    clear hl
    go_enter Try.func11, Try.ntmps11
    go_wp2_with fail
    go_ret
    exact ⟨by rw [HF.out]; rfl, rfl⟩
  · have HF := Lib.hid (show decide (Sv.May t ws) = false from decide_eq_false fun h => by
      have h5 := h.2.2.2.2
      rw [List.length_eq_zero_iff.1 (hl.trans d)] at h5
      exact absurd h5 (by decide))
    subst d
    clear hl
    go_enter Try.func11, Try.ntmps11
    go_wp2_with fail
    go_ret
    exact ⟨by rw [HF.out]; rfl, rfl⟩
  · have HF := Lib.hid (show decide (Sv.May t ws) = false from decide_eq_false fun h => by have := h.2.2.1; have := of_decide_eq_true f; omega)
    have dz : ((n : Int) == 0) = false := by rw [beq_eq_false_iff_ne]; omega
    clear hl d
    go_enter Try.func11, Try.ntmps11
    go_wp2_with fail
    go_ret
    exact ⟨by rw [HF.out]; rfl, rfl⟩
  · have HT := Lib.hid (show 0 ≤ t ∧ t ≤ 10000000000000 ∧ ws.length ≤ 480 from ⟨by omega, by have := of_decide_eq_false b; omega, by have := of_decide_eq_false f; omega⟩)
    have dz : ((n : Int) == 0) = false := by rw [beq_eq_false_iff_ne]; omega
    clear hl d
    go_enter Try.func11, Try.ntmps11
    go_wp2_with fail
    go_loop [5, 6] (fun s v => ∃ (i : Nat) (b : Bool), v = .int .i64 i ∧ i ≤ n ∧ s = .bool b ∧ Hid ((∀ j, j < i → 0 ≤ ws.getD j 0 ∧ ws.getD j 0 ≤ 10000000000000) ∧ (b = true ↔ 0 < (ws.take i).sum))) (fun s v => n - (RowKit.intOf v).toNat)
    case atStart => exact ⟨0, false, rfl, Nat.zero_le _, rfl, fun j hj => absurd hj (Nat.not_lt_zero _), by simp⟩
    case round =>
      obtain ⟨i, s, rfl, hin, rfl, H⟩ := hrel
      by_cases hlt : i < n
      · have hltz : (i : Int) < (n : Int) := by omega
        obtain ⟨xb, xo, rfl, _, rx⟩ := HR.out.2 i hlt
        have hil : i < ws.length := by rw [HL.out]; exact hlt
        have HX := Lib.hid (show ws.getD i 0 ∈ ws from by rw [List.getD_eq_getElem?_getD, List.getElem?_eq_getElem hil]; exact List.getElem_mem _)
        have HS := Lib.hid (take_sum ws i hil)
        obtain ⟨x, ex⟩ : ∃ x, ws.getD i 0 = x := ⟨_, rfl⟩
        rw [ex] at rx HX HS
        have HE := Lib.hid ex
        clear ex hil
        by_cases x0 : x < 0
        · have HF := Lib.hid (show decide (Sv.May t ws) = false from decide_eq_false fun h => by have := (h.2.2.2.1 x HX.out).1; omega)
          clear H
          go_wp2_with fail
          go_ret
          exact ⟨by rw [HF.out]; rfl, rfl⟩
        · by_cases x1 : x > 10000000000000
          · have x2 : decide (x > 10000000000000) = true := decide_eq_true x1
            have HF := Lib.hid (show decide (Sv.May t ws) = false from decide_eq_false fun h => by have := (h.2.2.2.1 x HX.out).2; omega)
            clear H
            go_wp2_with fail
            go_ret
            exact ⟨by rw [HF.out]; rfl, rfl⟩
          · have x2 : decide (x > 10000000000000) = false := decide_eq_false x1
            have HN := Lib.hid (show (∀ j, j < i + 1 → 0 ≤ ws.getD j 0 ∧ ws.getD j 0 ≤ 10000000000000) ∧ 0 ≤ (ws.take i).sum from
              ⟨fun j hj => by
                rcases Nat.lt_or_ge j i with y | y
                · exact H.out.1 j y
                · obtain rfl : j = i := by omega
                  rw [HE.out]; exact ⟨by omega, by omega⟩, (Sv.sum_bd (sum_nn H.out.1 (by rw [HL.out]; omega))).1⟩)
            cases s with
            | true =>
              have HP := Lib.hid (show true = true ↔ 0 < (ws.take (i + 1)).sum from ⟨fun _ => by have := H.out.2.1 rfl; rw [HS.out]; omega, fun _ => rfl⟩)
              clear H
              go_wp2_with fail
              exact ⟨⟨i + 1, true, by go_num, by omega, rfl, HN.out.1, HP.out⟩, by simp [RowKit.intOf]; omega⟩
            | false =>
              have HP := Lib.hid (show decide (x > 0) = true ↔ 0 < (ws.take (i + 1)).sum from by
                have h0 : ¬ 0 < (ws.take i).sum := fun h => by have := H.out.2.2 h; cases this
                have h1 := HN.out.2
                rw [HS.out, decide_eq_true_eq]; omega)
              clear H
              go_wp2_with fail
              exact ⟨⟨i + 1, decide (x > 0), by go_num, by omega, by first | rfl | simp, HN.out.1, HP.out⟩, by simp [RowKit.intOf]; omega⟩
      · obtain rfl : i = n := by omega
        have hltz : ¬ (i : Int) < (i : Int) := by omega
        have HF := Lib.hid (show decide (Sv.May t ws) = s from by
          have e : ws.take i = ws := List.take_of_length_le (by rw [HL.out]; exact Nat.le_refl _)
          have h1 := sum_nn H.out.1 (by rw [HL.out]; exact Nat.le_refl _)
          have h2 := H.out.2
          rw [e] at h1 h2
          cases s with
          | true => exact decide_eq_true ⟨HT.out.1, HT.out.2.1, HT.out.2.2, h1, h2.1 rfl⟩
          | false => exact decide_eq_false fun h => by have := h2.2 h.2.2.2.2; cases this)
        clear H
        go_wp2_with fail
        go_ret
        exact ⟨by rw [HF.out]; rfl, rfl⟩
end Go.Proofs.Ytinimjejdkcodaa
