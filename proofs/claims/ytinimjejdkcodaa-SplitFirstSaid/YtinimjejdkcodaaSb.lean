/- The law SplitFirst: of equal weights earlier oneRow get no less, and at most a cent more. -/
import Derived.Test.YtinimjejdkcodaaSu
namespace Go.Proofs.Ytinimjejdkcodaa
open Go.RowKit Go.Shelf Go.Lib Go.Sort

set_option maxHeartbeats 4000000 in
set_option maxRecDepth 1000000 in
theorem splitFirst_walk (A : Option Addr) (n c : Nat) (t : Int) (ws : List Int) (w : World) (hr : RdK .i64 w w.heap.size A n ws) (hn : n ≤ 9223372036854775807) :
    Calls Try.prog 7 #[.int .i64 t, .slice A n c] w fun e w' => e = .returned (.bool true) ∧ Below w.heap.size w w' := by
  have HR := Lib.hid hr
  have hl := hr.1
  clear hr
  by_cases h5 : n > 500
  · have h5z : (n : Int) > 500 := by omega
    go_enter Try.func7, Try.ntmps7
    go_wp2_with (go_at_call 9; refine (up_any _).mono ?_; rintro e w1 ⟨rfl, hb1⟩; have HB := Lib.hid hb1; clear hb1)
    go_ret
    exact ⟨rfl, HB.out⟩
  · have h5z : ¬ (n : Int) > 500 := by omega
    by_cases hm : Sv.May t ws
    · have HM := Lib.hid hm
      have HL := Lib.hid hl
      clear hm hl
      go_enter Try.func7, Try.ntmps7
      go_wp2_with (first | (go_at_call 9; refine (up_any _).mono ?_; rintro e w1 ⟨rfl, hb1⟩; have HB := Lib.hid hb1; clear hb1) | (go_at_call 10; refine (shares_view A n c t ws _ ((HR.out.below HB.out).more HB.out.size) HM.out).mono ?_; rintro e w2 ⟨blk, rfl, p1, p2, p3, p4⟩; have H := Lib.hid (And.intro (HB.out.trans (p4.mono HB.out.size)) p3); clear p1 p2 p3 p4))
      go_loopw [8] (fun v wr => ∃ (i q : Nat), v = .int .i64 i ∧ i ≤ n ∧ wr = w2.drewN q) (fun v wr => n - (RowKit.intOf v).toNat)
      case atStart => exact ⟨0, 0, rfl, Nat.zero_le _, rfl⟩
      case round =>
        obtain ⟨i, q, rfl, hin, rfl⟩ := hrel
        by_cases hlt : i < n
        · have hltz : (i : Int) < (n : Int) := by omega
          by_cases h40 : i < 40
          · have h40z : (i : Int) < 40 := by omega
            go_wp2_with fail
            go_loopw [9] (fun v wr => ∃ (k q : Nat), v = .int .i64 k ∧ i < k ∧ k ≤ n ∧ wr = w2.drewN q) (fun v wr => n - (RowKit.intOf v).toNat)
            case atStart => exact ⟨i + 1, q, by go_num, by omega, by omega, rfl⟩
            case round =>
              obtain ⟨k, q2, rfl, hik, hkn, rfl⟩ := hrel
              by_cases hlt2 : k < n
              · have hltz2 : (k : Int) < (n : Int) := by omega
                have W := Lib.hid (HR.out.below H.out.1)
                obtain ⟨b1, o1, rfl, _, r1⟩ := W.out.2 i hlt
                obtain ⟨b2, o2, e2, _, r2⟩ := W.out.2 k hlt2
                injection e2 with e2
                injection e2 with e3 e4
                subst e3 e4
                obtain ⟨b3, o3, e5, _, r3⟩ := H.out.2.2 i hlt
                injection e5 with e5
                injection e5 with e6 e7
                subst e6 e7
                obtain ⟨b4, o4, e8, _, r4⟩ := H.out.2.2 k hlt2
                injection e8 with e8
                injection e8 with e9 e10
                subst e9 e10
                rw [Sv.shares_get t ws _ (by rw [HL.out]; omega)] at r3 r4
                have hf := Sv.sh_first (t := t) (ws := ws) hik
                have s1 := Sv.sh_bd HM.out i
                have s2 := Sv.sh_bd HM.out k
                generalize Sv.sh t ws i = x at *
                generalize Sv.sh t ws k = y at *
                generalize ws.getD i 0 = u at *
                generalize ws.getD k 0 = v at *
                rw [Nat.zero_add] at r3 r4
                obtain ⟨s10, s11⟩ := s1
                obtain ⟨s20, s21⟩ := s2
                by_cases huv : u = v
                · obtain ⟨f1, f2⟩ := hf huv
                  subst huv
                  have g1 : decide (x < y) = false := decide_eq_false (by omega)
                  have g2 : decide (x > y + 1) = false := decide_eq_false (by omega)
                  have g1' : ¬ x < y := by omega
                  have g2' : ¬ y + 1 < x := by omega
                  go_wp2_with fail
                  go_quiet (fail)
                  go_wp2_with fail
                  exact ⟨⟨k + 1, _, by go_num, by omega, by omega, by first | rfl | exact World.drewN_drewN _ _ _⟩, by simp [RowKit.intOf]; omega⟩
                · have g3 : (u == v) = false := by rw [beq_eq_false_iff_ne]; exact huv
                  clear hf huv
                  go_wp2_with fail
                  go_quiet (fail)
                  go_wp2_with fail
                  exact ⟨⟨k + 1, _, by go_num, by omega, by omega, by first | rfl | exact World.drewN_drewN _ _ _⟩, by simp [RowKit.intOf]; omega⟩
              · have hltz2 : ¬ (k : Int) < (n : Int) := by omega
                go_wp2_with fail
                exact ⟨⟨i + 1, _, by go_num, by omega, rfl⟩, by simp [RowKit.intOf]; omega⟩
          · have h40z : ¬ (i : Int) < 40 := by omega
            go_wp2_with fail
            go_ret
            exact ⟨by simp, H.out.1.trans (below_drewN _ _ _)⟩
        · obtain rfl : i = n := by omega
          have hltz : ¬ (i : Int) < (i : Int) := by omega
          go_wp2_with fail
          go_ret
          exact ⟨by simp, H.out.1.trans (below_drewN _ _ _)⟩
    · have HM := Lib.hid hm
      clear hm hl
      go_enter Try.func7, Try.ntmps7
      go_wp2_with (first | (go_at_call 9; refine (up_any _).mono ?_; rintro e w1 ⟨rfl, hb1⟩; have HB := Lib.hid hb1; clear hb1) | (go_at_call 10; refine (shares_none A n c t ws _ ((HR.out.below HB.out).more HB.out.size) (by omega) HM.out).mono ?_; rintro e w2 ⟨rfl, p4⟩; have H := Lib.hid (HB.out.trans (p4.mono HB.out.size)); clear p4))
      go_ret
      exact ⟨rfl, H.out⟩
end Go.Proofs.Ytinimjejdkcodaa
