/- The law SplitWhole: shares sum to the total; each is less than a cent from its quotient; of weight 0 it is 0. -/
import Derived.Test.YtinimjejdkcodaaSq
import Derived.Test.YtinimjejdkcodaaQuo
import Derived.Sort.AtCall
namespace Go.Proofs.Ytinimjejdkcodaa
open Go.RowKit Go.Shelf Go.Lib Go.Sort Ar Dg
attribute [local go_sem ↓] Go.wp_at_zero Go.wp_at_succ

/-- a long number without its sign -/
theorem num_abs {w : World} {B : Nat} {A : Option Addr} {n c : Nat} {m : Bool} {x : Int} (h : NumV w B (.agg #[.slice A n c, .bool m]) x) : NumV w B (.agg #[.slice A n c, .bool false]) (if x < 0 then -x else x) := by
  obtain ⟨A', n', c', ds, m', e, h1, h2, h3, h4, h5, h6, h7⟩ := h
  injection e with e
  simp only [Array.mk.injEq, List.cons.injEq, Value.slice.injEq, Value.bool.injEq, and_true] at e
  obtain ⟨⟨rfl, rfl, rfl⟩, rfl⟩ := e
  refine ⟨A, n, c, ds, false, rfl, h1, h2, h3, h4, h5, (fun h => nomatch h), ?_⟩
  have p : 0 ≤ dv ds := (dv_bd h4).1
  subst h7
  cases m
  · show (if dv ds < 0 then -(dv ds) else dv ds) = dv ds
    rw [if_neg (by omega)]
  · show (if -(dv ds) < 0 then -(-(dv ds)) else -(dv ds)) = dv ds
    split <;> omega

theorem _root_.Go.Proofs.Ytinimjejdkcodaa.NumV.al {w : World} {v : Value} {x : Int} {o : Obj} (h : NumV w w.heap.size v x) : NumV (w.alloc o) (w.alloc o).heap.size v x :=
  (h.below ((Below.refl w.heap.size w).alloc (Nat.le_refl _) o)).more (by simp)
theorem keep_cell {w w' : World} {p : Addr} {v : Value} (k : w.cell? p = some v) (hb : Below w.heap.size w w') : w'.cell? p = some v := (hb.cell (cell_lt k)).trans k

theorem VarN.unsign {wr : World} {g : Nat} {A : Option Addr} {n c : Nat} {m : Bool} {x : Int} (h : VarN wr g A n c m x) : VarN (wr.setCell ⟨g, 1, none⟩ (.bool false)) g A n c false (if x < 0 then -x else x) := by
  obtain ⟨_, ⟨y, hy⟩, f0, f1, h5⟩ := h.v
  have a0 : (wr.setCell ⟨g, 1, none⟩ (.bool false)).cell? ⟨g, 0, none⟩ = some (.slice A n c) := (World.cell?_setCell_other _ _ _ _ (by intro e; injection e with _ e; cases e)).trans h.a0
  have a1 := World.cell?_setCell_same wr ⟨g, 1, none⟩ (.bool false) hy
  have far : ∀ p : Addr, p.block ≠ g → (wr.setCell ⟨g, 1, none⟩ (.bool false)).cell? p = wr.cell? p := fun p hp => World.cell?_setCell_other _ _ _ _ (by intro e; rw [← e] at hp; exact hp rfl)
  refine ⟨a0, a1, ⟨⟨_, a0⟩, ⟨_, a1⟩, by rw [World.frozen?_setCell]; exact f0, by rw [World.frozen?_setCell]; exact f1, ?_⟩, ?_, by simpa using h.lt⟩
  · intro i k z
    by_cases e : i = 1
    · subst e; rw [a1]; simp
    · rw [World.cell?_setCell_other _ _ _ _ (by intro e'; injection e' with _ e'; exact e e'.symm)]; exact h5 i k z
  · obtain ⟨A', n', c', ds, m', e, h1, h2, h3, h4⟩ := num_abs h.num
    exact ⟨A', n', c', ds, m', e, h1, h2, (h3.apart h5 far).more (by simp), h4⟩

set_option maxHeartbeats 16000000 in
set_option maxRecDepth 1000000 in
theorem splitWhole_walk (A : Option Addr) (n c : Nat) (t : Int) (ws : List Int) (w : World) (hr : RdK .i64 w w.heap.size A n ws) (hn : n ≤ 9223372036854775807) :
    Calls Try.prog 5 #[.int .i64 t, .slice A n c] w fun e w' => e = .returned (.bool true) ∧ Below w.heap.size w w' := by
  have HR := Lib.hid hr
  have HL := Lib.hid hr.1
  clear hr
  by_cases h5 : n > 500
  · have h5z : (n : Int) > 500 := by omega
    go_enter Try.func5, Try.ntmps5
    go_wp2_with (go_at_call 9; refine (up_any _).mono ?_; rintro e w1 ⟨rfl, hb1⟩; have HB := Lib.hid hb1; clear hb1)
    go_ret
    exact ⟨rfl, HB.out⟩
  · have h5z : ¬ (n : Int) > 500 := by omega
    by_cases hm : Sv.May t ws
    · have HM := Lib.hid hm
      have HMT := Lib.hid (show decide (Sv.May t ws) = true from decide_eq_true hm)
      clear hm
      go_enter Try.func5, Try.ntmps5
      go_wp2_with (first | (go_at_call 9; refine (up_any _).mono ?_; rintro e w1 ⟨rfl, hb1⟩; have HB := Lib.hid hb1; clear hb1) | (go_at_call 10; refine (shares_view A n c t ws _ ((HR.out.below HB.out).more HB.out.size) HM.out).mono ?_; rintro e w2 ⟨blk, rfl, p1, p2, p3, p4⟩; have H := Lib.hid (show Below w.heap.size w w2 ∧ RdK .i64 w2 w2.heap.size (some ⟨blk, 0, none⟩) n (Sv.shares t ws) ∧ RdK .i64 w2 w2.heap.size A n ws from ⟨HB.out.trans (p4.mono HB.out.size), p3, (((HR.out.below HB.out).more HB.out.size).below p4).more p4.size⟩); clear p1 p2 p3 p4) | (go_at_call 11; refine (may_any A n c t ws _ _ H.out.2.2 (by omega)).mono ?_; rw [HMT.out]; rintro e w3 ⟨rfl, rfl⟩))
      go_loop [9, 10, 11] (fun s1 s2 v => ∃ i : Nat, v = .int .i64 i ∧ i ≤ n ∧ s1 = .int .i64 (ws.take i).sum ∧ s2 = .int .i64 ((Sv.shares t ws).take i).sum) (fun s1 s2 v => n - (RowKit.intOf v).toNat)
      case atStart => exact ⟨0, rfl, Nat.zero_le _, rfl, rfl⟩
      case round =>
        obtain ⟨i, rfl, hin, rfl, rfl⟩ := hrel
        by_cases hlt : i < n
        · have hltz : (i : Int) < (n : Int) := by omega
          obtain ⟨xb, xo, rfl, _, rx⟩ := H.out.2.2.2 i hlt
          obtain ⟨yb, yo, e2, _, ry⟩ := H.out.2.1.2 i hlt
          injection e2 with e2
          injection e2 with e3 e4
          subst e3 e4
          have hil : i < ws.length := by rw [HL.out]; exact hlt
          rw [Sv.shares_get t ws i hil, Nat.zero_add] at ry
          have s1 := take_bd (by decide) HM.out.2.2.2.1 i (by have := HM.out.2.2.1; omega)
          have s2 := take_bd (by decide) HM.out.2.2.2.1 (i + 1) (by have := HM.out.2.2.1; omega)
          have hsh : ∀ x ∈ Sv.shares t ws, 0 ≤ x ∧ x ≤ 10000000000001 := fun x hx => by
            obtain ⟨j, _, e⟩ := List.mem_map.1 hx
            rw [← e]; exact Sv.sh_bd HM.out j
          have q1 := take_bd (by decide) hsh i (by have := HM.out.2.2.1; omega)
          have q2 := take_bd (by decide) hsh (i + 1) (by have := HM.out.2.2.1; omega)
          have HS1 := Lib.hid (take_sum ws i hil)
          have HS2 := Lib.hid (take_sum (Sv.shares t ws) i (by rw [Sv.shares_length]; exact hil))
          rw [HS1.out] at s2
          rw [HS2.out] at q2
          rw [Sv.shares_get t ws i hil] at q2 HS2
          have x1 := Sv.getD_bd (by decide) HM.out.2.2.2.1 i
          have y1 := (Sv.sh_bd HM.out i).1
          have y2 := Sv.sh_le HM.out hil
          have y3 := Sv.sh_zero (t := t) HM.out (i := i)
          generalize Sv.sh t ws i = y at *
          generalize ws.getD i 0 = x at *
          obtain ⟨S1, hS1⟩ : ∃ S1, (ws.take i).sum = S1 := ⟨_, rfl⟩
          obtain ⟨S2, hS2⟩ : ∃ S2, ((Sv.shares t ws).take i).sum = S2 := ⟨_, rfl⟩
          rw [hS1] at s1 s2 HS1 ⊢
          rw [hS2] at q1 q2 HS2 ⊢
          have g1 : ¬ y < 0 := by omega
          have g2 : decide (y > t) = false := decide_eq_false (by omega)
          clear hS1 hS2 hsh hil
          obtain ⟨s10, s11⟩ := s1
          obtain ⟨s20, s21⟩ := s2
          obtain ⟨q10, q11⟩ := q1
          obtain ⟨q20, q21⟩ := q2
          by_cases hx : x = 0
          · have y0 := y3 hx
            subst hx y0
            clear y3
            go_wp2_with fail
            exact ⟨⟨i + 1, by go_num, by omega, by rw [HS1.out]; try simp, by rw [HS2.out]; try simp⟩, by simp [RowKit.intOf]; omega⟩
          · have g3 : decide (x = 0) = false := decide_eq_false hx
            have g4 : (x == 0) = false := by rw [beq_eq_false_iff_ne]; exact hx
            clear y3 hx
            go_wp2_with fail
            exact ⟨⟨i + 1, by go_num, by omega, by rw [HS1.out], by rw [HS2.out]⟩, by simp [RowKit.intOf]; omega⟩
        · obtain rfl : i = n := by omega
          have hltz : ¬ (i : Int) < (i : Int) := by omega
          have e1 : (ws.take i).sum = ws.sum := by rw [List.take_of_length_le (by rw [HL.out]; exact Nat.le_refl _)]
          have e2 : ((Sv.shares t ws).take i).sum = t := by rw [List.take_of_length_le (by rw [Sv.shares_length, HL.out]; exact Nat.le_refl _), Sv.shares_sum HM.out.2.2.2.2]
          rw [e1, e2]
          clear e1 e2
          have HW := Lib.hid (show 0 < ws.sum ∧ ws.sum ≤ 4800000000000000 from ⟨HM.out.2.2.2.2, by have := (Sv.sum_bd HM.out.2.2.2.1).2; have := HM.out.2.2.1; omega⟩)
          obtain ⟨W, hW⟩ : ∃ W, ws.sum = W := ⟨_, rfl⟩
          rw [hW] at HW ⊢
          have HWE := Lib.hid hW
          clear hW hlt hltz hin
          go_wp2_with fail
          go_loopw [12] (fun v wr => ∃ k : Nat, v = .int .i64 k ∧ k ≤ i ∧ Hid (Below w2.heap.size w2 wr)) (fun v wr => i - (RowKit.intOf v).toNat)
          case atStart => exact ⟨0, rfl, Nat.zero_le _, Below.refl _ _⟩
          case round =>
            obtain ⟨k, rfl, hki, HBc⟩ := hrel
            by_cases hlt : k < i
            · have hltz : (k : Int) < (i : Int) := by omega
              obtain ⟨xb, xo, rfl, hxb, rx0⟩ := H.out.2.2.2 k hlt
              obtain ⟨yb, yo, e2, hyb, ry0⟩ := H.out.2.1.2 k hlt
              injection e2 with e2
              injection e2 with e3 e4
              subst e3 e4
              have hil : k < ws.length := by rw [HL.out]; exact hlt
              rw [Sv.shares_get t ws k hil, Nat.zero_add] at ry0
              have NE := Sv.sh_near HM.out k
              have X1 := Sv.getD_bd (by decide) HM.out.2.2.2.1 k
              have Y1 := Sv.sh_bd HM.out k
              rw [HWE.out] at NE
              generalize Sv.sh t ws k = y at *
              generalize ws.getD k 0 = x at *
              have HX := Lib.hid (show xb < w2.heap.size ∧ w2.cell? ⟨xb, xo + k, none⟩ = some (.int .i64 x) ∧ blk < w2.heap.size ∧ w2.cell? ⟨blk, k, none⟩ = some (.int .i64 y) from ⟨hxb, rx0, hyb, ry0⟩)
              have p0 : 0 ≤ t * x := Int.mul_nonneg HM.out.1 X1.1
              have p1 : t * x ≤ 10000000000000 * 10000000000000 := Int.mul_le_mul HM.out.2.1 X1.2 X1.1 (by decide)
              have p2 : 0 ≤ y * W := Int.mul_nonneg Y1.1 (by have := HW.out; omega)
              have p3 : y * W ≤ 10000000000001 * 4800000000000000 := Int.mul_le_mul Y1.2 HW.out.2 (by have := HW.out; omega) (by decide)
              have HQ := Lib.hid (show In t ∧ In x ∧ In y ∧ In W ∧ Small t ∧ Small x ∧ Small y ∧ Small W ∧ Small (-W) ∧ Small (t * x) ∧ Small (-(y * W)) from by
                have := HM.out.1; have := HM.out.2.1; have := HW.out
                refine ⟨⟨by omega, by omega⟩, ⟨by omega, by omega⟩, ⟨by omega, by omega⟩, ⟨by omega, by omega⟩, small_of (by omega) (by omega), small_of (by omega) (by omega), small_of (by omega) (by omega), small_of (by omega) (by omega), small_of (by omega) (by omega), small_of (by omega) (by omega), small_of (by omega) (by omega)⟩)
              have HNE := Lib.hid NE
              clear NE X1 Y1 p0 p1 p2 p3 hxb hyb rx0 ry0 hil
              have kk0 := (HBc.out.cell (p := ⟨xb, xo + k, none⟩) HX.out.1).trans HX.out.2.1
              go_wp2_with fail
              go_cut [13] (fun s13 wx => ∃ (g : Nat) (A3 : Option Addr) (n3 c3 : Nat) (m3 : Bool), s13 = .pointer (some ⟨g, 0, none⟩) ∧ VarN wx g A3 n3 c3 m3 (t * x) ∧ Below w2.heap.size w2 wx)
              case first =>
                have HBb := Lib.hid (Below.refl wr.heap.size wr)
                go_region_held3 (fun w' => w'.cell? ⟨xb, xo + k, none⟩ = some (.int .i64 x))
                  (first | assumption | (refine keep_cell (w := wr) (by assumption) ?_; first | exact HBb.out | exact HBb.out.drew | exact HBb.out.alloc HBb.out.size _ | exact HBb.out.drew.alloc HBb.out.size _ | exact (HBb.out.alloc HBb.out.size _).setCell HBb.out.size _ | exact ((HBb.out.alloc HBb.out.size _).setCell HBb.out.size _).setCell HBb.out.size _ | exact HBb.out.setCell HVn.out.2.2 _ | exact (HBb.out.setCell HVn.out.2.2 _).setCell HVn.out.2.2 _))
                  (first
                    | (go_at_call_of 16 (Value.int .i64 t); refine (of_any t _ HQ.out.1).mono ?_; rintro e wr1 ⟨v1, rfl, hn, hb⟩; have HN1 := Lib.hid (show NumV wr1 wr1.heap.size v1 t from hn); clear hn; (first | have HVn := Lib.hid (show Var2 wr1 _ ∧ _ < wr1.heap.size ∧ wr.heap.size ≤ _ from ⟨HVn.out.1.below hb HVn.out.2.1, Nat.lt_of_lt_of_le HVn.out.2.1 hb.size, HVn.out.2.2⟩) | have HVn := Lib.hid (show Var2 wr1 wr.heap.size ∧ wr.heap.size < wr1.heap.size ∧ wr.heap.size ≤ wr.heap.size from ⟨(var2_new wr none 0 0 false 36).below (w := wr.alloc (.cells #[.slice none 0 0, .bool false] 36)) hb (by simp), Nat.lt_of_lt_of_le (by simp) hb.size, HBb.out.size⟩) | have HVn := Lib.hid (show Var2 wr1 wr.heap.size ∧ wr.heap.size < wr1.heap.size ∧ wr.heap.size ≤ wr.heap.size from ⟨(var2_new wr none 0 0 false 36).below (w := wr.alloc (.cells #[.slice none 0 0, .bool false] 36)) (undrew hb) (by simp), Nat.lt_of_lt_of_le (by simp) hb.size, HBb.out.size⟩) | skip); (first | obtain ⟨⟨y0, hy0⟩, ⟨y1, hy1⟩, e0, e1, _⟩ := HVn.out.1 | skip); have HBb := Lib.hid (show Below wr.heap.size wr wr1 from by first | exact HBb.out.trans (hb.mono HBb.out.size) | exact HBb.out.trans ((undrew hb).mono HBb.out.size) | exact (HBb.out.alloc HBb.out.size _).trans (hb.mono (HBb.out.alloc HBb.out.size _).size) | exact (HBb.out.alloc HBb.out.size _).trans ((undrew hb).mono (HBb.out.alloc HBb.out.size _).size)); have jj0 := keep_cell kk0 HBb.out; clear hb)
                    | (go_at_call 16; refine (of_any x _ HQ.out.2.1).mono ?_; rintro e wr2 ⟨v2, rfl, hn, hb⟩; have HN2 := Lib.hid (show NumV wr2 wr2.heap.size v2 x from hn); clear hn; (first | have HVn := Lib.hid (show Var2 wr2 _ ∧ _ < wr2.heap.size ∧ wr.heap.size ≤ _ from ⟨HVn.out.1.below hb HVn.out.2.1, Nat.lt_of_lt_of_le HVn.out.2.1 hb.size, HVn.out.2.2⟩) | have HVn := Lib.hid (show Var2 wr2 wr1.heap.size ∧ wr1.heap.size < wr2.heap.size ∧ wr.heap.size ≤ wr1.heap.size from ⟨(var2_new wr1 none 0 0 false 36).below (w := wr1.alloc (.cells #[.slice none 0 0, .bool false] 36)) hb (by simp), Nat.lt_of_lt_of_le (by simp) hb.size, HBb.out.size⟩) | have HVn := Lib.hid (show Var2 wr2 wr1.heap.size ∧ wr1.heap.size < wr2.heap.size ∧ wr.heap.size ≤ wr1.heap.size from ⟨(var2_new wr1 none 0 0 false 36).below (w := wr1.alloc (.cells #[.slice none 0 0, .bool false] 36)) (undrew hb) (by simp), Nat.lt_of_lt_of_le (by simp) hb.size, HBb.out.size⟩) | skip); (first | obtain ⟨⟨y0, hy0⟩, ⟨y1, hy1⟩, e0, e1, _⟩ := HVn.out.1 | skip); have HBb := Lib.hid (show Below wr.heap.size wr wr2 from by first | exact HBb.out.trans (hb.mono HBb.out.size) | exact HBb.out.trans ((undrew hb).mono HBb.out.size) | exact (HBb.out.alloc HBb.out.size _).trans (hb.mono (HBb.out.alloc HBb.out.size _).size) | exact (HBb.out.alloc HBb.out.size _).trans ((undrew hb).mono (HBb.out.alloc HBb.out.size _).size)); have HN1 := Lib.hid (show NumV wr2 wr2.heap.size v1 t from by first | exact (HN1.out.below hb).more hb.size | exact (HN1.out.below (undrew hb)).more (undrew hb).size | exact (HN1.out.al.below hb).more hb.size | exact (HN1.out.al.below (undrew hb)).more (undrew hb).size); have jj0 := keep_cell kk0 HBb.out; clear hb)
                    | (go_at_call 15; refine (mul_num _ _ t x _ (by first | exact HN1.out | exact HN1.out.al) (by first | exact HN2.out | exact HN2.out.al) HQ.out.2.2.2.2.1 HQ.out.2.2.2.2.2.1).mono ?_; rintro e wr3 ⟨v, rfl, ⟨A3, n3, c3, d3, m3, rfl, hn⟩, hb⟩; have HN3 := Lib.hid (show NumV wr3 wr3.heap.size (.agg #[.slice A3 n3 c3, .bool m3]) (t * x) from ⟨A3, n3, c3, d3, m3, rfl, hn⟩); clear hn; (first | have HVn := Lib.hid (show Var2 wr3 _ ∧ _ < wr3.heap.size ∧ wr.heap.size ≤ _ from ⟨HVn.out.1.below hb HVn.out.2.1, Nat.lt_of_lt_of_le HVn.out.2.1 hb.size, HVn.out.2.2⟩) | have HVn := Lib.hid (show Var2 wr3 wr2.heap.size ∧ wr2.heap.size < wr3.heap.size ∧ wr.heap.size ≤ wr2.heap.size from ⟨(var2_new wr2 none 0 0 false 36).below (w := wr2.alloc (.cells #[.slice none 0 0, .bool false] 36)) hb (by simp), Nat.lt_of_lt_of_le (by simp) hb.size, HBb.out.size⟩) | have HVn := Lib.hid (show Var2 wr3 wr2.heap.size ∧ wr2.heap.size < wr3.heap.size ∧ wr.heap.size ≤ wr2.heap.size from ⟨(var2_new wr2 none 0 0 false 36).below (w := wr2.alloc (.cells #[.slice none 0 0, .bool false] 36)) (undrew hb) (by simp), Nat.lt_of_lt_of_le (by simp) hb.size, HBb.out.size⟩) | skip); (first | obtain ⟨⟨y0, hy0⟩, ⟨y1, hy1⟩, e0, e1, _⟩ := HVn.out.1 | skip); have HBb := Lib.hid (show Below wr.heap.size wr wr3 from by first | exact HBb.out.trans (hb.mono HBb.out.size) | exact HBb.out.trans ((undrew hb).mono HBb.out.size) | exact (HBb.out.alloc HBb.out.size _).trans (hb.mono (HBb.out.alloc HBb.out.size _).size) | exact (HBb.out.alloc HBb.out.size _).trans ((undrew hb).mono (HBb.out.alloc HBb.out.size _).size)); have HN1 := Lib.hid (show NumV wr3 wr3.heap.size v1 t from by first | exact (HN1.out.below hb).more hb.size | exact (HN1.out.below (undrew hb)).more (undrew hb).size | exact (HN1.out.al.below hb).more hb.size | exact (HN1.out.al.below (undrew hb)).more (undrew hb).size); have HN2 := Lib.hid (show NumV wr3 wr3.heap.size v2 x from by first | exact (HN2.out.below hb).more hb.size | exact (HN2.out.below (undrew hb)).more (undrew hb).size | exact (HN2.out.al.below hb).more hb.size | exact (HN2.out.al.below (undrew hb)).more (undrew hb).size); have jj0 := keep_cell kk0 HBb.out; clear hb))
                all_goals
                  go_wp2_with fail
                  go_meet
                  have HB2 := Lib.hid (show Below w2.heap.size w2 _ from HBc.out.trans (HBb.out.mono HBc.out.size))
                  first
                    | exact ⟨_, A3, n3, c3, m3, rfl, VarN.new HN3.out, HB2.out.alloc HB2.out.size _⟩
                    | exact ⟨_, A3, n3, c3, m3, rfl, VarN.of_var2 HVn.out.1 HVn.out.2.1 HN3.out, (HB2.out.setCell (Nat.le_trans HBc.out.size HVn.out.2.2) _).setCell (Nat.le_trans HBc.out.size HVn.out.2.2) _⟩
              case rest =>
                obtain ⟨g, A3, n3, c3, m3, rfl, hv, hb⟩ := hcut
                have HVv := Lib.hid hv
                have HBc := Lib.hid hb
                clear hv hb kk0
                have kk0 := HVv.out.a0
                have kk1 := HVv.out.a1
                have kk2 := (HBc.out.cell (p := ⟨blk, k, none⟩) HX.out.2.2.1).trans HX.out.2.2.2
                go_wp2_with fail
                go_cut [14] (fun s14 wx => ∃ (g5 : Nat) (A5 : Option Addr) (n5 c5 : Nat) (m5 : Bool), s14 = .pointer (some ⟨g5, 0, none⟩) ∧ VarN wx g5 A5 n5 c5 m5 (t * x + -(y * W)) ∧ Below w2.heap.size w2 wx ∧ w2.heap.size ≤ g5)
                case first =>
                  have HBb := Lib.hid (Below.refl wc.heap.size wc)
                  have HP3 := Lib.hid HVv.out.num
                  go_region_held3 (fun w' => w'.cell? ⟨g, 0, none⟩ = some (.slice A3 n3 c3) ∧ w'.cell? ⟨g, 1, none⟩ = some (.bool m3) ∧ w'.cell? ⟨blk, k, none⟩ = some (.int .i64 y))
                    (refine ⟨?_, ?_, ?_⟩ <;> (first | assumption | (refine keep_cell (w := wc) (by assumption) ?_; first | exact HBb.out | exact HBb.out.drew | exact HBb.out.alloc HBb.out.size _ | exact HBb.out.drew.alloc HBb.out.size _ | exact (HBb.out.alloc HBb.out.size _).setCell HBb.out.size _ | exact ((HBb.out.alloc HBb.out.size _).setCell HBb.out.size _).setCell HBb.out.size _ | exact HBb.out.setCell HVn.out.2.2 _ | exact (HBb.out.setCell HVn.out.2.2 _).setCell HVn.out.2.2 _)))
                    (first
                      | (go_at_call_of 16 (Value.int .i64 y); refine (of_any y _ HQ.out.2.2.1).mono ?_; rintro e wc1 ⟨u1, rfl, hn, hb⟩; have HM1 := Lib.hid (show NumV wc1 wc1.heap.size u1 y from hn); clear hn; (first | have HVn := Lib.hid (show Var2 wc1 _ ∧ _ < wc1.heap.size ∧ wc.heap.size ≤ _ from ⟨HVn.out.1.below hb HVn.out.2.1, Nat.lt_of_lt_of_le HVn.out.2.1 hb.size, HVn.out.2.2⟩) | have HVn := Lib.hid (show Var2 wc1 wc.heap.size ∧ wc.heap.size < wc1.heap.size ∧ wc.heap.size ≤ wc.heap.size from ⟨(var2_new wc none 0 0 false 36).below (w := wc.alloc (.cells #[.slice none 0 0, .bool false] 36)) hb (by simp), Nat.lt_of_lt_of_le (by simp) hb.size, HBb.out.size⟩) | have HVn := Lib.hid (show Var2 wc1 wc.heap.size ∧ wc.heap.size < wc1.heap.size ∧ wc.heap.size ≤ wc.heap.size from ⟨(var2_new wc none 0 0 false 36).below (w := wc.alloc (.cells #[.slice none 0 0, .bool false] 36)) (undrew hb) (by simp), Nat.lt_of_lt_of_le (by simp) hb.size, HBb.out.size⟩) | skip); (first | obtain ⟨⟨y0, hy0⟩, ⟨y1, hy1⟩, e0, e1, _⟩ := HVn.out.1 | skip); have HP3 := Lib.hid (show NumV wc1 wc1.heap.size (.agg #[.slice A3 n3 c3, .bool m3]) (t * x) from by first | exact (HP3.out.below hb).more hb.size | exact (HP3.out.below (undrew hb)).more (undrew hb).size | exact (HP3.out.al.below hb).more hb.size | exact (HP3.out.al.below (undrew hb)).more (undrew hb).size); have HBb := Lib.hid (show Below wc.heap.size wc wc1 from by first | exact HBb.out.trans (hb.mono HBb.out.size) | exact HBb.out.trans ((undrew hb).mono HBb.out.size) | exact (HBb.out.alloc HBb.out.size _).trans (hb.mono (HBb.out.alloc HBb.out.size _).size) | exact (HBb.out.alloc HBb.out.size _).trans ((undrew hb).mono (HBb.out.alloc HBb.out.size _).size)); have jj0 := keep_cell kk0 HBb.out; have jj1 := keep_cell kk1 HBb.out; have jj2 := keep_cell kk2 HBb.out; clear hb)
                      | (go_at_call 16; refine (of_any W _ HQ.out.2.2.2.1).mono ?_; rintro e wc2 ⟨u2, rfl, hn, hb⟩; have HM2 := Lib.hid (show NumV wc2 wc2.heap.size u2 W from hn); clear hn; (first | have HVn := Lib.hid (show Var2 wc2 _ ∧ _ < wc2.heap.size ∧ wc.heap.size ≤ _ from ⟨HVn.out.1.below hb HVn.out.2.1, Nat.lt_of_lt_of_le HVn.out.2.1 hb.size, HVn.out.2.2⟩) | have HVn := Lib.hid (show Var2 wc2 wc1.heap.size ∧ wc1.heap.size < wc2.heap.size ∧ wc.heap.size ≤ wc1.heap.size from ⟨(var2_new wc1 none 0 0 false 36).below (w := wc1.alloc (.cells #[.slice none 0 0, .bool false] 36)) hb (by simp), Nat.lt_of_lt_of_le (by simp) hb.size, HBb.out.size⟩) | have HVn := Lib.hid (show Var2 wc2 wc1.heap.size ∧ wc1.heap.size < wc2.heap.size ∧ wc.heap.size ≤ wc1.heap.size from ⟨(var2_new wc1 none 0 0 false 36).below (w := wc1.alloc (.cells #[.slice none 0 0, .bool false] 36)) (undrew hb) (by simp), Nat.lt_of_lt_of_le (by simp) hb.size, HBb.out.size⟩) | skip); (first | obtain ⟨⟨y0, hy0⟩, ⟨y1, hy1⟩, e0, e1, _⟩ := HVn.out.1 | skip); have HP3 := Lib.hid (show NumV wc2 wc2.heap.size (.agg #[.slice A3 n3 c3, .bool m3]) (t * x) from by first | exact (HP3.out.below hb).more hb.size | exact (HP3.out.below (undrew hb)).more (undrew hb).size | exact (HP3.out.al.below hb).more hb.size | exact (HP3.out.al.below (undrew hb)).more (undrew hb).size); have HBb := Lib.hid (show Below wc.heap.size wc wc2 from by first | exact HBb.out.trans (hb.mono HBb.out.size) | exact HBb.out.trans ((undrew hb).mono HBb.out.size) | exact (HBb.out.alloc HBb.out.size _).trans (hb.mono (HBb.out.alloc HBb.out.size _).size) | exact (HBb.out.alloc HBb.out.size _).trans ((undrew hb).mono (HBb.out.alloc HBb.out.size _).size)); have HM1 := Lib.hid (show NumV wc2 wc2.heap.size u1 y from by first | exact (HM1.out.below hb).more hb.size | exact (HM1.out.below (undrew hb)).more (undrew hb).size | exact (HM1.out.al.below hb).more hb.size | exact (HM1.out.al.below (undrew hb)).more (undrew hb).size); have jj0 := keep_cell kk0 HBb.out; have jj1 := keep_cell kk1 HBb.out; have jj2 := keep_cell kk2 HBb.out; clear hb)
                      | (go_at_call 15; refine (mul_num _ _ y W _ (by first | exact HM1.out | exact HM1.out.al) (by first | exact HM2.out | exact HM2.out.al) HQ.out.2.2.2.2.2.2.1 HQ.out.2.2.2.2.2.2.2.1).mono ?_; rintro e wc3 ⟨u3, rfl, hn, hb⟩; have HM3 := Lib.hid (show NumV wc3 wc3.heap.size u3 (y * W) from hn); clear hn; (first | have HVn := Lib.hid (show Var2 wc3 _ ∧ _ < wc3.heap.size ∧ wc.heap.size ≤ _ from ⟨HVn.out.1.below hb HVn.out.2.1, Nat.lt_of_lt_of_le HVn.out.2.1 hb.size, HVn.out.2.2⟩) | have HVn := Lib.hid (show Var2 wc3 wc2.heap.size ∧ wc2.heap.size < wc3.heap.size ∧ wc.heap.size ≤ wc2.heap.size from ⟨(var2_new wc2 none 0 0 false 36).below (w := wc2.alloc (.cells #[.slice none 0 0, .bool false] 36)) hb (by simp), Nat.lt_of_lt_of_le (by simp) hb.size, HBb.out.size⟩) | have HVn := Lib.hid (show Var2 wc3 wc2.heap.size ∧ wc2.heap.size < wc3.heap.size ∧ wc.heap.size ≤ wc2.heap.size from ⟨(var2_new wc2 none 0 0 false 36).below (w := wc2.alloc (.cells #[.slice none 0 0, .bool false] 36)) (undrew hb) (by simp), Nat.lt_of_lt_of_le (by simp) hb.size, HBb.out.size⟩) | skip); (first | obtain ⟨⟨y0, hy0⟩, ⟨y1, hy1⟩, e0, e1, _⟩ := HVn.out.1 | skip); have HP3 := Lib.hid (show NumV wc3 wc3.heap.size (.agg #[.slice A3 n3 c3, .bool m3]) (t * x) from by first | exact (HP3.out.below hb).more hb.size | exact (HP3.out.below (undrew hb)).more (undrew hb).size | exact (HP3.out.al.below hb).more hb.size | exact (HP3.out.al.below (undrew hb)).more (undrew hb).size); have HBb := Lib.hid (show Below wc.heap.size wc wc3 from by first | exact HBb.out.trans (hb.mono HBb.out.size) | exact HBb.out.trans ((undrew hb).mono HBb.out.size) | exact (HBb.out.alloc HBb.out.size _).trans (hb.mono (HBb.out.alloc HBb.out.size _).size) | exact (HBb.out.alloc HBb.out.size _).trans ((undrew hb).mono (HBb.out.alloc HBb.out.size _).size)); have HM1 := Lib.hid (show NumV wc3 wc3.heap.size u1 y from by first | exact (HM1.out.below hb).more hb.size | exact (HM1.out.below (undrew hb)).more (undrew hb).size | exact (HM1.out.al.below hb).more hb.size | exact (HM1.out.al.below (undrew hb)).more (undrew hb).size); have HM2 := Lib.hid (show NumV wc3 wc3.heap.size u2 W from by first | exact (HM2.out.below hb).more hb.size | exact (HM2.out.below (undrew hb)).more (undrew hb).size | exact (HM2.out.al.below hb).more hb.size | exact (HM2.out.al.below (undrew hb)).more (undrew hb).size); have jj0 := keep_cell kk0 HBb.out; have jj1 := keep_cell kk1 HBb.out; have jj2 := keep_cell kk2 HBb.out; clear hb)
                      | (go_at_call 18; refine (neg_num _ (y * W) _ (by first | exact HM3.out | exact HM3.out.al)).mono ?_; rintro e wc4 ⟨u4, rfl, hn, hb⟩; have HM4 := Lib.hid (show NumV wc4 wc4.heap.size u4 (-(y * W)) from hn); clear hn; (first | have HVn := Lib.hid (show Var2 wc4 _ ∧ _ < wc4.heap.size ∧ wc.heap.size ≤ _ from ⟨HVn.out.1.below hb HVn.out.2.1, Nat.lt_of_lt_of_le HVn.out.2.1 hb.size, HVn.out.2.2⟩) | have HVn := Lib.hid (show Var2 wc4 wc3.heap.size ∧ wc3.heap.size < wc4.heap.size ∧ wc.heap.size ≤ wc3.heap.size from ⟨(var2_new wc3 none 0 0 false 36).below (w := wc3.alloc (.cells #[.slice none 0 0, .bool false] 36)) hb (by simp), Nat.lt_of_lt_of_le (by simp) hb.size, HBb.out.size⟩) | have HVn := Lib.hid (show Var2 wc4 wc3.heap.size ∧ wc3.heap.size < wc4.heap.size ∧ wc.heap.size ≤ wc3.heap.size from ⟨(var2_new wc3 none 0 0 false 36).below (w := wc3.alloc (.cells #[.slice none 0 0, .bool false] 36)) (undrew hb) (by simp), Nat.lt_of_lt_of_le (by simp) hb.size, HBb.out.size⟩) | skip); (first | obtain ⟨⟨y0, hy0⟩, ⟨y1, hy1⟩, e0, e1, _⟩ := HVn.out.1 | skip); have HP3 := Lib.hid (show NumV wc4 wc4.heap.size (.agg #[.slice A3 n3 c3, .bool m3]) (t * x) from by first | exact (HP3.out.below hb).more hb.size | exact (HP3.out.below (undrew hb)).more (undrew hb).size | exact (HP3.out.al.below hb).more hb.size | exact (HP3.out.al.below (undrew hb)).more (undrew hb).size); have HBb := Lib.hid (show Below wc.heap.size wc wc4 from by first | exact HBb.out.trans (hb.mono HBb.out.size) | exact HBb.out.trans ((undrew hb).mono HBb.out.size) | exact (HBb.out.alloc HBb.out.size _).trans (hb.mono (HBb.out.alloc HBb.out.size _).size) | exact (HBb.out.alloc HBb.out.size _).trans ((undrew hb).mono (HBb.out.alloc HBb.out.size _).size)); have HM1 := Lib.hid (show NumV wc4 wc4.heap.size u1 y from by first | exact (HM1.out.below hb).more hb.size | exact (HM1.out.below (undrew hb)).more (undrew hb).size | exact (HM1.out.al.below hb).more hb.size | exact (HM1.out.al.below (undrew hb)).more (undrew hb).size); have HM2 := Lib.hid (show NumV wc4 wc4.heap.size u2 W from by first | exact (HM2.out.below hb).more hb.size | exact (HM2.out.below (undrew hb)).more (undrew hb).size | exact (HM2.out.al.below hb).more hb.size | exact (HM2.out.al.below (undrew hb)).more (undrew hb).size); have HM3 := Lib.hid (show NumV wc4 wc4.heap.size u3 (y * W) from by first | exact (HM3.out.below hb).more hb.size | exact (HM3.out.below (undrew hb)).more (undrew hb).size | exact (HM3.out.al.below hb).more hb.size | exact (HM3.out.al.below (undrew hb)).more (undrew hb).size); have jj0 := keep_cell kk0 HBb.out; have jj1 := keep_cell kk1 HBb.out; have jj2 := keep_cell kk2 HBb.out; clear hb)
                      | (go_at_call 17; refine (add_num _ _ (t * x) (-(y * W)) _ (by first | exact HP3.out | exact HP3.out.al) (by first | exact HM4.out | exact HM4.out.al) HQ.out.2.2.2.2.2.2.2.2.2.1 HQ.out.2.2.2.2.2.2.2.2.2.2).mono ?_; rintro e wc5 ⟨v, rfl, ⟨A5, n5, c5, d5, m5, rfl, hn⟩, hb⟩; have HM5 := Lib.hid (show NumV wc5 wc5.heap.size (.agg #[.slice A5 n5 c5, .bool m5]) (t * x + -(y * W)) from ⟨A5, n5, c5, d5, m5, rfl, hn⟩); clear hn; (first | have HVn := Lib.hid (show Var2 wc5 _ ∧ _ < wc5.heap.size ∧ wc.heap.size ≤ _ from ⟨HVn.out.1.below hb HVn.out.2.1, Nat.lt_of_lt_of_le HVn.out.2.1 hb.size, HVn.out.2.2⟩) | have HVn := Lib.hid (show Var2 wc5 wc4.heap.size ∧ wc4.heap.size < wc5.heap.size ∧ wc.heap.size ≤ wc4.heap.size from ⟨(var2_new wc4 none 0 0 false 36).below (w := wc4.alloc (.cells #[.slice none 0 0, .bool false] 36)) hb (by simp), Nat.lt_of_lt_of_le (by simp) hb.size, HBb.out.size⟩) | have HVn := Lib.hid (show Var2 wc5 wc4.heap.size ∧ wc4.heap.size < wc5.heap.size ∧ wc.heap.size ≤ wc4.heap.size from ⟨(var2_new wc4 none 0 0 false 36).below (w := wc4.alloc (.cells #[.slice none 0 0, .bool false] 36)) (undrew hb) (by simp), Nat.lt_of_lt_of_le (by simp) hb.size, HBb.out.size⟩) | skip); (first | obtain ⟨⟨y0, hy0⟩, ⟨y1, hy1⟩, e0, e1, _⟩ := HVn.out.1 | skip); have HP3 := Lib.hid (show NumV wc5 wc5.heap.size (.agg #[.slice A3 n3 c3, .bool m3]) (t * x) from by first | exact (HP3.out.below hb).more hb.size | exact (HP3.out.below (undrew hb)).more (undrew hb).size | exact (HP3.out.al.below hb).more hb.size | exact (HP3.out.al.below (undrew hb)).more (undrew hb).size); have HBb := Lib.hid (show Below wc.heap.size wc wc5 from by first | exact HBb.out.trans (hb.mono HBb.out.size) | exact HBb.out.trans ((undrew hb).mono HBb.out.size) | exact (HBb.out.alloc HBb.out.size _).trans (hb.mono (HBb.out.alloc HBb.out.size _).size) | exact (HBb.out.alloc HBb.out.size _).trans ((undrew hb).mono (HBb.out.alloc HBb.out.size _).size)); have HM1 := Lib.hid (show NumV wc5 wc5.heap.size u1 y from by first | exact (HM1.out.below hb).more hb.size | exact (HM1.out.below (undrew hb)).more (undrew hb).size | exact (HM1.out.al.below hb).more hb.size | exact (HM1.out.al.below (undrew hb)).more (undrew hb).size); have HM2 := Lib.hid (show NumV wc5 wc5.heap.size u2 W from by first | exact (HM2.out.below hb).more hb.size | exact (HM2.out.below (undrew hb)).more (undrew hb).size | exact (HM2.out.al.below hb).more hb.size | exact (HM2.out.al.below (undrew hb)).more (undrew hb).size); have HM3 := Lib.hid (show NumV wc5 wc5.heap.size u3 (y * W) from by first | exact (HM3.out.below hb).more hb.size | exact (HM3.out.below (undrew hb)).more (undrew hb).size | exact (HM3.out.al.below hb).more hb.size | exact (HM3.out.al.below (undrew hb)).more (undrew hb).size); have HM4 := Lib.hid (show NumV wc5 wc5.heap.size u4 (-(y * W)) from by first | exact (HM4.out.below hb).more hb.size | exact (HM4.out.below (undrew hb)).more (undrew hb).size | exact (HM4.out.al.below hb).more hb.size | exact (HM4.out.al.below (undrew hb)).more (undrew hb).size); have jj0 := keep_cell kk0 HBb.out; have jj1 := keep_cell kk1 HBb.out; have jj2 := keep_cell kk2 HBb.out; clear hb))
                  all_goals
                    go_wp2_with fail
                    go_meet
                    have HB2 := Lib.hid (show Below w2.heap.size w2 _ from HBc.out.trans (HBb.out.mono HBc.out.size))
                    first
                      | exact ⟨_, A5, n5, c5, m5, rfl, VarN.new HM5.out, HB2.out.alloc HB2.out.size _, HB2.out.size⟩
                      | exact ⟨_, A5, n5, c5, m5, rfl, VarN.of_var2 HVn.out.1 HVn.out.2.1 HM5.out, (HB2.out.setCell (Nat.le_trans HBc.out.size HVn.out.2.2) _).setCell (Nat.le_trans HBc.out.size HVn.out.2.2) _, Nat.le_trans HBc.out.size HVn.out.2.2⟩
                case rest =>
                  obtain ⟨g5, A5, n5, c5, m5, rfl, hv, hb, hg⟩ := hcut
                  have HV5 := Lib.hid hv
                  have HBc := Lib.hid hb
                  have HG5 := Lib.hid hg
                  clear hv hb hg kk0 kk1 kk2
                  obtain ⟨D, hD⟩ : ∃ D, (if t * x + -(y * W) < 0 then -(t * x + -(y * W)) else t * x + -(y * W)) = D := ⟨_, rfl⟩
                  have HD := Lib.hid (show 0 ≤ D ∧ D < W ∧ Small D ∧ cmpv (D - W) = -1 from by
                    have h1 := HNE.out
                    have h2 := HW.out
                    have h3 : 0 ≤ D ∧ D < W := by rw [← hD]; split <;> omega
                    exact ⟨h3.1, h3.2, small_of (by omega) (by omega), by unfold cmpv; rw [if_neg (by omega), if_pos (by omega)]⟩)
                  have HVu := Lib.hid (show VarN (wc.setCell ⟨g5, 1, none⟩ (.bool false)) g5 A5 n5 c5 false D from by rw [← hD]; exact HV5.out.unsign)
                  have HBu := Lib.hid (show Below w2.heap.size w2 (wc.setCell ⟨g5, 1, none⟩ (.bool false)) from HBc.out.setCell HG5.out _)
                  have mm1 := HV5.out.a1
                  have mm2 := HV5.out.v.2.2.2.1
                  clear hD
                  go_wp2_with fail
                  clear mm1 mm2
                  generalize wc.setCell ⟨g5, 1, none⟩ (.bool false) = wd at HVu HBu ⊢
                  have HV5 := HVu
                  have HBc := HBu
                  clear HVu HBu
                  have kk0 := HV5.out.a0
                  have kk1 := HV5.out.a1
                  have HBb := Lib.hid (Below.refl wd.heap.size wd)
                  have HP5 := Lib.hid HV5.out.num
                  go_region_held3 (fun w' => w'.cell? ⟨g5, 0, none⟩ = some (.slice A5 n5 c5) ∧ w'.cell? ⟨g5, 1, none⟩ = some (.bool false))
                    (refine ⟨?_, ?_⟩ <;> (first | assumption | (refine keep_cell (w := wd) (by assumption) ?_; first | exact HBb.out | exact HBb.out.drew | exact HBb.out.alloc HBb.out.size _ | exact HBb.out.drew.alloc HBb.out.size _ | exact (HBb.out.alloc HBb.out.size _).setCell HBb.out.size _ | exact ((HBb.out.alloc HBb.out.size _).setCell HBb.out.size _).setCell HBb.out.size _ | exact HBb.out.setCell HVn.out.2.2 _ | exact (HBb.out.setCell HVn.out.2.2 _).setCell HVn.out.2.2 _)))
                    (first
                      | (go_at_call 16; refine (of_any W _ HQ.out.2.2.2.1).mono ?_; rintro e wd1 ⟨v9, rfl, hn, hb⟩; have HN9 := Lib.hid (show NumV wd1 wd1.heap.size v9 W from hn); clear hn; have HP5 := Lib.hid (show NumV wd1 wd1.heap.size (.agg #[.slice A5 n5 c5, .bool false]) D from by first | exact (HP5.out.below hb).more hb.size | exact (HP5.out.below (undrew hb)).more (undrew hb).size | exact (HP5.out.al.below hb).more hb.size | exact (HP5.out.al.below (undrew hb)).more (undrew hb).size); have HBb := Lib.hid (show Below wd.heap.size wd wd1 from by first | exact HBb.out.trans (hb.mono HBb.out.size) | exact HBb.out.trans ((undrew hb).mono HBb.out.size) | exact (HBb.out.alloc HBb.out.size _).trans (hb.mono (HBb.out.alloc HBb.out.size _).size) | exact (HBb.out.alloc HBb.out.size _).trans ((undrew hb).mono (HBb.out.alloc HBb.out.size _).size)); have jj0 := keep_cell kk0 HBb.out; have jj1 := keep_cell kk1 HBb.out; clear hb)
                      | (go_at_call 19; refine (cmp_num _ _ D W _ (by first | exact HP5.out | exact HP5.out.al) (by first | exact HN9.out | exact HN9.out.al) HD.out.2.2.1 HQ.out.2.2.2.2.2.2.2.2.1).mono ?_; rw [HD.out.2.2.2]; rintro e wd2 ⟨rfl, hb⟩; have HP5 := Lib.hid (show NumV wd2 wd2.heap.size (.agg #[.slice A5 n5 c5, .bool false]) D from by first | exact (HP5.out.below hb).more hb.size | exact (HP5.out.below (undrew hb)).more (undrew hb).size | exact (HP5.out.al.below hb).more hb.size | exact (HP5.out.al.below (undrew hb)).more (undrew hb).size); have HBb := Lib.hid (show Below wd.heap.size wd wd2 from by first | exact HBb.out.trans (hb.mono HBb.out.size) | exact HBb.out.trans ((undrew hb).mono HBb.out.size) | exact (HBb.out.alloc HBb.out.size _).trans (hb.mono (HBb.out.alloc HBb.out.size _).size) | exact (HBb.out.alloc HBb.out.size _).trans ((undrew hb).mono (HBb.out.alloc HBb.out.size _).size)); have HN9 := Lib.hid (show NumV wd2 wd2.heap.size v9 W from by first | exact (HN9.out.below hb).more hb.size | exact (HN9.out.below (undrew hb)).more (undrew hb).size | exact (HN9.out.al.below hb).more hb.size | exact (HN9.out.al.below (undrew hb)).more (undrew hb).size); have jj0 := keep_cell kk0 HBb.out; have jj1 := keep_cell kk1 HBb.out; clear hb))
                  go_wp2_with fail
                  exact ⟨⟨k + 1, by go_num, by omega, HBc.out.trans (HBb.out.mono HBc.out.size)⟩, by simp [RowKit.intOf]; omega⟩
            · have hltz : ¬ (k : Int) < (i : Int) := by omega
              have HF := Lib.hid (show Below w.heap.size w wr from H.out.1.trans (HBc.out.mono H.out.1.size))
              go_wp2_with fail
              go_ret
              exact ⟨rfl, HF.out⟩
    · have HM := Lib.hid hm
      have HMF := Lib.hid (show decide (Sv.May t ws) = false from decide_eq_false hm)
      clear hm
      go_enter Try.func5, Try.ntmps5
      go_wp2_with (first | (go_at_call 9; refine (up_any _).mono ?_; rintro e w1 ⟨rfl, hb1⟩; have HB := Lib.hid hb1; clear hb1) | (go_at_call 10; refine (shares_none A n c t ws _ ((HR.out.below HB.out).more HB.out.size) (by omega) HM.out).mono ?_; rintro e w2 ⟨rfl, p4⟩; have H := Lib.hid (show Below w.heap.size w w2 ∧ RdK .i64 w2 w2.heap.size A n ws from ⟨HB.out.trans (p4.mono HB.out.size), (((HR.out.below HB.out).more HB.out.size).below p4).more p4.size⟩); clear p4) | (go_at_call 11; refine (may_any A n c t ws _ _ H.out.2 (by omega)).mono ?_; rw [HMF.out]; rintro e w3 ⟨rfl, rfl⟩))
      go_ret
      exact ⟨rfl, H.out.1⟩
end Go.Proofs.Ytinimjejdkcodaa
