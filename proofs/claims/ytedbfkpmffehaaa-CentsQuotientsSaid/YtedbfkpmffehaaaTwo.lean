import Derived.Test.YtedbfkpmffehaaaMul
namespace Go.Proofs.Ytedbfkpmffehaaa
open Go.RowKit Go.Shelf Go.Lib Ar Dg
attribute [local go_sem ↓] Go.wp_at_zero Go.wp_at_succ

theorem abs_mul2 (a b : Int) : abs a * abs b = abs (a * b) := by
  unfold abs
  by_cases ha : a < 0 <;> by_cases hb : b < 0
  · have h := Int.mul_pos_of_neg_of_neg ha hb
    rw [if_pos ha, if_pos hb, if_neg (by omega), Int.neg_mul_neg]
  · rw [if_pos ha, if_neg hb]
    rcases Int.lt_or_eq_of_le (Int.not_lt.1 hb) with h | h
    · have := Int.mul_neg_of_neg_of_pos ha h
      rw [if_pos this, Int.neg_mul]
    · subst h; simp
  · rw [if_neg ha, if_pos hb]
    rcases Int.lt_or_eq_of_le (Int.not_lt.1 ha) with h | h
    · have := Int.mul_neg_of_pos_of_neg h hb
      rw [if_pos this, Int.mul_neg]
    · subst h; simp
  · have h := Int.mul_nonneg (Int.not_lt.1 ha) (Int.not_lt.1 hb)
    rw [if_neg ha, if_neg hb, if_neg (by omega)]
theorem mdv_mul (a b : Int) : mdv a b 1 1 = a * b := by
  have h1 : abs 1 = 1 := rfl
  have e : mag a b 1 1 = abs (a * b) := by unfold mag; rw [h1, ← abs_mul2]; simp [rup, Int.emod_one]
  have hs : neg3 a b 1 = (decide (a < 0) != decide (b < 0)) := by unfold neg3; cases decide (a < 0) <;> cases decide (b < 0) <;> rfl
  unfold mdv; rw [e, hs]
  by_cases ha : a < 0 <;> by_cases hb : b < 0
  · have h := Int.mul_pos_of_neg_of_neg ha hb
    have e2 : abs (a * b) = a * b := if_neg (by omega)
    simp only [ha, hb, decide_true]; rw [e2]; simp
  · simp only [ha, hb, decide_true, decide_false]
    rcases Int.lt_or_eq_of_le (Int.not_lt.1 hb) with h | h
    · have := Int.mul_neg_of_neg_of_pos ha h
      unfold abs; rw [if_pos this]; simp
    · subst h; simp [abs]
  · simp only [ha, hb, decide_true, decide_false]
    rcases Int.lt_or_eq_of_le (Int.not_lt.1 ha) with h | h
    · have := Int.mul_neg_of_pos_of_neg h hb
      unfold abs; rw [if_pos this]; simp
    · subst h; simp [abs]
  · have h := Int.mul_nonneg (Int.not_lt.1 ha) (Int.not_lt.1 hb)
    have e2 : abs (a * b) = a * b := if_neg (by omega)
    simp only [ha, hb, decide_false]; rw [e2]; simp
theorem mv_mul (a b : Int) : mv a b 1 1 = sv (a * b) ∧ me a b 1 1 = se (a * b) := by
  have g : ¬ Bad 1 1 := by decide
  unfold mv me sv se
  rw [if_neg g, if_neg g, mdv_mul]; exact ⟨rfl, rfl⟩

/-- two variables that hold long numbers -/
structure TwoSt (w : World) (g1 g2 : Nat) (wr : World) (A1 A2 : Option Addr) (n1 c1 n2 c2 : Nat) (m1 m2 : Bool) (x y : Int) : Prop where
  a0 : wr.cell? ⟨g1, 0, none⟩ = some (.slice A1 n1 c1)
  a1 : wr.cell? ⟨g1, 1, none⟩ = some (.bool m1)
  b0 : wr.cell? ⟨g2, 0, none⟩ = some (.slice A2 n2 c2)
  b1 : wr.cell? ⟨g2, 1, none⟩ = some (.bool m2)
  nx : NumV wr wr.heap.size (.agg #[.slice A1 n1 c1, .bool m1]) x
  ny : NumV wr wr.heap.size (.agg #[.slice A2 n2 c2, .bool m2]) y
  low : Below w.heap.size w wr
  hg : w.heap.size ≤ wr.heap.size
  h1 : g1 < wr.heap.size
  h2 : g2 < wr.heap.size
theorem TwoSt.below {w w1 w2 : World} {g1 g2 : Nat} {A1 A2 : Option Addr} {n1 c1 n2 c2 : Nat} {m1 m2 : Bool} {x y : Int} (h : TwoSt w g1 g2 w1 A1 A2 n1 c1 n2 c2 m1 m2 x y) (hb : Below w1.heap.size w1 w2) : TwoSt w g1 g2 w2 A1 A2 n1 c1 n2 c2 m1 m2 x y :=
  ⟨(hb.cell (p := ⟨g1, 0, none⟩) h.h1).trans h.a0, (hb.cell (p := ⟨g1, 1, none⟩) h.h1).trans h.a1, (hb.cell (p := ⟨g2, 0, none⟩) h.h2).trans h.b0, (hb.cell (p := ⟨g2, 1, none⟩) h.h2).trans h.b1,
    (h.nx.below hb).more hb.size, (h.ny.below hb).more hb.size, h.low.trans (hb.mono h.hg), Nat.le_trans h.hg hb.size, Nat.lt_of_lt_of_le h.h1 hb.size, Nat.lt_of_lt_of_le h.h2 hb.size⟩

set_option maxHeartbeats 4000000 in
theorem two_any (a b : Int) (w : World) (ha : In a) (hb : In b) :
    Calls Try.prog 3 #[.int .i64 a, .int .i64 b] w fun e w' => e = .returned (.bool true) ∧ Below w.heap.size w w' := by
  have HI := Lib.hid (show In a ∧ In b from ⟨ha, hb⟩)
  clear ha hb
  go_enter Try.func3, Try.ntmps3
  go_wp2_with fail
  refine (up_any _).mono ?_; rintro e w1 ⟨rfl, q, rfl⟩
  have HB0 := Lib.hid (below_drewN w.heap.size w q)
  generalize w.drewN q = w0 at *
  go_wp2_with fail
  refine (of_any a _ HI.out.1).mono ?_; rintro e w1 ⟨v, rfl, ⟨A1, n1, c1, d1, m1, rfl, hn1⟩, hb1⟩
  have HN1 := Lib.hid (show NumV w1 w1.heap.size (.agg #[.slice A1 n1 c1, .bool m1]) a from ⟨A1, n1, c1, d1, m1, rfl, hn1⟩)
  have HB1 := Lib.hid (HB0.out.trans (hb1.mono HB0.out.size))
  clear hn1 hb1
  go_wp2_with fail
  have k0 : (w1.alloc (.cells #[.slice A1 n1 c1, .bool m1] 25)).cell? ⟨w1.heap.size, 0, none⟩ = some (.slice A1 n1 c1) := by rw [World.cell?_alloc_new]; rfl
  have k1 : (w1.alloc (.cells #[.slice A1 n1 c1, .bool m1] 25)).cell? ⟨w1.heap.size, 1, none⟩ = some (.bool m1) := by rw [World.cell?_alloc_new]; rfl
  have hs1 : (w1.alloc (.cells #[.slice A1 n1 c1, .bool m1] 25)).heap.size = w1.heap.size + 1 := by simp
  have hB : Below w1.heap.size w1 (w1.alloc (.cells #[.slice A1 n1 c1, .bool m1] 25)) := (Below.refl _ _).alloc (Nat.le_refl _) _
  refine (of_any b _ HI.out.2).mono ?_; rintro e w2 ⟨v, rfl, ⟨A2, n2, c2, d2, m2, rfl, hn2⟩, hb2⟩
  have hst : TwoSt w w1.heap.size w2.heap.size (w2.alloc (.cells #[.slice A2 n2 c2, .bool m2] 25)) A1 A2 n1 c1 n2 c2 m1 m2 a b := by
    have hC : Below w2.heap.size w2 (w2.alloc (.cells #[.slice A2 n2 c2, .bool m2] 25)) := (Below.refl _ _).alloc (Nat.le_refl _) _
    have hs2 : w1.heap.size < w2.heap.size := by have := hb2.size; omega
    have hs3 : (w2.alloc (.cells #[.slice A2 n2 c2, .bool m2] 25)).heap.size = w2.heap.size + 1 := by simp
    have hD : Below w1.heap.size w1 w2 := hB.trans (hb2.mono (by omega))
    exact ⟨(hC.cell (p := ⟨w1.heap.size, 0, none⟩) hs2).trans ((hb2.cell (p := ⟨w1.heap.size, 0, none⟩) (by rw [hs1]; exact Nat.lt_succ_self _)).trans k0),
      (hC.cell (p := ⟨w1.heap.size, 1, none⟩) hs2).trans ((hb2.cell (p := ⟨w1.heap.size, 1, none⟩) (by rw [hs1]; exact Nat.lt_succ_self _)).trans k1),
      by rw [World.cell?_alloc_new]; rfl, by rw [World.cell?_alloc_new]; rfl,
      (((HN1.out.below hD).more hD.size).below hC).more hC.size, ((show NumV w2 w2.heap.size (.agg #[.slice A2 n2 c2, .bool m2]) b from ⟨A2, n2, c2, d2, m2, rfl, hn2⟩).below hC).more hC.size,
      (HB1.out.trans (hD.mono HB1.out.size)).trans (hC.mono (Nat.le_trans HB1.out.size (Nat.le_of_lt hs2))), by have := HB1.out.size; omega, by omega, by omega⟩
  have HST := Lib.hid hst
  obtain ⟨mm1, mm2⟩ := mv_mul a b
  have MM := Lib.hid (show mv a b 1 1 = sv (a * b) ∧ me a b 1 1 = se (a * b) from ⟨mm1, mm2⟩)
  clear k0 k1 hs1 hB hst hn2 hb2 mm1 mm2
  go_wp2_with fail
  refine (add_any a b HI.out.1 HI.out.2 _).mono ?_; rintro e w3 ⟨rfl, hb3⟩
  have HS3 := Lib.hid (HST.out.below hb3)
  clear hb3
  go_wp2_with fail
  refine (sub_any a b HI.out.1 HI.out.2 _).mono ?_; rintro e w4 ⟨rfl, rfl⟩
  go_wp2_with fail
  refine (mul_any a b HI.out.1 HI.out.2 _).mono ?_; rintro e w4 ⟨rfl, q4, rfl⟩
  rw [MM.out.1, MM.out.2]
  have HS4 := Lib.hid (HS3.out.below (below_drewN _ _ q4))
  generalize w3.drewN q4 = w5 at *
  have r0 := HS4.out.a0
  have r1 := HS4.out.a1
  have r2 := HS4.out.b0
  have r3 := HS4.out.b1
  generalize w1.heap.size = g1 at *
  generalize w2.heap.size = g2 at *
  have HSc := HS4
  have SM := Lib.hid (show Small a ∧ Small b ∧ Small (-b) from ⟨small_of (by have := HI.out.1.1; omega) (by have := HI.out.1.2; omega), small_of (by have := HI.out.2.1; omega) (by have := HI.out.2.2; omega), small_of (by have := HI.out.2.2; omega) (by have := HI.out.2.1; omega)⟩)
  have EQ := Lib.hid (show a + -b = a - b by omega)
  go_wp2_with fail
  go_region_held3 (fun w' => w'.cell? ⟨g1, 0, none⟩ = some (.slice A1 n1 c1) ∧ w'.cell? ⟨g1, 1, none⟩ = some (.bool m1) ∧ w'.cell? ⟨g2, 0, none⟩ = some (.slice A2 n2 c2) ∧ w'.cell? ⟨g2, 1, none⟩ = some (.bool m2))
    (exact ⟨by assumption, by assumption, by assumption, by assumption⟩)
    (first
      | (go_at_call_of 18 (Value.agg #[.slice A2 n2 c2, .bool m2]); refine (add_num _ _ a b _ (by exact HSc.out.nx) (by exact HSc.out.ny) SM.out.1 SM.out.2.1).mono ?_; rintro e w6 ⟨v, rfl, hn, hb⟩; have HSc := Lib.hid (HSc.out.below (w2 := w6) (by first | exact hb | exact undrew hb)); have HNc := Lib.hid hn; have j0 := HSc.out.a0; have j1 := HSc.out.a1; have j2 := HSc.out.b0; have j3 := HSc.out.b1; clear hn hb)
      | (go_at_call 17; refine (told_true _ _ _ (by exact HNc.out)).mono ?_; rintro e w6 ⟨rfl, hb⟩; have HSc := Lib.hid (HSc.out.below (w2 := w6) (by first | exact hb | exact undrew hb)); have j0 := HSc.out.a0; have j1 := HSc.out.a1; have j2 := HSc.out.b0; have j3 := HSc.out.b1; clear hb)
      | (go_at_call 19; refine (neg_num _ b _ (by exact HSc.out.ny)).mono ?_; rintro e w6 ⟨v7, rfl, hn, hb⟩; have HSc := Lib.hid (HSc.out.below (w2 := w6) (by first | exact hb | exact undrew hb)); have HNn := Lib.hid hn; have j0 := HSc.out.a0; have j1 := HSc.out.a1; have j2 := HSc.out.b0; have j3 := HSc.out.b1; clear hn hb)
      | (go_at_call 18; refine (add_num _ _ a (-b) _ (by exact HSc.out.nx) (by exact HNn.out) SM.out.1 SM.out.2.2).mono ?_; rintro e w6 ⟨v, rfl, hn, hb⟩; rw [EQ.out] at hn; have HSc := Lib.hid (HSc.out.below (w2 := w6) (by first | exact hb | exact undrew hb)); have HNc := Lib.hid hn; have j0 := HSc.out.a0; have j1 := HSc.out.a1; have j2 := HSc.out.b0; have j3 := HSc.out.b1; clear hn hb)
      | (go_at_call 20; refine (mul_num _ _ a b _ (by exact HSc.out.nx) (by exact HSc.out.ny) SM.out.1 SM.out.2.1).mono ?_; rintro e w6 ⟨v, rfl, hn, hb⟩; have HSc := Lib.hid (HSc.out.below (w2 := w6) (by first | exact hb | exact undrew hb)); have HNc := Lib.hid hn; have j0 := HSc.out.a0; have j1 := HSc.out.a1; have j2 := HSc.out.b0; have j3 := HSc.out.b1; clear hn hb))
  go_wp2_with fail
  go_ret
  exact ⟨rfl, HSc.out.low⟩
