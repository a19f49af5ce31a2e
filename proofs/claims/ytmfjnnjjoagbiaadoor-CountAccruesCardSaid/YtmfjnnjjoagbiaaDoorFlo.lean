import Derived.Test.YtmfjnnjjoagbiaaDoorCmp
import Derived.Test.YtmfjnnjjoagbiaaDoorFlM
namespace Go.Proofs.YtmfjnnjjoagbiaaDoor
open Go.RowKit Go.Shelf Go.Lib Ar Dg
attribute [local go_sem ↓] Go.wp_at_zero Go.wp_at_succ

theorem Var2.apart {w : World} {g g' : Nat} (h : Var2 w g') (hne : g' ≠ g) (a b : Value) : Var2 ((w.setCell ⟨g, 0, none⟩ a).setCell ⟨g, 1, none⟩ b) g' := by
  have hc : ∀ i, ((w.setCell ⟨g, 0, none⟩ a).setCell ⟨g, 1, none⟩ b).cell? ⟨g', i, none⟩ = w.cell? ⟨g', i, none⟩ := fun i => set2_other w g a b ⟨g', i, none⟩ hne
  obtain ⟨⟨x, hx⟩, ⟨y, hy⟩, h1, h2, h3⟩ := h
  refine ⟨⟨x, (hc 0).trans hx⟩, ⟨y, (hc 1).trans hy⟩, ?_, ?_, fun i k z e => h3 i k z ((hc i).symm.trans e)⟩
  · rw [World.frozen?_setCell, World.frozen?_setCell]; exact h1
  · rw [World.frozen?_setCell, World.frozen?_setCell]; exact h2

structure FlSt (w : World) (gt : Nat) (wr : World) (A1 A2 A3 A4 : Option Addr) (n1 c1 n2 c2 n3 c3 n4 c4 : Nat) (m1 m2 m3 m4 : Bool) (d1 : List Int) (C R : Int) : Prop where
  a0 : wr.cell? ⟨w.heap.size, 0, none⟩ = some (.slice A1 n1 c1)
  a1 : wr.cell? ⟨w.heap.size, 1, none⟩ = some (.bool m1)
  b0 : wr.cell? ⟨w.heap.size + 1, 0, none⟩ = some (.slice A2 n2 c2)
  b1 : wr.cell? ⟨w.heap.size + 1, 1, none⟩ = some (.bool m2)
  r0 : wr.cell? ⟨w.heap.size + 3, 0, none⟩ = some (.slice A3 n3 c3)
  r1 : wr.cell? ⟨w.heap.size + 3, 1, none⟩ = some (.bool m3)
  t0 : wr.cell? ⟨gt, 0, none⟩ = some (.slice A4 n4 c4)
  t1 : wr.cell? ⟨gt, 1, none⟩ = some (.bool m4)
  vo : Var2 wr (w.heap.size + 2)
  vr : Var2 wr (w.heap.size + 3)
  rd : RdK .u64 wr wr.heap.size A1 n1 d1
  nc : NumV wr wr.heap.size (.agg #[.slice A2 n2 c2, .bool m2]) C
  nr : NumV wr wr.heap.size (.agg #[.slice A3 n3 c3, .bool m3]) R
  nt : NumV wr wr.heap.size (.agg #[.slice A4 n4 c4, .bool m4]) 2
  low : Below w.heap.size w wr
  hg : w.heap.size + 4 ≤ gt
  high : gt < wr.heap.size
section
variable {w wr w2 : World} {gt : Nat} {A1 A2 A3 A4 A5 : Option Addr} {n1 c1 n2 c2 n3 c3 n4 c4 n5 c5 : Nat} {m1 m2 m3 m4 m5 : Bool} {d1 : List Int} {C R R5 : Int}
theorem FlSt.below (h : FlSt w gt wr A1 A2 A3 A4 n1 c1 n2 c2 n3 c3 n4 c4 m1 m2 m3 m4 d1 C R) (hb : Below wr.heap.size wr w2) : FlSt w gt w2 A1 A2 A3 A4 n1 c1 n2 c2 n3 c3 n4 c4 m1 m2 m3 m4 d1 C R := by
  have hh := h.high
  have hg := h.hg
  have c : ∀ b o, b ≤ gt → w2.cell? ⟨b, o, none⟩ = wr.cell? ⟨b, o, none⟩ := fun b o hlt => hb.cell (p := ⟨b, o, none⟩) (Nat.lt_of_le_of_lt hlt hh)
  exact ⟨(c _ _ (by omega)).trans h.a0, (c _ _ (by omega)).trans h.a1, (c _ _ (by omega)).trans h.b0, (c _ _ (by omega)).trans h.b1, (c _ _ (by omega)).trans h.r0, (c _ _ (by omega)).trans h.r1, (c _ _ (by omega)).trans h.t0, (c _ _ (by omega)).trans h.t1,
    h.vo.below hb (by omega), h.vr.below hb (by omega), (h.rd.below hb).more hb.size, (h.nc.below hb).more hb.size, (h.nr.below hb).more hb.size, (h.nt.below hb).more hb.size, h.low.trans (hb.mono (by omega)), hg, Nat.lt_of_lt_of_le hh hb.size⟩
theorem FlSt.store (h : FlSt w gt wr A1 A2 A3 A4 n1 c1 n2 c2 n3 c3 n4 c4 m1 m2 m3 m4 d1 C R) (hn : NumV wr wr.heap.size (.agg #[.slice A5 n5 c5, .bool m5]) R5) :
    FlSt w gt ((wr.setCell ⟨w.heap.size + 3, 0, none⟩ (.slice A5 n5 c5)).setCell ⟨w.heap.size + 3, 1, none⟩ (.bool m5)) A1 A2 A5 A4 n1 c1 n2 c2 n5 c5 n4 c4 m1 m2 m5 m4 d1 C R5 := by
  have hh := h.high
  have hg := h.hg
  have c : ∀ b o, b ≠ w.heap.size + 3 → ((wr.setCell ⟨w.heap.size + 3, 0, none⟩ (.slice A5 n5 c5)).setCell ⟨w.heap.size + 3, 1, none⟩ (.bool m5)).cell? ⟨b, o, none⟩ = wr.cell? ⟨b, o, none⟩ := fun b o hne => set2_other wr _ _ _ ⟨b, o, none⟩ hne
  exact ⟨(c _ _ (by omega)).trans h.a0, (c _ _ (by omega)).trans h.a1, (c _ _ (by omega)).trans h.b0, (c _ _ (by omega)).trans h.b1, set2_zero h.vr _ _, set2_one h.vr _ _, (c _ _ (by omega)).trans h.t0, (c _ _ (by omega)).trans h.t1,
    h.vo.apart (by omega) _ _, h.vr.set _ _ _ _, by simpa using h.rd.apart h.vr.2.2.2.2 (fun p hp => set2_other wr _ _ _ p hp), (h.nc.store h.vr).more (by simp), (hn.store h.vr).more (by simp), (h.nt.store h.vr).more (by simp),
    (h.low.setCell (by show w.heap.size ≤ w.heap.size + 3; omega) _).setCell (by show w.heap.size ≤ w.heap.size + 3; omega) _, hg, by simpa using hh⟩
end

/-- four variables in a row, before the fifth -/
structure Fl4 (w wr : World) (A1 A2 : Option Addr) (n1 c1 n2 c2 : Nat) (m1 m2 : Bool) : Prop where
  a0 : wr.cell? ⟨w.heap.size, 0, none⟩ = some (.slice A1 n1 c1)
  a1 : wr.cell? ⟨w.heap.size, 1, none⟩ = some (.bool m1)
  b0 : wr.cell? ⟨w.heap.size + 1, 0, none⟩ = some (.slice A2 n2 c2)
  b1 : wr.cell? ⟨w.heap.size + 1, 1, none⟩ = some (.bool m2)
  r0 : wr.cell? ⟨w.heap.size + 3, 0, none⟩ = some (.slice none 0 0)
  r1 : wr.cell? ⟨w.heap.size + 3, 1, none⟩ = some (.bool false)
  vo : Var2 wr (w.heap.size + 2)
  vr : Var2 wr (w.heap.size + 3)
  low : Below w.heap.size w wr
  size : wr.heap.size = w.heap.size + 4
theorem fl4_new (w : World) (A1 A2 : Option Addr) (n1 c1 n2 c2 : Nat) (m1 m2 : Bool) :
    Fl4 w ((((w.alloc (.cells #[.slice A1 n1 c1, .bool m1] 37)).alloc (.cells #[.slice A2 n2 c2, .bool m2] 37)).alloc (.cells #[.slice none 0 0, .bool false] 37)).alloc (.cells #[.slice none 0 0, .bool false] 37)) A1 A2 n1 c1 n2 c2 m1 m2 := by
  have h := box2_new w A1 A2 n1 c1 n2 c2 m1 m2
  generalize hw3 : ((w.alloc (.cells #[.slice A1 n1 c1, .bool m1] 37)).alloc (.cells #[.slice A2 n2 c2, .bool m2] 37)).alloc (.cells #[.slice none 0 0, .bool false] 37) = w3 at *
  have hs : w3.heap.size = w.heap.size + 3 := by rw [← hw3]; simp
  have hb : Below (w.heap.size + 3) w3 (w3.alloc (.cells #[.slice none 0 0, .bool false] 37)) := (Below.refl _ _).alloc (by omega) _
  have hl : Below w.heap.size w w3 := by rw [← hw3]; exact (((Below.refl _ _).alloc (Nat.le_refl _) _).alloc (by simp) _).alloc (by simp; omega) _
  have h2 := h.below hb
  have r0 := World.cell?_alloc_new w3 #[.slice none 0 0, .bool false] 37 0
  have r1 := World.cell?_alloc_new w3 #[.slice none 0 0, .bool false] 37 1
  have hv := var2_new w3 none 0 0 false 37
  rw [hs] at r0 r1 hv
  exact ⟨h2.a0, h2.a1, h2.b0, h2.b1, r0, r1, h2.v, hv, hl.alloc (by omega) _, by simp [hs]⟩

theorem rd_one (w : World) : RdK .u64 (w.alloc (.cells #[.int .u64 1] 54)) (w.alloc (.cells #[.int .u64 1] 54)).heap.size (some ⟨w.heap.size, 0, none⟩) 1 [1] :=
  ⟨rfl, fun j hj => by
    obtain rfl : j = 0 := by omega
    exact ⟨_, _, rfl, by simp, by rw [World.cell?_alloc_new]; rfl⟩⟩

/-- behind the bit: the rest, twice and one bit more -/
def FlCut (w : World) (gt : Nat) (A1 A2 A4 Aq : Option Addr) (n1 c1 n2 c2 n4 c4 nq : Nat) (m1 m2 m4 : Bool) (d1 dq : List Int) (C R : Int) (wx : World) : Prop :=
  ∃ (A3 : Option Addr) (n3 c3 : Nat) (m3 : Bool), FlSt w gt wx A1 A2 A3 A4 n1 c1 n2 c2 n3 c3 n4 c4 m1 m2 m3 m4 d1 C R ∧ RdK .u64 wx wx.heap.size Aq nq dq

def FlRel (w : World) (gt : Nat) (A1 A2 A4 : Option Addr) (n1 c1 n2 c2 n4 c4 : Nat) (m1 m2 m4 : Bool) (d1 : List Int) (C : Int) (q iv : Value) (wr : World) : Prop :=
  ∃ (k : Nat) (A3 : Option Addr) (n3 c3 : Nat) (m3 : Bool) (R Q : Int) (Aq : Option Addr) (nq cq : Nat) (dq : List Int), iv = .int .i64 ((k : Int) - 1) ∧ q = .slice Aq nq cq ∧ k ≤ 16 * n1 ∧
    FlSt w gt wr A1 A2 A3 A4 n1 c1 n2 c2 n3 c3 n4 c4 m1 m2 m3 m4 d1 C R ∧
    Hid (nq ≤ cq ∧ cq ≤ 9223372036854775807 ∧ RdK .u64 wr wr.heap.size Aq nq dq ∧ Dig dq ∧ dv dq = Q ∧ nq ≤ 1001) ∧ Hid (dv d1 / 2 ^ k = Q * C + R ∧ 0 ≤ R ∧ R < C)

set_option maxHeartbeats 4000000 in
theorem floor_walk (A1 A2 : Option Addr) (n1 c1 n2 c2 : Nat) (d1 : List Int) (m1 m2 : Bool) (C : Int) (w : World) (hr1 : RdK .u64 w w.heap.size A1 n1 d1) (hd1 : Dig d1) (ht1 : Top d1) (hn2 : NumV w w.heap.size (.agg #[.slice A2 n2 c2, .bool m2]) C)
    (b1 : n1 ≤ 10) (hC0 : 0 < C) (hC1 : C ≤ 18446744073709551616) :
    Calls Tryd.prog 28 #[.agg #[.slice A1 n1 c1, .bool m1], .agg #[.slice A2 n2 c2, .bool m2]] w (NumPost w (sgn m1 (dv d1) / C)) := by
  obtain ⟨i0, hi, hz0, hz1, hz2⟩ := info_parts info46
  have h4 := fl4_new w A1 A2 n1 c1 n2 c2 m1 m2
  have H := Lib.hid (show RdK .u64 w w.heap.size A1 n1 d1 ∧ Dig d1 ∧ Top d1 ∧ NumV w w.heap.size (.agg #[.slice A2 n2 c2, .bool m2]) C ∧ d1.length = n1 from ⟨hr1, hd1, ht1, hn2, hr1.1⟩)
  have H4 := Lib.hid h4
  clear hr1 hd1 ht1 hn2 h4
  go_enter Tryd.func28, Tryd.ntmps28
  go_wp2_with fail
  generalize (((w.alloc (.cells #[.slice A1 n1 c1, .bool m1] 37)).alloc (.cells #[.slice A2 n2 c2, .bool m2] 37)).alloc (.cells #[.slice none 0 0, .bool false] 37)).alloc (.cells #[.slice none 0 0, .bool false] 37) = w1 at *
  refine (of_any 2 _ ⟨by decide, by decide⟩).mono ?_; rintro e w2 ⟨v, rfl, ⟨A4, n4, c4, d4, m4, rfl, hn4⟩, hb2⟩
  have hst : FlSt w w2.heap.size (w2.alloc (.cells #[.slice A4 n4 c4, .bool m4] 37)) A1 A2 none A4 n1 c1 n2 c2 0 0 n4 c4 m1 m2 false m4 d1 C 0 := by
    have h4 := H4.out
    have hsz := h4.size
    have hsz2 := hb2.size
    have hC : Below w2.heap.size w2 (w2.alloc (.cells #[.slice A4 n4 c4, .bool m4] 37)) := (Below.refl _ _).alloc (Nat.le_refl _) _
    have hD : Below w1.heap.size w1 (w2.alloc (.cells #[.slice A4 n4 c4, .bool m4] 37)) := hb2.trans (hC.mono hsz2)
    have c : ∀ b o, b < w.heap.size + 4 → (w2.alloc (.cells #[.slice A4 n4 c4, .bool m4] 37)).cell? ⟨b, o, none⟩ = w1.cell? ⟨b, o, none⟩ := fun b o hlt => hD.cell (p := ⟨b, o, none⟩) (by rw [hsz]; exact hlt)
    have hlow := h4.low.trans (hD.mono h4.low.size)
    exact ⟨(c _ _ (by omega)).trans h4.a0, (c _ _ (by omega)).trans h4.a1, (c _ _ (by omega)).trans h4.b0, (c _ _ (by omega)).trans h4.b1, (c _ _ (by omega)).trans h4.r0, (c _ _ (by omega)).trans h4.r1,
      by rw [World.cell?_alloc_new]; rfl, by rw [World.cell?_alloc_new]; rfl, h4.vo.below hD (by omega), h4.vr.below hD (by omega), (H.out.1.below hlow).more hlow.size, (H.out.2.2.2.1.below hlow).more hlow.size,
      ⟨none, 0, 0, [], false, rfl, Nat.le_refl _, by decide, ⟨rfl, fun j hj => absurd hj (Nat.not_lt_zero _)⟩, (fun x hx => nomatch hx), (fun h => absurd h (by simp)), (fun h => nomatch h), rfl⟩,
      ((show NumV w2 w2.heap.size (.agg #[.slice A4 n4 c4, .bool m4]) 2 from ⟨A4, n4, c4, d4, m4, rfl, hn4⟩).below hC).more hC.size, hlow, by omega, by simp⟩
  have HST := Lib.hid hst
  clear hst hn4 hb2
  have k0 := HST.out.a0
  go_wp2_with fail
  generalize w2.heap.size = gt at *
  have hlenC : Small C := small_of (by omega) (by omega)
  have HSC := Lib.hid (show Small C ∧ Small (-C) ∧ Small 2 ∧ Small 1 ∧ Small (-1) from ⟨hlenC, small_of (by omega) (by omega), small_of (by decide) (by decide), small_of (by decide) (by decide), small_of (by decide) (by decide)⟩)
  clear hlenC
  go_loopw [5, 8] (fun q i wr => FlRel w gt A1 A2 A4 n1 c1 n2 c2 n4 c4 m1 m2 m4 d1 C q i wr) (fun _ i _ => ((RowKit.intOf i) + 1).toNat)
  case atStart =>
    refine ⟨16 * n1, none, 0, 0, false, 0, 0, none, 0, 0, [], congrArg (Value.int .i64) (by omega), rfl, Nat.le_refl _, HST.out, ⟨Nat.le_refl _, by decide, ⟨rfl, fun j hj => absurd hj (Nat.not_lt_zero _)⟩, (fun x hx => nomatch hx), rfl, by decide⟩, ?_, by decide, hC0⟩
    have h1 := dv_bd H.out.2.1
    rw [H.out.2.2.2.2, pw_two] at h1
    rw [Int.ediv_eq_zero_of_lt h1.1 h1.2]; omega
  case round =>
    obtain ⟨wo, rfl⟩ : ∃ wo : World, wo = wr := ⟨_, rfl⟩
    obtain ⟨k, A3, n3, c3, m3, R, Q, Aq, nq, cq, dq, rfl, rfl, hk, hst, hq, hm⟩ := hrel
    have HS := Lib.hid hst; clear hst
    clear k0
    rcases Nat.eq_zero_or_pos k with h0 | h0
    · subst h0
      have r0 := HS.out.r0
      have r1 := HS.out.r1
      have a0 := HS.out.a0
      have a1 := HS.out.a1
      have hm0 := hm.out
      rw [Int.pow_zero, Int.ediv_one] at hm0
      have HM := Lib.hid hm0
      have HSQ := Lib.hid (show Small (sgn m1 Q) from by
        have h1 := (dv_bd H.out.2.1).2
        rw [H.out.2.2.2.2] at h1
        have h2 := pw_mono (show n1 ≤ 1000 by omega)
        have h3 : 0 ≤ Q := by rw [← hq.out.2.2.2.2.1]; exact (dv_bd hq.out.2.2.2.1).1
        have h4 : Q ≤ Q * C := by
          have := Int.mul_le_mul_of_nonneg_left (show (1 : Int) ≤ C by omega) h3
          omega
        cases m1
        · show Small Q; exact ⟨by omega, by omega⟩
        · show Small (-Q); exact ⟨by omega, by omega⟩)
      clear hm0
      go_wp2_with fail
      refine (norm_num Aq nq cq dq m1 _ hq.out.2.2.1 hq.out.2.2.2.1 hq.out.1 hq.out.2.1).mono ?_
      rw [hq.out.2.2.2.2.1]
      rintro e w5 ⟨v, rfl, ⟨A5, n5, c5, d5, m5, rfl, hn5⟩, hb5⟩
      have hW : Below w5.heap.size w5 (w5.alloc (.cells #[.slice A5 n5 c5, .bool m5] 37)) := (Below.refl _ _).alloc (Nat.le_refl _) _
      have HS6 := Lib.hid ((HS.out.below hb5).below hW)
      have HN6 := Lib.hid (((show NumV w5 w5.heap.size (.agg #[.slice A5 n5 c5, .bool m5]) (sgn m1 Q) from ⟨A5, n5, c5, d5, m5, rfl, hn5⟩).below hW).more hW.size)
      have HV6 := Lib.hid (var2_new w5 A5 n5 c5 m5 37)
      have o0 : (w5.alloc (.cells #[.slice A5 n5 c5, .bool m5] 37)).cell? ⟨w5.heap.size, 0, none⟩ = some (.slice A5 n5 c5) := by rw [World.cell?_alloc_new]; rfl
      have o1 : (w5.alloc (.cells #[.slice A5 n5 c5, .bool m5] 37)).cell? ⟨w5.heap.size, 1, none⟩ = some (.bool m5) := by rw [World.cell?_alloc_new]; rfl
      have HG := Lib.hid (show w5.heap.size < (w5.alloc (.cells #[.slice A5 n5 c5, .bool m5] 37)).heap.size ∧ w.heap.size + 4 < w5.heap.size from ⟨by simp, by have := HS.out.hg; have := HS.out.high; have := hb5.size; omega⟩)
      clear hW hn5 hb5 r0 r1 a0 a1
      go_upto_region 15 with fail
      generalize w5.alloc (.cells #[.slice A5 n5 c5, .bool m5] 37) = w6 at *
      generalize w5.heap.size = go at *
      have r0 := HS6.out.r0
      have a1 := HS6.out.a1
      obtain ⟨⟨x0, hx0⟩, ⟨x1, hx1⟩, f0, f1, _⟩ := HS6.out.vo
      have hR : (n3 = 0 ∧ Hid (R = 0)) ∨ (0 < n3 ∧ Hid (0 < R)) := by
        obtain ⟨B3, k3, e3, ds3, mm3, he, _, _, r3, g3, t3, g6, e3'⟩ := HS6.out.nr
        injection he with he; injection he with he; injection he with he1 he2
        injection he1 with _ he3 _; subst he3
        injection he2 with he2; injection he2 with he2; subst he2
        have h0 := HM.out.2.1
        rcases Nat.eq_zero_or_pos n3 with h | h
        · refine .inl ⟨h, ?_⟩
          have : dv ds3 = 0 := (zero_nil g3 t3).2 (List.length_eq_zero_iff.1 (by rw [r3.1, h]))
          show R = 0
          rw [e3', this]; cases m3 <;> rfl
        · refine .inr ⟨h, ?_⟩
          have h1 := top_lo g3 t3 (by rw [r3.1]; exact h)
          have h2 := pw_pos (ds3.length - 1)
          show 0 < R
          cases m3
          · have : R = dv ds3 := e3'
            omega
          · have : R = -dv ds3 := e3'
            omega
      cases m1
      · have HV := Lib.hid (show sgn false Q = sgn false (dv d1) / C from floor_pos HM.out.1 HM.out.2.1 HM.out.2.2)
        clear hR
        go_wp2_with fail
        exact bodyPost_ret (v := .agg #[.slice A5 n5 c5, .bool m5]) (by simp [results, Tryd.results28, go_sem, hx0, hx1]) rfl
          ⟨_, rfl, by rw [← HV.out]; exact (HN6.out.store HS6.out.vo).more (by simp), (HS6.out.low.setCell (by show w.heap.size ≤ w.heap.size + 1 + 1; omega) _).setCell (by show w.heap.size ≤ w.heap.size + 1 + 1; omega) _⟩
      · rcases hR with ⟨rfl, hR⟩ | ⟨hp, hR⟩
        · have HV := Lib.hid (show sgn true Q = sgn true (dv d1) / C from by have h := HM.out.1; rw [hR.out] at h; exact floor_neg0 h hC0)
          clear hR
          go_wp2_with fail
          exact bodyPost_ret (v := .agg #[.slice A5 n5 c5, .bool m5]) (by simp [results, Tryd.results28, go_sem, hx0, hx1]) rfl
            ⟨_, rfl, by rw [← HV.out]; exact (HN6.out.store HS6.out.vo).more (by simp), (HS6.out.low.setCell (by show w.heap.size ≤ w.heap.size + 1 + 1; omega) _).setCell (by show w.heap.size ≤ w.heap.size + 1 + 1; omega) _⟩
        · have HV := Lib.hid (show sgn true Q + -1 = sgn true (dv d1) / C from floor_neg HM.out.1 hR.out HM.out.2.2)
          have hp1 : (0 : Int) < (n3 : Int) := by omega
          obtain ⟨⟨z0, hz0'⟩, ⟨z1, hz1'⟩, fz0, fz1, _⟩ := HV6.out
          clear hR
          go_wp2_with fail
          go_region_with (first
            | (go_at_call 14; refine (of_any (-1) _ ⟨by decide, by decide⟩).mono ?_; rintro e w7 ⟨v, rfl, hn, hb⟩; have HS7 := Lib.hid (HS6.out.below (undrew hb)); have HN := Lib.hid hn; have HN7 := Lib.hid ((HN6.out.below (undrew hb)).more hb.size); have HV7 := Lib.hid (HV6.out.below (undrew hb) HG.out.1); have HZ7 := Lib.hid (Nat.lt_of_lt_of_le HG.out.1 hb.size); have p0 := ((undrew hb).cell (p := ⟨go, 0, none⟩) HG.out.1).trans o0; have p1 := ((undrew hb).cell (p := ⟨go, 1, none⟩) HG.out.1).trans o1; clear hn hb)
            | (go_at_call 29; refine (add_num _ _ _ (-1) _ HN7.out HN.out HSQ.out HSC.out.2.2.2.2).mono ?_; rintro e w8 ⟨v3, rfl, ⟨A8, n8, c8, d8, m8, rfl, hn3⟩, hb3⟩; have HS8 := Lib.hid (HS7.out.below hb3); have HN8 := Lib.hid (show NumV w8 w8.heap.size (.agg #[.slice A8 n8 c8, .bool m8]) (sgn true Q + -1) from ⟨A8, n8, c8, d8, m8, rfl, hn3⟩); have HV8 := Lib.hid (HV7.out.below hb3 HZ7.out); obtain ⟨⟨y0, hy0⟩, ⟨y1, hy1⟩, e0, e1, _⟩ := HV8.out; clear hn3 hb3))
          all_goals
            have HVO := Lib.hid (HS8.out.vo.apart (g := go) (by have := HG.out.2; omega) (.slice A8 n8 c8) (.bool m8))
            have HN9 := Lib.hid ((HN8.out.store HV8.out (a := .slice A8 n8 c8) (b := .bool m8)).more (B' := ((w8.setCell ⟨go, 0, none⟩ (.slice A8 n8 c8)).setCell ⟨go, 1, none⟩ (.bool m8)).heap.size) (by simp))
            have HB9 := Lib.hid ((HS8.out.low.setCell (p := ⟨go, 0, none⟩) (by show w.heap.size ≤ go; have := HG.out.2; omega) (.slice A8 n8 c8)).setCell (p := ⟨go, 1, none⟩) (by show w.heap.size ≤ go; have := HG.out.2; omega) (.bool m8))
            have s0 := set2_zero HV8.out (.slice A8 n8 c8) (.bool m8)
            have s1 := set2_one HV8.out (.slice A8 n8 c8) (.bool m8)
            go_upto_region 17 with fail
            generalize (w8.setCell ⟨go, 0, none⟩ (.slice A8 n8 c8)).setCell ⟨go, 1, none⟩ (.bool m8) = w9 at *
            obtain ⟨⟨u0, hu0⟩, ⟨u1, hu1⟩, g0, g1, _⟩ := HVO.out
            go_wp2_with fail
            exact bodyPost_ret (v := .agg #[.slice A8 n8 c8, .bool m8]) (by simp [results, Tryd.results28, go_sem, hu0, hu1]) rfl
              ⟨_, rfl, by rw [← HV.out]; exact (HN9.out.store HVO.out).more (by simp), (HB9.out.setCell (by show w.heap.size ≤ w.heap.size + 1 + 1; omega) _).setCell (by show w.heap.size ≤ w.heap.size + 1 + 1; omega) _⟩
    · obtain ⟨j, rfl⟩ : ∃ j, k = j + 1 := ⟨k - 1, by omega⟩
      have ej : ((j + 1 : Nat) : Int) - 1 = (j : Int) := by omega
      rw [ej]
      clear ej
      have r0 := HS.out.r0
      have r1 := HS.out.r1
      have t0 := HS.out.t0
      have t1 := HS.out.t1
      have hR0 := hm.out.2.1
      have hR1 := hm.out.2.2
      have HSR := Lib.hid (show Small R ∧ Small (R * 2) ∧ Small (R * 2 + 1) from ⟨small_of (by omega) (by omega), small_of (by omega) (by omega), small_of (by omega) (by omega)⟩)
      clear hR0 hR1
      go_wp2_with fail
      refine (mul_num _ _ R 2 _ HS.out.nr HS.out.nt HSR.out.1 HSC.out.2.2.1).mono ?_; rintro e w5 ⟨v, rfl, ⟨A5, n5, c5, d5, m5, rfl, hn5⟩, hb5⟩
      have HS5 := Lib.hid (HS.out.below hb5)
      have HN5 := Lib.hid (show NumV w5 w5.heap.size (.agg #[.slice A5 n5 c5, .bool m5]) (R * 2) from ⟨A5, n5, c5, d5, m5, rfl, hn5⟩)
      have HQ5 := Lib.hid (show RdK .u64 w5 w5.heap.size Aq nq dq from (hq.out.2.2.1.below hb5).more hb5.size)
      clear hn5 hb5 r0 r1 t0 t1
      obtain ⟨⟨x0, hx0⟩, ⟨x1, hx1⟩, f0, f1, _⟩ := HS5.out.vr
      have HS6 := Lib.hid (HS5.out.store HN5.out)
      have HQ6 := Lib.hid (show RdK .u64 ((w5.setCell ⟨w.heap.size + 3, 0, none⟩ (.slice A5 n5 c5)).setCell ⟨w.heap.size + 3, 1, none⟩ (.bool m5)) w5.heap.size Aq nq dq from HQ5.out.apart HS5.out.vr.2.2.2.2 (fun p hp => set2_other w5 _ _ _ p hp))
      have HZ6 := Lib.hid (show w5.heap.size ≤ ((w5.setCell ⟨w.heap.size + 3, 0, none⟩ (.slice A5 n5 c5)).setCell ⟨w.heap.size + 3, 1, none⟩ (.bool m5)).heap.size by simp)
      go_upto_region 8 with fail
      generalize (w5.setCell ⟨w.heap.size + 3, 0, none⟩ (.slice A5 n5 c5)).setCell ⟨w.heap.size + 3, 1, none⟩ (.bool m5) = w6 at *
      clear hx0 hx1 f0 f1
      have hdig := H.out.2.1.getD (j / 16)
      have hbit := bit_of H.out.2.1 (j / 16) (j % 16) (by rw [H.out.2.2.2.2]; omega) (Nat.mod_lt _ (by decide))
      rw [show 16 * (j / 16) + j % 16 = j by omega] at hbit
      obtain ⟨xb, xo, rfl, _, rx⟩ := HS6.out.rd.2 (j / 16) (by omega)
      have a06 := HS6.out.a0
      obtain ⟨z, hz⟩ : ∃ z, d1.getD (j / 16) 0 = z := ⟨_, rfl⟩
      rw [hz] at hdig hbit rx
      clear hz
      have E := bits_one hdig.1 hdig.2 (j % 16)
      obtain ⟨bit, hb⟩ : ∃ b, z / 2 ^ (j % 16) % 2 = b := ⟨_, rfl⟩
      rw [hb] at E hbit
      have hbb : bit = 0 ∨ bit = 1 := by omega
      have htop := top_bits (dv d1) j
      rw [← hbit] at htop
      have HT := Lib.hid (show dv d1 / 2 ^ j = 2 * Q * C + (R * 2 + bit) ∧ 0 ≤ R ∧ R < C from ⟨by rw [htop, hm.out.1, Int.mul_add, Int.mul_assoc]; omega, hm.out.2⟩)
      have HBIT := Lib.hid (show 0 ≤ bit ∧ bit ≤ 1 ∧ Small (R * 2 + bit) from ⟨by omega, by omega, small_of (by have := hm.out.2; omega) (by have := hm.out.2; omega)⟩)
      clear hbit hb htop hdig
      have p0 : (0 : Int) ≤ (j : Int) / 16 := by omega
      have p1 : (j : Int) / 16 < (n1 : Int) := by omega
      have p2 : (0 : Int) ≤ (j : Int) % 16 := by omega
      have r06 := HS6.out.r0
      have r16 := HS6.out.r1
      go_upto_if 34 with fail
      go_cut [] (fun wx => FlCut w gt (some ⟨xb, xo, none⟩) A2 A4 Aq n1 c1 n2 c2 n4 c4 nq m1 m2 m4 d1 dq C (R * 2 + bit) wx)
      case first =>
        rcases hbb with rfl | rfl
        · go_wp2_with fail
          go_meet
          exact ⟨A5, n5, c5, m5, by rw [Int.add_zero]; exact HS6.out, HQ6.out.more HZ6.out⟩
        · obtain ⟨⟨x0, hx0⟩, ⟨x1, hx1⟩, f0, f1, _⟩ := HS6.out.vr
          go_wp2_with fail
          go_region_with (first
            | (go_at_call 14; refine (of_any 1 _ ⟨by decide, by decide⟩).mono ?_; rintro e w7 ⟨v, rfl, hn, hb⟩; have HS7 := Lib.hid (HS6.out.below (undrew hb)); have HN := Lib.hid hn; have HQ7 := Lib.hid (((HQ6.out.more HZ6.out).below (undrew hb)).more hb.size); have b0 := HS7.out.r0; have b1 := HS7.out.r1; clear hn hb)
            | (go_at_call 29; refine (add_num _ _ _ 1 _ HS7.out.nr HN.out HSR.out.2.1 HSC.out.2.2.2.1).mono ?_; rintro e w8 ⟨v3, rfl, ⟨A8, n8, c8, d8, m8, rfl, hn3⟩, hb3⟩; have HS8 := Lib.hid (HS7.out.below hb3); have HN8 := Lib.hid (show NumV w8 w8.heap.size (.agg #[.slice A8 n8 c8, .bool m8]) (R * 2 + 1) from ⟨A8, n8, c8, d8, m8, rfl, hn3⟩); have HQ8 := Lib.hid ((HQ7.out.below hb3).more hb3.size); obtain ⟨⟨y0, hy0⟩, ⟨y1, hy1⟩, e0, e1, _⟩ := HS8.out.vr; clear hn3 hb3))
          all_goals
            go_wp2_with fail
            go_meet
            exact ⟨A8, n8, c8, m8, HS8.out.store HN8.out, (HQ8.out.apart HS8.out.vr.2.2.2.2 (fun p hp => set2_other w8 _ _ _ p hp)).more (by simp)⟩
      case rest =>
        obtain ⟨A6, n6, c6, m6, hs7, hq7⟩ := hcut
        have HS7 := Lib.hid hs7
        have HQ7 := Lib.hid hq7
        clear hs7 hq7 r06 r16 a06 p0 p1 p2 rx hbb
        have HB7 := Lib.hid (show nq ≤ 100000 by have := hq.out.2.2.2.2.2; omega)
        go_wp2_with fail
        refine (plus_any Aq Aq nq cq nq cq dq dq _ HQ7.out HQ7.out hq.out.2.2.2.1 hq.out.2.2.2.1 HB7.out HB7.out).mono ?_
        rintro e w8 ⟨A8, n8, c8, d8, rfl, g1, g2, g3, g4, ⟨g5, _⟩, hb8⟩
        have HS8 := Lib.hid (HS7.out.below hb8)
        have HD8 := Lib.hid (show n8 ≤ c8 ∧ c8 ≤ 9223372036854775807 ∧ RdK .u64 w8 w8.heap.size A8 n8 d8 ∧ Dig d8 ∧ dv d8 = 2 * Q from ⟨g1, g2, g3, g4, by rw [g5, hq.out.2.2.2.2.1]; omega⟩)
        clear g1 g2 g3 g4 g5 hb8
        go_wp2_with fail
        refine (norm_num A8 n8 c8 d8 false _ HD8.out.2.2.1 HD8.out.2.2.2.1 HD8.out.1 HD8.out.2.1).mono ?_
        rintro e w9 ⟨v, rfl, ⟨A9, n9, c9, d9, m9, rfl, g1, g2, g3, g4, g5, g6, g7⟩, hb9⟩
        have HS9 := Lib.hid (HS8.out.below hb9)
        have hm9 : dv d9 = 2 * Q ∧ n9 ≤ 10 := by
          have h0 : 0 ≤ dv d8 := (dv_bd HD8.out.2.2.2.1).1
          have h1 : dv d8 = 2 * Q := HD8.out.2.2.2.2
          have h2 : dv d9 = 2 * Q := by
            cases m9 with
            | false => have : dv d8 = dv d9 := g7
                       omega
            | true =>
              have h3 := top_lo g4 g5 (by rw [g3.1]; exact g6 rfl)
              have h4 := pw_pos (d9.length - 1)
              have : dv d8 = -dv d9 := g7
              omega
          refine ⟨h2, ?_⟩
          rw [← g3.1]
          refine len_le g4 g5 ?_
          have h5 := (dv_bd H.out.2.1).2
          rw [H.out.2.2.2.2] at h5
          have h6 := pw_mono b1
          have h7 : 2 * Q ≤ 2 * Q * C := by
            have := Int.mul_le_mul_of_nonneg_left (show (1 : Int) ≤ C by omega) (show 0 ≤ 2 * Q by omega)
            omega
          have h8 : dv d1 / 2 ^ j ≤ dv d1 := Int.ediv_le_self _ (dv_bd H.out.2.1).1
          have h9 := HT.out
          have hbp := HBIT.out.1
          omega
        have HD9 := Lib.hid (show n9 ≤ c9 ∧ c9 ≤ 9223372036854775807 ∧ RdK .u64 w9 w9.heap.size A9 n9 d9 ∧ Dig d9 ∧ dv d9 = 2 * Q ∧ n9 ≤ 10 from ⟨g1, g2, g3, g4, hm9.1, hm9.2⟩)
        clear g1 g2 g3 g4 g5 g6 g7 hb9 hm9
        have hfld := field25
        have r0 := HS9.out.r0
        have r1 := HS9.out.r1
        have q0 := HS9.out.b0
        have q1 := HS9.out.b1
        go_wp2_with fail
        refine (cmp_num _ _ (R * 2 + bit) C _ HS9.out.nr HS9.out.nc HBIT.out.2.2 HSC.out.2.1).mono ?_; rintro e w10 ⟨rfl, hb10⟩
        have HS10 := Lib.hid (HS9.out.below hb10)
        have HD10 := Lib.hid (show RdK .u64 w10 w10.heap.size A9 n9 d9 from (HD9.out.2.2.1.below hb10).more hb10.size)
        clear hb10 r0 r1 q0 q1 hfld
        have r0 := HS10.out.r0
        have r1 := HS10.out.r1
        have q0 := HS10.out.b0
        have q1 := HS10.out.b1
        obtain ⟨⟨x0, hx0⟩, ⟨x1, hx1⟩, f0, f1, _⟩ := HS10.out.vr
        rcases (show R * 2 + bit < C ∨ C ≤ R * 2 + bit by omega) with hlt | hge
        · have HE := Lib.hid (show cmpv (R * 2 + bit - C) = -1 by unfold cmpv; rw [if_neg (by omega), if_pos (by omega)])
          rw [HE.out]
          have HEND := Lib.hid (show dv d1 / 2 ^ j = 2 * Q * C + (R * 2 + bit) ∧ 0 ≤ R * 2 + bit ∧ R * 2 + bit < C from ⟨HT.out.1, by have := HBIT.out.1; have := HT.out.2.1; omega, hlt⟩)
          clear hlt
          go_wp2_with fail
          exact ⟨⟨j, A6, n6, c6, m6, R * 2 + bit, 2 * Q, A9, n9, c9, d9, rfl, rfl, by omega, HS10.out, ⟨HD9.out.1, HD9.out.2.1, HD10.out, HD9.out.2.2.2.1, HD9.out.2.2.2.2.1, by have := HD9.out.2.2.2.2.2; omega⟩, HEND⟩, by simp [RowKit.intOf]⟩
        · obtain ⟨cv, hcv, hcv2⟩ : ∃ cv : Int, cmpv (R * 2 + bit - C) = cv ∧ 0 ≤ cv := by
            unfold cmpv
            by_cases h : R * 2 + bit - C = 0
            · exact ⟨0, if_pos h, by decide⟩
            · exact ⟨1, by rw [if_neg h, if_neg (by omega)], by decide⟩
          rw [hcv]
          have HEND := Lib.hid (show dv d1 / 2 ^ j = (2 * Q + 1) * C + (R * 2 + bit + -C) ∧ 0 ≤ R * 2 + bit + -C ∧ R * 2 + bit + -C < C from
            ⟨by rw [HT.out.1, Int.add_mul, Int.one_mul]; omega, by omega, by have := HBIT.out.2.1; have := HT.out.2.2; omega⟩)
          clear hge hcv
          go_wp2_with fail
          go_region_with (first
            | (go_at_call 27; refine (neg_num _ C _ (by exact HS10.out.nc)).mono ?_; rintro e w11 ⟨v, rfl, hn, hb⟩; have HS11 := Lib.hid (HS10.out.below (undrew hb)); have HN := Lib.hid hn; have HD11 := Lib.hid ((HD10.out.below (undrew hb)).more hb.size); have b0 := HS11.out.r0; have b1 := HS11.out.r1; clear hn hb)
            | (go_at_call 29; refine (add_num _ _ _ (-C) _ HS11.out.nr HN.out HBIT.out.2.2 HSC.out.2.1).mono ?_; rintro e w12 ⟨v3, rfl, ⟨A12, n12, c12, d12, m12, rfl, hn3⟩, hb3⟩; have HS12 := Lib.hid (HS11.out.below hb3); have HN12 := Lib.hid (show NumV w12 w12.heap.size (.agg #[.slice A12 n12 c12, .bool m12]) (R * 2 + bit + -C) from ⟨A12, n12, c12, d12, m12, rfl, hn3⟩); have HD12 := Lib.hid ((HD11.out.below hb3).more hb3.size); obtain ⟨⟨y0, hy0⟩, ⟨y1, hy1⟩, e0, e1, _⟩ := HS12.out.vr; clear hn3 hb3))
          all_goals
            have HS13 := Lib.hid (HS12.out.store HN12.out)
            have HD13 := Lib.hid (show RdK .u64 ((w12.setCell ⟨w.heap.size + 3, 0, none⟩ (.slice A12 n12 c12)).setCell ⟨w.heap.size + 3, 1, none⟩ (.bool m12)) ((w12.setCell ⟨w.heap.size + 3, 0, none⟩ (.slice A12 n12 c12)).setCell ⟨w.heap.size + 3, 1, none⟩ (.bool m12)).heap.size A9 n9 d9 from by simpa using HD12.out.apart HS12.out.vr.2.2.2.2 (fun p hp => set2_other w12 _ _ _ p hp))
            go_upto_region 13 with fail
            generalize (w12.setCell ⟨w.heap.size + 3, 0, none⟩ (.slice A12 n12 c12)).setCell ⟨w.heap.size + 3, 1, none⟩ (.bool m12) = w13 at *
            go_wp2_with fail
            refine (plus_any A9 _ n9 c9 1 1 d9 [1] _ ((HD13.out.below ((Below.refl _ _).alloc (Nat.le_refl _) _)).more (by simp)) (rd_one w13) HD9.out.2.2.2.1 (fun x hx => by simp at hx; subst hx; decide) (by have := HD9.out.2.2.2.2.2; omega) (by decide)).mono ?_
            rintro e w14 ⟨A14, n14, c14, d14, rfl, g1, g2, g3, g4, ⟨g5, g6⟩, hb14⟩
            have HS14 := Lib.hid ((HS13.out.below ((Below.refl _ _).alloc (Nat.le_refl _) (.cells #[.int .u64 1] 54))).below hb14)
            have HD14 := Lib.hid (show n14 ≤ c14 ∧ c14 ≤ 9223372036854775807 ∧ RdK .u64 w14 w14.heap.size A14 n14 d14 ∧ Dig d14 ∧ dv d14 = 2 * Q + 1 ∧ n14 ≤ 1001 from
              ⟨g1, g2, g3, g4, by rw [g5, HD9.out.2.2.2.2.1]; rfl, by have := HD9.out.2.2.2.2.2; have := g3.1; omega⟩)
            clear g1 g2 g3 g4 g5 g6 hb14
            go_wp2_with fail
            exact ⟨⟨j, A12, n12, c12, m12, R * 2 + bit + -C, 2 * Q + 1, A14, n14, c14, d14, rfl, rfl, by omega, HS14.out, HD14, HEND⟩, by simp [RowKit.intOf]⟩
