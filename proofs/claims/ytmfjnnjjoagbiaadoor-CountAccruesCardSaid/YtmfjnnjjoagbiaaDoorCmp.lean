import Derived.Test.YtmfjnnjjoagbiaaDoorTw
namespace Go.Proofs.YtmfjnnjjoagbiaaDoor
open Go.RowKit Go.Shelf Go.Lib Ar Dg
attribute [local go_sem ↓] Go.wp_at_zero Go.wp_at_succ

/-- what was there reads as it did, and is marked as it was: two rules for the walk -/
theorem old_cells {W w1 : World} (hb : Below W.heap.size W w1) : (∀ b o, b < W.heap.size → w1.cell? ⟨b, o, none⟩ = W.cell? ⟨b, o, none⟩) ∧ (∀ b o, b < W.heap.size → w1.frozen? ⟨b, o, none⟩ = W.frozen? ⟨b, o, none⟩) :=
  ⟨fun b o h => hb.cell (p := ⟨b, o, none⟩) h, fun b o h => hb.frozen (p := ⟨b, o, none⟩) h⟩

def cmpv (d : Int) : Int := if d = 0 then 0 else if d < 0 then -1 else 1

set_option maxHeartbeats 2000000 in
theorem cmp_num (v1 v2 : Value) (x y : Int) (w : World) (h1 : NumV w w.heap.size v1 x) (h2 : NumV w w.heap.size v2 y) (s1 : Small x) (s2 : Small (-y)) :
    Calls Tryd.prog 30 #[v1, v2] w fun e w' => e = .returned (.int .i64 (cmpv (x - y))) ∧ Below w.heap.size w w' := by
  have h1' := h1
  have h2' := h2
  obtain ⟨A1, n1, c1, d1, m1, rfl, hh1⟩ := h1'
  obtain ⟨A2, n2, c2, d2, m2, rfl, hh2⟩ := h2'
  clear hh1 hh2
  obtain ⟨w1, hw1⟩ : ∃ w1, (w.alloc (.cells #[.slice A1 n1 c1, .bool m1] 37)).alloc (.cells #[.slice A2 n2 c2, .bool m2] 37) = w1 := ⟨_, rfl⟩
  have hlow : Below w.heap.size w w1 := by rw [← hw1]; exact ((Below.refl _ _).alloc (Nat.le_refl _) _).alloc (by simp) _
  have hst : TwoSt w w.heap.size (w.heap.size + 1) w1 A1 A2 n1 c1 n2 c2 m1 m2 x y := by
    refine ⟨?_, ?_, ?_, ?_, (h1.below hlow).more hlow.size, (h2.below hlow).more hlow.size, hlow, hlow.size, by rw [← hw1]; simp; omega, by rw [← hw1]; simp⟩
    · rw [← hw1, World.cell?_alloc_lt _ _ _ (by simp), World.cell?_alloc_new]; rfl
    · rw [← hw1, World.cell?_alloc_lt _ _ _ (by simp), World.cell?_alloc_new]; rfl
    · rw [← hw1]; simp
    · rw [← hw1]; simp
  have HSc := Lib.hid hst
  have SM := Lib.hid (show Small x ∧ Small (-y) ∧ x + -y = x - y from ⟨s1, s2, by omega⟩)
  have k0 := hst.a0
  have k1 := hst.a1
  have k2 := hst.b0
  have k3 := hst.b1
  have HG1 := Lib.hid hst.hg
  have l1 := hst.h1
  have l2 := hst.h2
  have e0 := World.new_ne w1 _ k0
  have e1 := World.new_ne w1 _ k1
  have e2 := World.new_ne w1 _ k2
  have e3 := World.new_ne w1 _ k3
  clear h1 h2 hlow hst s1 s2
  go_enter Tryd.func30, Tryd.ntmps30
  go_wp2_with fail
  go_region_held3 (fun w' => w'.cell? ⟨w.heap.size, 0, none⟩ = some (.slice A1 n1 c1) ∧ w'.cell? ⟨w.heap.size, 1, none⟩ = some (.bool m1) ∧ w'.cell? ⟨w.heap.size + 1, 0, none⟩ = some (.slice A2 n2 c2) ∧ w'.cell? ⟨w.heap.size + 1, 1, none⟩ = some (.bool m2))
    (refine ⟨?_, ?_, ?_, ?_⟩ <;> (first | assumption | (rw [World.cell?_alloc_lt _ _ _ (World.block_lt_of_cell? _ _ (by assumption))]; assumption) | (rw [set2_other _ _ _ _ _ (by first | exact Nat.ne_of_lt l1 | exact Nat.ne_of_lt l2 | exact Nat.ne_of_lt l3 | exact Nat.ne_of_lt l4)]; assumption) | go_keep))
    (first
    | (go_at_call 27; refine (neg_num _ y _ (by exact (HSc.out.below (by (first | exact Below.refl _ _ | exact (Below.refl _ _).drew | exact (Below.refl _ _).drew.alloc (Nat.le_refl _) _ | exact (Below.refl _ _).alloc (Nat.le_refl _) _))).ny)).mono ?_; rintro e w6 ⟨v7, rfl, hn, hb⟩; have HB6 := hb; have HSc := Lib.hid ((HSc.out.below (by (first | exact Below.refl _ _ | exact (Below.refl _ _).drew | exact (Below.refl _ _).drew.alloc (Nat.le_refl _) _ | exact (Below.refl _ _).alloc (Nat.le_refl _) _))).below HB6); obtain ⟨hc, hf⟩ := old_cells hb; have l3 := HSc.out.h1; have l4 := HSc.out.h2; have HNn := Lib.hid hn; have HG6 := Lib.hid HSc.out.hg; have HZ := Lib.hid hb.size; (first | have HVn := Lib.hid (show Var2 w6 w1.heap.size ∧ w1.heap.size < w6.heap.size from ⟨Var2.below (w := (w1.alloc (.cells #[.slice none 0 0, .bool false] 37)).drew) (var2_new w1 none 0 0 false 37) hb (by simp), Nat.lt_of_lt_of_le (by simp) hb.size⟩) | skip); have j0 := HSc.out.a0; have j1 := HSc.out.a1; have j2 := HSc.out.b0; have j3 := HSc.out.b1; have i0 := World.new_ne _ _ j0; have i1 := World.new_ne _ _ j1; have i2 := World.new_ne _ _ j2; have i3 := World.new_ne _ _ j3; clear hn hb HB6)
    | (go_at_call 29; refine (add_num _ _ x (-y) _ (by exact (HSc.out.below (by (first | exact Below.refl _ _ | exact (Below.refl _ _).drew | exact (Below.refl _ _).drew.alloc (Nat.le_refl _) _ | exact (Below.refl _ _).alloc (Nat.le_refl _) _))).nx) (by exact (HNn.out.below (by (first | exact Below.refl _ _ | exact (Below.refl _ _).drew | exact (Below.refl _ _).drew.alloc (Nat.le_refl _) _ | exact (Below.refl _ _).alloc (Nat.le_refl _) _))).more (by simp)) SM.out.1 SM.out.2.1).mono ?_; rintro e w7 ⟨v, rfl, ⟨A3, n3, c3, d3, m3, rfl, hn⟩, hb⟩; have HB6 := hb; have HSc := Lib.hid ((HSc.out.below (by (first | exact Below.refl _ _ | exact (Below.refl _ _).drew | exact (Below.refl _ _).drew.alloc (Nat.le_refl _) _ | exact (Below.refl _ _).alloc (Nat.le_refl _) _))).below HB6); obtain ⟨hc, hf⟩ := old_cells hb; have HN := Lib.hid hn; have HZ := Lib.hid hb.size; (first | (obtain ⟨⟨x0, hx0⟩, ⟨x1, hx1⟩, f0, f1, _⟩ := HVn.out.1.below hb HVn.out.2) | (obtain ⟨⟨x0, hx0⟩, ⟨x1, hx1⟩, f0, f1, _⟩ := (var2_new w6 none 0 0 false 37).below hb (by simp)) | skip); have j0 := HSc.out.a0; have j1 := HSc.out.a1; have j2 := HSc.out.b0; have j3 := HSc.out.b1; have i0 := World.new_ne _ _ j0; have i1 := World.new_ne _ _ j1; have i2 := World.new_ne _ _ j2; have i3 := World.new_ne _ _ j3; clear hn hb HB6))
  all_goals
    have hres : (n3 = 0 ∧ Hid (cmpv (x - y) = 0)) ∨ (0 < n3 ∧ m3 = true ∧ Hid (cmpv (x - y) = -1)) ∨ (0 < n3 ∧ m3 = false ∧ Hid (cmpv (x - y) = 1)) := by
      obtain ⟨_, _, r3, g3, t3, _, e3⟩ := HN.out
      rw [SM.out.2.2] at e3
      have hl := r3.1
      rcases Nat.eq_zero_or_pos n3 with h0 | h0
      · subst h0
        have : dv d3 = 0 := (zero_nil g3 t3).2 (List.length_eq_zero_iff.1 hl)
        refine .inl ⟨rfl, ?_⟩
        have : x - y = 0 := by rw [e3, this]; cases m3 <;> rfl
        show cmpv (x - y) = 0
        unfold cmpv; exact if_pos this
      · have h1 := top_lo g3 t3 (by omega)
        have h2 := pw_pos (d3.length - 1)
        cases m3
        · have e4 : x - y = dv d3 := e3
          refine .inr (.inr ⟨h0, rfl, ?_⟩)
          show cmpv (x - y) = 1
          unfold cmpv; rw [if_neg (by omega), if_neg (by omega)]
        · have e4 : x - y = -dv d3 := e3
          refine .inr (.inl ⟨h0, rfl, ?_⟩)
          show cmpv (x - y) = -1
          unfold cmpv; rw [if_neg (by omega), if_pos (by omega)]
    rcases hres with ⟨rfl, hr⟩ | ⟨hp, rfl, hr⟩ | ⟨hp, rfl, hr⟩
    · go_wp2_with fail
      go_ret
      exact ⟨congrArg (fun z => Ending.returned (Value.int .i64 z)) hr.out.symm, by first | exact HSc.out.low.alloc HSc.out.hg _ | exact (HSc.out.low.setCell HG6.out _).setCell HG6.out _ | exact (HSc.out.low.setCell HG1.out _).setCell HG1.out _⟩
    · have hz : ((n3 : Int) == 0) = false := by rw [beq_eq_false_iff_ne]; omega
      go_wp2_with fail
      go_ret
      exact ⟨congrArg (fun z => Ending.returned (Value.int .i64 z)) hr.out.symm, by first | exact HSc.out.low.alloc HSc.out.hg _ | exact (HSc.out.low.setCell HG6.out _).setCell HG6.out _ | exact (HSc.out.low.setCell HG1.out _).setCell HG1.out _⟩
    · have hz : ((n3 : Int) == 0) = false := by rw [beq_eq_false_iff_ne]; omega
      go_wp2_with fail
      go_ret
      exact ⟨congrArg (fun z => Ending.returned (Value.int .i64 z)) hr.out.symm, by first | exact HSc.out.low.alloc HSc.out.hg _ | exact (HSc.out.low.setCell HG6.out _).setCell HG6.out _ | exact (HSc.out.low.setCell HG1.out _).setCell HG1.out _⟩
