import Derived.Test.YtmfjnnjjoagbiaaDoorLess
namespace Go.Proofs.YtmfjnnjjoagbiaaDoor
open Go.RowKit Go.Shelf Go.Lib Ar Dg
attribute [local go_sem ↓] Go.wp_at_zero Go.wp_at_succ

/-- two long numbers boxed, and a variable for a third one -/
structure Box2 (w : World) (g : Nat) (A1 A2 : Option Addr) (n1 c1 n2 c2 : Nat) (m1 m2 : Bool) : Prop where
  a0 : w.cell? ⟨g, 0, none⟩ = some (.slice A1 n1 c1)
  a1 : w.cell? ⟨g, 1, none⟩ = some (.bool m1)
  b0 : w.cell? ⟨g + 1, 0, none⟩ = some (.slice A2 n2 c2)
  b1 : w.cell? ⟨g + 1, 1, none⟩ = some (.bool m2)
  v : Var2 w (g + 2)
theorem Box2.below {w w' : World} {g : Nat} {A1 A2 : Option Addr} {n1 c1 n2 c2 : Nat} {m1 m2 : Bool} (h : Box2 w g A1 A2 n1 c1 n2 c2 m1 m2) (hb : Below (g + 3) w w') : Box2 w' g A1 A2 n1 c1 n2 c2 m1 m2 :=
  ⟨(hb.cell (p := ⟨g, 0, none⟩) (by simp)).trans h.a0, (hb.cell (p := ⟨g, 1, none⟩) (by simp)).trans h.a1, (hb.cell (p := ⟨g + 1, 0, none⟩) (by simp)).trans h.b0, (hb.cell (p := ⟨g + 1, 1, none⟩) (by simp)).trans h.b1, h.v.below hb (by omega)⟩
theorem box2_new (w : World) (A1 A2 : Option Addr) (n1 c1 n2 c2 : Nat) (m1 m2 : Bool) :
    Box2 (((w.alloc (.cells #[.slice A1 n1 c1, .bool m1] 37)).alloc (.cells #[.slice A2 n2 c2, .bool m2] 37)).alloc (.cells #[.slice none 0 0, .bool false] 37)) w.heap.size A1 A2 n1 c1 n2 c2 m1 m2 := by
  refine ⟨?_, ?_, ?_, ?_, ?_⟩
  · rw [World.cell?_alloc_lt _ _ _ (by simp; omega), World.cell?_alloc_lt _ _ _ (by simp), World.cell?_alloc_new]; rfl
  · rw [World.cell?_alloc_lt _ _ _ (by simp; omega), World.cell?_alloc_lt _ _ _ (by simp), World.cell?_alloc_new]; rfl
  · rw [World.cell?_alloc_lt _ _ _ (by simp)]
    simp
  · rw [World.cell?_alloc_lt _ _ _ (by simp)]
    simp
  · have := var2_new ((w.alloc (.cells #[.slice A1 n1 c1, .bool m1] 37)).alloc (.cells #[.slice A2 n2 c2, .bool m2] 37)) none 0 0 false 37
    simpa using this

/-- a new world behind 'w1' that keeps what two boxed numbers read -/
structure St (w w1 w2 : World) (A1 A2 : Option Addr) (n1 c1 n2 c2 : Nat) (m1 m2 : Bool) (d1 d2 : List Int) : Prop where
  box : Box2 w2 w.heap.size A1 A2 n1 c1 n2 c2 m1 m2
  r1 : RdK .u64 w2 w2.heap.size A1 n1 d1
  r2 : RdK .u64 w2 w2.heap.size A2 n2 d2
  low : Below w.heap.size w w2
  high : w.heap.size + 3 ≤ w2.heap.size
theorem St.below {w w1 w2 w3 : World} {A1 A2 : Option Addr} {n1 c1 n2 c2 : Nat} {m1 m2 : Bool} {d1 d2 : List Int} (h : St w w1 w2 A1 A2 n1 c1 n2 c2 m1 m2 d1 d2) (hb : Below w2.heap.size w2 w3) : St w w1 w3 A1 A2 n1 c1 n2 c2 m1 m2 d1 d2 :=
  ⟨h.box.below (hb.mono h.high), (h.r1.below hb).more hb.size, (h.r2.below hb).more hb.size, h.low.trans (hb.mono (by have := h.high; omega)), Nat.le_trans h.high hb.size⟩

theorem undrew {B : Nat} {w w2 : World} (h : Below B w.drew w2) : Below B w w2 := ⟨h.os, h.tape, h.output, h.size, h.block⟩

set_option maxHeartbeats 2000000 in
theorem add_same (A1 A2 : Option Addr) (n1 c1 n2 c2 : Nat) (d1 d2 : List Int) (m : Bool) (w : World) (hr1 : RdK .u64 w w.heap.size A1 n1 d1) (hr2 : RdK .u64 w w.heap.size A2 n2 d2) (hd1 : Dig d1) (hd2 : Dig d2) (b1 : n1 ≤ 1000) (b2 : n2 ≤ 1000) :
    Calls Tryd.prog 29 #[.agg #[.slice A1 n1 c1, .bool m], .agg #[.slice A2 n2 c2, .bool m]] w (NumPost w (sgn m (dv d1 + dv d2))) := by
  obtain ⟨w1, hw1⟩ : ∃ w1, ((w.alloc (.cells #[.slice A1 n1 c1, .bool m] 37)).alloc (.cells #[.slice A2 n2 c2, .bool m] 37)).alloc (.cells #[.slice none 0 0, .bool false] 37) = w1 := ⟨_, rfl⟩
  have hlow : Below w.heap.size w w1 := by
    rw [← hw1]; exact (((Below.refl _ _).alloc (Nat.le_refl _) _).alloc (by simp) _).alloc (by simp; omega) _
  have hsz : w1.heap.size = w.heap.size + 3 := by rw [← hw1]; simp
  have hst : St w w1 w1 A1 A2 n1 c1 n2 c2 m m d1 d2 := ⟨hw1 ▸ box2_new w A1 A2 n1 c1 n2 c2 m m, (hr1.below hlow).more hlow.size, (hr2.below hlow).more hlow.size, hlow, by omega⟩
  have HS := Lib.hid hst
  have H := Lib.hid (show Dig d1 ∧ Dig d2 ∧ n1 ≤ 100000 ∧ n2 ≤ 100000 from ⟨hd1, hd2, by omega, by omega⟩)
  have k0 := hst.box.a0
  have k1 := hst.box.a1
  have k2 := hst.box.b0
  have k3 := hst.box.b1
  clear hr1 hr2 hd1 hd2 hlow hsz hst b1 b2
  go_enter Tryd.func29, Tryd.ntmps29
  go_wp2_with fail
  go_region_held3 (fun w' => w'.cell? ⟨w.heap.size, 0, none⟩ = some (.slice A1 n1 c1) ∧ w'.cell? ⟨w.heap.size, 1, none⟩ = some (.bool m) ∧ w'.cell? ⟨w.heap.size + 1, 0, none⟩ = some (.slice A2 n2 c2) ∧ w'.cell? ⟨w.heap.size + 1, 1, none⟩ = some (.bool m))
    (refine ⟨?_, ?_, ?_, ?_⟩ <;> (first | assumption | (rw [set2_other _ _ _ _ _ (by first | (simp; done) | (simp; omega))]; assumption)))
    (first
      | (go_at_call 25; refine (plus_any A1 A2 n1 c1 n2 c2 d1 d2 _ (by exact HS.out.r1) (by exact HS.out.r2) H.out.1 H.out.2.1 H.out.2.2.1 H.out.2.2.2).mono ?_; rintro e w2 ⟨A, n, c, ds, rfl, q1, q2, q3, q4, q5, hb⟩; have HS2 := Lib.hid (HS.out.below (w3 := w2) (undrew hb)); have HQ := Lib.hid (show n ≤ c ∧ c ≤ 9223372036854775807 ∧ RdK .u64 w2 w2.heap.size A n ds ∧ Dig ds ∧ dv ds = dv d1 + dv d2 from ⟨q1, q2, q3, q4, q5.1⟩); clear q1 q2 q3 q4 q5 hb; have j0 := HS2.out.box.a0; have j1 := HS2.out.box.a1; have j2 := HS2.out.box.b0; have j3 := HS2.out.box.b1)
      | (go_at_call 26; refine (norm_num A n c ds m _ HQ.out.2.2.1 HQ.out.2.2.2.1 HQ.out.1 HQ.out.2.1).mono ?_; rintro e w3 ⟨v, rfl, ⟨A3, n3, c3, ds3, m3, rfl, hn⟩, hb⟩; have HS3 := Lib.hid (HS2.out.below hb); have HN := Lib.hid (show NumV w3 w3.heap.size (.agg #[.slice A3 n3 c3, .bool m3]) (sgn m (dv d1 + dv d2)) from ⟨A3, n3, c3, ds3, m3, rfl, by rw [← HQ.out.2.2.2.2]; exact hn⟩); clear hn hb; have j0 := HS3.out.box.a0; have j1 := HS3.out.box.a1; have j2 := HS3.out.box.b0; have j3 := HS3.out.box.b1; obtain ⟨⟨x0, hx0⟩, ⟨x1, hx1⟩, f0, f1, _⟩ := HS3.out.box.v))
  go_wp2_with fail
  exact bodyPost_ret (v := .agg #[.slice A3 n3 c3, .bool m3]) (by simp [results, Tryd.results29, go_sem, hx0, hx1]) rfl
    ⟨_, rfl, (HN.out.store HS3.out.box.v).more (by simp), (HS3.out.low.setCell (by show w.heap.size ≤ w.heap.size + 1 + 1; omega) _).setCell (by show w.heap.size ≤ w.heap.size + 1 + 1; omega) _⟩

set_option maxHeartbeats 2000000 in
theorem add_less (A1 A2 : Option Addr) (n1 c1 n2 c2 : Nat) (d1 d2 : List Int) (m1 m2 : Bool) (w : World) (hr1 : RdK .u64 w w.heap.size A1 n1 d1) (hr2 : RdK .u64 w w.heap.size A2 n2 d2) (hd1 : Dig d1) (hd2 : Dig d2) (ht1 : Top d1) (ht2 : Top d2) (b1 : n1 ≤ 1000) (b2 : n2 ≤ 1000)
    (hne : (m1 == m2) = false) (hlt : dv d1 < dv d2) :
    Calls Tryd.prog 29 #[.agg #[.slice A1 n1 c1, .bool m1], .agg #[.slice A2 n2 c2, .bool m2]] w (NumPost w (sgn m2 (dv d2 - dv d1))) := by
  obtain ⟨w1, hw1⟩ : ∃ w1, ((w.alloc (.cells #[.slice A1 n1 c1, .bool m1] 37)).alloc (.cells #[.slice A2 n2 c2, .bool m2] 37)).alloc (.cells #[.slice none 0 0, .bool false] 37) = w1 := ⟨_, rfl⟩
  have hlow : Below w.heap.size w w1 := by
    rw [← hw1]; exact (((Below.refl _ _).alloc (Nat.le_refl _) _).alloc (by simp) _).alloc (by simp; omega) _
  have hsz : w1.heap.size = w.heap.size + 3 := by rw [← hw1]; simp
  have hst : St w w1 w1 A1 A2 n1 c1 n2 c2 m1 m2 d1 d2 := ⟨hw1 ▸ box2_new w A1 A2 n1 c1 n2 c2 m1 m2, (hr1.below hlow).more hlow.size, (hr2.below hlow).more hlow.size, hlow, by omega⟩
  have hnn : n1 ≤ n2 := by
    rcases Nat.lt_or_ge n2 n1 with h | h
    · have := len_lt hd2 hd1 ht1 (by rw [hr1.1, hr2.1]; exact h); omega
    · exact h
  have HS := Lib.hid hst
  have H := Lib.hid (show Dig d1 ∧ Dig d2 ∧ n1 ≤ 100000 ∧ n2 ≤ 100000 ∧ n1 ≤ n2 ∧ dv d1 ≤ dv d2 ∧ Top d1 ∧ Top d2 from ⟨hd1, hd2, by omega, by omega, hnn, by omega, ht1, ht2⟩)
  have k0 := hst.box.a0
  have k1 := hst.box.a1
  have k2 := hst.box.b0
  have k3 := hst.box.b1
  have hdec : decide (dv d1 < dv d2) = true := by simpa using hlt
  have HDEC := Lib.hid hdec
  clear hr1 hr2 hd1 hd2 ht1 ht2 hlow hsz hst b1 b2 hlt hnn hdec
  go_enter Tryd.func29, Tryd.ntmps29
  go_wp2_with fail
  refine (less_any A1 A2 n1 c1 n2 c2 d1 d2 _ _ HS.out.r1 HS.out.r2 H.out.1 H.out.2.1 H.out.2.2.2.2.2.2.1 H.out.2.2.2.2.2.2.2 H.out.2.2.1 H.out.2.2.2.1).mono ?_; rintro e w2 ⟨rfl, q, rfl⟩
  rw [HDEC.out]
  have HSQ := Lib.hid (HS.out.below (w3 := w1.drewN q) (below_drewN _ _ _))
  have i0 := HSQ.out.box.a0
  have i1 := HSQ.out.box.a1
  have i2 := HSQ.out.box.b0
  have i3 := HSQ.out.box.b1
  generalize w1.drewN q = w2 at *
  go_wp2_with fail
  go_region_held3 (fun w' => w'.cell? ⟨w.heap.size, 0, none⟩ = some (.slice A1 n1 c1) ∧ w'.cell? ⟨w.heap.size, 1, none⟩ = some (.bool m1) ∧ w'.cell? ⟨w.heap.size + 1, 0, none⟩ = some (.slice A2 n2 c2) ∧ w'.cell? ⟨w.heap.size + 1, 1, none⟩ = some (.bool m2))
    (refine ⟨?_, ?_, ?_, ?_⟩ <;> (first | assumption | (rw [set2_other _ _ _ _ _ (by first | (simp; done) | (simp; omega))]; assumption)))
    (first
      | (go_at_call 43; refine (minus_any A2 A1 n2 c2 n1 c1 d2 d1 _ (by exact HSQ.out.r2) (by exact HSQ.out.r1) H.out.2.1 H.out.1 H.out.2.2.2.1 H.out.2.2.2.2.1 H.out.2.2.2.2.2.1).mono ?_; rintro e w4 ⟨A, n, c, ds, rfl, q1, q2, q3, q4, q5, hb⟩; have HS2 := Lib.hid (HSQ.out.below (w3 := w4) (undrew hb)); have HQ := Lib.hid (show n ≤ c ∧ c ≤ 9223372036854775807 ∧ RdK .u64 w4 w4.heap.size A n ds ∧ Dig ds ∧ dv ds = dv d2 - dv d1 from ⟨q1, q2, q3, q4, q5.1⟩); clear q1 q2 q3 q4 q5 hb; have j0 := HS2.out.box.a0; have j1 := HS2.out.box.a1; have j2 := HS2.out.box.b0; have j3 := HS2.out.box.b1)
      | (go_at_call 26; refine (norm_num A n c ds m2 _ HQ.out.2.2.1 HQ.out.2.2.2.1 HQ.out.1 HQ.out.2.1).mono ?_; rintro e w3 ⟨v, rfl, ⟨A3, n3, c3, ds3, m3, rfl, hn⟩, hb⟩; have HS3 := Lib.hid (HS2.out.below hb); have HN := Lib.hid (show NumV w3 w3.heap.size (.agg #[.slice A3 n3 c3, .bool m3]) (sgn m2 (dv d2 - dv d1)) from ⟨A3, n3, c3, ds3, m3, rfl, by rw [← HQ.out.2.2.2.2]; exact hn⟩); clear hn hb; have j0 := HS3.out.box.a0; have j1 := HS3.out.box.a1; have j2 := HS3.out.box.b0; have j3 := HS3.out.box.b1; obtain ⟨⟨x0, hx0⟩, ⟨x1, hx1⟩, f0, f1, _⟩ := HS3.out.box.v))
  go_wp2_with fail
  exact bodyPost_ret (v := .agg #[.slice A3 n3 c3, .bool m3]) (by simp [results, Tryd.results29, go_sem, hx0, hx1]) rfl
    ⟨_, rfl, (HN.out.store HS3.out.box.v).more (by simp), (HS3.out.low.setCell (by show w.heap.size ≤ w.heap.size + 1 + 1; omega) _).setCell (by show w.heap.size ≤ w.heap.size + 1 + 1; omega) _⟩

set_option maxHeartbeats 2000000 in
theorem add_geq (A1 A2 : Option Addr) (n1 c1 n2 c2 : Nat) (d1 d2 : List Int) (m1 m2 : Bool) (w : World) (hr1 : RdK .u64 w w.heap.size A1 n1 d1) (hr2 : RdK .u64 w w.heap.size A2 n2 d2) (hd1 : Dig d1) (hd2 : Dig d2) (ht1 : Top d1) (ht2 : Top d2) (b1 : n1 ≤ 1000) (b2 : n2 ≤ 1000)
    (hne : (m1 == m2) = false) (hlt : dv d2 ≤ dv d1) :
    Calls Tryd.prog 29 #[.agg #[.slice A1 n1 c1, .bool m1], .agg #[.slice A2 n2 c2, .bool m2]] w (NumPost w (sgn m1 (dv d1 - dv d2))) := by
  obtain ⟨w1, hw1⟩ : ∃ w1, ((w.alloc (.cells #[.slice A1 n1 c1, .bool m1] 37)).alloc (.cells #[.slice A2 n2 c2, .bool m2] 37)).alloc (.cells #[.slice none 0 0, .bool false] 37) = w1 := ⟨_, rfl⟩
  have hlow : Below w.heap.size w w1 := by
    rw [← hw1]; exact (((Below.refl _ _).alloc (Nat.le_refl _) _).alloc (by simp) _).alloc (by simp; omega) _
  have hsz : w1.heap.size = w.heap.size + 3 := by rw [← hw1]; simp
  have hst : St w w1 w1 A1 A2 n1 c1 n2 c2 m1 m2 d1 d2 := ⟨hw1 ▸ box2_new w A1 A2 n1 c1 n2 c2 m1 m2, (hr1.below hlow).more hlow.size, (hr2.below hlow).more hlow.size, hlow, by omega⟩
  have hnn : n2 ≤ n1 := by
    rcases Nat.lt_or_ge n1 n2 with h | h
    · have := len_lt hd1 hd2 ht2 (by rw [hr1.1, hr2.1]; exact h); omega
    · exact h
  have HS := Lib.hid hst
  have H := Lib.hid (show Dig d1 ∧ Dig d2 ∧ n1 ≤ 100000 ∧ n2 ≤ 100000 ∧ n2 ≤ n1 ∧ dv d2 ≤ dv d1 ∧ Top d1 ∧ Top d2 from ⟨hd1, hd2, by omega, by omega, hnn, by omega, ht1, ht2⟩)
  have k0 := hst.box.a0
  have k1 := hst.box.a1
  have k2 := hst.box.b0
  have k3 := hst.box.b1
  have hdec : decide (dv d1 < dv d2) = false := by simpa using hlt
  have HDEC := Lib.hid hdec
  clear hr1 hr2 hd1 hd2 ht1 ht2 hlow hsz hst b1 b2 hlt hnn hdec
  go_enter Tryd.func29, Tryd.ntmps29
  go_wp2_with fail
  refine (less_any A1 A2 n1 c1 n2 c2 d1 d2 _ _ HS.out.r1 HS.out.r2 H.out.1 H.out.2.1 H.out.2.2.2.2.2.2.1 H.out.2.2.2.2.2.2.2 H.out.2.2.1 H.out.2.2.2.1).mono ?_; rintro e w2 ⟨rfl, q, rfl⟩
  rw [HDEC.out]
  have HSQ := Lib.hid (HS.out.below (w3 := w1.drewN q) (below_drewN _ _ _))
  have i0 := HSQ.out.box.a0
  have i1 := HSQ.out.box.a1
  have i2 := HSQ.out.box.b0
  have i3 := HSQ.out.box.b1
  generalize w1.drewN q = w2 at *
  go_wp2_with fail
  go_region_held3 (fun w' => w'.cell? ⟨w.heap.size, 0, none⟩ = some (.slice A1 n1 c1) ∧ w'.cell? ⟨w.heap.size, 1, none⟩ = some (.bool m1) ∧ w'.cell? ⟨w.heap.size + 1, 0, none⟩ = some (.slice A2 n2 c2) ∧ w'.cell? ⟨w.heap.size + 1, 1, none⟩ = some (.bool m2))
    (refine ⟨?_, ?_, ?_, ?_⟩ <;> (first | assumption | (rw [set2_other _ _ _ _ _ (by first | (simp; done) | (simp; omega))]; assumption)))
    (first
      | (go_at_call 43; refine (minus_any A1 A2 n1 c1 n2 c2 d1 d2 _ (by exact HSQ.out.r1) (by exact HSQ.out.r2) H.out.1 H.out.2.1 H.out.2.2.1 H.out.2.2.2.2.1 H.out.2.2.2.2.2.1).mono ?_; rintro e w4 ⟨A, n, c, ds, rfl, q1, q2, q3, q4, q5, hb⟩; have HS2 := Lib.hid (HSQ.out.below (w3 := w4) (undrew hb)); have HQ := Lib.hid (show n ≤ c ∧ c ≤ 9223372036854775807 ∧ RdK .u64 w4 w4.heap.size A n ds ∧ Dig ds ∧ dv ds = dv d1 - dv d2 from ⟨q1, q2, q3, q4, q5.1⟩); clear q1 q2 q3 q4 q5 hb; have j0 := HS2.out.box.a0; have j1 := HS2.out.box.a1; have j2 := HS2.out.box.b0; have j3 := HS2.out.box.b1)
      | (go_at_call 26; refine (norm_num A n c ds m1 _ HQ.out.2.2.1 HQ.out.2.2.2.1 HQ.out.1 HQ.out.2.1).mono ?_; rintro e w3 ⟨v, rfl, ⟨A3, n3, c3, ds3, m3, rfl, hn⟩, hb⟩; have HS3 := Lib.hid (HS2.out.below hb); have HN := Lib.hid (show NumV w3 w3.heap.size (.agg #[.slice A3 n3 c3, .bool m3]) (sgn m1 (dv d1 - dv d2)) from ⟨A3, n3, c3, ds3, m3, rfl, by rw [← HQ.out.2.2.2.2]; exact hn⟩); clear hn hb; have j0 := HS3.out.box.a0; have j1 := HS3.out.box.a1; have j2 := HS3.out.box.b0; have j3 := HS3.out.box.b1; obtain ⟨⟨x0, hx0⟩, ⟨x1, hx1⟩, f0, f1, _⟩ := HS3.out.box.v))
  go_wp2_with fail
  exact bodyPost_ret (v := .agg #[.slice A3 n3 c3, .bool m3]) (by simp [results, Tryd.results29, go_sem, hx0, hx1]) rfl
    ⟨_, rfl, (HN.out.store HS3.out.box.v).more (by simp), (HS3.out.low.setCell (by show w.heap.size ≤ w.heap.size + 1 + 1; omega) _).setCell (by show w.heap.size ≤ w.heap.size + 1 + 1; omega) _⟩

/-- small enough for all that is reckoned here -/
def Small (x : Int) : Prop := -pw 1000 < x ∧ x < pw 1000
theorem small_len {m : Bool} {ds : List Int} {x : Int} (hx : Small x) (hd : Dig ds) (ht : Top ds) (e : x = sgn m (dv ds)) : ds.length ≤ 1000 := by
  refine len_le hd ht ?_
  obtain ⟨h1, h2⟩ := hx
  cases m
  · have : x = dv ds := e
    omega
  · have : x = -dv ds := e
    omega

theorem add_num (v1 v2 : Value) (x1 x2 : Int) (w : World) (h1 : NumV w w.heap.size v1 x1) (h2 : NumV w w.heap.size v2 x2) (s1 : Small x1) (s2 : Small x2) :
    Calls Tryd.prog 29 #[v1, v2] w (NumPost w (x1 + x2)) := by
  obtain ⟨A1, n1, c1, d1, m1, rfl, _, _, r1, g1, t1, _, e1⟩ := h1
  obtain ⟨A2, n2, c2, d2, m2, rfl, _, _, r2, g2, t2, _, e2⟩ := h2
  have l1 : n1 ≤ 1000 := by rw [← r1.1]; exact small_len s1 g1 t1 e1
  have l2 : n2 ≤ 1000 := by rw [← r2.1]; exact small_len s2 g2 t2 e2
  by_cases hm : m1 = m2
  · subst hm
    have : x1 + x2 = sgn m1 (dv d1 + dv d2) := by rw [e1, e2]; cases m1 <;> simp [sgn] <;> omega
    rw [this]
    exact add_same A1 A2 n1 c1 n2 c2 d1 d2 m1 w r1 r2 g1 g2 l1 l2
  · have hb : (m1 == m2) = false := by cases m1 <;> cases m2 <;> simp_all
    by_cases hlt : dv d1 < dv d2
    · have : x1 + x2 = sgn m2 (dv d2 - dv d1) := by rw [e1, e2]; cases m1 <;> cases m2 <;> simp_all [sgn] <;> omega
      rw [this]
      exact add_less A1 A2 n1 c1 n2 c2 d1 d2 m1 m2 w r1 r2 g1 g2 t1 t2 l1 l2 hb hlt
    · have : x1 + x2 = sgn m1 (dv d1 - dv d2) := by rw [e1, e2]; cases m1 <;> cases m2 <;> simp_all [sgn] <;> omega
      rw [this]
      exact add_geq A1 A2 n1 c1 n2 c2 d1 d2 m1 m2 w r1 r2 g1 g2 t1 t2 l1 l2 hb (by omega)

theorem not_sgn (m : Bool) (x : Int) : sgn (!m) x = -sgn m x := by cases m <;> simp [sgn]

set_option maxHeartbeats 1000000 in
theorem neg_num (v1 : Value) (x1 : Int) (w : World) (h1 : NumV w w.heap.size v1 x1) :
    Calls Tryd.prog 27 #[v1] w (NumPost w (-x1)) := by
  obtain ⟨A1, n1, c1, d1, m1, rfl, p1, p2, r1, g1, t1, p3, e1⟩ := h1
  have e2 : -x1 = sgn (!m1) (dv d1) := by rw [not_sgn, ← e1]
  rw [e2]
  obtain ⟨w1, hw1⟩ : ∃ w1, (w.alloc (.cells #[.slice A1 n1 c1, .bool m1] 37)).alloc (.cells #[.slice none 0 0, .bool false] 37) = w1 := ⟨_, rfl⟩
  have hlow : Below w.heap.size w w1 := by
    rw [← hw1]; exact ((Below.refl _ _).alloc (Nat.le_refl _) _).alloc (by simp) _
  have hsz : w1.heap.size = w.heap.size + 2 := by rw [← hw1]; simp
  have k0 : w1.cell? ⟨w.heap.size, 0, none⟩ = some (.slice A1 n1 c1) := by
    rw [← hw1, World.cell?_alloc_lt _ _ _ (by simp), World.cell?_alloc_new]; rfl
  have k1 : w1.cell? ⟨w.heap.size, 1, none⟩ = some (.bool m1) := by
    rw [← hw1, World.cell?_alloc_lt _ _ _ (by simp), World.cell?_alloc_new]; rfl
  have hv : Var2 w1 (w.heap.size + 1) := by
    have := var2_new (w.alloc (.cells #[.slice A1 n1 c1, .bool m1] 37)) none 0 0 false 37
    rw [← hw1]; simpa using this
  have H := Lib.hid (show RdK .u64 w1 w1.heap.size A1 n1 d1 ∧ Dig d1 ∧ n1 ≤ c1 ∧ c1 ≤ 9223372036854775807 ∧ Var2 w1 (w.heap.size + 1) ∧ Below w.heap.size w w1 ∧ w1.heap.size = w.heap.size + 2 from ⟨(r1.below hlow).more hlow.size, g1, p1, p2, hv, hlow, hsz⟩)
  clear r1 g1 p1 p2 hv hlow hsz e1 e2 t1 p3
  go_enter Tryd.func27, Tryd.ntmps27
  go_wp2_with fail
  refine (norm_num A1 n1 c1 d1 (!m1) _ H.out.1 H.out.2.1 H.out.2.2.1 H.out.2.2.2.1).mono ?_
  rintro e w3 ⟨v, rfl, ⟨A3, n3, c3, ds3, m3, rfl, hn⟩, hb⟩
  have HN := Lib.hid (show NumV w3 w3.heap.size (.agg #[.slice A3 n3 c3, .bool m3]) (sgn (!m1) (dv d1)) from ⟨A3, n3, c3, ds3, m3, rfl, hn⟩)
  have HV := Lib.hid (H.out.2.2.2.2.1.below hb (by rw [H.out.2.2.2.2.2.2]; omega))
  have HB := Lib.hid (H.out.2.2.2.2.2.1.trans (hb.mono H.out.2.2.2.2.2.1.size))
  clear hn hb
  obtain ⟨⟨x0, hx0⟩, ⟨x1, hx1⟩, f0, f1, _⟩ := HV.out
  go_wp2_with fail
  exact bodyPost_ret (v := .agg #[.slice A3 n3 c3, .bool m3]) (by simp [results, Tryd.results27, go_sem, hx0, hx1]) rfl
    ⟨_, rfl, (HN.out.store HV.out).more (by simp), (HB.out.setCell (Nat.le_succ _) _).setCell (Nat.le_succ _) _⟩
