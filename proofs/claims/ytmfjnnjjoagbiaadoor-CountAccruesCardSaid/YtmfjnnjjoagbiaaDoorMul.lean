import Derived.Test.YtmfjnnjjoagbiaaDoorSd
import Derived.Laws.OwnMore
namespace Go.Proofs.YtmfjnnjjoagbiaaDoor
open Go.RowKit Go.Shelf Go.Lib Ar Dg

def MulRel (w w1 : World) (A1 A2 : Option Addr) (n1 c1 n2 c2 : Nat) (m1 m2 : Bool) (d1 d2 : List Int) (o iv : Value) (wr : World) : Prop :=
  ∃ (i n c : Nat) (A : Option Addr) (os : List Int), iv = .int .i64 i ∧ o = .slice A n c ∧ i ≤ n1 ∧ St w w1 wr A1 A2 n1 c1 n2 c2 m1 m2 d1 d2 ∧ Hid (n ≤ c ∧ c ≤ 9223372036854775807 ∧ RdK .u64 wr wr.heap.size A n os ∧ Dig os ∧ dv os = pre d1 i * dv d2 ∧ n ≤ n2 + 2 * i)

theorem zeros_row (i : Nat) : (madeCells (Value.int .u64 0).cells (i * 1)).toList = (List.replicate i (0 : Int)).map (Value.int .u64) := by
  rw [Nat.mul_one, show (Value.int .u64 0).cells = #[.int .u64 0] from rfl, toList_madeCells_one, List.map_replicate]

def RowRel (wb : World) (d2 : List Int) (n2 i : Nat) (x : Int) (row cv kv : Value) (wr : World) : Prop :=
  ∃ (k : Nat) (c : Int) (os : List Int), kv = .int .i64 k ∧ cv = .int .u64 c ∧ k ≤ n2 ∧ 0 ≤ c ∧ c < 65536 ∧ wr.ownsRow wb.heap.size 54 1 row (i + k) (os.map (Value.int .u64)) ∧ Below wb.heap.size wb wr ∧
    Hid (os.length = i + k ∧ Dig os ∧ dv os + pw (i + k) * c = pw i * (x * pre d2 k))

set_option maxHeartbeats 4000000 in
theorem mul_walk (A1 A2 : Option Addr) (n1 c1 n2 c2 : Nat) (d1 d2 : List Int) (m1 m2 : Bool) (w : World) (hr1 : RdK .u64 w w.heap.size A1 n1 d1) (hr2 : RdK .u64 w w.heap.size A2 n2 d2) (hd1 : Dig d1) (hd2 : Dig d2) (b1 : n1 ≤ 1000) (b2 : n2 ≤ 1000) :
    Calls Tryd.prog 13 #[.agg #[.slice A1 n1 c1, .bool m1], .agg #[.slice A2 n2 c2, .bool m2]] w (NumPost w (sgn (m1 != m2) (dv d1 * dv d2))) := by
  obtain ⟨i0, hi, hz0, hz1, hz2⟩ := info_parts info46
  obtain ⟨w1, hw1⟩ : ∃ w1, ((w.alloc (.cells #[.slice A1 n1 c1, .bool m1] 37)).alloc (.cells #[.slice A2 n2 c2, .bool m2] 37)).alloc (.cells #[.slice none 0 0, .bool false] 37) = w1 := ⟨_, rfl⟩
  have hlow : Below w.heap.size w w1 := by
    rw [← hw1]; exact (((Below.refl _ _).alloc (Nat.le_refl _) _).alloc (by simp) _).alloc (by simp; omega) _
  have hsz : w1.heap.size = w.heap.size + 3 := by rw [← hw1]; simp
  have hst : St w w1 w1 A1 A2 n1 c1 n2 c2 m1 m2 d1 d2 := ⟨hw1 ▸ box2_new w A1 A2 n1 c1 n2 c2 m1 m2, (hr1.below hlow).more hlow.size, (hr2.below hlow).more hlow.size, hlow, by omega⟩
  have HS1 := Lib.hid hst
  have H := Lib.hid (show Dig d1 ∧ Dig d2 ∧ d1.length = n1 ∧ d2.length = n2 from ⟨hd1, hd2, hr1.1, hr2.1⟩)
  clear hr1 hr2 hd1 hd2 hlow hsz hst
  go_enter Tryd.func13, Tryd.ntmps13
  go_wp2_with fail
  go_loopw [5, 6] (fun o i wr => MulRel w w1 A1 A2 n1 c1 n2 c2 m1 m2 d1 d2 o i wr) (fun _ i _ => n1 - (RowKit.intOf i).toNat)
  case atStart =>
    exact ⟨0, 0, 0, none, [], rfl, rfl, Nat.zero_le _, HS1.out, Nat.le_refl _, by decide, ⟨rfl, fun j hj => absurd hj (Nat.not_lt_zero _)⟩, (fun x hx => nomatch hx), by rw [pre_zero]; simp [dv], by omega⟩
  case round =>
    obtain ⟨wo, rfl⟩ : ∃ wo : World, wo = wr := ⟨_, rfl⟩
    obtain ⟨i, n, c, A, os, rfl, rfl, hiN, hst, hm⟩ := hrel
    have HS := Lib.hid hst; clear hst
    have k0 := HS.out.box.a0
    have k1 := HS.out.box.a1
    have k2 := HS.out.box.b0
    have k3 := HS.out.box.b1
    by_cases hgo : i < n1
    · obtain ⟨xb, xo, rfl, hxb, rx⟩ := HS.out.r1.2 i hgo
      have hx := H.out.1.getD i
      obtain ⟨x, ex⟩ : ∃ x, d1.getD i 0 = x := ⟨_, rfl⟩
      rw [ex] at hx rx
      obtain ⟨x0, x1⟩ := hx
      have HX := Lib.hid (show d1.getD i 0 = x ∧ xb < wo.heap.size from ⟨ex, hxb⟩)
      clear ex hxb
      have p1 : (i : Int) < (n1 : Int) := by omega
      have p0 : (0 : Int) ≤ (i : Int) := by omega
      go_wp2_with (at_make; refine wpList_make_full _ rfl _ _ 35 rfl wo.heap.size 54 i0 (.int .u64 0) 1 Tryd.underlying35 hi hz0 hz1 .i64 .i64 _ _ i rfl rfl rfl rfl (by rw [hz2]; omega) (by unfold maxLen; omega) (Nat.le_refl _) ?_; intro w2 hown hgrow; have HB := Lib.hid ((Below.refl wo.heap.size wo).grown hgrow (Nat.le_refl _) (fun k hk => nomatch hk)); clear hgrow)
      rw [zeros_row] at hown
      have HO0 := Lib.hid hown; clear hown
      go_loopw [7, 8, 9] (fun row cv kv wr => RowRel wo d2 n2 i x row cv kv wr) (fun _ _ kv _ => n2 - (RowKit.intOf kv).toNat)
      case atStart => exact ⟨0, 0, List.replicate i 0, rfl, rfl, Nat.zero_le _, by decide, by decide, HO0.out, HB.out, by simp, dig_zeros i, by rw [dv_zeros, pre_zero]; simp⟩
      case round =>
        obtain ⟨k, cc, rs, rfl, rfl, hkN, c0, c1, hown, hb, hmr⟩ := hrel
        have HBR := Lib.hid hb; clear hb
        have HS2 := Lib.hid (HS.out.below HBR.out)
        have j0 := HS2.out.box.a0
        have j1 := HS2.out.box.a1
        have j2 := HS2.out.box.b0
        have j3 := HS2.out.box.b1
        have rx2 := (HBR.out.cell (p := ⟨xb, xo + i, none⟩) HX.out.2).trans rx
        by_cases hk : k < n2
        · obtain ⟨yb, yo, rfl, _, ry⟩ := HS2.out.r2.2 k hk
          have hy := H.out.2.1.getD k
          obtain ⟨y, ey⟩ : ∃ y, d2.getD k 0 = y := ⟨_, rfl⟩
          rw [ey] at hy ry
          obtain ⟨y0, y1⟩ := hy
          obtain ⟨s0, s1, s2, s3⟩ := mul_bd x0 x1 y0 y1 c0 c1
          have HM := Lib.hid (show (rs ++ [(x * y + cc) % 65536]).length = i + (k + 1) ∧ Dig (rs ++ [(x * y + cc) % 65536]) ∧ dv (rs ++ [(x * y + cc) % 65536]) + pw (i + (k + 1)) * ((x * y + cc) / 65536) = pw i * (x * pre d2 (k + 1)) from
            ⟨by rw [List.length_append, hmr.out.1]; rfl, hmr.out.2.1.snoc (by omega) (by omega), mul_step hmr.out.1 hmr.out.2.2 (by rw [ey])⟩)
          clear ey hmr
          have q1 : (k : Int) < (n2 : Int) := by omega
          have q0 : (0 : Int) ≤ (k : Int) := by omega
          go_wp2_with fail
          go_quiet (fail)
          have hown2 : (wr.drewN nq).ownsRow wo.heap.size 54 1 u7 (i + k) (rs.map (Value.int .u64)) := hown
          have HB2 := Lib.hid (show Below wo.heap.size wo (wr.drewN nq) from HBR.out.trans (below_drewN _ _ _))
          clear hown
          generalize wr.drewN nq = w4 at *
          go_wp2_with (at_builtin; refine wpList_append_own _ rfl _ _ 35 rfl wo.heap.size 54 i0 (.int .u64 0) 1 8 Tryd.underlying35 hi hz0 hz1 hz2 rfl (by decide) u7 (i + k) (rs.map (Value.int .u64)) rfl (hown2.alloc _) ⟨w4.heap.size, 0, none⟩ 1 1 [.int .u64 ((x * y + cc) % 65536)] rfl rfl (news1 _ _ _) (one64 _) (by unfold maxLen; omega) (by omega) (le_alloc HB2.out (Nat.le_refl _) _) ?_; intro v' w5 hown' hgrow _; have HB1 := Lib.hid ((HB2.out.alloc HB2.out.size _).grown hgrow (le_alloc HB2.out (Nat.le_refl _) _) (own_block hown2)); clear hgrow)
          exact ⟨⟨k + 1, _, _, by go_num, rfl, by omega, by omega, by omega, by rw [List.map_append]; exact hown', HB1.out, HM⟩, by simp [RowKit.intOf]; omega⟩
        · obtain rfl : k = n2 := by omega
          go_wp2_with (at_builtin; refine wpList_append_own _ rfl _ _ 35 rfl wo.heap.size 54 i0 (.int .u64 0) 1 8 Tryd.underlying35 hi hz0 hz1 hz2 rfl (by decide) u7 (i + k) (rs.map (Value.int .u64)) rfl (hown.alloc _) ⟨wr.heap.size, 0, none⟩ 1 1 [.int .u64 cc] rfl rfl (news1 _ _ _) (one64 _) (by unfold maxLen; omega) (by omega) (le_alloc HBR.out (Nat.le_refl _) _) ?_; intro v' w5 hown' hgrow _; have HB1 := Lib.hid ((HBR.out.alloc HBR.out.size _).grown hgrow (le_alloc HBR.out (Nat.le_refl _) _) (own_block hown)); clear hgrow hown)
          obtain ⟨Ar, cr, rfl⟩ := own_form hown'
          have hrow : RdK .u64 w5 w5.heap.size Ar (i + k + 1) (rs ++ [cc]) := RdK.of_own (by rw [List.map_append]; exact hown')
          have hst5 := HS.out.below HB1.out
          have HR5 := Lib.hid (show RdK .u64 w5 w5.heap.size A n os ∧ Dig os ∧ RdK .u64 w5 w5.heap.size Ar (i + k + 1) (rs ++ [cc]) ∧ Dig (rs ++ [cc]) ∧ n ≤ 100000 from
            ⟨(hm.out.2.2.1.below HB1.out).more HB1.out.size, hm.out.2.2.2.1, hrow, hmr.out.2.1.snoc c0 c1, by have := hm.out.2.2.2.2.2; omega⟩)
          have HV := Lib.hid (show dv os + dv (rs ++ [cc]) = pre d1 (i + 1) * dv d2 from by
            have h1 := hmr.out.2.2
            rw [pre_all d2 k (by rw [H.out.2.2.2]; exact Nat.le_refl _)] at h1
            rw [dv_snoc, hmr.out.1, h1, hm.out.2.2.2.2.1, pre_succ, HX.out.1]; grind)
          have HS5 := Lib.hid hst5
          clear hown' hrow hst5
          refine (plus_any A Ar n c (i + k + 1) cr os (rs ++ [cc]) w5 HR5.out.1 HR5.out.2.2.1 HR5.out.2.1 HR5.out.2.2.2.1 HR5.out.2.2.2.2 (by omega)).mono ?_
          rintro e w6 ⟨A6, n6, c6, ds6, rfl, h1, h2, h3, h4, ⟨h5, h6⟩, hb6⟩
          have HS6 := Lib.hid (HS5.out.below hb6)
          have HQ := Lib.hid (show n6 ≤ c6 ∧ c6 ≤ 9223372036854775807 ∧ RdK .u64 w6 w6.heap.size A6 n6 ds6 ∧ Dig ds6 ∧ dv ds6 = pre d1 (i + 1) * dv d2 ∧ n6 ≤ k + 2 * (i + 1) from
            ⟨h1, h2, h3, h4, by rw [h5, HV.out], by have := h3.1; have := hm.out.2.2.2.2.2; omega⟩)
          clear h1 h2 h3 h4 h5 h6 hb6
          go_wp2_with fail
          exact ⟨⟨i + 1, n6, c6, A6, ds6, by go_num, rfl, by omega, HS6.out, HQ⟩, by simp [RowKit.intOf]; omega⟩
    · obtain rfl : i = n1 := by omega
      have HV := Lib.hid (show dv os = dv d1 * dv d2 from by rw [hm.out.2.2.2.2.1, pre_all d1 i (by rw [H.out.2.2.1]; exact Nat.le_refl _)])
      go_wp2_with fail
      refine (norm_num A n c os (m1 != m2) _ hm.out.2.2.1 hm.out.2.2.2.1 hm.out.1 hm.out.2.1).mono ?_
      rintro e w3 ⟨v, rfl, ⟨A3, n3, c3, ds3, m3, rfl, hn⟩, hb⟩
      have HS3 := Lib.hid (HS.out.below hb)
      have HN := Lib.hid (show NumV w3 w3.heap.size (.agg #[.slice A3 n3 c3, .bool m3]) (sgn (m1 != m2) (dv d1 * dv d2)) from ⟨A3, n3, c3, ds3, m3, rfl, by rw [← HV.out]; exact hn⟩)
      clear hn hb
      obtain ⟨⟨x0, hx0⟩, ⟨x1, hx1⟩, f0, f1, _⟩ := HS3.out.box.v
      go_wp2_with fail
      exact bodyPost_ret (v := .agg #[.slice A3 n3 c3, .bool m3]) (by simp [results, Tryd.results13, go_sem, hx0, hx1]) rfl
        ⟨_, rfl, (HN.out.store HS3.out.box.v).more (by simp), (HS3.out.low.setCell (by show w.heap.size ≤ w.heap.size + 1 + 1; omega) _).setCell (by show w.heap.size ≤ w.heap.size + 1 + 1; omega) _⟩

theorem mul_num (v1 v2 : Value) (x1 x2 : Int) (w : World) (h1 : NumV w w.heap.size v1 x1) (h2 : NumV w w.heap.size v2 x2) (s1 : Small x1) (s2 : Small x2) :
    Calls Tryd.prog 13 #[v1, v2] w (NumPost w (x1 * x2)) := by
  obtain ⟨A1, n1, c1, d1, m1, rfl, _, _, r1, g1, t1, _, e1⟩ := h1
  obtain ⟨A2, n2, c2, d2, m2, rfl, _, _, r2, g2, t2, _, e2⟩ := h2
  have l1 : n1 ≤ 1000 := by rw [← r1.1]; exact small_len s1 g1 t1 e1
  have l2 : n2 ≤ 1000 := by rw [← r2.1]; exact small_len s2 g2 t2 e2
  have : x1 * x2 = sgn (m1 != m2) (dv d1 * dv d2) := by rw [e1, e2]; cases m1 <;> cases m2 <;> simp [sgn, Int.neg_mul, Int.mul_neg]
  rw [this]
  exact mul_walk A1 A2 n1 c1 n2 c2 d1 d2 m1 m2 w r1 r2 g1 g2 l1 l2
