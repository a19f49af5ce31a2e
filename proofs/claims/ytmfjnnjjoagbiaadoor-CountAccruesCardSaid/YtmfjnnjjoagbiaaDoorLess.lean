import Derived.Test.YtmfjnnjjoagbiaaDoorOf
namespace Go.Proofs.YtmfjnnjjoagbiaaDoor
open Go.RowKit Go.Shelf Go.Lib Ar Dg

set_option maxHeartbeats 1000000 in
theorem less_any (A1 A2 : Option Addr) (n1 c1 n2 c2 : Nat) (d1 d2 : List Int) (w : World) (B : Nat) (hr1 : RdK .u64 w B A1 n1 d1) (hr2 : RdK .u64 w B A2 n2 d2) (hd1 : Dig d1) (hd2 : Dig d2) (ht1 : Top d1) (ht2 : Top d2) (b1 : n1 ≤ 100000) (b2 : n2 ≤ 100000) :
    Calls Tryd.prog 42 #[.slice A1 n1 c1, .slice A2 n2 c2] w fun e w' => e = .returned (.bool (decide (dv d1 < dv d2))) ∧ ∃ q, w' = w.drewN q := by
  have H := Lib.hid (show RdK .u64 w B A1 n1 d1 ∧ RdK .u64 w B A2 n2 d2 ∧ Dig d1 ∧ Dig d2 from ⟨hr1, hr2, hd1, hd2⟩)
  have hl1 := hr1.1
  have hl2 := hr2.1
  by_cases hne : n1 = n2
  · have e0 : ((n1 : Int) != (n2 : Int)) = false := by rw [bne_eq_false_iff_eq, hne]
    subst hne
    clear hr1 hr2 hd1 hd2 ht1 ht2
    have HL := Lib.hid (show d1.length = n1 ∧ d2.length = n1 from ⟨hl1, hl2⟩)
    clear hl1 hl2
    go_enter Tryd.func42, Tryd.ntmps42
    go_wp2_with fail
    go_loopw [5] (fun i wr => ∃ (k q : Nat), k ≤ n1 ∧ i = .int .i64 ((k : Int) - 1) ∧ Hid (∀ j, k ≤ j → d1.getD j 0 = d2.getD j 0) ∧ wr = w.drewN q) (fun i _ => ((RowKit.intOf i) + 1).toNat)
    case atStart =>
      refine ⟨n1, 0, Nat.le_refl _, rfl, fun j hj => ?_, rfl⟩
      rw [List.getD_eq_getElem?_getD, List.getD_eq_getElem?_getD, List.getElem?_eq_none (by rw [HL.out.1]; exact hj), List.getElem?_eq_none (by rw [HL.out.2]; exact hj)]
    case round =>
      obtain ⟨k, q, hk, rfl, hsame, rfl⟩ := hrel
      rcases Nat.eq_zero_or_pos k with h0 | h0
      · subst h0
        have HF := Lib.hid (show decide (dv d1 < dv d2) = false by
          rw [same_dv (fun j => hsame.out j (Nat.zero_le _))]; simp)
        go_wp2_with fail
        go_ret
        exact ⟨by rw [HF.out]; rfl, _, rfl⟩
      · obtain ⟨j, rfl⟩ : ∃ j, k = j + 1 := ⟨k - 1, by omega⟩
        obtain ⟨x1, o1, rfl, _, r1⟩ := H.out.1.2 j (by omega)
        obtain ⟨x2, o2, rfl, _, r2⟩ := H.out.2.1.2 j (by omega)
        have ej : ((j + 1 : Nat) : Int) - 1 = (j : Int) := by omega
        rw [ej]
        have hj1 : (j : Int) < (n1 : Int) := by omega
        have HA := Lib.hid (show ∀ i, j < i → d1.getD i 0 = d2.getD i 0 from fun i hi => hsame.out i hi)
        obtain ⟨x, ex⟩ : ∃ x, d1.getD j 0 = x := ⟨_, rfl⟩
        obtain ⟨y, ey⟩ : ∃ y, d2.getD j 0 = y := ⟨_, rfl⟩
        rw [ex] at r1
        rw [ey] at r2
        have HX := Lib.hid (show d1.getD j 0 = x ∧ d2.getD j 0 = y from ⟨ex, ey⟩)
        clear ex ey ej hsame
        by_cases hxy : x = y
        · subst hxy
          have HS := Lib.hid (show ∀ i, j ≤ i → d1.getD i 0 = d2.getD i 0 from fun i hi => by
            rcases Nat.lt_or_ge j i with h | h
            · exact HA.out i h
            · obtain rfl : i = j := by omega
              rw [HX.out.1, HX.out.2])
          go_wp2_with fail
          go_quiet (fail)
          go_wp2_with fail
          exact ⟨⟨j, _, by omega, rfl, HS.out, rfl⟩, by simp [RowKit.intOf]⟩
        · have e1 : (x != y) = true := by rw [bne_iff_ne]; exact hxy
          have HF := Lib.hid (show decide (dv d1 < dv d2) = decide (x < y) by
            rcases Int.lt_or_gt_of_ne hxy with h | h
            · have := at_lt H.out.2.2.1 j HA.out (by rw [HX.out.1, HX.out.2]; exact h) H.out.2.2.2
              simp [h, this]
            · have := at_lt H.out.2.2.2 j (fun i hi => (HA.out i hi).symm) (by rw [HX.out.1, HX.out.2]; exact h) H.out.2.2.1
              simp; omega)
          clear hxy
          go_wp2_with fail
          go_quiet (fail)
          go_wp2_with fail
          go_quiet (fail)
          go_wp2_with fail
          go_ret
          first | exact ⟨by rw [HF.out]; rfl, _, rfl⟩ | exact ⟨by rw [HF.out]; rfl, _, World.drewN_drewN _ _ _⟩ | exact ⟨by rw [HF.out]; simp, _, World.drewN_drewN _ _ _⟩ | exact ⟨by rw [HF.out]; rfl, _, by rw [World.drewN_drewN, World.drewN_drewN]⟩
  · have e0 : ((n1 : Int) != (n2 : Int)) = true := by rw [bne_iff_ne]; omega
    have HF := Lib.hid (show decide (dv d1 < dv d2) = decide (n1 < n2) by
      rcases Nat.lt_or_gt_of_ne hne with h | h
      · have := len_lt hd1 hd2 ht2 (by omega)
        simp [h, this]
      · have := len_lt hd2 hd1 ht1 (by omega)
        simp; omega)
    clear hr1 hr2 hd1 hd2 ht1 ht2 hl1 hl2
    go_enter Tryd.func42, Tryd.ntmps42
    go_wp2_with fail
    go_ret
    exact ⟨by rw [HF.out]; simp, 0, rfl⟩

theorem at_val (A : Option Addr) (n c : Nat) (ds : List Int) (i : Nat) (y : Int) (w : World) (B : Nat) (hr : RdK .u64 w B A n ds) (hy : ds.getD i 0 = y) :
    Calls Tryd.prog 41 #[.slice A n c, .int .i64 (i : Int)] w fun e w' => e = .returned (.int .u64 y) ∧ w' = w :=
  (at_any A n c ds i w B hr).mono fun _ _ h => ⟨by rw [← hy]; exact h.1, h.2.symm⟩

theorem field25 (x y : Value) (w : World) : (Instr.field 37 (.agg #[x, y]) 0).run Tryd.prog w = .ok x w := by kernel_rfl

def MinusRel (w : World) (d1 d2 : List Int) (n1 : Nat) (o cv iv : Value) (wr : World) : Prop :=
  ∃ (i : Nat) (c : Int) (os : List Int), iv = .int .i64 i ∧ cv = .int .u64 c ∧ 0 ≤ c ∧ c ≤ 1 ∧ i ≤ n1 ∧ wr.ownsRow w.heap.size 54 1 o i (os.map (Value.int .u64)) ∧ Below w.heap.size w wr ∧
    Hid (os.length = i ∧ Dig os ∧ dv os - pw i * c = pre d1 i - pre d2 i)

set_option maxHeartbeats 1000000 in
theorem minus_any (A1 A2 : Option Addr) (n1 c1 n2 c2 : Nat) (d1 d2 : List Int) (w : World) (hr1 : RdK .u64 w w.heap.size A1 n1 d1) (hr2 : RdK .u64 w w.heap.size A2 n2 d2) (hd1 : Dig d1) (hd2 : Dig d2) (b1 : n1 ≤ 100000) (b2 : n2 ≤ n1) (hle : dv d2 ≤ dv d1) :
    Calls Tryd.prog 43 #[.slice A1 n1 c1, .slice A2 n2 c2] w (SlPost w fun ds => dv ds = dv d1 - dv d2 ∧ Top ds) := by
  obtain ⟨i0, hi, hz0, hz1, hz2⟩ := info_parts info46
  have H := Lib.hid (show RdK .u64 w w.heap.size A1 n1 d1 ∧ RdK .u64 w w.heap.size A2 n2 d2 ∧ Dig d1 ∧ Dig d2 ∧ dv d2 ≤ dv d1 from ⟨hr1, hr2, hd1, hd2, hle⟩)
  clear hr1 hr2 hd1 hd2 hle
  go_enter Tryd.func43, Tryd.ntmps43
  go_wp2_with fail
  go_loopw [5, 6, 7] (fun o c i wr => MinusRel w d1 d2 n1 o c i wr) (fun o c i wr => n1 - (RowKit.intOf i).toNat)
  case atStart => exact ⟨0, 0, [], rfl, rfl, by decide, by decide, by omega, ⟨rfl, .inl ⟨rfl, rfl⟩⟩, Below.refl _ _, rfl, (fun x hx => nomatch hx), by rw [pre_zero, pre_zero]; rfl⟩
  case round =>
    obtain ⟨i, c, os, rfl, rfl, hc0, hc1, hiN, hown, hb, hm⟩ := hrel
    have HB := Lib.hid hb; clear hb
    by_cases hgo : i < n1
    · have hx := H.out.2.2.1.getD i
      have hy := H.out.2.2.2.1.getD i
      obtain ⟨xb, xo, rfl, _, rx⟩ := (H.out.1.below HB.out).2 i hgo
      obtain ⟨x, ex⟩ : ∃ x, d1.getD i 0 = x := ⟨_, rfl⟩
      obtain ⟨y, ey⟩ : ∃ y, d2.getD i 0 = y := ⟨_, rfl⟩
      rw [ex] at hx rx
      rw [ey] at hy
      obtain ⟨x0, x1⟩ := hx
      obtain ⟨y0, y1⟩ := hy
      have HM := Lib.hid (show (os ++ [(65536 + x - y - c) % 65536]).length = i + 1 ∧ Dig (os ++ [(65536 + x - y - c) % 65536]) ∧ dv (os ++ [(65536 + x - y - c) % 65536]) - pw (i + 1) * (1 - (65536 + x - y - c) / 65536) = pre d1 (i + 1) - pre d2 (i + 1) from
        ⟨by rw [List.length_append, hm.out.1]; rfl, hm.out.2.1.snoc (by omega) (by omega), minus_step hm.out.1 hm.out.2.2 (by rw [ex, ey])⟩)
      have HY := Lib.hid ey
      clear ex ey hm
      have hi1 : (i : Int) < (n1 : Int) := by omega
      have hi0 : (0 : Int) ≤ (i : Int) := by omega
      go_wp2_with fail
      go_quiet ((go_at_call 41; exact Calls.quiet_of_same (at_val A2 n2 c2 d2 i y _ _ (H.out.2.1.below (HB.out.trans (below_drewN _ _ _))) HY.out)))
      have hown2 : (wr.drewN nq).ownsRow w.heap.size 54 1 u5 i (os.map (Value.int .u64)) := hown
      have HB2 := Lib.hid (show Below w.heap.size w (wr.drewN nq) from HB.out.trans (below_drewN _ _ _))
      clear hown
      generalize wr.drewN nq = w2 at *
      go_wp2_with (at_builtin; refine wpList_append_own _ rfl _ _ 35 rfl w.heap.size 54 i0 (.int .u64 0) 1 8 Tryd.underlying35 hi hz0 hz1 hz2 rfl (by decide) u5 i (os.map (Value.int .u64)) rfl (hown2.alloc _) ⟨w2.heap.size, 0, none⟩ 1 1 [.int .u64 ((65536 + x - y - c) % 65536)] rfl rfl (news1 _ _ _) (one64 _) (by unfold maxLen; omega) (by omega) (le_alloc HB2.out (Nat.le_refl _) _) ?_; intro v' w1 hown' hgrow _; have HB1 := Lib.hid ((HB2.out.alloc HB2.out.size _).grown hgrow (le_alloc HB2.out (Nat.le_refl _) _) (own_block hown2)); clear hgrow)
      exact ⟨⟨i + 1, _, _, by go_num, rfl, by omega, by omega, by omega, by rw [List.map_append]; exact hown', HB1.out, HM⟩, by simp [RowKit.intOf]; omega⟩
    · obtain rfl : i = n1 := by omega
      obtain ⟨A, cp, rfl⟩ := own_form hown
      have HO := Lib.hid hown; clear hown
      have HE := Lib.hid (show dv os = dv d1 - dv d2 by
        have h1 := hm.out.2.2
        rw [pre_all d1 i (by rw [H.out.1.1]; exact Nat.le_refl _), pre_all d2 i (by rw [H.out.2.1.1]; exact b2)] at h1
        have h2 := (dv_bd hm.out.2.1).2
        rw [hm.out.1] at h2
        have h3 := H.out.2.2.2.2
        rcases (by omega : c = 0 ∨ c = 1) with rfl | rfl
        · omega
        · omega)
      go_wp2_with fail
      refine (norm_num A i cp os false _ (RdK.of_own HO.out) hm.out.2.1 (own_caps HO.out).1 (own_caps HO.out).2).mono ?_
      rintro e w2 ⟨v, rfl, ⟨A2, n3, c3, ds2, m2, rfl, k1, k2, k3, k4, k5, k6, k7⟩, hb2⟩
      have hm2 : m2 = false := by
        cases m2 with
        | false => rfl
        | true =>
          have h1 := top_lo k4 k5 (by rw [k3.1]; exact k6 rfl)
          have h2 := pw_pos (ds2.length - 1)
          have h3 := (dv_bd hm.out.2.1).1
          have h4 : dv os = -dv ds2 := k7
          omega
      subst hm2
      have HN := Lib.hid (show n3 ≤ c3 ∧ c3 ≤ 9223372036854775807 ∧ RdK .u64 w2 w2.heap.size A2 n3 ds2 ∧ Dig ds2 ∧ (dv ds2 = dv d1 - dv d2 ∧ Top ds2) ∧ Below w.heap.size w w2 from ⟨k1, k2, k3, k4, ⟨by rw [← HE.out]; exact k7.symm, k5⟩, HB.out.trans (hb2.mono HB.out.size)⟩)
      clear k1 k2 k3 k4 k5 k6 k7 hb2
      have hfld := field25
      go_wp2_with fail
      go_ret
      exact ⟨A2, n3, c3, ds2, rfl, HN.out⟩
