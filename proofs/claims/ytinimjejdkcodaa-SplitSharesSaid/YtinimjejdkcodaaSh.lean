/- split.Shares: whatever total and weights are handed in. -/
import Derived.Test.YtinimjejdkcodaaSpt
namespace Go.Proofs.Ytinimjejdkcodaa
open Go.RowKit Go.Shelf Go.Lib Go.Sort

theorem infoU64 : ∃ i, Try.prog.info? 45 = some i ∧ i.zero = some (.int .u64 0) ∧ i.size = 1 ∧ i.bytes = 8 := ⟨_, rfl, rfl, rfl, rfl⟩
theorem infoI64 : ∃ i, Try.prog.info? 2 = some i ∧ i.zero = some (.int .i64 0) ∧ i.size = 1 ∧ i.bytes = 8 := ⟨_, rfl, rfl, rfl, rfl⟩

/-- what Shares comes to -/
def ShPost (t : Int) (ws : List Int) (w : World) (e : Ending) (w' : World) : Prop :=
  (Sv.May t ws → ∃ blk, e = .returned (.tuple #[.slice (some ⟨blk, 0, none⟩) ws.length ws.length, .nilIface]) ∧ w.heap.size ≤ blk ∧ Arr (.int .i64) w' blk (Sv.shares t ws)) ∧
  (¬ Sv.May t ws → e = .returned (.tuple #[.slice none 0 0, .iface 29 (.int .i64 1)])) ∧ Below w.heap.size w w'

theorem sum_pos {ws : List Int} (h : ∀ x ∈ ws, 0 ≤ x ∧ x ≤ 10000000000000) (hne : ws.sum ≠ 0) : 0 < ws.sum := by
  have := (Sv.sum_bd h).1; omega
theorem all_okm {ws : List Int} : ws.all okm = true ↔ ∀ x ∈ ws, 0 ≤ x ∧ x ≤ 10000000000000 := by
  rw [List.all_eq_true]; simp [okm]
theorem list_eq {l m : List Int} {n : Nat} (h1 : l.length = n) (h2 : m.length = n) (h : ∀ j, j < n → l.getD j 0 = m.getD j 0) : l = m := by
  refine List.ext_getElem (by omega) fun i x1 x2 => ?_
  have := h i (by omega)
  rwa [List.getD_eq_getElem?_getD, List.getD_eq_getElem?_getD, List.getElem?_eq_getElem x1, List.getElem?_eq_getElem x2] at this

set_option maxHeartbeats 4000000 in
set_option maxRecDepth 1000000 in
theorem shares_no (A : Option Addr) (n c : Nat) (t : Int) (ws : List Int) (w : World) (hr : RdK .i64 w w.heap.size A n ws) (hn : n ≤ 1000000) (hm : ¬ Sv.May t ws) :
    Calls Try.prog 10 #[.int .i64 t, .slice A n c] w (ShPost t ws w) := by
  have HR := Lib.hid hr
  have HM := Lib.hid hm
  have hl := hr.1
  clear hr hm
  have fin : ShPost t ws w (.returned (.tuple #[.slice none 0 0, .iface 29 (.int .i64 1)])) w := ⟨fun h => absurd h HM.out, fun _ => rfl, Below.refl _ _⟩
  have FIN := Lib.hid fin
  clear fin
  cases h1 : okm t with
  | false =>
    go_enter Try.func10, Try.ntmps10
    go_wp2_with (go_at_call 20; refine (isMoney_any t _).mono ?_; rw [h1]; rintro e w' ⟨rfl, rfl⟩)
    go_ret2
    exact FIN.out
  | true =>
    by_cases h2 : n > 480
    · have h2z : (n : Int) > 480 := by omega
      have h2d : decide ((n : Int) > 480) = true := decide_eq_true h2z
      go_enter Try.func10, Try.ntmps10
      go_wp2_with (go_at_call 20; refine (isMoney_any t _).mono ?_; rw [h1]; rintro e w' ⟨rfl, rfl⟩)
      go_ret2
      exact FIN.out
    · have h2z : ¬ (n : Int) > 480 := by omega
      have h2d : decide ((n : Int) > 480) = false := decide_eq_false h2z
      cases h3 : ws.all okm with
      | false =>
        go_enter Try.func10, Try.ntmps10
        go_wp2_with (first | (go_at_call 20; refine (isMoney_any t _).mono ?_; rw [h1]; rintro e w' ⟨rfl, rfl⟩) | (go_at_call 21; refine (areMoney_any A n c ws _ _ HR.out hn).mono ?_; rw [h3]; rintro e w' ⟨rfl, rfl⟩))
        go_ret2
        exact FIN.out
      | true =>
        have hz := all_okm.1 h3
        have HZ := Lib.hid hz
        have hs : ws.sum = 0 := by
          rcases Decidable.em (ws.sum = 0) with x | x
          · exact x
          · have ht := of_decide_eq_true h1
            exact absurd ⟨ht.1, ht.2, by omega, hz, sum_pos hz x⟩ HM.out
        clear hz
        go_enter Try.func10, Try.ntmps10
        go_wp2_with (first | (go_at_call 20; refine (isMoney_any t _).mono ?_; rw [h1]; rintro e w' ⟨rfl, rfl⟩) | (go_at_call 21; refine (areMoney_any A n c ws _ _ HR.out hn).mono ?_; rw [h3]; rintro e w' ⟨rfl, rfl⟩) | (go_at_call 22; refine (ssum_any A n c ws _ _ HR.out (by omega) HZ.out).mono ?_; rw [hs]; rintro e w' ⟨rfl, rfl⟩))
        go_ret2
        exact FIN.out

/-- the first loop's shares and rests -/
def Half (t : Int) (ws : List Int) (w : World) (bs br i : Nat) (l1 l2 : List Int) (wr : World) : Prop :=
  Below w.heap.size w wr ∧ Arr (.int .i64) wr bs l1 ∧ Arr (.int .u64) wr br l2 ∧ l1.length = ws.length ∧ l2.length = ws.length ∧ (∀ j, j < i → l1.getD j 0 = Sv.q t ws j ∧ l2.getD j 0 = Sv.kk t ws j)
/-- the second loop's shares: u cents are given -/
def Given (t : Int) (ws : List Int) (u : Nat) (l : List Int) : Prop :=
  l.length = ws.length ∧ ∀ j, j < ws.length → l.getD j 0 = Sv.q t ws j + if Sv.rank (Sv.kk t ws) ws.length j < u then 1 else 0
theorem getD_set_self (l : List Int) (i : Nat) (v : Int) (h : i < l.length) : (l.set i v).getD i 0 = v := by
  rw [List.getD_eq_getElem?_getD, List.getElem?_set_self h]; rfl
theorem getD_set_ne (l : List Int) (i j : Nat) (v : Int) (h : i ≠ j) : (l.set i v).getD j 0 = l.getD j 0 := by
  rw [List.getD_eq_getElem?_getD, List.getElem?_set_ne h, ← List.getD_eq_getElem?_getD]

set_option maxHeartbeats 4000000 in
set_option maxRecDepth 1000000 in
theorem shares_yes (A : Option Addr) (n c : Nat) (t : Int) (ws : List Int) (w : World) (hr : RdK .i64 w w.heap.size A n ws) (hm : Sv.May t ws) :
    Calls Try.prog 10 #[.int .i64 t, .slice A n c] w (ShPost t ws w) := by
  obtain ⟨i2, hi2, hz20, hz21, hz22⟩ := infoI64
  obtain ⟨i5, hi5, hz50, hz51, hz52⟩ := infoU64
  have HR := Lib.hid hr
  have HM := Lib.hid hm
  have hl := hr.1
  have hn : n ≤ 480 := by rw [← hl]; exact hm.2.2.1
  have h1 : okm t = true := decide_eq_true ⟨hm.1, hm.2.1⟩
  have h2z : ¬ (n : Int) > 480 := by omega
  have h2d : decide ((n : Int) > 480) = false := decide_eq_false h2z
  have h3 : ws.all okm = true := all_okm.2 hm.2.2.2.1
  have h4 : (ws.sum == 0) = false := by rw [beq_eq_false_iff_ne]; have := hm.2.2.2.2; omega
  have HL := Lib.hid hl
  clear hr hm hl
  go_enter Try.func10, Try.ntmps10
  go_wp2_with (first | (go_at_call 20; refine (isMoney_any t _).mono ?_; rw [h1]; rintro e w' ⟨rfl, rfl⟩) | (go_at_call 21; refine (areMoney_any A n c ws _ _ HR.out (by omega)).mono ?_; rw [h3]; rintro e w' ⟨rfl, rfl⟩) | (go_at_call 22; refine (ssum_any A n c ws _ _ HR.out (by omega) HM.out.2.2.2.1).mono ?_; rintro e w' ⟨rfl, rfl⟩) | (at_make; refine wpList_make_eq _ rfl _ _ 22 rfl 2 i2 (.int .i64 0) Try.underlying22 hi2 hz20 hz21 n rfl rfl (by rw [hz22]; omega) (by unfold maxLen; omega) ?_) | (at_make; refine wpList_make_eq _ rfl _ _ 34 rfl 45 i5 (.int .u64 0) Try.underlying34 hi5 hz50 hz51 n rfl rfl (by rw [hz52]; omega) (by unfold maxLen; omega) ?_))
  obtain ⟨W1, hW1⟩ : ∃ W1, (w.alloc (.cells (madeCells #[.int .i64 0] n) 2)).alloc (.cells (madeCells #[.int .u64 0] n) 45) = W1 := ⟨_, rfl⟩
  obtain ⟨bs, hbs⟩ : ∃ bs, bs = w.heap.size := ⟨_, rfl⟩
  obtain ⟨br, hbr⟩ : ∃ br, br = w.heap.size + 1 := ⟨_, rfl⟩
  have H1 := Lib.hid (show Half t ws w bs br 0 (List.replicate n 0) (List.replicate n 0) W1 ∧ bs = w.heap.size ∧ br = w.heap.size + 1 from by
    have ha := Arr.made (.int .i64) w 2 n rfl
    have hb := Arr.made (.int .u64) (w.alloc (.cells (madeCells (Value.int .i64 0).cells n) 2)) 45 n rfl
    have h2 : (w.alloc (.cells (madeCells (Value.int .i64 0).cells n) 2)).heap.size = w.heap.size + 1 := by simp
    rw [h2] at hb
    refine ⟨⟨by rw [← hW1]; exact ((Below.refl _ _).alloc (Nat.le_refl _) _).alloc (by simp) _, by rw [← hW1, hbs]; exact ha.alloc _, by rw [← hW1, hbr]; exact hb, by simp [HL.out], by simp [HL.out], fun j hj => absurd hj (Nat.not_lt_zero _)⟩, hbs, hbr⟩)
  rw [hW1, ← hbr, ← hbs]
  clear hW1 hbs hbr h1 h2z h2d h3 h4
  have NE : bs ≠ br := by have := H1.out.2; omega
  go_loopw [41] (fun v wr => ∃ (i : Nat) (l1 l2 : List Int), v = .int .i64 i ∧ i ≤ n ∧ Hid (Half t ws w bs br i l1 l2 wr)) (fun v wr => n - (RowKit.intOf v).toNat)
  case atStart => exact ⟨0, _, _, rfl, Nat.zero_le _, H1.out.1⟩
  case round =>
    obtain ⟨i, l1, l2, rfl, hin, H⟩ := hrel
    by_cases hlt : i < n
    · have hltz : (i : Int) < (n : Int) := by omega
      have HX := Lib.hid (HR.out.below H.out.1)
      obtain ⟨b, o, rfl, _, hc⟩ := HX.out.2 i hlt
      have hx := Sv.getD_bd (ws := ws) (by decide) HM.out.2.2.2.1 i
      have hxs : ws.getD i 0 ≤ ws.sum := by
        have hl2 : i < ws.length := by rw [HL.out]; exact hlt
        rw [List.getD_eq_getElem?_getD, List.getElem?_eq_getElem hl2]; exact Sv.le_sum (fun x hx' => (HM.out.2.2.2.1 x hx').1) _ (List.getElem_mem _)
      have HS := Lib.hid (show ws.sum ≤ 4800000000000000 from by have := (Sv.sum_bd HM.out.2.2.2.1).2; have := HL.out; omega)
      have hq : Sv.q t ws i = t * ws.getD i 0 / ws.sum := rfl
      have hk := Sv.kk_of (t := t) HM.out.2.2.2.2 i
      obtain ⟨x, ex⟩ : ∃ x, ws.getD i 0 = x := ⟨_, rfl⟩
      rw [ex] at hc hx hxs hq hk
      have HP := Lib.hid (fun w0 => part_any t x ws.sum w0 HM.out.1 HM.out.2.1 hx.1 hxs HM.out.2.2.2.2 HS.out)
      rw [← hq, ← hk] at HP
      have c1 := H.out.2.1.c i (by rw [H.out.2.2.2.1, HL.out]; exact hlt)
      have z1 := H.out.2.1.z i (by rw [H.out.2.2.2.1, HL.out]; exact hlt)
      have c2 := H.out.2.2.1.c i (by rw [H.out.2.2.2.2.1, HL.out]; exact hlt)
      have z2 := H.out.2.2.1.z i (by rw [H.out.2.2.2.2.1, HL.out]; exact hlt)
      have HN := Lib.hid (show ∀ q, Half t ws w bs br (i + 1) (l1.set i (Sv.q t ws i)) (l2.set i (Sv.kk t ws i)) (((wr.drewN q).setCell ⟨bs, i, none⟩ (.int .i64 (Sv.q t ws i))).setCell ⟨br, i, none⟩ (.int .u64 (Sv.kk t ws i : Nat))) from fun q => by
        obtain ⟨a1, a2, a3, a4, a5, a6⟩ := H.out
        have d := H1.out.2
        have i1 : i < l1.length := by rw [a4, HL.out]; exact hlt
        have i2' : i < l2.length := by rw [a5, HL.out]; exact hlt
        refine ⟨((a1.trans (below_drewN _ _ q)).setCell (by show w.heap.size ≤ bs; omega) _).setCell (by show w.heap.size ≤ br; omega) _, ((a2.drewN q).set i i1 _).other ⟨br, i, none⟩ (by show br ≠ bs; omega) _, ((a3.drewN q).other ⟨bs, i, none⟩ (by show bs ≠ br; omega) _).set i i2' _, by rw [List.length_set]; exact a4, by rw [List.length_set]; exact a5, fun j hj => ?_⟩
        by_cases e : i = j
        · subst e; rw [getD_set_self _ _ _ i1, getD_set_self _ _ _ i2']; exact ⟨rfl, rfl⟩
        · rw [getD_set_ne _ _ _ _ e, getD_set_ne _ _ _ _ e]; exact a6 j (by omega))
      clear ex hx hxs hq hk H
      generalize Sv.q t ws i = qq at HP HN
      generalize ((Sv.kk t ws i : Nat) : Int) = rr at HP HN
      generalize l1.getD i 0 = v1 at c1
      generalize l2.getD i 0 = v2 at c2
      go_wp2_with fail
      refine (HP.out _).mono ?_
      rintro e w1 ⟨rfl, q1, rfl⟩
      have c1' : (wr.drewN q1).cell? ⟨bs, i, none⟩ = some (.int .i64 v1) := c1
      have z1' : (wr.drewN q1).frozen? ⟨bs, i, none⟩ = false := z1
      have c2' : ((wr.drewN q1).setCell ⟨bs, i, none⟩ (.int .i64 qq)).cell? ⟨br, i, none⟩ = some (.int .u64 v2) := by
        rw [World.cell?_setCell_other _ _ _ _ (by intro e; simp only [Addr.mk.injEq] at e; exact NE e.1)]; exact c2
      have z2' : ((wr.drewN q1).setCell ⟨bs, i, none⟩ (.int .i64 qq)).frozen? ⟨br, i, none⟩ = false := by rw [World.frozen?_setCell]; exact z2
      have HN2 := Lib.hid (HN.out q1)
      clear c1 z1 c2 z2 HN hc
      generalize wr.drewN q1 = wd at c1' z1' c2' z2' HN2 ⊢
      clear q1
      go_wp2_with fail
      exact ⟨⟨i + 1, _, _, by go_num, by omega, HN2⟩, by simp [RowKit.intOf]; omega⟩
    · obtain rfl : i = n := by omega
      have hltz : ¬ (i : Int) < (i : Int) := by omega
      obtain ⟨L, hL⟩ : ∃ L : Nat, Sv.left t ws = (L : Int) := ⟨(Sv.left t ws).toNat, by have := (Sv.left_bd (t := t) HM.out.2.2.2.2).1; omega⟩
      have hLn : L ≤ i := by have := Sv.left_le (t := t) HM.out.2.2.2.2; have := HL.out; omega
      have eqs := Lib.hid (show l1 = Sv.qs t ws from list_eq (n := i) (H.out.2.2.2.1.trans HL.out) (by simp [Sv.qs, HL.out]) fun j hj => by
        rw [(H.out.2.2.2.2.2 j hj).1]
        have : j < (List.range ws.length).length := by rw [List.length_range, HL.out]; exact hj
        unfold Sv.qs
        rw [List.getD_eq_getElem?_getD, List.getElem?_map, List.getElem?_eq_getElem this]; simp)
      have HSM := Lib.hid (show ∀ w0, RdK .i64 w0 w0.heap.size (some ⟨bs, 0, none⟩) i l1 → Calls Try.prog 22 #[.slice (some ⟨bs, 0, none⟩) i i] w0 fun e w' => e = .returned (.int .i64 (Sv.qs t ws).sum) ∧ w0 = w' from fun w0 hr => by
        rw [← eqs.out]
        refine ssum_any (some ⟨bs, 0, none⟩) i i l1 w0 _ hr hn fun x hx => ?_
        rw [eqs.out] at hx
        obtain ⟨j, _, e⟩ := List.mem_map.1 hx
        have := Sv.q_bd HM.out j
        have := HM.out.2.1
        omega)
      have HRD := Lib.hid (show RdK .i64 wr wr.heap.size (some ⟨bs, 0, none⟩) i l1 from by
        have := H.out.2.1.rd wr.heap.size H.out.2.1.1
        rwa [H.out.2.2.2.1, HL.out] at this)
      have HMF := Lib.hid (mostFirst_any br i (Sv.kk t ws) wr (fun j hj => by rw [H.out.2.2.1.c j (by rw [H.out.2.2.2.2.1, HL.out]; exact hj), (H.out.2.2.2.2.2 j hj).2]) H.out.2.2.1.1 (by omega))
      have HG := Lib.hid (show Below w.heap.size w wr ∧ Arr (.int .i64) wr bs l1 ∧ Given t ws 0 l1 from ⟨H.out.1, H.out.2.1, H.out.2.2.2.1, fun j hj => by rw [(H.out.2.2.2.2.2 j (by rw [← HL.out]; exact hj)).1, if_neg (by omega)]; omega⟩)
      have SB := Sv.sum_bd (ws := Sv.qs t ws) (B := t) (fun x hx => by
        obtain ⟨j, _, e⟩ := List.mem_map.1 hx
        rw [← e]; exact Sv.q_bd HM.out j)
      have hLe : t - (Sv.qs t ws).sum = (L : Int) := hL
      have t1 := HM.out.1
      have t2 := HM.out.2.1
      have HLL := Lib.hid hL
      clear H hL
      obtain ⟨Q, hQ⟩ : ∃ Q, (Sv.qs t ws).sum = Q := ⟨_, rfl⟩
      have Q0 : 0 ≤ Q := by rw [← hQ]; exact SB.1
      have hLn' : (L : Int) ≤ (i : Int) := by omega
      rw [hQ] at HSM hLe
      clear SB hQ
      go_wp2_with (first | (go_at_call 22; refine (HSM.out _ HRD.out).mono ?_; rintro e w' ⟨rfl, rfl⟩))
      refine HMF.out.mono ?_
      rintro e w2 ⟨blk, d, rfl, hd, hb, hb1, hb2, hcell⟩
      have HD := Lib.hid (show Sorted (Sv.kk t ws) ws.length d from by rw [HL.out]; exact hd)
      have H2 := Lib.hid (show Below w.heap.size w w2 ∧ Arr (.int .i64) w2 bs l1 ∧ Given t ws 0 l1 from by
        obtain ⟨a1, a2, a3⟩ := HG.out
        exact ⟨a1.trans (hb.mono a1.size), a2.below hb a2.1, a3⟩)
      have NB := Lib.hid (show bs < blk ∧ w.heap.size ≤ bs from by have := HG.out.2.1.1; have := H1.out.2; omega)
      have HC := Lib.hid hcell
      clear hd hb hb1 hb2 hcell HG HMF HRD HSM
      go_wp2_with fail
      go_loopw [69] (fun v wr => ∃ (u : Nat) (l : List Int), v = .int .i64 u ∧ u ≤ L ∧ Hid (Below w.heap.size w wr ∧ Arr (.int .i64) wr bs l ∧ Given t ws u l ∧ ∀ j, j < i → wr.cell? ⟨blk, j, none⟩ = some (.int .i64 (d[j]! : Nat)))) (fun v wr => L - (RowKit.intOf v).toNat)
      case atStart => exact ⟨0, l1, rfl, Nat.zero_le _, H2.out.1, H2.out.2.1, H2.out.2.2, HC.out⟩
      case round =>
        clear H2 HC
        obtain ⟨u, l, rfl, hu, H⟩ := hrel
        by_cases hlt2 : u < L
        · have hltz2 : (u : Int) < (L : Int) := by omega
          have hp := H.out.2.2.2 u (by omega)
          have hpl : d[u]! < i := by have := Sv.get_lt HD.out u (by rw [HL.out]; omega); rwa [HL.out] at this
          have hpr := Sv.rank_sorted HD.out u (by rw [HL.out]; omega)
          obtain ⟨pp, hpp⟩ : ∃ pp, d[u]! = pp := ⟨_, rfl⟩
          rw [hpp] at hp hpl hpr
          have hplz : (pp : Int) < (i : Int) := by omega
          have c1 := H.out.2.1.c pp (by rw [H.out.2.2.1.1, HL.out]; exact hpl)
          have z1 := H.out.2.1.z pp (by rw [H.out.2.2.1.1, HL.out]; exact hpl)
          have hv := H.out.2.2.1.2 pp (by rw [HL.out]; exact hpl)
          rw [hpr, if_neg (Nat.lt_irrefl u), Int.add_zero] at hv
          have hq := Sv.q_bd HM.out pp
          rw [hv] at c1
          have HN := Lib.hid (show Below w.heap.size w (wr.setCell ⟨bs, pp, none⟩ (.int .i64 (Sv.q t ws pp + 1))) ∧ Arr (.int .i64) (wr.setCell ⟨bs, pp, none⟩ (.int .i64 (Sv.q t ws pp + 1))) bs (l.set pp (Sv.q t ws pp + 1)) ∧ Given t ws (u + 1) (l.set pp (Sv.q t ws pp + 1)) ∧ ∀ j, j < i → (wr.setCell ⟨bs, pp, none⟩ (.int .i64 (Sv.q t ws pp + 1))).cell? ⟨blk, j, none⟩ = some (.int .i64 (d[j]! : Nat)) from by
            obtain ⟨a1, a2, a3, a4⟩ := H.out
            have il : pp < l.length := by rw [a3.1, HL.out]; exact hpl
            refine ⟨a1.setCell NB.out.2 _, a2.set pp il _, ⟨by rw [List.length_set]; exact a3.1, fun j hj => ?_⟩, fun j hj => ?_⟩
            · by_cases e : pp = j
              · subst e; rw [getD_set_self _ _ _ il, hpr, if_pos (by omega)]
              · rw [getD_set_ne _ _ _ _ e, a3.2 j hj]
                congr 1
                have ne : Sv.rank (Sv.kk t ws) ws.length j ≠ u := fun x => by
                  have y := (Sv.at_rank HD.out j hj).1
                  rw [x, hpp] at y; exact e y
                by_cases x : Sv.rank (Sv.kk t ws) ws.length j < u
                · rw [if_pos x, if_pos (by omega)]
                · rw [if_neg x, if_neg (by omega)]
            · rw [World.cell?_setCell_other _ _ _ _ (by intro e; simp only [Addr.mk.injEq] at e; have := NB.out.1; omega)]; exact a4 j hj)
          clear hpp hpr hv H
          generalize Sv.q t ws pp = v1 at c1 hq HN
          obtain ⟨hq0, hq1⟩ := hq
          go_wp2_with fail
          exact ⟨⟨u + 1, _, by go_num, by omega, HN⟩, by simp [RowKit.intOf]; omega⟩
        · obtain rfl : u = L := by omega
          have hltz2 : ¬ (u : Int) < (u : Int) := by omega
          have EQ := Lib.hid (show l = Sv.shares t ws from list_eq (n := i) (H.out.2.2.1.1.trans HL.out) ((Sv.shares_length t ws).trans HL.out) fun j hj => by
            have hj' : j < ws.length := by rw [HL.out]; exact hj
            rw [H.out.2.2.1.2 j hj', Sv.shares_get t ws j hj']
            unfold Sv.sh
            rw [HLL.out]
            congr 1
            by_cases x : Sv.rank (Sv.kk t ws) ws.length j < u
            · rw [if_pos x, if_pos (by omega)]
            · rw [if_neg x, if_neg (by omega)])
          go_wp2_with fail
          go_ret2
          refine ⟨fun _ => ⟨bs, ?_, NB.out.2, ?_⟩, fun h => absurd HM.out h, H.out.1⟩
          · rw [HL.out]; rfl
          · rw [← EQ.out]; exact H.out.2.1

theorem shares_any (A : Option Addr) (n c : Nat) (t : Int) (ws : List Int) (w : World) (hr : RdK .i64 w w.heap.size A n ws) (hn : n ≤ 1000000) :
    Calls Try.prog 10 #[.int .i64 t, .slice A n c] w (ShPost t ws w) := by
  by_cases h : Sv.May t ws
  · exact shares_yes A n c t ws w hr h
  · exact shares_no A n c t ws w hr hn h
end Go.Proofs.Ytinimjejdkcodaa
