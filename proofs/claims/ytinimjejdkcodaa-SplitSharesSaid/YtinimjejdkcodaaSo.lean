/- The document's own answer for shares, cent by cent: the quotients, what was cut off, and who gets a cent. -/
import Derived.Test.YtinimjejdkcodaaSl
import Derived.Test.YtinimjejdkcodaaSw
namespace Go.Proofs.Ytinimjejdkcodaa
open Go.RowKit Go.Shelf Go.Lib Go.Sort Ar Dg
attribute [local go_sem ↓] Go.wp_at_zero Go.wp_at_succ

theorem info36 : ∃ i, Try.prog.info? 36 = some i ∧ i.zero = some (.agg #[.slice none 0 0, .bool false]) ∧ i.size = 2 ∧ i.bytes = 32 := ⟨_, rfl, rfl, rfl, rfl⟩
theorem zero_mem {z : Array Value} {m : Nat} {u : Value} (h : u ∈ Builtin.zeroCells z m) : u ∈ z := by
  unfold Builtin.zeroCells at h
  obtain ⟨i, hi, rfl⟩ := Array.mem_map.1 h
  have hp : 0 < z.size := by
    rcases Nat.eq_zero_or_pos z.size with x | x
    · rw [x] at hi; simp at hi
    · exact x
  rw [getElem!_pos z _ (Nat.mod_lt _ hp)]
  exact Array.getElem_mem _
theorem kint_zero (m : Nat) : ∀ u ∈ Builtin.zeroCells (Value.int .i64 0).cells m, KInt u := fun u hu => by
  have := zero_mem hu
  simp [Value.cells] at this
  exact ⟨0, this⟩
theorem knum_zero (m : Nat) : ∀ u ∈ Builtin.zeroCells (Value.agg #[.slice none 0 0, .bool false]).cells m, KNum u := fun u hu => by
  have := zero_mem hu
  simp [Value.cells] at this
  rcases this with rfl | rfl <;> intro k z e <;> cases e
theorem two_cells (w : World) (A : Option Addr) (n c : Nat) (m : Bool) (t : TypeId) : ∀ j u, ([.slice A n c, .bool m] : List Value)[j]? = some u → (w.alloc (.cells #[.slice A n c, .bool m] t)).cell? ((⟨w.heap.size, 0, none⟩ : Addr).add j) = some u := by
  intro j u hu
  have e : (⟨w.heap.size, 0, none⟩ : Addr).add j = ⟨w.heap.size, j, none⟩ := by unfold Addr.add; split <;> simp_all
  rw [e, cell_of_row _ _ _ _ _ _ (heap_alloc_new w _), ← hu, ← Array.getElem?_toList]
theorem two_one (A : Option Addr) (n c : Nat) (m : Bool) : ∀ u ∈ ([.slice A n c, .bool m] : List Value), u.oneCell' = true := fun u hu => by
  simp at hu; rcases hu with rfl | rfl <;> rfl
theorem two_num (A : Option Addr) (n c : Nat) (m : Bool) : ∀ u ∈ ([.slice A n c, .bool m] : List Value), KNum u := fun u hu => by
  simp at hu; rcases hu with rfl | rfl <;> intro k z e <;> cases e
theorem qv_one {X W : Int} (hW : 0 < W) : qv (if W < 0 then -X else X) (abs W) 1 = X / W := by
  have e : abs W = W := if_neg (by omega)
  rw [if_neg (by omega), e]
  unfold qv
  rw [if_pos (Or.inr rfl)]
theorem qs_take (t : Int) (ws : List Int) (i : Nat) (h : i < ws.length) : ((Sv.qs t ws).take (i + 1)).map (Value.int .i64) = ((Sv.qs t ws).take i).map (Value.int .i64) ++ [.int .i64 (Sv.q t ws i)] ∧ ((Sv.qs t ws).take (i + 1)).sum = ((Sv.qs t ws).take i).sum + Sv.q t ws i := by
  have hl : i < (Sv.qs t ws).length := by simp [Sv.qs]; exact h
  have e : (Sv.qs t ws).take (i + 1) = (Sv.qs t ws).take i ++ [Sv.q t ws i] := by
    rw [List.take_add_one, List.getElem?_eq_getElem hl]; simp [Sv.qs]
  rw [e, List.map_append, List.sum_append]; simp

/-- the rest of the j-th -/
def rs (t : Int) (ws : List Int) (j : Nat) : Int := t * ws.getD j 0 + -(Sv.q t ws j * ws.sum)
theorem rs_kk {t : Int} {ws : List Int} (hS : 0 < ws.sum) (j : Nat) : rs t ws j = Sv.kk t ws j := by
  rw [Sv.kk_of hS]
  have := Int.mul_ediv_add_emod (t * ws.getD j 0) ws.sum
  unfold rs Sv.q
  rw [Int.mul_comm] at this
  omega

/-- behind so many quotients -/
structure L2 (w wr : World) (t : Int) (ws : List Int) (io ic : Nat) (o cu : Value) : Prop where
  var : ∃ A n c m, VarN wr w.heap.size A n c m ws.sum
  out : Own wr (w.heap.size + 1) 2 1 KInt o io (((Sv.qs t ws).take io).map (Value.int .i64))
  cut : ∃ As : List Nm, As.length = ic ∧ Own wr (w.heap.size + 1) 36 2 KNum cu ic (nmCells As) ∧ Nums wr As (rs t ws)
  low : Below w.heap.size w wr
theorem L2.below {w wr wr' : World} {t : Int} {ws : List Int} {io ic : Nat} {o cu : Value} (h : L2 w wr t ws io ic o cu) (hb : Below wr.heap.size wr wr') : L2 w wr' t ws io ic o cu := by
  obtain ⟨⟨A, n, c, m, hv⟩, ho, ⟨As, h1, h2, h3⟩, hl⟩ := h
  exact ⟨⟨A, n, c, m, hv.below hb⟩, ho.below hb, ⟨As, h1, h2.below hb, h3.below hb⟩, hl.trans (hb.mono hl.size)⟩
theorem L2.app_out {w wp w' : World} {t : Int} {ws : List Int} {i : Nat} {o o' cu : Value} (h : L2 w wp t ws i i o cu) (ho : Own w' (w.heap.size + 1) 2 1 KInt o' (i + 1) (((Sv.qs t ws).take (i + 1)).map (Value.int .i64))) (hg : wp.grownBy w' o.ownBlock) : L2 w w' t ws (i + 1) i o' cu := by
  obtain ⟨⟨A, n, c, m, hv⟩, h1, ⟨As, h2, h3, h4⟩, hl⟩ := h
  exact ⟨⟨A, n, c, m, hv.grown hg (hv.not_int h1) h1.noDig_int⟩, ho, ⟨As, h2, h3.kept hg (own_apart h3 h1 (by decide)), h4.grown hg h1.noDig_int⟩, hl.grown hg hl.size (fun k hk => by have := (h1.lt k hk).1; omega)⟩
theorem L2.app_cut {w wp w' : World} {t : Int} {ws : List Int} {i : Nat} {o cu cu' : Value} {a : Nm} (h : L2 w wp t ws (i + 1) i o cu) (As : List Nm) (h2 : As.length = i) (h3 : Own wp (w.heap.size + 1) 36 2 KNum cu i (nmCells As)) (h4 : Nums wp As (rs t ws)) (hn : NumV wp wp.heap.size (nv a) (rs t ws i))
    (hc : Own w' (w.heap.size + 1) 36 2 KNum cu' (i + 1) (nmCells (As ++ [a]))) (hg : wp.grownBy w' cu.ownBlock) : L2 w w' t ws (i + 1) (i + 1) o cu' := by
  obtain ⟨⟨A, n, c, m, hv⟩, h1, _, hl⟩ := h
  have hne : some w.heap.size ≠ cu.ownBlock := fun e => by have := (h3.lt _ e.symm).1; omega
  refine ⟨⟨A, n, c, m, hv.grown hg hne h3.noDig_num⟩, h1.kept hg (own_apart h1 h3 (by decide)), ⟨As ++ [a], by simp [h2], hc, ?_⟩, hl.grown hg hl.size (fun k hk => by have := (h3.lt k hk).1; omega)⟩
  exact (h4.grown hg h3.noDig_num).snoc (by rw [h2]; exact hn.grown hg h3.noDig_num)

/-- true is 1, false is 0 -/
def fB (x : Int) : Value := .bool (decide (x = 1))
theorem info4 : ∃ i, Try.prog.info? 4 = some i ∧ i.zero = some (.bool false) ∧ i.size = 1 ∧ i.bytes = 1 := ⟨_, rfl, rfl, rfl, rfl⟩
theorem Own.arr {w : World} {base : Nat} {e : TypeId} {κ : Value → Prop} {g n cap : Nat} {zs : List Int} (h : Own w base e 1 κ (.slice (some ⟨g, 0, .none⟩) n cap) n (zs.map (Value.int .i64))) : Arr (.int .i64) w g zs := by
  obtain ⟨hl, ⟨hv, _⟩ | ⟨g', cap', cur, hv, _, hh, _, _, hs, ht⟩⟩ := h.1
  · cases hv
  · injection hv with hv
    injection hv with hv
    injection hv with hv
    subst hv
    refine ⟨(Array.getElem?_eq_some_iff.1 hh).1, fun j hj => ⟨?_, by unfold World.frozen?; rw [hh]; simp⟩⟩
    have hn : zs.length = n := by simpa using hl
    rw [cell_of_row w g j cur e (0, 0) hh, ← Array.getElem?_toList]
    have h2 : cur.toList[j]? = (cur.toList.take (n * 1))[j]? := by rw [List.getElem?_take_of_lt (by omega)]
    rw [h2, ht, List.getElem?_map, List.getElem?_eq_getElem hj, List.getD_eq_getElem?_getD, List.getElem?_eq_getElem hj]; rfl
/-- the long numbers of the row -/
def CutV (w : World) (g n : Nat) (r : Nat → Int) : Prop := g < w.heap.size ∧ ∀ j, j < n → ∃ A k c m, w.cell? ⟨g, j * 2, .none⟩ = some (.slice A k c) ∧ w.cell? ⟨g, j * 2 + 1, .none⟩ = some (.bool m) ∧ NumV w w.heap.size (.agg #[.slice A k c, .bool m]) (r j)
theorem CutV.below {w w' : World} {g n : Nat} {r : Nat → Int} (h : CutV w g n r) (hb : Below w.heap.size w w') : CutV w' g n r := ⟨Nat.lt_of_lt_of_le h.1 hb.size, fun j hj => by
  obtain ⟨A, k, c, m, h1, h2, h3⟩ := h.2 j hj
  exact ⟨A, k, c, m, (hb.cell (p := ⟨g, j * 2, .none⟩) h.1).trans h1, (hb.cell (p := ⟨g, j * 2 + 1, .none⟩) h.1).trans h2, (h3.below hb).more hb.size⟩⟩
/-- a store into another block, none of whose cells is a digit -/
theorem CutV.store {w : World} {g n : Nat} {r : Nat → Int} {b j : Nat} {u : Value} (h : CutV w g n r) (hne : b ≠ g) (hd : ∀ i z, w.cell? ⟨b, i, .none⟩ ≠ some (.int .u64 z)) : CutV (w.setCell ⟨b, j, .none⟩ u) g n r := by
  have far : ∀ p : Addr, p.block ≠ b → (w.setCell ⟨b, j, .none⟩ u).cell? p = w.cell? p := fun p hp => World.cell?_setCell_other _ _ _ _ (by intro e; rw [← e] at hp; exact hp rfl)
  refine ⟨by simpa using h.1, fun i hi => ?_⟩
  obtain ⟨A, k, c, m, h1, h2, A', n', c', ds, m', e, p1, p2, p3, p4⟩ := h.2 i hi
  refine ⟨A, k, c, m, (far _ (Ne.symm hne)).trans h1, (far _ (Ne.symm hne)).trans h2, A', n', c', ds, m', e, p1, p2, ⟨p3.1, fun i2 hi2 => ?_⟩, p4⟩
  obtain ⟨b2, off, e2, hb, hc⟩ := p3.2 i2 hi2
  exact ⟨b2, off, e2, by simpa using hb, (far _ (fun e3 => by rw [show b2 = b from e3] at hc; exact hd _ _ hc)).trans hc⟩
theorem Own.cutv {w : World} {base : Nat} {e : TypeId} {κ : Value → Prop} {g n cap : Nat} {As : List Nm} {r : Nat → Int} (h : Own w base e 2 κ (.slice (some ⟨g, 0, .none⟩) n cap) n (nmCells As)) (hl : As.length = n) (hn : Nums w As r) : CutV w g n r := by
  refine ⟨(h.lt g rfl).2.1, fun j hj => ?_⟩
  have hj' : j < As.length := by omega
  obtain ⟨c1, c2⟩ := nmCells_get As j hj'
  have e0 : ∀ i, (⟨g, 0, .none⟩ : Addr).add i = ⟨g, i, .none⟩ := fun i => by unfold Addr.add; split <;> simp_all
  have k1 := h.1.cells (g := g) rfl _ _ c1
  have k2 := h.1.cells (g := g) rfl _ _ c2
  rw [e0] at k1 k2
  exact ⟨_, _, _, _, k1, k2, hn j hj'⟩
/-- all cells of the block are of a kind other than digits -/
def NoD (w : World) (b : Nat) : Prop := ∀ i z, w.cell? ⟨b, i, .none⟩ ≠ some (.int .u64 z)
theorem NoD.below {w w' : World} {b : Nat} (h : NoD w b) (hb : Below w.heap.size w w') (hl : b < w.heap.size) : NoD w' b := fun i z e => h i z ((hb.cell (p := ⟨b, i, .none⟩) hl).symm.trans e)
theorem NoD.set {w : World} {b b2 j : Nat} {u v : Value} (h : NoD w b) (hc : w.cell? ⟨b2, j, .none⟩ = some v) (hu : ∀ z, u ≠ .int .u64 z) : NoD (w.setCell ⟨b2, j, .none⟩ u) b := fun i z e => by
  by_cases e2 : (⟨b2, j, .none⟩ : Addr) = ⟨b, i, .none⟩
  · rw [← e2, World.cell?_setCell_same _ _ _ hc] at e
    injection e with e; exact hu z e
  · rw [World.cell?_setCell_other _ _ _ _ e2] at e; exact h i z e
theorem rank_inj {k : Nat → Nat} {n i j : Nat} (hi : i < n) (hj : j < n) (h : Sv.rank k n i = Sv.rank k n j) : i = j := by
  obtain ⟨d, hd⟩ := Sv.sorted_exists k n
  have a := (Sv.at_rank hd i hi).1
  have b := (Sv.at_rank hd j hj).1
  rw [← a, ← b, h]
theorem rank_has (k : Nat → Nat) (n T : Nat) (h : T < n) : ∃ j, j < n ∧ Sv.rank k n j = T := by
  obtain ⟨d, hd⟩ := Sv.sorted_exists k n
  exact ⟨d[T]!, Sv.get_lt hd T h, Sv.rank_sorted hd T h⟩
/-- the one that is to get the next cent, among the first i -/
def Best (k : Nat → Nat) (n T i : Nat) (b : Value) : Prop :=
  (b = .int .i64 (-1) ∧ ∀ j, j < i → Sv.rank k n j < T) ∨ ∃ bb : Nat, b = .int .i64 bb ∧ bb < i ∧ T ≤ Sv.rank k n bb ∧ ∀ j, j < i → T ≤ Sv.rank k n j → Sv.rank k n bb ≤ Sv.rank k n j
theorem Best.skip {k : Nat → Nat} {n T i : Nat} {b : Value} (h : Best k n T i b) (hr : Sv.rank k n i < T) : Best k n T (i + 1) b := by
  rcases h with ⟨e, h⟩ | ⟨bb, e, h1, h2, h3⟩
  · exact .inl ⟨e, fun j hj => by rcases Nat.lt_or_ge j i with x | x; · exact h j x
                                  · obtain rfl : j = i := by omega
                                    exact hr⟩
  · exact .inr ⟨bb, e, by omega, h2, fun j hj hT => by rcases Nat.lt_or_ge j i with x | x; · exact h3 j x hT
                                                       · obtain rfl : j = i := by omega
                                                         omega⟩
theorem Best.first {k : Nat → Nat} {n T i : Nat} (h : ∀ j, j < i → Sv.rank k n j < T) (hr : T ≤ Sv.rank k n i) : Best k n T (i + 1) (.int .i64 i) :=
  .inr ⟨i, rfl, Nat.lt_succ_self _, hr, fun j hj hT => by rcases Nat.lt_or_ge j i with x | x; · have := h j x; omega
                                                          · obtain rfl : j = i := by omega
                                                            exact Nat.le_refl _⟩
theorem Best.better {k : Nat → Nat} {n T i bb : Nat} (h : ∀ j, j < i → T ≤ Sv.rank k n j → Sv.rank k n bb ≤ Sv.rank k n j) (hr : T ≤ Sv.rank k n i) (hk : k bb < k i) : Best k n T (i + 1) (.int .i64 i) := by
  have m := Sv.rank_mono (k := k) (n := n) (x := i) (y := bb) (by rw [Ss.R_f]; omega)
  exact .inr ⟨i, rfl, Nat.lt_succ_self _, hr, fun j hj hT => by rcases Nat.lt_or_ge j i with x | x; · have := h j x hT; omega
                                                                · obtain rfl : j = i := by omega
                                                                  exact Nat.le_refl _⟩
theorem Best.stays {k : Nat → Nat} {n T i bb : Nat} (hb : bb < i) (hbT : T ≤ Sv.rank k n bb) (h : ∀ j, j < i → T ≤ Sv.rank k n j → Sv.rank k n bb ≤ Sv.rank k n j) (hk : k i ≤ k bb) : Best k n T (i + 1) (.int .i64 bb) := by
  have m := Sv.rank_mono (k := k) (n := n) (x := bb) (y := i) (by rw [Ss.R_f]; omega)
  exact .inr ⟨bb, rfl, by omega, hbT, fun j hj hT => by rcases Nat.lt_or_ge j i with x | x; · exact h j x hT
                                                        · obtain rfl : j = i := by omega
                                                          exact m⟩
theorem Best.last_of {k : Nat → Nat} {n m T : Nat} {b : Value} (h : Best k n T m b) (hm : n = m) (hT : T < n) : ∃ bb : Nat, b = .int .i64 bb ∧ bb < n ∧ Sv.rank k n bb = T := by
  subst hm
  obtain ⟨j, hj, hr⟩ := rank_has k n T hT
  rcases h with ⟨_, h⟩ | ⟨bb, e, h1, h2, h3⟩
  · have := h j hj; omega
  · exact ⟨bb, e, h1, by have := h3 j hj (by omega); omega⟩

set_option maxHeartbeats 16000000 in
set_option maxRecDepth 1000000 in
theorem refShares_any (A : Option Addr) (n c : Nat) (t : Int) (ws : List Int) (w : World) (hr : RdK .i64 w w.heap.size A n ws) (hm : Sv.May t ws) :
    Calls Try.prog 13 #[.int .i64 t, .slice A n c] w fun e w' => ∃ A' n' c', e = .returned (.slice A' n' c') ∧ RdK .i64 w' w'.heap.size A' n' (Sv.shares t ws) ∧ Below w.heap.size w w' := by
  have HR := Lib.hid hr
  have HL := Lib.hid hr.1
  have HM := Lib.hid hm
  have hn480 : n ≤ 480 := by rw [← hr.1]; exact hm.2.2.1
  clear hr hm
  obtain ⟨i2, hi2, hz20, hz21, hz22⟩ := infoI64
  obtain ⟨i36, hi36, hz360, hz361, hz362⟩ := info36
  have HW := Lib.hid (show 0 < ws.sum ∧ ws.sum ≤ 4800000000000000 from ⟨HM.out.2.2.2.2, by have := (Sv.sum_bd HM.out.2.2.2.1).2; have := HM.out.2.2.1; omega⟩)
  have HST := Lib.hid (show SumSt w w.heap.size (w.alloc (.cells #[.slice none 0 0, .bool false] 36)) none 0 0 false 0 from
    ⟨by rw [World.cell?_alloc_new]; rfl, by rw [World.cell?_alloc_new]; rfl, var2_new _ _ _ _ _ _, ⟨none, 0, 0, [], false, rfl, Nat.le_refl _, by decide, ⟨rfl, fun j hj => absurd hj (Nat.not_lt_zero _)⟩, (fun x hx => nomatch hx), (fun h => absurd h (by simp)), (fun h => nomatch h), rfl⟩,
      (Below.refl _ _).alloc (Nat.le_refl _) _, Nat.le_refl _, by simp⟩)
  go_enter Try.func13, Try.ntmps13
  go_wp2_with fail
  go_loopw [6] (fun v wr => ∃ (k : Nat) (A4 : Option Addr) (n4 c4 : Nat) (m4 : Bool), v = .int .i64 k ∧ k ≤ n ∧ SumSt w w.heap.size wr A4 n4 c4 m4 (ws.take k).sum) (fun v _ => n - (RowKit.intOf v).toNat)
  case atStart => exact ⟨0, none, 0, 0, false, rfl, Nat.zero_le _, HST.out⟩
  case round =>
    clear HST
    obtain ⟨k, A4, n4, c4, m4, rfl, hk, hst⟩ := hrel
    have HS := Lib.hid hst; clear hst
    by_cases hlt : k < n
    · obtain ⟨xb, xo, rfl, hxb, rx⟩ := (HR.out.below HS.out.low).2 k hlt
      have a0 := HS.out.a0
      have a1 := HS.out.a1
      obtain ⟨⟨x0, hx0⟩, ⟨x1, hx1⟩, f0, f1, _⟩ := HS.out.v
      have hil : k < ws.length := by rw [HL.out]; exact hlt
      have hz := Sv.getD_bd (by decide) HM.out.2.2.2.1 k
      have hsn := take_sum ws k hil
      have tb := take_bd (by decide) HM.out.2.2.2.1 k (by omega)
      generalize ws.getD k 0 = z at *
      have HZ := Lib.hid (show In z ∧ (ws.take (k + 1)).sum = (ws.take k).sum + z ∧ Small (ws.take k).sum ∧ Small z from ⟨⟨by omega, by omega⟩, hsn, small_of (by omega) (by omega), small_of (by omega) (by omega)⟩)
      clear hz hsn tb hil
      have i1 : (k : Int) < (n : Int) := by omega
      have i2' : (0 : Int) ≤ (k : Int) := by omega
      go_wp2_with fail
      have HXB := Lib.hid (show xb < wr.heap.size from Nat.lt_of_lt_of_le hxb (Nat.le_trans HS.out.hg (Nat.le_of_lt HS.out.high)))
      clear hxb
      go_region_with (first
        | (go_at_call 16; refine (of_any z _ HZ.out.1).mono ?_; rintro e w2 ⟨v, rfl, hn, hb⟩; have HS2 := Lib.hid (HS.out.below (undrew hb)); have HN := Lib.hid hn; have b0 := HS2.out.a0; have b1 := HS2.out.a1; have rx2 := ((undrew hb).cell (p := ⟨xb, xo + k, none⟩) HXB.out).trans rx; clear hn hb)
        | (go_at_call 17; refine (add_num _ _ _ z _ HS2.out.num HN.out HZ.out.2.2.1 HZ.out.2.2.2).mono ?_; rintro e w3 ⟨v3, rfl, ⟨A3, n3, c3, d3, m3, rfl, hn3⟩, hb3⟩; have HS3 := Lib.hid (HS2.out.below hb3); have HN3 := Lib.hid (show NumV w3 w3.heap.size (.agg #[.slice A3 n3 c3, .bool m3]) (ws.take (k + 1)).sum from ⟨A3, n3, c3, d3, m3, rfl, by rw [HZ.out.2.1]; exact hn3⟩); obtain ⟨⟨y0, hy0⟩, ⟨y1, hy1⟩, e0, e1, _⟩ := HS3.out.v; clear hn3 hb3))
      all_goals
        go_wp2_with fail
        exact ⟨⟨k + 1, A3, n3, c3, m3, by go_num, by omega, HS3.out.store HN3.out⟩, by simp [RowKit.intOf]; omega⟩
    · obtain rfl : k = n := by omega
      have ht : ws.take k = ws := List.take_of_length_le (by rw [HL.out]; exact Nat.le_refl _)
      rw [ht] at HS
      have H2 := Lib.hid (show L2 w wr t ws 0 0 (.slice none 0 0) (.slice none 0 0) from ⟨⟨A4, n4, c4, m4, HS.out.a0, HS.out.a1, HS.out.v, HS.out.num, HS.out.high⟩, Own.none _ _ _ _ _, ⟨[], rfl, Own.none _ _ _ _ _, fun j h => absurd h (Nat.not_lt_zero _)⟩, HS.out.low⟩)
      clear ht HS
      go_wp2_with fail
      go_loopw [7, 8, 9, 10] (fun o cu lf v wr => ∃ i : Nat, v = .int .i64 i ∧ i ≤ k ∧ lf = .int .i64 (t - ((Sv.qs t ws).take i).sum) ∧ Hid (L2 w wr t ws i i o cu)) (fun o cu lf v wr => k - (RowKit.intOf v).toNat)
      case atStart => exact ⟨0, rfl, Nat.zero_le _, by simp, H2.out⟩
      case round =>
        clear H2
        obtain ⟨i, rfl, hik, rfl, HC⟩ := hrel
        by_cases hlt2 : i < k
        · have hltz : (i : Int) < (k : Int) := by omega
          obtain ⟨xb, xo, rfl, hxb, rx⟩ := (HR.out.below HC.out.low).2 i hlt2
          have hil : i < ws.length := by rw [HL.out]; exact hlt2
          have X1 := Sv.getD_bd (by decide) HM.out.2.2.2.1 i
          have Q1 := Sv.q_bd HM.out i
          have HQE := Lib.hid (show Sv.q t ws i = t * ws.getD i 0 / ws.sum ∧ rs t ws i = t * ws.getD i 0 + -(Sv.q t ws i * ws.sum) from ⟨rfl, rfl⟩)
          obtain ⟨qt1, qt2⟩ := qs_take t ws i hil
          have HQT := Lib.hid (And.intro qt1 qt2)
          have tq1 : 0 ≤ ((Sv.qs t ws).take i).sum ∧ ((Sv.qs t ws).take i).sum ≤ 480 * 10000000000000 := take_bd (by decide) (fun x hx => by
            obtain ⟨j, _, e⟩ := List.mem_map.1 hx
            have := Sv.q_bd HM.out j
            have := HM.out.2.1
            rw [← e]; omega) i (by omega)
          generalize Sv.q t ws i = qi at *
          generalize ws.getD i 0 = x at *
          obtain ⟨S0, hS0⟩ : ∃ S0, ((Sv.qs t ws).take i).sum = S0 := ⟨_, rfl⟩
          rw [hS0] at tq1 HQT ⊢
          obtain ⟨W, hW⟩ : ∃ W, ws.sum = W := ⟨_, rfl⟩
          rw [hW] at HW HQE
          have HWE := Lib.hid hW
          have p0 : 0 ≤ t * x := Int.mul_nonneg HM.out.1 X1.1
          have p1 : t * x ≤ 10000000000000 * 10000000000000 := Int.mul_le_mul HM.out.2.1 X1.2 X1.1 (by decide)
          have p2 : 0 ≤ qi * W := Int.mul_nonneg Q1.1 (by have := HW.out; omega)
          have p3 : qi * W ≤ 10000000000000 * 4800000000000000 := Int.mul_le_mul (Int.le_trans Q1.2 HM.out.2.1) HW.out.2 (by have := HW.out; omega) (by decide)
          have HQ := Lib.hid (show In t ∧ In x ∧ Fits qi ∧ Small t ∧ Small x ∧ Small qi ∧ Small W ∧ Small (t * x) ∧ Small (-(qi * W)) ∧ -85070591730234615865843651857942052865 < t * x ∧ t * x < 85070591730234615865843651857942052865 ∧ -9223372036854775809 < W ∧ W < 9223372036854775809 ∧ W ≠ 0 from by
            have := HM.out.1; have := HM.out.2.1; have := HW.out
            refine ⟨⟨by omega, by omega⟩, ⟨by omega, by omega⟩, ⟨by omega, by omega⟩, small_of (by omega) (by omega), small_of (by omega) (by omega), small_of (by omega) (by omega), small_of (by omega) (by omega), small_of (by omega) (by omega), small_of (by omega) (by omega), by omega, by omega, by omega, by omega, by omega⟩)
          have lf0 : -9223372036854775808 ≤ t - S0 - qi ∧ t - S0 - qi ≤ 9223372036854775807 := by have := HM.out.1; have := HM.out.2.1; omega
          have lf1 : -9223372036854775808 ≤ t - S0 ∧ t - S0 ≤ 9223372036854775807 := by have := HM.out.1; have := HM.out.2.1; omega
          have HLF := Lib.hid (And.intro lf0 lf1)
          have kk0 : wr.cell? ⟨xb, xo + i, none⟩ = some (.int .i64 x) := rx
          clear X1 Q1 qt1 qt2 tq1 hS0 hW p0 p1 p2 p3 lf0 lf1 hxb hil rx
          go_wp2_with fail
          go_cut [11] (fun s11 wx => ∃ (g : Nat) (A3 : Option Addr) (n3 c3 : Nat) (m3 : Bool), s11 = .pointer (some ⟨g, 0, none⟩) ∧ VarN wx g A3 n3 c3 m3 (t * x) ∧ Below wr.heap.size wr wx ∧ wr.heap.size ≤ g)
          case first =>
            have HBb := Lib.hid (Below.refl wr.heap.size wr)
            go_region_held3 (fun w' => w'.cell? ⟨xb, xo + i, none⟩ = some (.int .i64 x))
              (first | assumption | (refine keep_cell (w := wr) (by assumption) ?_; first | exact HBb.out | exact HBb.out.drew | exact HBb.out.alloc HBb.out.size _ | exact HBb.out.drew.alloc HBb.out.size _ | exact (HBb.out.alloc HBb.out.size _).setCell HBb.out.size _ | exact ((HBb.out.alloc HBb.out.size _).setCell HBb.out.size _).setCell HBb.out.size _ | exact HBb.out.setCell HVn.out.2.2 _ | exact (HBb.out.setCell HVn.out.2.2 _).setCell HVn.out.2.2 _))
              (first
                | (go_at_call_of 16 (Value.int .i64 t); refine (of_any t _ HQ.out.1).mono ?_; rintro e wr1 ⟨v1, rfl, hn, hb⟩; have HN1 := Lib.hid (show NumV wr1 wr1.heap.size v1 t from hn); clear hn; (first | have HVn := Lib.hid (show Var2 wr1 _ ∧ _ < wr1.heap.size ∧ wr.heap.size ≤ _ from ⟨HVn.out.1.below hb HVn.out.2.1, Nat.lt_of_lt_of_le HVn.out.2.1 hb.size, HVn.out.2.2⟩) | have HVn := Lib.hid (show Var2 wr1 wr.heap.size ∧ wr.heap.size < wr1.heap.size ∧ wr.heap.size ≤ wr.heap.size from ⟨(var2_new wr none 0 0 false 36).below (w := wr.alloc (.cells #[.slice none 0 0, .bool false] 36)) hb (by simp), Nat.lt_of_lt_of_le (by simp) hb.size, HBb.out.size⟩) | have HVn := Lib.hid (show Var2 wr1 wr.heap.size ∧ wr.heap.size < wr1.heap.size ∧ wr.heap.size ≤ wr.heap.size from ⟨(var2_new wr none 0 0 false 36).below (w := wr.alloc (.cells #[.slice none 0 0, .bool false] 36)) (undrew hb) (by simp), Nat.lt_of_lt_of_le (by simp) hb.size, HBb.out.size⟩) | skip); (first | obtain ⟨⟨y0, hy0⟩, ⟨y1, hy1⟩, e0, e1, _⟩ := HVn.out.1 | skip); have HBb := Lib.hid (show Below wr.heap.size wr wr1 from by first | exact HBb.out.trans (hb.mono HBb.out.size) | exact HBb.out.trans ((undrew hb).mono HBb.out.size) | exact (HBb.out.alloc HBb.out.size _).trans (hb.mono (HBb.out.alloc HBb.out.size _).size) | exact (HBb.out.alloc HBb.out.size _).trans ((undrew hb).mono (HBb.out.alloc HBb.out.size _).size)); have jj0 := keep_cell kk0 HBb.out; clear hb)
                | (go_at_call 16; refine (of_any x _ HQ.out.2.1).mono ?_; rintro e wr2 ⟨v2, rfl, hn, hb⟩; have HN2 := Lib.hid (show NumV wr2 wr2.heap.size v2 x from hn); clear hn; (first | have HVn := Lib.hid (show Var2 wr2 _ ∧ _ < wr2.heap.size ∧ wr.heap.size ≤ _ from ⟨HVn.out.1.below hb HVn.out.2.1, Nat.lt_of_lt_of_le HVn.out.2.1 hb.size, HVn.out.2.2⟩) | have HVn := Lib.hid (show Var2 wr2 wr1.heap.size ∧ wr1.heap.size < wr2.heap.size ∧ wr.heap.size ≤ wr1.heap.size from ⟨(var2_new wr1 none 0 0 false 36).below (w := wr1.alloc (.cells #[.slice none 0 0, .bool false] 36)) hb (by simp), Nat.lt_of_lt_of_le (by simp) hb.size, HBb.out.size⟩) | have HVn := Lib.hid (show Var2 wr2 wr1.heap.size ∧ wr1.heap.size < wr2.heap.size ∧ wr.heap.size ≤ wr1.heap.size from ⟨(var2_new wr1 none 0 0 false 36).below (w := wr1.alloc (.cells #[.slice none 0 0, .bool false] 36)) (undrew hb) (by simp), Nat.lt_of_lt_of_le (by simp) hb.size, HBb.out.size⟩) | skip); (first | obtain ⟨⟨y0, hy0⟩, ⟨y1, hy1⟩, e0, e1, _⟩ := HVn.out.1 | skip); have HBb := Lib.hid (show Below wr.heap.size wr wr2 from by first | exact HBb.out.trans (hb.mono HBb.out.size) | exact HBb.out.trans ((undrew hb).mono HBb.out.size) | exact (HBb.out.alloc HBb.out.size _).trans (hb.mono (HBb.out.alloc HBb.out.size _).size) | exact (HBb.out.alloc HBb.out.size _).trans ((undrew hb).mono (HBb.out.alloc HBb.out.size _).size)); have HN1 := Lib.hid (show NumV wr2 wr2.heap.size v1 t from by first | exact (HN1.out.below hb).more hb.size | exact (HN1.out.below (undrew hb)).more (undrew hb).size | exact (HN1.out.al.below hb).more hb.size | exact (HN1.out.al.below (undrew hb)).more (undrew hb).size); have jj0 := keep_cell kk0 HBb.out; clear hb)
                | (go_at_call 15; refine (mul_num _ _ t x _ (by first | exact HN1.out | exact HN1.out.al) (by first | exact HN2.out | exact HN2.out.al) HQ.out.2.2.2.1 HQ.out.2.2.2.2.1).mono ?_; rintro e wr3 ⟨v, rfl, ⟨A3, n3, c3, d3, m3, rfl, hn⟩, hb⟩; have HN3 := Lib.hid (show NumV wr3 wr3.heap.size (.agg #[.slice A3 n3 c3, .bool m3]) (t * x) from ⟨A3, n3, c3, d3, m3, rfl, hn⟩); clear hn; (first | have HVn := Lib.hid (show Var2 wr3 _ ∧ _ < wr3.heap.size ∧ wr.heap.size ≤ _ from ⟨HVn.out.1.below hb HVn.out.2.1, Nat.lt_of_lt_of_le HVn.out.2.1 hb.size, HVn.out.2.2⟩) | have HVn := Lib.hid (show Var2 wr3 wr2.heap.size ∧ wr2.heap.size < wr3.heap.size ∧ wr.heap.size ≤ wr2.heap.size from ⟨(var2_new wr2 none 0 0 false 36).below (w := wr2.alloc (.cells #[.slice none 0 0, .bool false] 36)) hb (by simp), Nat.lt_of_lt_of_le (by simp) hb.size, HBb.out.size⟩) | have HVn := Lib.hid (show Var2 wr3 wr2.heap.size ∧ wr2.heap.size < wr3.heap.size ∧ wr.heap.size ≤ wr2.heap.size from ⟨(var2_new wr2 none 0 0 false 36).below (w := wr2.alloc (.cells #[.slice none 0 0, .bool false] 36)) (undrew hb) (by simp), Nat.lt_of_lt_of_le (by simp) hb.size, HBb.out.size⟩) | skip); (first | obtain ⟨⟨y0, hy0⟩, ⟨y1, hy1⟩, e0, e1, _⟩ := HVn.out.1 | skip); have HBb := Lib.hid (show Below wr.heap.size wr wr3 from by first | exact HBb.out.trans (hb.mono HBb.out.size) | exact HBb.out.trans ((undrew hb).mono HBb.out.size) | exact (HBb.out.alloc HBb.out.size _).trans (hb.mono (HBb.out.alloc HBb.out.size _).size) | exact (HBb.out.alloc HBb.out.size _).trans ((undrew hb).mono (HBb.out.alloc HBb.out.size _).size)); have HN1 := Lib.hid (show NumV wr3 wr3.heap.size v1 t from by first | exact (HN1.out.below hb).more hb.size | exact (HN1.out.below (undrew hb)).more (undrew hb).size | exact (HN1.out.al.below hb).more hb.size | exact (HN1.out.al.below (undrew hb)).more (undrew hb).size); have HN2 := Lib.hid (show NumV wr3 wr3.heap.size v2 x from by first | exact (HN2.out.below hb).more hb.size | exact (HN2.out.below (undrew hb)).more (undrew hb).size | exact (HN2.out.al.below hb).more hb.size | exact (HN2.out.al.below (undrew hb)).more (undrew hb).size); have jj0 := keep_cell kk0 HBb.out; clear hb))
            all_goals
              go_wp2_with fail
              go_meet
              first
                | exact ⟨_, A3, n3, c3, m3, rfl, VarN.new HN3.out, HBb.out.alloc HBb.out.size _, HBb.out.size⟩
                | exact ⟨_, A3, n3, c3, m3, rfl, VarN.of_var2 HVn.out.1 HVn.out.2.1 HN3.out, (HBb.out.setCell HVn.out.2.2 _).setCell HVn.out.2.2 _, HVn.out.2.2⟩
          case rest =>
            obtain ⟨g, A3, n3, c3, m3, rfl, hv, hb, hg⟩ := hcut
            obtain ⟨A4, n4, c4, m4, hva⟩ := HC.out.var
            have HV3 := Lib.hid hv
            have HV4 := Lib.hid (hva.below hb)
            have HB1 := Lib.hid (And.intro hb hg)
            clear hv hb hg hva kk0
            have kk0 := HV3.out.a0
            have kk1 := HV3.out.a1
            have kk2 := HV4.out.a0
            have kk3 := HV4.out.a1
            rw [HWE.out] at HV4
            go_wp2_with fail
            refine (quotient_num _ _ (t * x) W 1 _ HV3.out.num HV4.out.num HQ.out.2.2.2.2.2.2.2.2.2.1 HQ.out.2.2.2.2.2.2.2.2.2.2.1 HQ.out.2.2.2.2.2.2.2.2.2.2.2.2.2 HQ.out.2.2.2.2.2.2.2.2.2.2.2.1 HQ.out.2.2.2.2.2.2.2.2.2.2.2.2.1 (by decide) (by decide)).mono ?_
            rw [qv_one HW.out.1, ← HQE.out.1]
            rintro e w3 ⟨v, rfl, ⟨A5, n5, c5, d5, m5, rfl, hn5⟩, hb3⟩
            have HV5 := Lib.hid (VarN.new (show NumV w3 w3.heap.size (.agg #[.slice A5 n5 c5, .bool m5]) qi from ⟨A5, n5, c5, d5, m5, rfl, hn5⟩))
            have HB3 := Lib.hid (show Below wc.heap.size wc (w3.alloc (.cells #[.slice A5 n5 c5, .bool m5] 36)) ∧ wc.heap.size ≤ w3.heap.size from ⟨hb3.alloc hb3.size _, hb3.size⟩)
            clear hn5 hb3 kk0 kk1 kk2 kk3
            have kk4 := HV5.out.a0
            have kk5 := HV5.out.a1
            go_wp2_with fail
            obtain ⟨gq, hgq⟩ : ∃ gq, gq = w3.heap.size := ⟨_, rfl⟩
            rw [← hgq] at HV5 HB3 kk4 kk5 ⊢
            generalize w3.alloc (.cells #[.slice A5 n5 c5, .bool m5] 36) = w4 at HV5 HB3 kk4 kk5 ⊢
            clear hgq
            refine (to_num _ qi _ HV5.out.num).mono ?_
            rintro e w5 ⟨tq, rfl, htq, hb5⟩
            obtain rfl := htq HQ.out.2.2.1
            have HB5 := Lib.hid (show Below wr.heap.size wr w5 ∧ wr.heap.size ≤ g ∧ wr.heap.size ≤ gq from
              ⟨(HB1.out.1.trans (HB3.out.1.mono HB1.out.1.size)).trans (hb5.mono (HB1.out.1.trans (HB3.out.1.mono HB1.out.1.size)).size), HB1.out.2, Nat.le_trans HB1.out.1.size HB3.out.2⟩)
            have HV3 := Lib.hid ((HV3.out.below HB3.out.1).below hb5)
            have HV5 := Lib.hid (HV5.out.below hb5)
            have HC5 := Lib.hid (HC.out.below HB5.out.1)
            clear htq hb5 HB1 HB3 HV4 kk4 kk5
            have HO := Lib.hid (HC5.out.out.below ((Below.refl w5.heap.size w5).alloc (Nat.le_refl _) (.cells #[.int .i64 tq] 2)))
            have HBS := Lib.hid (show w.heap.size + 1 ≤ (w5.alloc (.cells #[.int .i64 tq] 2)).heap.size from by have := HC5.out.var; obtain ⟨_, _, _, _, hv⟩ := this; have := hv.lt; simp; omega)
            have HKI := Lib.hid (show ∀ u ∈ ([.int .i64 tq] : List Value), KInt u from fun u hu => by simp at hu; exact ⟨tq, hu⟩)
            go_wp2_with (at_builtin; refine wpList_own rfl _ _ rfl Try.underlying22 hi2 hz20 hz21 hz22 rfl (by decide) u7 i _ rfl HO.out ⟨w5.heap.size, 0, none⟩ 1 [.int .i64 tq] rfl rfl (news1 _ _ _) (one1 _) (by unfold maxLen; omega) (by omega) HBS.out HKI.out kint_zero ?_; intro v6 w6 hown6 hg6)
            rw [← HQT.out.1] at hown6
            have HC6 := Lib.hid ((HC5.out.below ((Below.refl w5.heap.size w5).alloc (Nat.le_refl _) (.cells #[.int .i64 tq] 2))).app_out hown6 hg6)
            have HV3 := Lib.hid (show VarN w6 g A3 n3 c3 m3 (t * x) from (HV3.out.alloc _).grown hg6 ((HV3.out.alloc _).not_int HO.out) HO.out.noDig_int)
            have HV5 := Lib.hid (show VarN w6 gq A5 n5 c5 m5 tq from (HV5.out.alloc _).grown hg6 ((HV5.out.alloc _).not_int HO.out) HO.out.noDig_int)
            obtain ⟨A8, n8, c8, m8, hv8⟩ := HC6.out.var
            rw [HWE.out] at hv8
            have HV8 := Lib.hid hv8
            obtain ⟨As, has1, has2, has3⟩ := HC6.out.cut
            have HAs := Lib.hid (And.intro has1 (And.intro has2 has3))
            have HNE := Lib.hid (show w.heap.size + 1 ≤ w6.heap.size ∧ some g ≠ u8.ownBlock ∧ some gq ≠ u8.ownBlock ∧ some w.heap.size ≠ u8.ownBlock from by
              obtain ⟨Bs, hb1, hb2, hb3⟩ := HC.out.cut
              refine ⟨by have := hv8.lt; omega, fun e => ?_, fun e => ?_, fun e => ?_⟩
              · have := (hb2.lt _ e.symm).2.1; have := HB5.out; omega
              · have := (hb2.lt _ e.symm).2.1; have := HB5.out; omega
              · have := (hb2.lt _ e.symm).1; omega)
            have kk0 := HV3.out.a0
            have kk1 := HV3.out.a1
            have kk2 := HV5.out.a0
            have kk3 := HV5.out.a1
            have kk4 := HV8.out.a0
            have kk5 := HV8.out.a1
            clear hown6 hg6 hv8 has1 has2 has3 HO HBS HKI HC5
            go_wp2_with fail
            have HBb := Lib.hid (Below.refl w6.heap.size w6)
            have HPn := Lib.hid HV3.out.num
            have HPq := Lib.hid HV5.out.num
            have HPa := Lib.hid HV8.out.num
            go_region_held3 (fun w' => w'.cell? ⟨g, 0, none⟩ = some (.slice A3 n3 c3) ∧ w'.cell? ⟨g, 1, none⟩ = some (.bool m3) ∧ w'.cell? ⟨gq, 0, none⟩ = some (.slice A5 n5 c5) ∧ w'.cell? ⟨gq, 1, none⟩ = some (.bool m5) ∧ w'.cell? ⟨w.heap.size, 0, none⟩ = some (.slice A8 n8 c8) ∧ w'.cell? ⟨w.heap.size, 1, none⟩ = some (.bool m8))
              (refine ⟨?_, ?_, ?_, ?_, ?_, ?_⟩ <;> (first | assumption | (refine keep_cell (w := w6) (by assumption) ?_; first | exact HBb.out | exact HBb.out.drew | exact HBb.out.alloc HBb.out.size _ | exact HBb.out.drew.alloc HBb.out.size _ | exact (HBb.out.alloc HBb.out.size _).setCell HBb.out.size _ | exact ((HBb.out.alloc HBb.out.size _).setCell HBb.out.size _).setCell HBb.out.size _ | exact HBb.out.setCell HVn.out.2.2 _ | exact (HBb.out.setCell HVn.out.2.2 _).setCell HVn.out.2.2 _)))
              (first
                | (go_at_call 15; refine (mul_num _ _ tq W _ (by first | exact HPq.out | exact HPq.out.al) (by first | exact HPa.out | exact HPa.out.al) HQ.out.2.2.2.2.2.1 HQ.out.2.2.2.2.2.2.1).mono ?_; rintro e w61 ⟨u3, rfl, hn, hb⟩; have HM3 := Lib.hid (show NumV w61 w61.heap.size u3 (tq * W) from hn); clear hn; have HPn := Lib.hid (show NumV w61 w61.heap.size (.agg #[.slice A3 n3 c3, .bool m3]) (t * x) from by first | exact (HPn.out.below hb).more hb.size | exact (HPn.out.below (undrew hb)).more (undrew hb).size | exact (HPn.out.al.below hb).more hb.size | exact (HPn.out.al.below (undrew hb)).more (undrew hb).size); have HPq := Lib.hid (show NumV w61 w61.heap.size (.agg #[.slice A5 n5 c5, .bool m5]) tq from by first | exact (HPq.out.below hb).more hb.size | exact (HPq.out.below (undrew hb)).more (undrew hb).size | exact (HPq.out.al.below hb).more hb.size | exact (HPq.out.al.below (undrew hb)).more (undrew hb).size); have HPa := Lib.hid (show NumV w61 w61.heap.size (.agg #[.slice A8 n8 c8, .bool m8]) W from by first | exact (HPa.out.below hb).more hb.size | exact (HPa.out.below (undrew hb)).more (undrew hb).size | exact (HPa.out.al.below hb).more hb.size | exact (HPa.out.al.below (undrew hb)).more (undrew hb).size); have HBb := Lib.hid (show Below w6.heap.size w6 w61 from by first | exact HBb.out.trans (hb.mono HBb.out.size) | exact HBb.out.trans ((undrew hb).mono HBb.out.size) | exact (HBb.out.alloc HBb.out.size _).trans (hb.mono (HBb.out.alloc HBb.out.size _).size) | exact (HBb.out.alloc HBb.out.size _).trans ((undrew hb).mono (HBb.out.alloc HBb.out.size _).size)); have jj0 := keep_cell kk0 HBb.out; have jj1 := keep_cell kk1 HBb.out; have jj2 := keep_cell kk2 HBb.out; have jj3 := keep_cell kk3 HBb.out; have jj4 := keep_cell kk4 HBb.out; have jj5 := keep_cell kk5 HBb.out; clear hb)
                | (go_at_call 18; refine (neg_num _ (tq * W) _ (by first | exact HM3.out | exact HM3.out.al)).mono ?_; rintro e w62 ⟨u4, rfl, hn, hb⟩; have HM4 := Lib.hid (show NumV w62 w62.heap.size u4 (-(tq * W)) from hn); clear hn; have HPn := Lib.hid (show NumV w62 w62.heap.size (.agg #[.slice A3 n3 c3, .bool m3]) (t * x) from by first | exact (HPn.out.below hb).more hb.size | exact (HPn.out.below (undrew hb)).more (undrew hb).size | exact (HPn.out.al.below hb).more hb.size | exact (HPn.out.al.below (undrew hb)).more (undrew hb).size); have HPq := Lib.hid (show NumV w62 w62.heap.size (.agg #[.slice A5 n5 c5, .bool m5]) tq from by first | exact (HPq.out.below hb).more hb.size | exact (HPq.out.below (undrew hb)).more (undrew hb).size | exact (HPq.out.al.below hb).more hb.size | exact (HPq.out.al.below (undrew hb)).more (undrew hb).size); have HPa := Lib.hid (show NumV w62 w62.heap.size (.agg #[.slice A8 n8 c8, .bool m8]) W from by first | exact (HPa.out.below hb).more hb.size | exact (HPa.out.below (undrew hb)).more (undrew hb).size | exact (HPa.out.al.below hb).more hb.size | exact (HPa.out.al.below (undrew hb)).more (undrew hb).size); have HBb := Lib.hid (show Below w6.heap.size w6 w62 from by first | exact HBb.out.trans (hb.mono HBb.out.size) | exact HBb.out.trans ((undrew hb).mono HBb.out.size) | exact (HBb.out.alloc HBb.out.size _).trans (hb.mono (HBb.out.alloc HBb.out.size _).size) | exact (HBb.out.alloc HBb.out.size _).trans ((undrew hb).mono (HBb.out.alloc HBb.out.size _).size)); have HM3 := Lib.hid (show NumV w62 w62.heap.size u3 (tq * W) from by first | exact (HM3.out.below hb).more hb.size | exact (HM3.out.below (undrew hb)).more (undrew hb).size | exact (HM3.out.al.below hb).more hb.size | exact (HM3.out.al.below (undrew hb)).more (undrew hb).size); have jj0 := keep_cell kk0 HBb.out; have jj1 := keep_cell kk1 HBb.out; have jj2 := keep_cell kk2 HBb.out; have jj3 := keep_cell kk3 HBb.out; have jj4 := keep_cell kk4 HBb.out; have jj5 := keep_cell kk5 HBb.out; clear hb)
                | (go_at_call 17; refine (add_num _ _ (t * x) (-(tq * W)) _ (by first | exact HPn.out | exact HPn.out.al) (by first | exact HM4.out | exact HM4.out.al) HQ.out.2.2.2.2.2.2.2.1 HQ.out.2.2.2.2.2.2.2.2.1).mono ?_; rintro e w63 ⟨v, rfl, ⟨A6, n6, c6, d6, m6, rfl, hn⟩, hb⟩; have HM5 := Lib.hid (show NumV w63 w63.heap.size (.agg #[.slice A6 n6 c6, .bool m6]) (t * x + -(tq * W)) from ⟨A6, n6, c6, d6, m6, rfl, hn⟩); clear hn; have HPn := Lib.hid (show NumV w63 w63.heap.size (.agg #[.slice A3 n3 c3, .bool m3]) (t * x) from by first | exact (HPn.out.below hb).more hb.size | exact (HPn.out.below (undrew hb)).more (undrew hb).size | exact (HPn.out.al.below hb).more hb.size | exact (HPn.out.al.below (undrew hb)).more (undrew hb).size); have HPq := Lib.hid (show NumV w63 w63.heap.size (.agg #[.slice A5 n5 c5, .bool m5]) tq from by first | exact (HPq.out.below hb).more hb.size | exact (HPq.out.below (undrew hb)).more (undrew hb).size | exact (HPq.out.al.below hb).more hb.size | exact (HPq.out.al.below (undrew hb)).more (undrew hb).size); have HPa := Lib.hid (show NumV w63 w63.heap.size (.agg #[.slice A8 n8 c8, .bool m8]) W from by first | exact (HPa.out.below hb).more hb.size | exact (HPa.out.below (undrew hb)).more (undrew hb).size | exact (HPa.out.al.below hb).more hb.size | exact (HPa.out.al.below (undrew hb)).more (undrew hb).size); have HBb := Lib.hid (show Below w6.heap.size w6 w63 from by first | exact HBb.out.trans (hb.mono HBb.out.size) | exact HBb.out.trans ((undrew hb).mono HBb.out.size) | exact (HBb.out.alloc HBb.out.size _).trans (hb.mono (HBb.out.alloc HBb.out.size _).size) | exact (HBb.out.alloc HBb.out.size _).trans ((undrew hb).mono (HBb.out.alloc HBb.out.size _).size)); have HM3 := Lib.hid (show NumV w63 w63.heap.size u3 (tq * W) from by first | exact (HM3.out.below hb).more hb.size | exact (HM3.out.below (undrew hb)).more (undrew hb).size | exact (HM3.out.al.below hb).more hb.size | exact (HM3.out.al.below (undrew hb)).more (undrew hb).size); have HM4 := Lib.hid (show NumV w63 w63.heap.size u4 (-(tq * W)) from by first | exact (HM4.out.below hb).more hb.size | exact (HM4.out.below (undrew hb)).more (undrew hb).size | exact (HM4.out.al.below hb).more hb.size | exact (HM4.out.al.below (undrew hb)).more (undrew hb).size); have jj0 := keep_cell kk0 HBb.out; have jj1 := keep_cell kk1 HBb.out; have jj2 := keep_cell kk2 HBb.out; have jj3 := keep_cell kk3 HBb.out; have jj4 := keep_cell kk4 HBb.out; have jj5 := keep_cell kk5 HBb.out; clear hb)
                | ((refine step_own2 (by rfl) _ _ (by rfl) Try.underlying50 hi36 hz360 hz361 hz362 (by rfl) (by decide) u8 i (nmCells As) (by rfl) (HAs.out.2.1.below (HBb.out.alloc HBb.out.size _)) ⟨w63.heap.size, 0, none⟩ 1 [.slice A6 n6 c6, .bool m6] (by rfl) rfl (two_cells _ _ _ _ _ _) (two_one _ _ _ _) (by unfold maxLen; omega) (by omega) (by have := HBb.out.size; have := HNE.out.1; simp; omega) (two_num _ _ _ _) knum_zero ?_; intro v7 w7 hown7 hg7; have jj0 := hg7.cell (keep_cell kk0 (HBb.out.alloc HBb.out.size (.cells #[.slice A6 n6 c6, .bool m6] 36))) HNE.out.2.1; have jj1 := hg7.cell (keep_cell kk1 (HBb.out.alloc HBb.out.size (.cells #[.slice A6 n6 c6, .bool m6] 36))) HNE.out.2.1; have jj2 := hg7.cell (keep_cell kk2 (HBb.out.alloc HBb.out.size (.cells #[.slice A6 n6 c6, .bool m6] 36))) HNE.out.2.2.1; have jj3 := hg7.cell (keep_cell kk3 (HBb.out.alloc HBb.out.size (.cells #[.slice A6 n6 c6, .bool m6] 36))) HNE.out.2.2.1; have jj4 := hg7.cell (keep_cell kk4 (HBb.out.alloc HBb.out.size (.cells #[.slice A6 n6 c6, .bool m6] 36))) HNE.out.2.2.2; have jj5 := hg7.cell (keep_cell kk5 (HBb.out.alloc HBb.out.size (.cells #[.slice A6 n6 c6, .bool m6] 36))) HNE.out.2.2.2; have HC7 := Lib.hid (show L2 w w7 t ws (i + 1) (i + 1) v6 v7 from (HC6.out.below (HBb.out.alloc HBb.out.size (.cells #[.slice A6 n6 c6, .bool m6] 36))).app_cut (a := (A6, n6, c6, m6)) As HAs.out.1 (HAs.out.2.1.below (HBb.out.alloc HBb.out.size _)) (HAs.out.2.2.below (HBb.out.alloc HBb.out.size _)) (by rw [HQE.out.2]; exact HM5.out.al) (by rw [nmCells_snoc]; exact hown7) hg7); clear hown7 hg7)))
            obtain ⟨⟨lf0, lf0'⟩, lf1, lf1'⟩ := HLF.out
            have lfw : IntKind.i64.wrap (t - S0 - tq) = t - S0 - tq := by rw [IntKind.wrap_i64]; omega
            go_wp2_with fail
            exact ⟨⟨i + 1, by go_num, by omega, by rw [HQT.out.2]; first | (congr 1; omega) | (rw [show t - (S0 + tq) = t - S0 - tq by omega]; first | rfl | (congr 1)), HC7.out⟩, by simp [RowKit.intOf]; omega⟩
        · obtain rfl : i = k := by omega
          have hltz : ¬ (i : Int) < (i : Int) := by omega
          have HNP := Lib.hid (show 0 < i from by
            rcases Nat.eq_zero_or_pos i with x | x
            · have h5 := HM.out.2.2.2.2
              rw [List.length_eq_zero_iff.1 (HL.out.trans x)] at h5
              exact absurd h5 (by decide)
            · exact x)
          obtain ⟨L, hL⟩ : ∃ L : Nat, Sv.left t ws = (L : Int) := ⟨(Sv.left t ws).toNat, by have := (Sv.left_bd (t := t) HM.out.2.2.2.2).1; omega⟩
          have hLn : L ≤ i := by have := Sv.left_le (t := t) HM.out.2.2.2.2; have := HL.out; omega
          have elf : t - ((Sv.qs t ws).take i).sum = (L : Int) := by
            rw [List.take_of_length_le (by simp [Sv.qs, HL.out])]; exact hL
          rw [elf]
          obtain ⟨go, co, rfl, hgo1, hgo2, hgo3⟩ := HC.out.out.form HNP.out
          obtain ⟨As, has1, has2, has3⟩ := HC.out.cut
          obtain ⟨gc, cc, rfl, hgc1, hgc2, hgc3⟩ := has2.form HNP.out
          have eqs : (Sv.qs t ws).take i = Sv.qs t ws := List.take_of_length_le (by simp [Sv.qs, HL.out])
          have HARR := Lib.hid (show Arr (.int .i64) wr go (Sv.qs t ws) from by have := HC.out.out; rw [eqs] at this; exact this.arr)
          have HCUT := Lib.hid (has2.cutv has1 has3)
          have HNE := Lib.hid (show go ≠ gc ∧ NoD wr go ∧ w.heap.size ≤ go ∧ go < wr.heap.size ∧ gc < wr.heap.size ∧ Below w.heap.size w wr from ⟨by
            have := own_apart HC.out.out has2 (by decide)
            simp [Value.ownBlock] at this
            exact this, fun j z => HC.out.out.noDig_int go rfl j z, by omega, hgo2, hgc2, HC.out.low⟩)
          have HLL := Lib.hid hL
          have hci : (i : Int) ≤ (cc : Int) := by omega
          have hcoi : (i : Int) ≤ (co : Int) := by omega
          clear hL elf hgo1 hgo2 hgo3 has1 has2 has3 hgc1 hgc2 hgc3 eqs HC
          obtain ⟨i4, hi4, hz40, hz41, hz42⟩ := info4
          go_wp2_with (at_make; refine wpList_make_eq _ rfl _ _ 54 rfl 4 i4 (.bool false) Try.underlying54 hi4 hz40 hz41 i rfl rfl (by rw [hz42]; omega) (by unfold maxLen; omega) ?_)
          have hbA : Below wr.heap.size wr (wr.alloc (.cells (madeCells #[.bool false] i) 4)) := (Below.refl _ _).alloc (Nat.le_refl _) _
          have HA := Lib.hid (show Arr fB (wr.alloc (.cells (madeCells #[.bool false] i) 4)) wr.heap.size (List.replicate i 0) ∧ Arr (.int .i64) (wr.alloc (.cells (madeCells #[.bool false] i) 4)) go (Sv.qs t ws) ∧ CutV (wr.alloc (.cells (madeCells #[.bool false] i) 4)) gc i (rs t ws) ∧ Below w.heap.size w (wr.alloc (.cells (madeCells #[.bool false] i) 4)) ∧ NoD (wr.alloc (.cells (madeCells #[.bool false] i) 4)) go ∧ NoD (wr.alloc (.cells (madeCells #[.bool false] i) 4)) wr.heap.size from
            ⟨Arr.made fB wr 4 i rfl, HARR.out.below hbA HNE.out.2.2.2.1, HCUT.out.below hbA, HNE.out.2.2.2.2.2.alloc HNE.out.2.2.2.2.2.size _, HNE.out.2.1.below hbA HNE.out.2.2.2.1, fun j z e => by
              rw [cell_of_row _ _ _ _ _ _ (heap_alloc_new wr _)] at e
              have := Array.mem_of_getElem? e
              simp [madeCells] at this
              obtain ⟨_, _, h2⟩ := this
              rw [Nat.mod_one] at h2
              cases h2⟩)
          obtain ⟨gg, hgg⟩ : ∃ gg, gg = wr.heap.size := ⟨_, rfl⟩
          have HGG := Lib.hid (show gg ≠ go ∧ gg ≠ gc ∧ go ≠ gc ∧ w.heap.size ≤ go ∧ w.heap.size ≤ gg from by have := HNE.out; have := HNE.out.2.2.2.2.2.size; refine ⟨by omega, by omega, HNE.out.1, by omega, by omega⟩)
          rw [← hgg] at HA ⊢
          generalize wr.alloc (.cells (madeCells #[.bool false] i) 4) = w9 at HA ⊢
          clear hgg hbA HARR HCUT HNE
          go_wp2_with fail
          go_loopw [9] (fun lf wr => ∃ (T : Nat) (l gl : List Int), lf = .int .i64 ((L : Int) - (T : Int)) ∧ T ≤ L ∧ Hid (Arr (.int .i64) wr go l ∧ Given t ws T l ∧ Arr fB wr gg gl ∧ gl.length = i ∧ (∀ j, j < i → gl.getD j 0 = if Sv.rank (Sv.kk t ws) ws.length j < T then 1 else 0) ∧ CutV wr gc i (rs t ws) ∧ Below w.heap.size w wr ∧ NoD wr go ∧ NoD wr gg)) (fun lf wr => (RowKit.intOf lf).toNat)
          case atStart => exact ⟨0, Sv.qs t ws, List.replicate i 0, by simp, Nat.zero_le _, HA.out.2.1, ⟨by simp [Sv.qs], fun j hj => by
              have : j < (List.range ws.length).length := by rw [List.length_range]; exact hj
              rw [if_neg (by omega), Int.add_zero]
              unfold Sv.qs
              rw [List.getD_eq_getElem?_getD, List.getElem?_map, List.getElem?_eq_getElem this]; simp⟩, HA.out.1, by simp, fun j hj => by rw [List.getD_eq_getElem?_getD, List.getElem?_replicate, if_pos hj, if_neg (by omega)]; rfl, HA.out.2.2.1, HA.out.2.2.2.1, HA.out.2.2.2.2.1, HA.out.2.2.2.2.2⟩
          case round =>
            clear HA
            obtain ⟨T, l, gl, rfl, hTL, H⟩ := hrel
            by_cases hT : T < L
            · have hTz : (0 : Int) < (L : Int) - (T : Int) := by omega
              go_wp2_with fail
              go_loopw [16, 17] (fun b v wx => ∃ i2 : Nat, v = .int .i64 i2 ∧ i2 ≤ i ∧ Hid (Best (Sv.kk t ws) ws.length T i2 b ∧ Below wr.heap.size wr wx)) (fun b v wx => i - (RowKit.intOf v).toNat)
              case atStart => exact ⟨0, rfl, Nat.zero_le _, .inl ⟨rfl, fun j hj => absurd hj (Nat.not_lt_zero _)⟩, Below.refl _ _⟩
              case round =>
                obtain ⟨i2, rfl, hi2n, HX⟩ := hrel
                obtain ⟨wx, hwx⟩ : ∃ wx : World, wx = wr := ⟨_, rfl⟩
                by_cases hlt4 : i2 < i
                · have hltz4 : (i2 : Int) < (i : Int) := by omega
                  have hwl : i2 < ws.length := by rw [HL.out]; exact hlt4
                  have cg := (HX.out.2.cell (p := ⟨gg, i2, none⟩) H.out.2.2.1.1).trans (H.out.2.2.1.c i2 (by rw [H.out.2.2.2.1]; exact hlt4))
                  rw [H.out.2.2.2.2.1 i2 hlt4] at cg
                  by_cases hr : Sv.rank (Sv.kk t ws) ws.length i2 < T
                  · rw [if_pos hr] at cg
                    have cg' : wr.cell? ⟨gg, i2, none⟩ = some (.bool true) := cg
                    have HN := Lib.hid (show Best (Sv.kk t ws) ws.length T (i2 + 1) u16 ∧ Below _ _ wr from ⟨HX.out.1.skip hr, HX.out.2⟩)
                    clear cg HX hr
                    go_wp2_with fail
                    go_quiet (fail)
                    go_wp2_with fail
                    exact ⟨⟨i2 + 1, by go_num, by omega, HN.out.1, HN.out.2.trans (below_drewN _ _ _)⟩, by simp [RowKit.intOf]; omega⟩
                  · rw [if_neg hr] at cg
                    have cg' : wr.cell? ⟨gg, i2, none⟩ = some (.bool false) := cg
                    have hTr : T ≤ Sv.rank (Sv.kk t ws) ws.length i2 := by omega
                    rcases HX.out.1 with ⟨rfl, hb⟩ | ⟨bb, rfl, hb1, hb2, hb3⟩
                    · have HN := Lib.hid (show Best (Sv.kk t ws) ws.length T (i2 + 1) (.int .i64 i2) ∧ Below _ _ wr from ⟨Best.first hb hTr, HX.out.2⟩)
                      clear cg HX hr hb hTr
                      go_wp2_with fail
                      go_quiet (fail)
                      go_wp2_with fail
                      exact ⟨⟨i2 + 1, by go_num, by omega, HN.out.1, HN.out.2.trans (below_drewN _ _ _)⟩, by simp [RowKit.intOf]; omega⟩
                    · have CX := Lib.hid (H.out.2.2.2.2.2.1.below HX.out.2)
                      obtain ⟨A1, k1, c1, m1, kk1, kk2, hn1⟩ := CX.out.2 i2 hlt4
                      obtain ⟨A2, k2, c2, m2, kk3, kk4, hn2⟩ := CX.out.2 bb (by omega)
                      have HNi := Lib.hid hn1
                      have HNb := Lib.hid hn2
                      have hS := HM.out.2.2.2.2
                      have r1 := rs_kk (t := t) hS i2
                      have r2 := rs_kk (t := t) hS bb
                      have r3 := Sv.kk_of (t := t) hS i2
                      have r4 := Sv.kk_of (t := t) hS bb
                      have r5 := Int.emod_lt_of_pos (t * ws.getD i2 0) hS
                      have r6 := Int.emod_lt_of_pos (t * ws.getD bb 0) hS
                      have HSm := Lib.hid (show Small (rs t ws i2) ∧ Small (-(rs t ws bb)) from by
                        have := HW.out
                        exact ⟨small_of (by omega) (by omega), small_of (by omega) (by omega)⟩)
                      have nb : ¬ (bb : Int) < 0 := by omega
                      have nbd : decide ((bb : Int) < 0) = false := decide_eq_false nb
                      have nb2 : (bb : Int) < (i : Int) := by omega
                      have kk0 := cg'
                      have HBX := Lib.hid HX.out.2
                      by_cases hcmp : Sv.kk t ws bb < Sv.kk t ws i2
                      · have EC := Lib.hid (show cmpv (rs t ws i2 - rs t ws bb) = 1 from by
                          unfold cmpv; rw [r1, r2, if_neg (by omega), if_neg (by omega)])
                        have HN := Lib.hid (Best.better hb3 hTr hcmp)
                        clear cg HX hr hb3 hTr hn1 hn2 r1 r2 r3 r4 r5 r6 hS hcmp cg'
                        go_wp2_with fail
                        have HBb := Lib.hid (Below.refl wr.heap.size wr)
                        go_region_held3 (fun w' => w'.cell? ⟨gg, i2, none⟩ = some (.bool false) ∧ w'.cell? ⟨gc, i2 * 2, none⟩ = some (.slice A1 k1 c1) ∧ w'.cell? ⟨gc, i2 * 2 + 1, none⟩ = some (.bool m1) ∧ w'.cell? ⟨gc, bb * 2, none⟩ = some (.slice A2 k2 c2) ∧ w'.cell? ⟨gc, bb * 2 + 1, none⟩ = some (.bool m2))
                          (refine ⟨?_, ?_, ?_, ?_, ?_⟩ <;> (first | assumption | (refine keep_cell (w := wr) (by assumption) ?_; first | exact HBb.out | exact HBb.out.drew | exact HBb.out.alloc HBb.out.size _ | exact HBb.out.drew.alloc HBb.out.size _ | exact (HBb.out.alloc HBb.out.size _).setCell HBb.out.size _ | exact ((HBb.out.alloc HBb.out.size _).setCell HBb.out.size _).setCell HBb.out.size _ | exact HBb.out.setCell HVn.out.2.2 _ | exact (HBb.out.setCell HVn.out.2.2 _).setCell HVn.out.2.2 _)))
                          (first
                            | (go_at_call 19; refine (cmp_num _ _ (rs t ws i2) (rs t ws bb) _ (by first | exact HNi.out | exact HNi.out.al) (by first | exact HNb.out | exact HNb.out.al) HSm.out.1 HSm.out.2).mono ?_; rw [EC.out]; rintro e wr1 ⟨rfl, hb⟩; have HBb := Lib.hid (show Below wr.heap.size wr wr1 from by first | exact HBb.out.trans (hb.mono HBb.out.size) | exact HBb.out.trans ((undrew hb).mono HBb.out.size) | exact (HBb.out.alloc HBb.out.size _).trans (hb.mono (HBb.out.alloc HBb.out.size _).size) | exact (HBb.out.alloc HBb.out.size _).trans ((undrew hb).mono (HBb.out.alloc HBb.out.size _).size)); have jj0 := keep_cell kk0 HBb.out; have jj1 := keep_cell kk1 HBb.out; have jj2 := keep_cell kk2 HBb.out; have jj3 := keep_cell kk3 HBb.out; have jj4 := keep_cell kk4 HBb.out; clear hb))
                        go_wp2_with fail
                        exact ⟨⟨i2 + 1, by go_num, by omega, HN.out, HBX.out.trans (HBb.out.mono HBX.out.size)⟩, by simp [RowKit.intOf]; omega⟩
                      · obtain ⟨zc, hzc⟩ : ∃ zc, cmpv (rs t ws i2 - rs t ws bb) = zc := ⟨_, rfl⟩
                        have zc0 : ¬ 0 < zc := by
                          rw [← hzc]; unfold cmpv; rw [r1, r2]; split
                          · omega
                          · rw [if_pos (by omega)]; omega
                        have zcd : decide (zc > 0) = false := decide_eq_false zc0
                        have EC := Lib.hid hzc
                        have HN := Lib.hid (Best.stays hb1 hb2 hb3 (show Sv.kk t ws i2 ≤ Sv.kk t ws bb by omega))
                        clear cg HX hr hb3 hTr hn1 hn2 r1 r2 r3 r4 r5 r6 hS hcmp cg' hzc
                        go_wp2_with fail
                        have HBb := Lib.hid (Below.refl wr.heap.size wr)
                        go_region_held3 (fun w' => w'.cell? ⟨gg, i2, none⟩ = some (.bool false) ∧ w'.cell? ⟨gc, i2 * 2, none⟩ = some (.slice A1 k1 c1) ∧ w'.cell? ⟨gc, i2 * 2 + 1, none⟩ = some (.bool m1) ∧ w'.cell? ⟨gc, bb * 2, none⟩ = some (.slice A2 k2 c2) ∧ w'.cell? ⟨gc, bb * 2 + 1, none⟩ = some (.bool m2))
                          (refine ⟨?_, ?_, ?_, ?_, ?_⟩ <;> (first | assumption | (refine keep_cell (w := wr) (by assumption) ?_; first | exact HBb.out | exact HBb.out.drew | exact HBb.out.alloc HBb.out.size _ | exact HBb.out.drew.alloc HBb.out.size _ | exact (HBb.out.alloc HBb.out.size _).setCell HBb.out.size _ | exact ((HBb.out.alloc HBb.out.size _).setCell HBb.out.size _).setCell HBb.out.size _ | exact HBb.out.setCell HVn.out.2.2 _ | exact (HBb.out.setCell HVn.out.2.2 _).setCell HVn.out.2.2 _)))
                          (first
                            | (go_at_call 19; refine (cmp_num _ _ (rs t ws i2) (rs t ws bb) _ (by first | exact HNi.out | exact HNi.out.al) (by first | exact HNb.out | exact HNb.out.al) HSm.out.1 HSm.out.2).mono ?_; rw [EC.out]; rintro e wr1 ⟨rfl, hb⟩; have HBb := Lib.hid (show Below wr.heap.size wr wr1 from by first | exact HBb.out.trans (hb.mono HBb.out.size) | exact HBb.out.trans ((undrew hb).mono HBb.out.size) | exact (HBb.out.alloc HBb.out.size _).trans (hb.mono (HBb.out.alloc HBb.out.size _).size) | exact (HBb.out.alloc HBb.out.size _).trans ((undrew hb).mono (HBb.out.alloc HBb.out.size _).size)); have jj0 := keep_cell kk0 HBb.out; have jj1 := keep_cell kk1 HBb.out; have jj2 := keep_cell kk2 HBb.out; have jj3 := keep_cell kk3 HBb.out; have jj4 := keep_cell kk4 HBb.out; clear hb))
                        go_wp2_with fail
                        exact ⟨⟨i2 + 1, by go_num, by omega, HN.out, HBX.out.trans (HBb.out.mono HBX.out.size)⟩, by simp [RowKit.intOf]; omega⟩
                · have hltz4 : ¬ (i2 : Int) < (i : Int) := by omega
                  obtain rfl : i2 = i := by omega
                  obtain ⟨bb, rfl, hb1, hb2⟩ := HX.out.1.last_of (by rw [HL.out]) (by rw [HL.out]; omega)
                  have hbi : bb < i2 := by rw [← HL.out]; exact hb1
                  obtain ⟨a1, a2, a3, a4, a5, a6, a7, a8, a9⟩ := H.out
                  have b1 := a1.below HX.out.2 a1.1
                  have b3 := a3.below HX.out.2 a3.1
                  have b6 := a6.below HX.out.2
                  have b7 := a7.trans (HX.out.2.mono a7.size)
                  have b8 := a8.below HX.out.2 a1.1
                  have b9 := a9.below HX.out.2 a3.1
                  have i1 : bb < l.length := by rw [a2.1]; exact hb1
                  have i3 : bb < gl.length := by rw [a4]; exact hbi
                  have cg := b3.c bb i3
                  have zg := b3.z bb i3
                  have co1 := b1.c bb i1
                  have zo1 := b1.z bb i1
                  have hv := a2.2 bb hb1
                  rw [hb2, if_neg (Nat.lt_irrefl T), Int.add_zero] at hv
                  rw [hv] at co1
                  have hq := Sv.q_bd HM.out bb
                  have co2 : (wr.setCell ⟨gg, bb, none⟩ (.bool true)).cell? ⟨go, bb, none⟩ = some (.int .i64 (Sv.q t ws bb)) := by
                    rw [World.cell?_setCell_other _ _ _ _ (by intro e; simp only [Addr.mk.injEq] at e; exact HGG.out.1 e.1)]; exact co1
                  have zo2 : (wr.setCell ⟨gg, bb, none⟩ (.bool true)).frozen? ⟨go, bb, none⟩ = false := by rw [World.frozen?_setCell]; exact zo1
                  have HN := Lib.hid (show Arr (.int .i64) ((wr.setCell ⟨gg, bb, none⟩ (.bool true)).setCell ⟨go, bb, none⟩ (.int .i64 (Sv.q t ws bb + 1))) go (l.set bb (Sv.q t ws bb + 1)) ∧ Given t ws (T + 1) (l.set bb (Sv.q t ws bb + 1)) ∧ Arr fB ((wr.setCell ⟨gg, bb, none⟩ (.bool true)).setCell ⟨go, bb, none⟩ (.int .i64 (Sv.q t ws bb + 1))) gg (gl.set bb 1) ∧ (gl.set bb 1).length = i2 ∧ (∀ j, j < i2 → (gl.set bb 1).getD j 0 = if Sv.rank (Sv.kk t ws) ws.length j < T + 1 then 1 else 0) ∧ CutV ((wr.setCell ⟨gg, bb, none⟩ (.bool true)).setCell ⟨go, bb, none⟩ (.int .i64 (Sv.q t ws bb + 1))) gc i2 (rs t ws) ∧ Below w.heap.size w ((wr.setCell ⟨gg, bb, none⟩ (.bool true)).setCell ⟨go, bb, none⟩ (.int .i64 (Sv.q t ws bb + 1))) ∧ NoD ((wr.setCell ⟨gg, bb, none⟩ (.bool true)).setCell ⟨go, bb, none⟩ (.int .i64 (Sv.q t ws bb + 1))) go ∧ NoD ((wr.setCell ⟨gg, bb, none⟩ (.bool true)).setCell ⟨go, bb, none⟩ (.int .i64 (Sv.q t ws bb + 1))) gg from by
                    have ne : ∀ j, j < ws.length → bb ≠ j → Sv.rank (Sv.kk t ws) ws.length j ≠ T := fun j hj e x => e (rank_inj hb1 hj (hb2.trans x.symm))
                    have b8' : NoD (wr.setCell ⟨gg, bb, none⟩ (.bool true)) go := b8.set cg (fun z e => by cases e)
                    have b9' : NoD (wr.setCell ⟨gg, bb, none⟩ (.bool true)) gg := b9.set cg (fun z e => by cases e)
                    refine ⟨(b1.other ⟨gg, bb, none⟩ (by show gg ≠ go; exact HGG.out.1) _).set bb i1 _, ⟨by rw [List.length_set]; exact a2.1, fun j hj => ?_⟩, (show Arr fB (wr.setCell ⟨gg, bb, none⟩ (.bool true)) gg (gl.set bb 1) from b3.set bb i3 1).other ⟨go, bb, none⟩ (by show go ≠ gg; exact Ne.symm HGG.out.1) _, by rw [List.length_set]; exact a4, fun j hj => ?_, (b6.store HGG.out.2.1 b9).store HGG.out.2.2.1 b8', (b7.setCell HGG.out.2.2.2.2 _).setCell HGG.out.2.2.2.1 _, b8'.set co2 (fun z e => by cases e), b9'.set co2 (fun z e => by cases e)⟩
                    · by_cases e : bb = j
                      · subst e; rw [getD_set_self _ _ _ i1, hb2, if_pos (by omega)]
                      · rw [getD_set_ne _ _ _ _ e, a2.2 j hj]
                        congr 1
                        have := ne j hj e
                        by_cases x : Sv.rank (Sv.kk t ws) ws.length j < T
                        · rw [if_pos x, if_pos (by omega)]
                        · rw [if_neg x, if_neg (by omega)]
                    · by_cases e : bb = j
                      · subst e; rw [getD_set_self _ _ _ i3, hb2, if_pos (by omega)]
                      · rw [getD_set_ne _ _ _ _ e, a5 j hj]
                        have := ne j (by rw [HL.out]; exact hj) e
                        by_cases x : Sv.rank (Sv.kk t ws) ws.length j < T
                        · rw [if_pos x, if_pos (by omega)]
                        · rw [if_neg x, if_neg (by omega)])
                  have nb : ¬ (bb : Int) < 0 := by omega
                  have nb2 : (bb : Int) < (i2 : Int) := by omega
                  have HQ2 := Lib.hid (show Sv.q t ws bb ≤ 10000000000000 from Int.le_trans hq.2 HM.out.2.1)
                  obtain ⟨hq0, hq1⟩ := hq
                  have hq2 := HQ2.out
                  clear HX H a1 a2 a3 a4 a5 a6 a7 a8 a9 b1 b3 b6 b7 b8 b9 i1 i3 hv co1 zo1 hb1 hb2 hq1
                  unfold fB at cg
                  generalize Sv.q t ws bb = qb at *
                  go_wp2_with fail
                  exact ⟨⟨T + 1, _, _, by first | go_num | (congr 1; omega), by omega, HN.out⟩, by simp [RowKit.intOf]; omega⟩
            · have hTz : ¬ (0 : Int) < (L : Int) - (T : Int) := by omega
              obtain rfl : T = L := by omega
              have EQ := Lib.hid (show l = Sv.shares t ws from list_eq (n := i) (H.out.2.1.1.trans HL.out) ((Sv.shares_length t ws).trans HL.out) fun j hj => by
                have hj' : j < ws.length := by rw [HL.out]; exact hj
                rw [H.out.2.1.2 j hj', Sv.shares_get t ws j hj']
                unfold Sv.sh
                rw [HLL.out]
                congr 1
                by_cases x : Sv.rank (Sv.kk t ws) ws.length j < T
                · rw [if_pos x, if_pos (by omega)]
                · rw [if_neg x, if_neg (by omega)])
              go_wp2_with fail
              go_ret
              refine ⟨some ⟨go, 0, none⟩, i, ⟨co, rfl⟩, ?_, H.out.2.2.2.2.2.2.1⟩
              have r := H.out.1.rd wr.heap.size H.out.1.1
              rw [EQ.out, Sv.shares_length, HL.out] at r
              exact r
end Go.Proofs.Ytinimjejdkcodaa
