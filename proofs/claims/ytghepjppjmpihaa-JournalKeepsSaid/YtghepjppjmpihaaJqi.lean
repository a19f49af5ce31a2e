/- The program's journal: its iterator, and what it tells. -/
import Derived.Test.YtghepjppjmpihaaJqc
import Derived.Test.YtghepjppjmpihaaJqr
import Derived.Test.YtghepjppjmpihaaDw
import Derived.RangeFuncNested
import Derived.Shelf.Abstract
import Derived.Shelf.RegionOpen
import Derived.WalkKit
import Derived.OwnWalkIn
import Derived.TacticsInMore
import Derived.LoopNIn
import Derived.LoopIn
namespace Go.Proofs.Ytghepjppjmpihaa
open Go.ChangeShapes Go.WideShapes Go.ChangeAt Go.RowKit Go.Lib
attribute [local go_sem] Oper.semAt_some

theorem fd_drop (l : List Int) (a : Nat) (ha : a ≤ l.length) : Jk.fd (l.drop a) 0 = Jk.fd l a := by
  have hg : ∀ i, (l.drop a).getD i 0 = l.getD (a + i) 0 := fun i => by rw [List.getD_eq_getElem?_getD, List.getElem?_drop, ← List.getD_eq_getElem?_getD]
  have hok : ∀ n, Jk.OkAt (l.drop a) 0 n ↔ Jk.OkAt l a n := fun n => by
    unfold Jk.OkAt
    rw [List.length_drop]
    constructor
    · rintro ⟨h1, h2, h3, h4⟩
      exact ⟨h1, h2, by omega, fun i hi => by rw [← hg, ← h4 i hi, Nat.zero_add]⟩
    · rintro ⟨h1, h2, h3, h4⟩
      exact ⟨h1, h2, by omega, fun i hi => by rw [Nat.zero_add, hg]; exact h4 i hi⟩
  by_cases h : Jk.fd l a = 0
  · rw [h]
    refine Jk.fd_none fun n hn => ?_
    have := Jk.fd_ok ((hok n).1 hn)
    have := hn.1
    omega
  · exact Jk.fd_ok ((hok _).2 (Jk.fd_yes h))
theorem by_drop {l : List Int} (h : Jk.By l) (a : Nat) : Jk.By (l.drop a) := fun i => by
  rw [List.getD_eq_getElem?_getD, List.getElem?_drop, ← List.getD_eq_getElem?_getD]; exact h _
/-- how many bytes are left, as the box says it -/
def lenAt (W : World) (b : Nat) : Nat := match W.cell? ⟨b, 0, none⟩ with | some (.slice _ n _) => n | _ => 0
theorem lenAt_eq {W : World} {b n c : Nat} {A : Option Addr} (h : W.cell? ⟨b, 0, none⟩ = some (.slice A n c)) : lenAt W b = n := by unfold lenAt; rw [h]
/-- what is told of a record: a piece of the bytes, which lie in block g -/
def Pc (g0 : Nat) (_ : List (List Int)) (x : List Int) (W : World) (v : Value) : Prop :=
  ∃ off c, v = .slice (some ⟨g0, off, none⟩) x.length c ∧ RdK .u8 W W.heap.size (some ⟨g0, off, none⟩) x.length x ∧ 1 ≤ x.length ∧ x.length ≤ 1024 ∧ x.length ≤ c ∧ c ≤ maxLen
/-- what first tells, of a row whose first record has n bytes (0: none) -/
def Fv (n : Nat) (A : Option Addr) (c : Nat) (v : Value) : Prop := (n = 0 ∧ v = .slice none 0 0) ∨ (n ≠ 0 ∧ ∃ g off, A = some ⟨g, off, none⟩ ∧ v = .slice (some ⟨g, off + 8, none⟩) n (c - 8))
theorem first_at {n : Nat} {all : List Int} (hY : Jk.By all) (a : Nat) (ha : a ≤ all.length) (A : Option Addr) (m c : Nat) (w : World) (hr : RdK .u8 w w.heap.size A m (all.drop a)) (hLc : m ≤ c) (hcm : c ≤ maxLen) :
    CallsIn Fence.wide n Try.prog 43 #[.slice A m c] w fun e w' => (∃ v, e = .returned v ∧ Fv (Jk.fd all a) A c v) ∧ Below w.heap.size w w' := by
  refine callsIn_wide.2 ((first_any w (by_drop hY a) hr hLc hcm).mono ?_)
  rw [fd_drop _ _ ha]
  rintro e w' ⟨⟨h1, h2⟩ | ⟨h1, g, off, h2, h3⟩, h4⟩
  · exact ⟨⟨_, h2, .inl ⟨h1, rfl⟩⟩, h4⟩
  · exact ⟨⟨_, h3, .inr ⟨h1, g, off, h2, rfl⟩⟩, h4⟩
/-- where the iterator is: k records have come, the rest begins at a -/
structure At (all : List Int) (rs : List (List Int)) (Bn : Nat) (g0 : Nat) (L k a : Nat) (A : Option Addr) (c : Nat) (bv : Value) (W : World) : Prop where
  it : Jk.it all k = some (a, rs.take k)
  le : k ≤ rs.length
  cell : W.cell? ⟨Bn, 0, none⟩ = some (.slice A (L - a) c)
  free : W.frozen? ⟨Bn, 0, none⟩ = false
  lt : Bn < W.heap.size
  rd : RdK .u8 W W.heap.size A (L - a) (all.drop a)
  blk : 0 < L - a → ∀ g off, A = some ⟨g, off, none⟩ → g = g0
  lc : L - a ≤ c
  cm : c ≤ maxLen
  fv : Fv (Jk.fd all a) A c bv
theorem At.end_ {all : List Int} {rs : List (List Int)} {Bn g0 L k a c e : Nat} {A : Option Addr} {bv : Value} {W : World} (h : At all rs Bn g0 L k a A c bv W) (hJ : Jk.J all rs e) (hf : Jk.fd all a = 0) : rs.take k = rs ∧ a = e := by
  have hlen := Jk.it_len h.it
  exact Jk.J_unique ⟨by rw [hlen]; exact h.it, hf⟩ hJ
theorem At.next {all : List Int} {rs : List (List Int)} {Bn g0 L k a c e : Nat} {A : Option Addr} {bv : Value} {W : World} (h : At all rs Bn g0 L k a A c bv W) (hJ : Jk.J all rs e) (hf : Jk.fd all a ≠ 0) :
    k < rs.length ∧ rs.take (k + 1) = rs.take k ++ [Jk.rc all a (Jk.fd all a)] ∧ Jk.it all (k + 1) = some (a + 8 + Jk.fd all a, rs.take (k + 1)) := by
  have h1 := Jk.it_next h.it hf
  have hk : k < rs.length := by
    rcases Nat.lt_or_ge k rs.length with hk | hk
    · exact hk
    · exfalso
      have e1 : k = rs.length := Nat.le_antisymm h.le hk
      have h2 := hJ.1
      rw [← e1, h.it] at h2
      injection h2 with h2; injection h2 with h3 _
      rw [h3] at hf; exact hf hJ.2
  have hi : rs.take (k + 1) = rs.take k ++ [Jk.rc all a (Jk.fd all a)] := by
    obtain ⟨j, hj⟩ : ∃ j, rs.length = k + 1 + j := ⟨rs.length - (k + 1), by omega⟩
    have hpre : ∀ j {a' : Nat} {rs' : List (List Int)}, Jk.it all (k + 1 + j) = some (a', rs') → rs'.take (k + 1) = rs.take k ++ [Jk.rc all a (Jk.fd all a)] := by
      intro j
      induction j with
      | zero =>
        intro a' rs' hh
        rw [Nat.add_zero, h1] at hh
        injection hh with hh; injection hh with _ hh
        rw [← hh, List.take_of_length_le (by simp; omega)]
      | succ j ih =>
        intro a' rs' hh
        obtain ⟨a2, rs2, h2, _, _, rfl⟩ := Jk.it_step hh
        have hl2 : rs2.length = k + 1 + j := Jk.it_len h2
        rw [List.take_append_of_le_length (by omega)]
        exact ih h2
    have h2 := hJ.1
    rw [hj] at h2
    exact hpre j h2
  exact ⟨hk, hi, by rw [hi]; exact h1⟩
set_option maxHeartbeats 2000000 in
/-- the iterator's contract -/
theorem recs_itr {n Bn g0 e L c : Nat} {all : List Int} {rs : List (List Int)} {A : Option Addr} {U : Nat → Prop} (hn : 2 ≤ n) (w : World) (hJ : Jk.J all rs e) (hY : Jk.By all) (hL : all.length = L) (hc0 : w.cell? ⟨Bn, 0, none⟩ = some (.slice A L c)) (hz : w.frozen? ⟨Bn, 0, none⟩ = false) (hB : Bn < w.heap.size)
    (hr : RdK .u8 w w.heap.size A L all) (hg : 0 < L → ∀ g off, A = some ⟨g, off, none⟩ → g = g0) (h0 : g0 ≠ Bn ∧ g0 < w.heap.size) (hLc : L ≤ c) (hcm : c ≤ maxLen) (hU : ¬ U Bn ∧ ¬ U g0) :
    Itr Fence.wide n Try.prog 42 #[.pointer (some ⟨Bn, 0, none⟩)] (Pc g0) rs (fun k => k = Bn) U w := by
  intro l J W hl hb hJT hJY hJ0
  have hn1 : 1 ≤ n := by omega
  refine callsIn_of_wp Try.func42 rfl trivial ?_ rfl
  simp only [Try.ntmps42, List.size_toArray, List.length_cons, List.length_nil, Nat.reduceAdd, Nat.reduceSub, Array.replicate_succ, Array.replicate_zero, List.push_toArray, List.append_toArray, List.nil_append, List.cons_append]
  have cB := (hb.cell (p := ⟨Bn, 0, none⟩) hB id).trans hc0
  have zB := (hb.frozen (p := ⟨Bn, 0, none⟩) hB id).trans hz
  have hrW : RdK .u8 W W.heap.size A L all := RdK.but hr hb (fun _ _ _ _ => id)
  have FF := Lib.hid (fun a (ha : a ≤ all.length) A m c (w : World) (hr : RdK .u8 w w.heap.size A m (all.drop a)) (hLc : m ≤ c) (hcm : c ≤ maxLen) => first_at (n := n - 1) hY a ha A m c w hr hLc hcm)
  have HR := Lib.hid hrW
  have HI := Lib.hid (show At all rs Bn g0 L 0 0 A c (.slice none 0 0) W → True from fun _ => trivial)
  clear hrW HI
  gi_wp2_with (refine ⟨trivial, ?_⟩; gi_at_call 43; refine (FF.out 0 (Nat.zero_le _) A L c _ HR.out hLc hcm).mono ?_; rintro e1 W1 ⟨⟨bv, rfl, hf⟩, hb1⟩)
  gi_loopw [3] (fun p wr => ∃ k a A c, At all rs Bn g0 L k a A c p wr ∧ J (rs.take k) wr ∧ w.heap.size ≤ wr.heap.size)
    (fun p wr => lenAt wr Bn)
  case atStart =>
    have h1 := (hb1.cell (p := ⟨Bn, 0, none⟩) (Nat.lt_of_lt_of_le hB hb.size)).trans cB
    have h2 := (hb1.frozen (p := ⟨Bn, 0, none⟩) (Nat.lt_of_lt_of_le hB hb.size)).trans zB
    exact ⟨0, 0, A, c, ⟨rfl, Nat.zero_le _, by rw [Nat.sub_zero]; exact h1, h2, Nat.lt_of_lt_of_le hB (Nat.le_trans hb.size hb1.size), RdK.but HR.out (But.of hb1 (fun _ => False)) (fun _ _ _ _ => id), (fun h => hg (by omega)), by rw [Nat.sub_zero]; exact hLc, hcm, hf⟩,
      hJT _ _ _ (by simpa using hJ0) (But.of hb1 _), Nat.le_trans hb.size hb1.size⟩
  case round =>
    obtain ⟨k, a, A, c, hAt, hJk, hsz⟩ := hrel
    rcases hAt.fv with ⟨hf0, rfl⟩ | ⟨hf1, g, off, rfl, rfl⟩
    · gi_wp2
      refine ⟨fun _ h => (nomatch h), ?_⟩
      gi_wp2
      go_end0
      refine ⟨⟨_, rfl⟩, ?_⟩
      rw [← (hAt.end_ hJ hf0).1]; exact hJk
    · obtain ⟨hk, htk, hit⟩ := hAt.next hJ hf1
      obtain ⟨o1, o2, o3, _⟩ := Jk.fd_yes hf1
      have hg0 : g = g0 := hAt.blk (by omega) _ _ rfl
      subst hg0
      have hrc := Jk.rc_len o3
      have hget : ∀ i, i < Jk.fd all a → (Jk.rc all a (Jk.fd all a)).getD i 0 = all.getD (a + 8 + i) 0 := fun i hi => Jk.rc_get hi
      have ht1 := htk ▸ List.take_prefix (k + 1) rs
      rw [htk] at hit
      generalize Jk.rc all a (Jk.fd all a) = x at *
      obtain ⟨q, hq⟩ : ∃ q, q = Jk.fd all a := ⟨_, rfl⟩
      rw [← hq] at o1 o2 o3 hrc hget hit
      have c0 := hAt.cell
      obtain ⟨m, hm⟩ : ∃ m, m = L - a := ⟨_, rfl⟩
      rw [← hm] at c0
      have hmc : m ≤ c := by have := hAt.lc; omega
      have hqm : 8 + q ≤ m := by omega
      have hrd := hAt.rd
      have hdrop : ∀ j, (all.drop a).getD j 0 = all.getD (a + j) 0 := fun j => by rw [List.getD_eq_getElem?_getD, List.getElem?_drop, ← List.getD_eq_getElem?_getD]
      have hcell : ∀ j, j < m → g < wr.heap.size ∧ wr.cell? ⟨g, off + j, none⟩ = some (.int .u8 (all.getD (a + j) 0)) := fun j hj => by
        obtain ⟨g', off', e, h1, h2⟩ := hrd.2 j (by omega)
        injection e with e; injection e with e1 e2; subst e1 e2
        rw [hdrop] at h2
        exact ⟨h1, h2⟩
      have hP : Pc g (rs.take k) x wr (.slice (some ⟨g, off + 8, none⟩) q (c - 8)) := ⟨off + 8, c - 8, by rw [hrc], ⟨rfl, fun j hj => ⟨g, off + 8, rfl, (hcell (8 + j) (by omega)).1, by
        have := (hcell (8 + j) (by omega)).2
        rw [hget j (by omega), Nat.add_assoc, Nat.add_assoc]; exact this⟩⟩, by omega, by omega, by omega, by have := hAt.cm; omega⟩
      obtain ⟨fn, tmps, assign, body, hy, hR⟩ := hJY (rs.take k) x wr _ ht1 hP hJk
      rw [← hq]
      have zB := hAt.free
      have HQ := Lib.hid hit
      have HX := Lib.hid htk
      have HF := Lib.hid hdrop
      have HAL := Lib.hid hAt.lt
      have HCM := Lib.hid hAt.cm
      have HLE := Lib.hid hk
      have hgl : g ≠ l := by have := h0.2; omega
      have R4 : Hid (∀ W3, But (fun k => U k ∨ k = l) wr W3 → ∀ v4, ∀ A4, (8 + q < m → A4 = some ⟨g, off + (8 + q), none⟩) → RdK .u8 (W3.setCell ⟨Bn, 0, none⟩ v4) (W3.setCell ⟨Bn, 0, none⟩ v4).heap.size A4 (m - (8 + q)) (all.drop (a + 8 + q))) := Lib.hid (fun W3 hb3 v4 A4 hA4 => ⟨by rw [List.length_drop]; omega, fun j hj => by
        obtain ⟨h1, h2⟩ := hcell (8 + q + j) (by omega)
        refine ⟨g, off + (8 + q), hA4 (by omega), Nat.lt_of_lt_of_le h1 (Nat.le_trans hb3.size (by simp [World.setCell])), ?_⟩
        rw [World.cell?_setCell_other _ _ _ _ (by intro e; simp only [Addr.mk.injEq] at e; exact h0.1 e.1.symm), (by rfl : off + (8 + q) + j = off + (8 + q) + j), Nat.add_assoc, hb3.cell (p := ⟨g, off + (8 + q + j), none⟩) h1 (by rintro (h | h); exact hU.2 h; exact hgl h), h2, List.getD_eq_getElem?_getD, List.getD_eq_getElem?_getD, List.getElem?_drop]
        congr 4; omega⟩)
      have hBl : Bn ≠ l := by omega
      have HK3 := Lib.hid (fun (W3 : World) (hk3 : But (fun k => U k ∨ k = l) wr W3) => (⟨(hk3.cell (p := ⟨Bn, 0, none⟩) hAt.lt (by rintro (h | h); exact hU.1 h; exact hBl h)).trans c0, (hk3.frozen (p := ⟨Bn, 0, none⟩) hAt.lt (by rintro (h | h); exact hU.1 h; exact hBl h)).trans zB⟩ : W3.cell? ⟨Bn, 0, none⟩ = some (.slice (some ⟨g, off, none⟩) m c) ∧ W3.frozen? ⟨Bn, 0, none⟩ = false))
      have HML := Lib.hid (lenAt_eq c0)
      have hcz : (c : Int) ≤ 9223372036854775807 := by have := hAt.cm; have h2 : maxLen ≤ 9223372036854775807 := by decide
                                                       omega
      have HQQ := Lib.hid hq
      have HM := Lib.hid hm
      clear hq hm
      clear hcell hget hdrop hrd hP hAt hrc zB c0 hit htk hJk ht1 hr hc0 hz cB hJ0 hb1 hb
      gi_wp2
      refine hR.mono ?_
      rintro e W3 ⟨rfl, hJ3, hk3⟩
      obtain ⟨c3, z3⟩ := HK3.out _ hk3
      have HA : Hid (a + 8 + q ≤ all.length) := Lib.hid o3
      have HRR := Lib.hid (R4.out W3 hk3)
      have HC := Lib.hid (show m - (8 + q) ≤ c - (8 + q) ∧ c - (8 + q) ≤ maxLen from ⟨by omega, by have := HCM.out; omega⟩)
      have HJ := Lib.hid (fun v => hJT _ _ _ hJ3 ((But.refl (fun k => k = Bn) W3).setCell (p := ⟨Bn, 0, none⟩) rfl v))
      have HB3 := Lib.hid hk3
      clear hk3 hJ3 R4
      by_cases hcq : c = 8 + q
      · have hm8 : m = 8 + q := by omega
        subst hm8 hcq
        gi_wp2_with (refine ⟨trivial, ?_⟩; gi_at_call 43; refine (FF.out (a + 8 + q) HA.out (some ⟨g, off, none⟩) 0 0 _ (by have := HRR.out (.slice (some ⟨g, off, none⟩) 0 0) (some ⟨g, off, none⟩) (by omega); rw [Nat.sub_self] at this; exact this) (by omega) (by omega)).mono ?_; rintro e1 W5 ⟨⟨bv2, rfl, hf2⟩, hb5⟩)
        have hB5 := But.of hb5 (fun _ => False)
        have hb3 := HB3.out
        have lW4 : Bn < (W3.setCell ⟨Bn, 0, none⟩ (.slice (some ⟨g, off, none⟩) 0 0)).heap.size := by have := hb3.size; have := HAL.out; simp [World.setCell]; omega
        have c5 : W5.cell? ⟨Bn, 0, none⟩ = some (.slice (some ⟨g, off, none⟩) 0 0) := (hb5.cell (p := ⟨Bn, 0, none⟩) lW4).trans (World.cell?_setCell_same _ _ _ c3)
        have z5 : W5.frozen? ⟨Bn, 0, none⟩ = false := (hb5.frozen (p := ⟨Bn, 0, none⟩) lW4).trans (by rw [World.frozen?_setCell]; exact z3)
        have eL : L - (a + 8 + q) = 0 := by have := HM.out; omega
        have hR4 := HRR.out (.slice (some ⟨g, off, none⟩) 0 0) (some ⟨g, off, none⟩) (by omega)
        rw [Nat.sub_self] at hR4
        refine ⟨⟨k + 1, a + 8 + q, some ⟨g, off, none⟩, 0, ⟨by rw [HX.out]; exact HQ.out, HLE.out, by rw [eL]; exact c5, z5, Nat.lt_of_lt_of_le lW4 hb5.size, by rw [eL]; exact RdK.but hR4 hB5 (fun _ _ _ _ => id), (fun _ g' off' e => by injection e with e; injection e with e1 _; exact e1.symm), by omega, by decide, hf2⟩,
          by rw [HX.out]; exact hJT _ _ _ (HJ.out _) (But.of hb5 _), Nat.le_trans (Nat.le_trans hsz hb3.size) (Nat.le_trans (by simp [World.setCell]) hb5.size)⟩, ?_⟩
        rw [lenAt_eq c5, HML.out]; omega
      · gi_wp2_with (refine ⟨trivial, ?_⟩; gi_at_call 43; refine (FF.out (a + 8 + q) HA.out (some ⟨g, off + (8 + q), none⟩) (m - (8 + q)) (c - (8 + q)) _ (HRR.out _ _ (fun _ => rfl)) HC.out.1 HC.out.2).mono ?_; rintro e1 W5 ⟨⟨bv2, rfl, hf2⟩, hb5⟩)
        have hB5 := But.of hb5 (fun _ => False)
        have hb3 := HB3.out
        obtain ⟨v4, hv4⟩ : ∃ v4, v4 = Value.slice (some ⟨g, off + (8 + q), none⟩) (m - (8 + q)) (c - (8 + q)) := ⟨_, rfl⟩
        rw [← hv4] at hb5 hB5
        have lW4 : Bn < (W3.setCell ⟨Bn, 0, none⟩ v4).heap.size := by have := hb3.size; have := HAL.out; simp [World.setCell]; omega
        have c5 : W5.cell? ⟨Bn, 0, none⟩ = some v4 := (hb5.cell (p := ⟨Bn, 0, none⟩) lW4).trans (World.cell?_setCell_same _ _ _ c3)
        have z5 : W5.frozen? ⟨Bn, 0, none⟩ = false := (hb5.frozen (p := ⟨Bn, 0, none⟩) lW4).trans (by rw [World.frozen?_setCell]; exact z3)
        have eL : L - (a + 8 + q) = m - (8 + q) := by have := HM.out; omega
        have hR4 := HRR.out v4 _ (fun _ => rfl)
        have hJ5 := HJ.out v4
        rw [hv4] at c5
        refine ⟨⟨k + 1, a + 8 + q, some ⟨g, off + (8 + q), none⟩, c - (8 + q), ⟨by rw [HX.out]; exact HQ.out, HLE.out, by rw [eL]; exact c5, z5, Nat.lt_of_lt_of_le lW4 hb5.size, by rw [eL]; exact RdK.but hR4 hB5 (fun _ _ _ _ => id), (fun _ g' off' e => by injection e with e; injection e with e1 _; exact e1.symm), by rw [eL]; exact HC.out.1, HC.out.2, hf2⟩,
          by rw [HX.out]; exact hJT _ _ _ hJ5 (But.of hb5 _), Nat.le_trans (Nat.le_trans hsz hb3.size) (Nat.le_trans (by simp [World.setCell]) hb5.size)⟩, ?_⟩
        rw [lenAt_eq c5, HML.out]; omega
end Go.Proofs.Ytghepjppjmpihaa
