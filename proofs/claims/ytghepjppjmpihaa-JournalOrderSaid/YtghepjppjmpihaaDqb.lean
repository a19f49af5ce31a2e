/- The program's disk: what a copy comes to; Write, Read. -/
import Derived.Test.YtghepjppjmpihaaDqa
import Derived.Test.YtghepjppjmpihaaDn
import Derived.Laws.IdiomCopy
namespace Go.Proofs.Ytghepjppjmpihaa
open Go.ChangeShapes Go.WideShapes Go.ChangeAt Go.RowKit Go.Lib

theorem But.setCells (b : Nat) : ∀ (vs : List Value) (o : Nat) (w : World), But (fun k => k = b) w (w.setCells b o vs)
  | [], _, w => But.refl _ w
  | v :: r, o, w => by
    rw [World.setCells]
    exact ((But.refl (fun k => k = b) w).setCell (p := ⟨b, o, none⟩) rfl v).trans (But.setCells b r (o + 1) _)
theorem drewN_setCells (b : Nat) (q : Nat) : ∀ (vs : List Value) (o : Nat) (w : World), (w.drewN q).setCells b o vs = (w.setCells b o vs).drewN q
  | [], _, _ => rfl
  | v :: r, o, w => by
    rw [World.setCells, World.setCells, ← drewN_setCells b q r (o + 1)]; rfl
theorem Arr.lay {f : Int → Value} {w : World} {b : Nat} {l : List Int} (h : Arr f w b l) (zs : List Int) (o : Nat) (ho : o + zs.length ≤ l.length) : Arr f (w.setCells b o (zs.map f)) b (Dk.wr zs l o zs.length) := by
  refine ⟨Nat.lt_of_lt_of_le h.1 (But.setCells b _ _ _).size, fun j hj => ?_⟩
  rw [Dk.wr_len] at hj
  refine ⟨?_, by rw [World.frozen?_setCells]; exact h.z j hj⟩
  rw [Dk.wr_get _ _ _ _ _ ho]
  by_cases k : o ≤ j ∧ j < o + zs.length
  · rw [if_pos k]
    have h1 := World.cell?_setCells_in b (zs.map f) o w (fun i hi => by rw [h.c (o + i) (by rw [List.length_map] at hi; omega)]; rfl) (j - o) (by rw [List.length_map]; omega)
    rw [show o + (j - o) = j by omega] at h1
    rw [h1, List.getElem_map, List.getD_eq_getElem?_getD, List.getElem?_eq_getElem (by omega)]; rfl
  · rw [if_neg k, World.cell?_setCells_out b _ _ _ _ (fun _ _ => by rw [List.length_map]; show j < o ∨ o + zs.length ≤ j; omega)]
    exact h.c j hj
theorem sz8 : (Try.prog.info? 5).map (·.size) = some 1 := by kernel_rfl
/-- copy, of k bytes zs -/
theorem run_copy8 {w : World} {b : Nat} {l : List Int} (h : Arr (.int .u8) w b l) (zs : List Int) (o g off dl dc sl sc : Nat) (hs : ∀ j, j < zs.length → w.cell? ⟨g, off + j, none⟩ = some (.int .u8 (zs.getD j 0)))
    (hn : zs.length = Nat.min sl dl) (ho : o + zs.length ≤ l.length) (ty : TypeId) :
    (Builtin.copy_ #[22, 22] ty #[.slice (some ⟨b, o, none⟩) dl dc, .slice (some ⟨g, off, none⟩) sl sc]).run Try.prog w = .ok (.int .i64 (zs.length : Nat)) (w.setCells b o (zs.map (.int .u8))) := by
  have := run_copy_cells (P := Try.prog) w 22 22 ty 5 b o dl dc ⟨g, off, none⟩ sl sc (zs.map (.int .u8)) Try.underlying22 sz8 (by rw [List.length_map]; exact hn)
    (fun j v hj => by
      rw [List.getElem?_map] at hj
      have hj' : j < zs.length := by
        rcases Nat.lt_or_ge j zs.length with h1 | h1
        · exact h1
        · rw [List.getElem?_eq_none h1] at hj; cases hj
      rw [add_plain, hs j hj', ← hj, List.getElem?_eq_getElem hj', List.getD_eq_getElem?_getD, List.getElem?_eq_getElem hj']; rfl)
    (fun j hj => by rw [List.length_map] at hj; rw [h.c (o + j) (by omega)]; rfl) (fun j hj => by rw [List.length_map] at hj; exact h.z (o + j) (by omega))
    (fun v hv => by obtain ⟨z, _, rfl⟩ := List.mem_map.1 hv; rfl)
  rwa [List.length_map] at this
theorem run_copy0 (w : World) (d a : Option Addr) (dl dc sl sc : Nat) (hn : Nat.min sl dl = 0) (ty : TypeId) :
    (Builtin.copy_ #[22, 22] ty #[.slice d dl dc, .slice a sl sc]).run Try.prog w = .ok (.int .i64 0) w :=
  run_copy_none (P := Try.prog) w 22 22 ty 5 d a dl dc sl sc Try.underlying22 sz8 hn
theorem keyAt (j : Nat) (h : j ≤ 65536) : keyOf Try.prog 3 (.int .i64 (j : Nat)) = some (.int .i64 (j : Nat)) := Maps.keyOf_int_mk Try.underlying3 (by simp [Lit.wf, IntKind.min, IntKind.max, IntKind.signed, IntKind.bits]; omega)
/-- the copy of a write -/
theorem copy_in {b tb sb mb n m : Nat} {st now dr bs : List Int} {D : DataW Unit} {A : Option Addr} {L c p : Nat} (w : World) (h : Dm w b tb sb mb n m st now dr D) (hr : RdK .u8 w w.heap.size A L bs) (hp : p + L ≤ n) :
    ∃ w1, (∀ (A' : Addr) (ty : TypeId), (p < n → A' = ⟨tb, p, none⟩) → (Builtin.copy_ #[22, 22] ty #[.slice (some A') (n - p) (n - p), .slice A L c]).run Try.prog w = .ok (.int .i64 (L : Nat)) w1) ∧
      Dm w1 b tb sb mb n m st (Dk.wr bs now p L) dr D ∧ But (fun k => k = tb) w w1 := by
  have hl := hr.1
  rcases Nat.eq_zero_or_pos L with h0 | h0
  · subst h0
    exact ⟨w, fun A' ty _ => run_copy0 w _ _ _ _ _ _ (by simp) ty, h, But.refl _ _⟩
  · obtain ⟨g, off, rfl, hg, _⟩ := hr.2 0 h0
    refine ⟨_, fun A' ty hA => ?_, h.there (But.setCells tb (bs.map (.int .u8)) p w) ?_ (by rw [Dk.wr_len]; exact h.ln), But.setCells tb _ p w⟩
    · rw [hA (by omega), ← hl]
      exact run_copy8 h.rn bs p g off _ _ _ _ (fun j hj => by
        obtain ⟨g', off', e, _, hc⟩ := hr.2 j (by omega)
        injection e with e; injection e with e1 e2; subst e1 e2; exact hc) (by rw [hl]; simp [Nat.min_def]; omega) (by rw [hl, h.ln]; exact hp) ty
    · rw [← hl]
      exact h.rn.lay bs p (by rw [hl, h.ln]; exact hp)
theorem left_write {w w1 : World} {b tb sb mb n m p L : Nat} {st now dr bs N : List Int} {D : DataW Unit} (hN : N = Dk.wr bs now p L) (h : Dm w1 b tb sb mb n m st N (Dk.dirt dr p L) D)
    (hi : ∀ p, dr.getD (p / 64) 0 ≠ 1 → now.getD p 0 = st.getD p 0) (hl : now.length = n) (hd : dr.length = m) (hp : p + L ≤ 64 * m) (hn : p + L ≤ n) (h2 : But (fun k => k = tb ∨ k = mb) w w1) :
    Left (fun k => k = b ∨ k = tb ∨ k = sb ∨ k = mb) w w1 b m st (Dk.wr bs now p L) (Dk.dirt dr p L) := by
  subst hN
  refine ⟨_, ⟨tb, sb, mb, n, D, rfl, h, fun x hx => ?_⟩, h2.more fun k _ hk => hk.elim (fun h => .inr (.inl h)) (fun h => .inr (.inr (.inr h))), fun k hk => .inl hk⟩
  rw [Dk.dirt_get _ _ _ _ (by omega)] at hx
  rw [Dk.wr_get _ _ _ _ _ (by omega)]
  by_cases k : p ≤ x ∧ x < p + L
  · rw [if_pos (by omega)] at hx
    exact absurd rfl hx
  · rw [if_neg k]
    refine hi x ?_
    by_cases k2 : 0 < L ∧ p / 64 ≤ x / 64 ∧ x / 64 ≤ (p + L - 1) / 64
    · rw [if_pos k2] at hx; exact absurd rfl hx
    · rwa [if_neg k2] at hx
set_option maxRecDepth 100000 in
set_option maxHeartbeats 1000000 in
theorem cwrite_yes {S : Nat → Prop} {b m : Nat} {st now dr bs : List Int} {A : Option Addr} {L c p : Nat} (w : World) (h : Dq S w b m st now dr) (hr : RdK .u8 w w.heap.size A L bs) (hs : 0 < L → ∀ g off, A = some ⟨g, off, none⟩ → ¬ S g) (hp : p + L ≤ 64 * m) (_ : L ≤ c ∧ c ≤ maxLen) :
    Calls Try.prog 10 #[.pointer (some ⟨b, 0, none⟩), .int .i64 p, .slice A L c] w fun e w' => e = .returned .nilIface ∧ Left S w w' b m st (Dk.wr bs now p L) (Dk.dirt dr p L) := by
  obtain ⟨tb, sb, mb, n, D, rfl, h1, h2⟩ := h
  have he := h1.e
  have hle := h1.le
  have cs := phas w h1 p L (by omega) (by omega)
  rw [show decide (0 ≤ (p : Int) ∧ 0 ≤ (L : Int) ∧ (p : Int) + (L : Int) ≤ (n : Int)) = true by simp; omega] at cs
  obtain ⟨w1, hC, hD, hU⟩ := copy_in (c := c) (p := p) w h1 hr (by omega)
  have c0 := h1.c0
  have HD := Lib.hid hD
  have HU := Lib.hid hU
  have HX := Lib.hid h2
  have HL := Lib.hid h1.ln
  have HLD := Lib.hid h1.ld
  have hm1 : n ≤ 64 * m := by omega
  have hpn : (p : Int) ≤ (n : Int) := by omega
  have HPL := Lib.hid (show p + L ≤ 64 * m ∧ p + L ≤ n from ⟨hp, by omega⟩)
  clear h1 h2 hr hs hD hU he
  have hw : IntKind.i64.wrap ((p : Int) + (L : Int)) = ((p + L : Nat) : Int) := by rw [IntKind.wrap_i64]; omega
  obtain ⟨A', hA', hC'⟩ : ∃ A', A' = (if n = p then ⟨tb, 0, none⟩ else ⟨tb, p, none⟩) ∧ ∀ ty, (Builtin.copy_ #[22, 22] ty #[.slice (some A') (n - p) (n - p), .slice A L c]).run Try.prog w = .ok (.int .i64 (L : Nat)) w1 := ⟨_, rfl, fun ty => hC _ ty fun h => if_neg (by omega)⟩
  clear hC
  by_cases hne : n = p
  · rw [if_pos hne] at hA'
    subst hA'
    have e9 := hne.symm
    subst e9
    rw [Nat.sub_self] at hC'
    go_enter Try.func10, Try.ntmps10
    go_wp2_with (go_at_call 25; refine cs.mono ?_; rintro e w' ⟨rfl, rfl⟩)
    clear hC' c0 cs
    obtain ⟨N, hN⟩ : ∃ N, N = Dk.wr bs now p L := ⟨_, rfl⟩
    rw [← hN] at HD
    have HN := Lib.hid hN
    clear hN
    go_loopw [7] (fun iv wr => ∃ (i : Nat) (D' : DataW Unit), iv = .int .i64 i ∧ p ≤ i ∧ i ≤ p + L + 64 ∧ (i = p ∨ i % 64 = 0) ∧ Hid (Dm wr b tb sb mb p m st N (Dk.dirt dr p (min (i - p) L)) D') ∧ Hid (But (fun k => k = tb ∨ k = mb) w' wr)) (fun iv _ => p + L + 64 - (RowKit.intOf iv).toNat)
    case atStart => exact ⟨p, D, rfl, Nat.le_refl _, by omega, .inl rfl, by rw [Nat.sub_self, Nat.zero_min]; exact HD.out, HU.out.more fun k _ hk => .inl hk⟩
    case round =>
      clear HD
      obtain ⟨i, D', rfl, hi1, hi2, hi3, HM, HB⟩ := hrel
      by_cases hlt' : i < p + L
      · have hltz : (i : Int) < ((p + L : Nat) : Int) := by omega
        have c2 := HM.out.c2
        have ho := Lib.hid HM.out.own
        have hkey := Lib.hid (show keyOf Try.prog 3 (.int .i64 ((i : Int) / 64)) = some (.int .i64 ((i / 64 : Nat) : Int)) by rw [show ((i : Int) / 64) = ((i / 64 : Nat) : Int) by omega]; exact keyAt _ (by omega))
        obtain ⟨j, hj⟩ : ∃ j, j = i + (64 - i % 64) := ⟨_, rfl⟩
        have ra : IntKind.i64.wrap (64 - (i : Int) % 64) = 64 - (i : Int) % 64 := by rw [IntKind.wrap_i64]; omega
        have rb : IntKind.i64.wrap ((i : Int) + (64 - (i : Int) % 64)) = (j : Int) := by rw [IntKind.wrap_i64]; omega
        have HJ := Lib.hid (show p ≤ j ∧ j ≤ p + L + 64 ∧ j % 64 = 0 ∧ i < j ∧ Dk.dirt dr p (min (j - p) L) = (Dk.dirt dr p (min (i - p) L)).set (i / 64) 1 from ⟨by omega, by omega, by omega, by omega, by
          refine Dk.ext (by simp [Dk.dirt_len]) fun x hx => ?_
          have hld := HLD.out
          rw [Dk.getD_set _ _ _ _ (by rw [Dk.dirt_len]; omega), Dk.dirt_get _ _ _ _ (by omega), Dk.dirt_get _ _ _ _ (by omega)]
          by_cases e : x = i / 64
          · rw [if_pos (by omega), if_pos e]
          · rw [if_neg e]
            by_cases hx2 : 0 < min (i - p) L ∧ p / 64 ≤ x ∧ x ≤ (p + min (i - p) L - 1) / 64
            · rw [if_pos hx2, if_pos (by omega)]
            · rw [if_neg hx2, if_neg (by omega)]⟩)
        clear hj hi3
        go_wp2_with (at_mapUpdate; refine wpList_mapUpdate_own _ rfl _ _ _ 59 rfl 3 63 keyI Try.underlying59 unitElem mb _ D' rfl ho.out (by have h1 := HM.out.sz; have h2 := Dk.many_le (Dk.dirt dr p (min (i - p) L)) m; unfold maxLen; omega) _ _ _ rfl rfl hkey.out _ [] unitElem_mk ?_; intro w2 ho2 hg2)
        have M2 := HM.out.mark (by omega) hg2 ho2
        rw [← HJ.out.2.2.2.2] at M2
        have B2 := HB.out.trans (But.grown (S := fun k => k = tb ∨ k = mb) hg2 fun k e => by injection e with e; exact .inr e.symm)
        exact ⟨⟨j, _, rfl, HJ.out.1, HJ.out.2.1, .inr HJ.out.2.2.1, M2, B2⟩, by have := HJ.out.2.2.2.1; simp [RowKit.intOf]; omega⟩
      · have hltz : ¬ (i : Int) < ((p + L : Nat) : Int) := by omega
        go_wp2_with fail
        go_ret
        rw [show min (i - p) L = L by omega] at HM
        exact ⟨rfl, left_write HN.out HM.out HX.out HL.out HLD.out HPL.out.1 HPL.out.2 HB.out⟩
  · rw [if_neg hne] at hA'
    subst hA'
    have hlt : p < n := by have := HPL.out; omega
    go_enter Try.func10, Try.ntmps10
    go_wp2_with (go_at_call 25; refine cs.mono ?_; rintro e w' ⟨rfl, rfl⟩)
    clear hC' c0 cs
    obtain ⟨N, hN⟩ : ∃ N, N = Dk.wr bs now p L := ⟨_, rfl⟩
    rw [← hN] at HD
    have HN := Lib.hid hN
    clear hN
    go_loopw [7] (fun iv wr => ∃ (i : Nat) (D' : DataW Unit), iv = .int .i64 i ∧ p ≤ i ∧ i ≤ p + L + 64 ∧ (i = p ∨ i % 64 = 0) ∧ Hid (Dm wr b tb sb mb n m st N (Dk.dirt dr p (min (i - p) L)) D') ∧ Hid (But (fun k => k = tb ∨ k = mb) w' wr)) (fun iv _ => p + L + 64 - (RowKit.intOf iv).toNat)
    case atStart => exact ⟨p, D, rfl, Nat.le_refl _, by omega, .inl rfl, by rw [Nat.sub_self, Nat.zero_min]; exact HD.out, HU.out.more fun k _ hk => .inl hk⟩
    case round =>
      clear HD
      obtain ⟨i, D', rfl, hi1, hi2, hi3, HM, HB⟩ := hrel
      by_cases hlt' : i < p + L
      · have hltz : (i : Int) < ((p + L : Nat) : Int) := by omega
        have c2 := HM.out.c2
        have ho := Lib.hid HM.out.own
        have hkey := Lib.hid (show keyOf Try.prog 3 (.int .i64 ((i : Int) / 64)) = some (.int .i64 ((i / 64 : Nat) : Int)) by rw [show ((i : Int) / 64) = ((i / 64 : Nat) : Int) by omega]; exact keyAt _ (by omega))
        obtain ⟨j, hj⟩ : ∃ j, j = i + (64 - i % 64) := ⟨_, rfl⟩
        have ra : IntKind.i64.wrap (64 - (i : Int) % 64) = 64 - (i : Int) % 64 := by rw [IntKind.wrap_i64]; omega
        have rb : IntKind.i64.wrap ((i : Int) + (64 - (i : Int) % 64)) = (j : Int) := by rw [IntKind.wrap_i64]; omega
        have HJ := Lib.hid (show p ≤ j ∧ j ≤ p + L + 64 ∧ j % 64 = 0 ∧ i < j ∧ Dk.dirt dr p (min (j - p) L) = (Dk.dirt dr p (min (i - p) L)).set (i / 64) 1 from ⟨by omega, by omega, by omega, by omega, by
          refine Dk.ext (by simp [Dk.dirt_len]) fun x hx => ?_
          have hld := HLD.out
          rw [Dk.getD_set _ _ _ _ (by rw [Dk.dirt_len]; omega), Dk.dirt_get _ _ _ _ (by omega), Dk.dirt_get _ _ _ _ (by omega)]
          by_cases e : x = i / 64
          · rw [if_pos (by omega), if_pos e]
          · rw [if_neg e]
            by_cases hx2 : 0 < min (i - p) L ∧ p / 64 ≤ x ∧ x ≤ (p + min (i - p) L - 1) / 64
            · rw [if_pos hx2, if_pos (by omega)]
            · rw [if_neg hx2, if_neg (by omega)]⟩)
        clear hj hi3
        go_wp2_with (at_mapUpdate; refine wpList_mapUpdate_own _ rfl _ _ _ 59 rfl 3 63 keyI Try.underlying59 unitElem mb _ D' rfl ho.out (by have h1 := HM.out.sz; have h2 := Dk.many_le (Dk.dirt dr p (min (i - p) L)) m; unfold maxLen; omega) _ _ _ rfl rfl hkey.out _ [] unitElem_mk ?_; intro w2 ho2 hg2)
        have M2 := HM.out.mark (by omega) hg2 ho2
        rw [← HJ.out.2.2.2.2] at M2
        have B2 := HB.out.trans (But.grown (S := fun k => k = tb ∨ k = mb) hg2 fun k e => by injection e with e; exact .inr e.symm)
        exact ⟨⟨j, _, rfl, HJ.out.1, HJ.out.2.1, .inr HJ.out.2.2.1, M2, B2⟩, by have := HJ.out.2.2.2.1; simp [RowKit.intOf]; omega⟩
      · have hltz : ¬ (i : Int) < ((p + L : Nat) : Int) := by omega
        go_wp2_with fail
        go_ret
        rw [show min (i - p) L = L by omega] at HM
        exact ⟨rfl, left_write HN.out HM.out HX.out HL.out HLD.out HPL.out.1 HPL.out.2 HB.out⟩
theorem cwrite_no {S : Nat → Prop} {b m : Nat} {st now dr bs : List Int} {A : Option Addr} {L c : Nat} {p : Int} (w : World) (h : Dq S w b m st now dr) (_ : RdK .u8 w w.heap.size A L bs) (hp : ¬ (0 ≤ p ∧ p + L ≤ 64 * (m : Int))) (hp' : -9223372036854775808 ≤ p ∧ p ≤ 9223372036854775807) (hc : L ≤ c ∧ c ≤ maxLen) :
    Calls Try.prog 10 #[.pointer (some ⟨b, 0, none⟩), .int .i64 p, .slice A L c] w fun e w' => e = .returned (vErr 1) ∧ Below w.heap.size w w' := by
  obtain ⟨tb, sb, mb, n, D, rfl, h1, h2⟩ := h
  have he := h1.e
  have hm : maxLen = 9223372036854775807 := rfl
  have cs := phas w h1 p L hp' (by omega)
  rw [show decide (0 ≤ p ∧ 0 ≤ (L : Int) ∧ p + (L : Int) ≤ (n : Int)) = false by simp; omega] at cs
  clear h1 h2 he hm
  go_enter Try.func10, Try.ntmps10
  go_wp2_with (go_at_call 25; refine cs.mono ?_; rintro e w' ⟨rfl, rfl⟩)
  go_ret
  exact ⟨rfl, Below.refl _ _⟩
set_option maxRecDepth 100000 in
set_option maxHeartbeats 1000000 in
theorem cread_new {S : Nat → Prop} {b m : Nat} {st now dr : List Int} {p q : Nat} (w : World) (h : Dq S w b m st now dr) (hp : p + q ≤ 64 * m) :
    Calls Try.prog 17 #[.pointer (some ⟨b, 0, none⟩), .int .i64 p, .int .i64 q] w fun e w' => ∃ A c, (∃ g, A = some ⟨g, 0, none⟩) ∧ e = .returned (.tuple #[.slice A q c, .nilIface]) ∧ q ≤ c ∧ c ≤ maxLen ∧ Told w w' A q ((now.drop p).take q) ∧ Below w.heap.size w w' := by
  obtain ⟨tb, sb, mb, n, D, rfl, h1, h2⟩ := h
  obtain ⟨i0, hi, hz0, hz1, hz2⟩ := info_parts infob8
  have he := h1.e
  have hle := h1.le
  have cs := phas w h1 p q (by omega) (by omega)
  rw [show decide (0 ≤ (p : Int) ∧ 0 ≤ (q : Int) ∧ (p : Int) + (q : Int) ≤ (n : Int)) = true by simp; omega] at cs
  have k8 := run_make_eq (P := Try.prog) (t := 22) Try.underlying22 hi hz0 hz1 q (by rw [hz2]; omega) (by unfold maxLen; omega) w
  have ha := Arr.made (.int .u8) w 5 q rfl
  have hR : w.heap.size ≠ tb := fun e => by have := h1.rn.1; omega
  have hlen : ((now.drop p).take q).length = q := by rw [List.length_take, List.length_drop, h1.ln]; omega
  have hb0 : Below w.heap.size w (w.alloc (.cells (madeCells (Value.int .u8 0).cells q) 5)) := (Below.refl _ _).alloc (Nat.le_refl _) _
  generalize Obj.cells (madeCells (Value.int .u8 0).cells q) 5 = O8 at *
  have c0 := hb0.cell (p := ⟨tb, 0, none⟩) h1.rn.1
  obtain ⟨w1, hC, hT, hB⟩ : ∃ w1, (∀ (A' : Addr) (ty : TypeId), (p < n → A' = ⟨tb, p, none⟩) → (Builtin.copy_ #[22, 22] ty #[.slice (some ⟨w.heap.size, 0, none⟩) q q, .slice (some A') (n - p) (n - p)]).run Try.prog (w.alloc O8) = .ok (.int .i64 (q : Nat)) w1) ∧
      Told w w1 (some ⟨w.heap.size, 0, none⟩) q ((now.drop p).take q) ∧ Below w.heap.size w w1 := by
    rcases Nat.eq_zero_or_pos q with h0 | h0
    · subst h0
      exact ⟨w.alloc O8, fun A' ty _ => run_copy0 _ _ _ _ _ _ _ (by simp) ty, ⟨⟨by simp, fun j hj => absurd hj (Nat.not_lt_zero _)⟩, fun g off e => by injection e with e; injection e with e1 _; omega, fun _ _ _ j hj => absurd hj (Nat.not_lt_zero _)⟩, hb0⟩
    · have hlay := ha.lay ((now.drop p).take q) 0 (by rw [hlen]; simp)
      rw [hlen, Dk.wr_all hlen (by simp)] at hlay
      refine ⟨_, fun A' ty hA => ?_, ⟨⟨hlen, fun j hj => ⟨_, 0, rfl, hlay.1, by rw [Nat.zero_add]; exact hlay.c j (by rw [hlen]; exact hj)⟩⟩, fun g off e => by injection e with e; injection e with e1 _; omega, fun g off e j hj => ?_⟩, ?_⟩
      · rw [hA (by omega)]
        have := run_copy8 ha ((now.drop p).take q) 0 tb p q q (n - p) (n - p) (fun j hj => by
          rw [hlen] at hj
          rw [(hb0.cell (p := ⟨tb, p + j, none⟩) h1.rn.1), h1.rn.c (p + j) (by rw [h1.ln]; omega), List.getD_eq_getElem?_getD, List.getD_eq_getElem?_getD, List.getElem?_take_of_lt hj, List.getElem?_drop]) (by rw [hlen]; simp [Nat.min_def]; omega) (by rw [hlen]; simp) ty
        rwa [hlen] at this
      · injection e with e; injection e with e1 e2; subst e1; subst e2
        rw [Nat.zero_add]; exact hlay.z j (by rw [hlen]; exact hj)
      · have hu := But.setCells w.heap.size (((now.drop p).take q).map (.int .u8)) 0 (w.alloc O8)
        exact hb0.trans ⟨hu.os, hu.tape, hu.output, hu.size, fun k hk => hu.block k (by simp; omega) (by omega)⟩
  have c0 := (hb0.cell (p := ⟨b, 0, none⟩) h1.lt).trans h1.c0
  have HT := Lib.hid hT
  have HB := Lib.hid hB
  have hpn : (p : Int) ≤ (n : Int) := by omega
  have hpq : p + q ≤ n := by omega
  have hn6 : n ≤ 65536 := by omega
  have hq0 : (0 : Int) ≤ (q : Int) := by omega
  clear h1 h2 hi hz0 hz1 hz2 he hp ha hR hlen hb0 hT hB
  obtain ⟨A', hA', hC'⟩ : ∃ A', A' = (if n = p then ⟨tb, 0, none⟩ else ⟨tb, p, none⟩) ∧ ∀ ty, (Builtin.copy_ #[22, 22] ty #[.slice (some ⟨w.heap.size, 0, none⟩) q q, .slice (some A') (n - p) (n - p)]).run Try.prog (w.alloc O8) = .ok (.int .i64 (q : Nat)) w1 := ⟨_, rfl, fun ty => hC _ ty fun h => if_neg (by omega)⟩
  clear hC
  by_cases hne : n = p
  · rw [if_pos hne] at hA'
    subst hA'
    have e9 := hne.symm
    subst e9
    rw [Nat.sub_self] at hC'
    go_enter Try.func17, Try.ntmps17
    go_wp2_with (go_at_call 25; refine cs.mono ?_; rintro e w' ⟨rfl, rfl⟩)
    exact bodyPost_ret (by simp [results, Try.results17, go_sem]) rfl ⟨_, _, ⟨_, rfl⟩, rfl, Nat.le_refl _, by unfold maxLen; omega, HT.out, HB.out⟩
  · rw [if_neg hne] at hA'
    subst hA'
    have hlt : p < n := by omega
    go_enter Try.func17, Try.ntmps17
    go_wp2_with (go_at_call 25; refine cs.mono ?_; rintro e w' ⟨rfl, rfl⟩)
    exact bodyPost_ret (by simp [results, Try.results17, go_sem]) rfl ⟨_, _, ⟨_, rfl⟩, rfl, Nat.le_refl _, by unfold maxLen; omega, HT.out, HB.out⟩
theorem cread_yes {S : Nat → Prop} {b m : Nat} {st now dr : List Int} {p q : Nat} (w : World) (h : Dq S w b m st now dr) (hp : p + q ≤ 64 * m) :
    Calls Try.prog 17 #[.pointer (some ⟨b, 0, none⟩), .int .i64 p, .int .i64 q] w fun e w' => ∃ A c, e = .returned (.tuple #[.slice A q c, .nilIface]) ∧ q ≤ c ∧ c ≤ maxLen ∧ Told w w' A q ((now.drop p).take q) ∧ Below w.heap.size w w' :=
  (cread_new w h hp).mono fun _ _ ⟨A, c, _, h⟩ => ⟨A, c, h⟩
theorem cread_no {S : Nat → Prop} {b m : Nat} {st now dr : List Int} {p q : Int} (w : World) (h : Dq S w b m st now dr) (hp : ¬ (0 ≤ p ∧ 0 ≤ q ∧ p + q ≤ 64 * (m : Int))) (hp' : -9223372036854775808 ≤ p ∧ p ≤ 9223372036854775807) (hq' : -9223372036854775808 ≤ q ∧ q ≤ 9223372036854775807) :
    Calls Try.prog 17 #[.pointer (some ⟨b, 0, none⟩), .int .i64 p, .int .i64 q] w fun e w' => e = .returned (.tuple #[.slice none 0 0, vErr 1]) ∧ Below w.heap.size w w' := by
  obtain ⟨tb, sb, mb, n, D, rfl, h1, h2⟩ := h
  have he := h1.e
  have cs := phas w h1 p q hp' hq'
  rw [show decide (0 ≤ p ∧ 0 ≤ q ∧ p + q ≤ (n : Int)) = false by simp; omega] at cs
  clear h1 h2 he
  go_enter Try.func17, Try.ntmps17
  go_wp2_with (go_at_call 25; refine cs.mono ?_; rintro e w' ⟨rfl, rfl⟩)
  exact bodyPost_ret (by simp [results, Try.results17, go_sem]) rfl ⟨rfl, Below.refl _ _⟩
end Go.Proofs.Ytghepjppjmpihaa
