/- The program's disk: Sync, Crash, as contracts. -/
import Derived.Test.YtghepjppjmpihaaDqc
import Derived.Test.YtghepjppjmpihaaKk
import Derived.Test.YtghepjppjmpihaaDw
namespace Go.Proofs.Ytghepjppjmpihaa
open Go.ChangeShapes Go.WideShapes Go.ChangeAt Go.RowKit Go.Lib

theorem csync {S : Nat → Prop} {b m : Nat} {st now dr : List Int} (w : World) (h : Dq S w b m st now dr) : Calls Try.prog 11 #[.pointer (some ⟨b, 0, none⟩)] w fun e w' => e = .returned (.tuple #[]) ∧ Left S w w' b m now now (zs m) := by
  obtain ⟨tb, sb, mb, n, D, rfl, h1, h2⟩ := h
  exact (psync w h1 h2).mono fun e w' ⟨he, hD, hB⟩ => ⟨he, _, ⟨tb, sb, mb, n, _, rfl, hD, fun _ _ => rfl⟩, hB.more fun k _ hk => hk.elim (fun h => .inr (.inr (.inl h))) (fun h => .inr (.inr (.inr h))), fun k hk => .inl hk⟩
/-- what a crash has lost, i blocks being done -/
def Lost (i : Nat) (X st now dr picks : List Int) : Prop := ∀ p, X.getD p 0 = if dr.getD (p / 64) 0 = 1 ∧ Dk.many dr (p / 64) < i ∧ ¬ ((p % 64 : Nat) : Int) < picks.getD (Dk.many dr (p / 64)) 0 then st.getD p 0 else now.getD p 0
theorem lost_start (st now dr picks : List Int) : Lost 0 now st now dr picks := fun p => by rw [if_neg (fun h => Nat.not_lt_zero _ h.2.1)]
theorem many_inj {dr : List Int} {a b : Nat} (ha : dr.getD a 0 = 1) (hb : dr.getD b 0 = 1) (h : Dk.many dr a = Dk.many dr b) : a = b := by
  rcases Nat.lt_trichotomy a b with h1 | h1 | h1
  · have := Dk.many_lt h1 ha; omega
  · exact h1
  · have := Dk.many_lt h1 hb; omega
theorem lost_step {X st now dr picks : List Int} {n i j kp : Nat} (h : Lost i X st now dr picks) (hd : dr.getD j 0 = 1) (hi : Dk.many dr j = i) (lx : X.length = n) (hn : 64 * j + 64 ≤ n) (hk : kp ≤ 64) (hp : ∀ t : Nat, t < 64 → (t < kp ↔ (t : Int) < picks.getD i 0)) :
    Lost (i + 1) (cp st X (64 * j + kp) (64 * j + 64)) st now dr picks := fun p => by
  rw [cp_get (by omega) (by omega), h p]
  by_cases e : p / 64 = j
  · have h64 : p % 64 < 64 := Nat.mod_lt _ (by omega)
    rw [e, hi]
    by_cases k : p % 64 < kp
    · have k2 := (hp _ h64).1 k
      rw [if_neg (by omega), if_neg (fun h => Nat.lt_irrefl _ h.2.1), if_neg (fun h => h.2.2 k2)]
    · rw [if_pos (by omega), if_pos ⟨hd, Nat.lt_succ_self _, fun k2 => k ((hp _ h64).2 k2)⟩]
  · rw [if_neg (by omega)]
    by_cases k : dr.getD (p / 64) 0 = 1
    · have k2 : Dk.many dr (p / 64) ≠ i := fun e2 => e (many_inj k hd (e2.trans hi.symm))
      by_cases k3 : Dk.many dr (p / 64) < i ∧ ¬ ((p % 64 : Nat) : Int) < picks.getD (Dk.many dr (p / 64)) 0
      · rw [if_pos ⟨k, k3⟩, if_pos ⟨k, by omega, k3.2⟩]
      · rw [if_neg (fun h => k3 h.2), if_neg (fun h => k3 ⟨by have := h.2.1; omega, h.2.2⟩)]
    · rw [if_neg (fun h => k h.1), if_neg (fun h => k h.1)]
theorem lost_end {X st now dr picks : List Int} {m n : Nat} (h : Lost (Dk.many dr m) X st now dr picks) (lx : X.length = n) (ls : st.length = n) (e : n = 64 * m) (hi : ∀ p, dr.getD (p / 64) 0 ≠ 1 → now.getD p 0 = st.getD p 0) : X = Dk.crash st now dr picks m :=
  Dk.ext (by rw [lx, Dk.crash_len, ls]) fun p hp => by
    rw [Dk.crash_get _ _ _ _ _ _ (by omega), h p]
    by_cases k : dr.getD (p / 64) 0 = 1
    · have hl := Dk.many_lt (m := m) (show p / 64 < m by omega) k
      by_cases k2 : ((p % 64 : Nat) : Int) < picks.getD (Dk.many dr (p / 64)) 0
      · rw [if_neg (fun h => h.2.2 k2), if_pos ⟨by omega, k, k2⟩]
      · rw [if_pos ⟨k, hl, k2⟩, if_neg (fun h => k2 h.2.2)]
    · rw [if_neg (fun h => k h.1), if_neg (fun h => k h.2.1), hi p k]
set_option maxRecDepth 100000 in
set_option maxHeartbeats 1000000 in
theorem pcrash {b tb sb mb n m : Nat} {st now dr picks : List Int} {D : DataW Unit} {A : Option Addr} {L c : Nat} (w : World) (h : Dm w b tb sb mb n m st now dr D) (hi : ∀ p, dr.getD (p / 64) 0 ≠ 1 → now.getD p 0 = st.getD p 0)
    (hr : RdK .i64 w w.heap.size A L picks) (hs : 0 < L → ∀ g off, A = some ⟨g, off, none⟩ → ¬ g = tb) (hpk : ∀ x ∈ picks, -9223372036854775808 ≤ x ∧ x ≤ 9223372036854775807) :
    Calls Try.prog 23 #[.pointer (some ⟨b, 0, none⟩), .slice A L c] w fun e w' => e = .returned (.tuple #[]) ∧
      Dm w' b tb sb mb n m (Dk.crash st now dr picks m) (Dk.crash st now dr picks m) (zs m) (.map []) ∧ But (fun k => k = tb ∨ k = sb ∨ k = mb) w w' := by
  have H := Lib.hid h
  have HI := Lib.hid hi
  have R := Lib.hid hr
  have HS := Lib.hid hs
  have HPK := Lib.hid hpk
  have hm : m ≤ 1024 := h.le
  have HT := Lib.hid (show tb < w.heap.size from h.rn.1)
  have HNM := Lib.hid h.e
  have c2 := h.c2
  have cS := csorted w h
  have hK : Dk.many dr m ≤ 1024 := Nat.le_trans (Dk.many_le _ _) hm
  clear h hi hr hs hpk
  go_enter Try.func23, Try.ntmps23
  go_wp2_with (first
    | (go_at_call 36; refine (ckeys _ _).mono ?_; rintro e w1 ⟨rfl, rfl⟩)
    | (go_at_call 35; refine cS.mono ?_; rintro e w1 ⟨A1, c1, rfl, hR1, hN1, hB1⟩))
  have H1 := Lib.hid (H.out.but (But.of hB1 (fun _ => False)) id id id id)
  have R1 := Lib.hid (R.out.below hB1 |>.more hB1.size)
  have Q1 := Lib.hid hR1
  have HQ := Lib.hid (show ∀ g off, A1 = some ⟨g, off, none⟩ → ¬ g = tb from fun g off e => by have := hN1 g off e; have := HT.out; omega)
  have HB := Lib.hid hB1
  clear c2 cS hR1 hN1 hB1
  obtain ⟨K, hKe⟩ : ∃ K, K = Dk.many dr m := ⟨_, rfl⟩
  rw [← hKe] at Q1 hK ⊢
  have HK := Lib.hid hKe
  clear hKe
  go_loopw [16] (fun iv wr => ∃ (i : Nat) (X : List Int), iv = .int .i64 i ∧ i ≤ K ∧ Hid (Dm wr b tb sb mb n m st X dr D) ∧ Hid (Lost i X st now dr picks) ∧ Hid (But (fun k => k = tb) w1 wr)) (fun iv _ => K - (RowKit.intOf iv).toNat)
  case atStart => exact ⟨0, now, rfl, Nat.zero_le _, H1.out, lost_start _ _ _ _, But.refl _ _⟩
  case round =>
    clear H1
    obtain ⟨i, X, rfl, hiK, HM, HL, HU⟩ := hrel
    by_cases hlt : i < K
    · have hltz : (i : Int) < (K : Int) := by omega
      obtain ⟨hj1, hj2, hj3⟩ := Dk.dl_get (dr := dr) (m := m) (j := i) (by rw [← HK.out]; exact hlt)
      obtain ⟨g, off, rfl, -, hc⟩ := (Q1.out.but HU.out (fun _ => HQ.out)).2 i hlt
      obtain ⟨j, hj⟩ : ∃ j, j = (Dk.dl dr m).getD i 0 := ⟨_, rfl⟩
      rw [show ((Dk.dl dr m).map fun i : Nat => (i : Int)).getD i 0 = (j : Int) by
        rw [hj, List.getD_eq_getElem?_getD, List.getD_eq_getElem?_getD, List.getElem?_map, List.getElem?_eq_getElem (by rw [Dk.dl_len, ← HK.out]; exact hlt)]; rfl] at hc
      rw [← hj] at hj1 hj2 hj3
      clear hj
      by_cases hiL : i < L
      · have hiz : (i : Int) < (L : Int) := by omega
        obtain ⟨g2, off2, rfl, -, hc2⟩ := (R1.out.but HU.out HS.out).2 i hiL
        obtain ⟨pk, hpk⟩ : ∃ pk, pk = picks.getD i 0 := ⟨_, rfl⟩
        rw [← hpk] at hc2
        obtain ⟨kp, hkp⟩ : ∃ kp : Nat, kp = (min (max pk 0) 64).toNat := ⟨_, rfl⟩
        have hmin : min (max pk 0) 64 = (kp : Int) := by omega
        have KP := Lib.hid (show kp ≤ 64 ∧ ∀ t : Nat, t < 64 → (t < kp ↔ (t : Int) < picks.getD i 0) from ⟨by omega, fun t ht => by rw [← hpk]; omega⟩)
        have hk64 : kp ≤ 64 := by omega
        clear hkp hpk
        obtain ⟨fN, hfN⟩ : ∃ q, q = 64 * j := ⟨_, rfl⟩
        obtain ⟨uN, huN⟩ : ∃ q, q = fN + kp := ⟨_, rfl⟩
        obtain ⟨vN, hvN⟩ : ∃ q, q = fN + 64 := ⟨_, rfl⟩
        have cb := cbounds j (by omega) wr
        rw [← hfN, ← hvN] at cb
        obtain ⟨w2, hC, hA2, hb2⟩ := copy_rows (w := wr.drew) HM.out.rn HM.out.rs HM.out.ln HM.out.ls uN vN (by omega) (by have := HNM.out; omega)
        have HV := Lib.hid (show vN ≤ n ∧ uN ≤ vN from ⟨by have := HNM.out; omega, by omega⟩)
        have l0 : IntKind.i64.wrap ((fN : Int) + (kp : Int)) = (uN : Int) := by rw [IntKind.wrap_i64]; omega
        have l1 : (uN : Int) ≤ (vN : Int) := by omega
        have l2 : (vN : Int) ≤ (n : Int) := by have := HV.out; omega
        have HN := Lib.hid (show Dm w2 b tb sb mb n m st (cp st X uN vN) dr D from HM.out.drew.there hb2 hA2 (by rw [cp_len]; exact HM.out.ln))
        have HNL := Lib.hid (show Lost (i + 1) (cp st X uN vN) st now dr picks by
          rw [hvN, huN, hfN]; exact lost_step HL.out hj2 hj3 HM.out.ln (by have := HNM.out; omega) KP.out.1 KP.out.2)
        have HNB := Lib.hid (HU.out.drew.trans hb2)
        have c0 := HM.out.c0
        have c1' := HM.out.c1
        clear hA2 hb2 hfN huN hvN HM HL HU hj1 hj2 hj3 KP
        obtain ⟨A', A'', hA', hA'', hC'⟩ : ∃ A' A'', A' = (if n = uN then ⟨tb, 0, none⟩ else ⟨tb, uN, none⟩) ∧ A'' = (if n = uN then ⟨sb, 0, none⟩ else ⟨sb, uN, none⟩) ∧ ∀ ty, (Builtin.copy_ #[22, 22] ty #[.slice (some A') (vN - uN) (n - uN), .slice (some A'') (vN - uN) (n - uN)]).run Try.prog wr.drew = .ok (.int .i64 ((vN - uN : Nat) : Int)) w2 := ⟨_, _, rfl, rfl, fun ty => hC _ _ ty fun h => by have := HV.out; rw [if_neg (by omega), if_neg (by omega)]; exact ⟨rfl, rfl⟩⟩
        clear hC
        by_cases hne : n = uN
        · rw [if_pos hne] at hA' hA''
          subst hA' hA''
          have HNE := Lib.hid hne
          have hne2 : (n = uN) = True := eq_true hne
          clear hne
          go_wp2_with (go_at_call 26; refine cb.mono ?_; rintro e w' ⟨rfl, rfl⟩)
          go_still_tail 18, (by kernel_rfl)
          change wpList _ _ _ _ _ wr.drew
          go_wp2_with fail
          exact ⟨⟨i + 1, _, by go_num, by omega, HN.out, HNL.out, HNB.out⟩, by simp [RowKit.intOf]; omega⟩
        · rw [if_neg hne] at hA' hA''
          subst hA' hA''
          go_wp2_with (go_at_call 26; refine cb.mono ?_; rintro e w' ⟨rfl, rfl⟩)
          go_still_tail 18, (by kernel_rfl)
          change wpList _ _ _ _ _ wr.drew
          go_wp2_with fail
          exact ⟨⟨i + 1, _, by go_num, by omega, HN.out, HNL.out, HNB.out⟩, by simp [RowKit.intOf]; omega⟩
      · have hiz : ¬ (i : Int) < (L : Int) := by omega
        obtain ⟨kp, hkp⟩ : ∃ kp : Nat, kp = 0 := ⟨_, rfl⟩
        have KP := Lib.hid (show kp ≤ 64 ∧ ∀ t : Nat, t < 64 → (t < kp ↔ (t : Int) < picks.getD i 0) from ⟨by omega, fun t ht => by
          rw [List.getD_eq_getElem?_getD, List.getElem?_eq_none (by rw [R1.out.1]; omega)]; simp; omega⟩)
        obtain ⟨fN, hfN⟩ : ∃ q, q = 64 * j := ⟨_, rfl⟩
        obtain ⟨uN, huN⟩ : ∃ q, q = fN + kp := ⟨_, rfl⟩
        obtain ⟨vN, hvN⟩ : ∃ q, q = fN + 64 := ⟨_, rfl⟩
        have cb := cbounds j (by omega) wr
        rw [← hfN, ← hvN] at cb
        obtain ⟨w2, hC, hA2, hb2⟩ := copy_rows (w := wr.drew) HM.out.rn HM.out.rs HM.out.ln HM.out.ls uN vN (by omega) (by have := HNM.out; omega)
        have HV := Lib.hid (show vN ≤ n ∧ uN ≤ vN from ⟨by have := HNM.out; omega, by omega⟩)
        have l1 : (uN : Int) ≤ (vN : Int) := by omega
        have l2 : (vN : Int) ≤ (n : Int) := by have := HV.out; omega
        have HN := Lib.hid (show Dm w2 b tb sb mb n m st (cp st X uN vN) dr D from HM.out.drew.there hb2 hA2 (by rw [cp_len]; exact HM.out.ln))
        have HNL := Lib.hid (show Lost (i + 1) (cp st X uN vN) st now dr picks by
          rw [hvN, huN, hfN]; exact lost_step HL.out hj2 hj3 HM.out.ln (by have := HNM.out; omega) KP.out.1 KP.out.2)
        have HNB := Lib.hid (HU.out.drew.trans hb2)
        have c0 := HM.out.c0
        have c1' := HM.out.c1
        have e9 : uN = fN := by omega
        subst e9
        have l0 : IntKind.i64.wrap (uN : Int) = (uN : Int) := by rw [IntKind.wrap_i64]; omega
        clear hA2 hb2 hfN huN hvN HM HL HU hj1 hj2 hj3 KP hkp
        obtain ⟨A', A'', hA', hA'', hC'⟩ : ∃ A' A'', A' = (if n = uN then ⟨tb, 0, none⟩ else ⟨tb, uN, none⟩) ∧ A'' = (if n = uN then ⟨sb, 0, none⟩ else ⟨sb, uN, none⟩) ∧ ∀ ty, (Builtin.copy_ #[22, 22] ty #[.slice (some A') (vN - uN) (n - uN), .slice (some A'') (vN - uN) (n - uN)]).run Try.prog wr.drew = .ok (.int .i64 ((vN - uN : Nat) : Int)) w2 := ⟨_, _, rfl, rfl, fun ty => hC _ _ ty fun h => by have := HV.out; rw [if_neg (by omega), if_neg (by omega)]; exact ⟨rfl, rfl⟩⟩
        clear hC
        by_cases hne : n = uN
        · rw [if_pos hne] at hA' hA''
          subst hA' hA''
          have HNE := Lib.hid hne
          have hne2 : (n = uN) = True := eq_true hne
          clear hne
          go_wp2_with (go_at_call 26; refine cb.mono ?_; rintro e w' ⟨rfl, rfl⟩)
          go_still_tail 18, (by kernel_rfl)
          change wpList _ _ _ _ _ wr.drew
          go_wp2_with fail
          exact ⟨⟨i + 1, _, by go_num, by omega, HN.out, HNL.out, HNB.out⟩, by simp [RowKit.intOf]; omega⟩
        · rw [if_neg hne] at hA' hA''
          subst hA' hA''
          go_wp2_with (go_at_call 26; refine cb.mono ?_; rintro e w' ⟨rfl, rfl⟩)
          go_still_tail 18, (by kernel_rfl)
          change wpList _ _ _ _ _ wr.drew
          go_wp2_with fail
          exact ⟨⟨i + 1, _, by go_num, by omega, HN.out, HNL.out, HNB.out⟩, by simp [RowKit.intOf]; omega⟩
    · obtain rfl : i = K := by omega
      have hltz : ¬ (i : Int) < (i : Int) := by omega
      have HE := Lib.hid (show X = Dk.crash st now dr picks m from by rw [HK.out] at HL; exact lost_end HL.out HM.out.ln HM.out.ls HNM.out HI.out)
      have cy := psync wr HM.out (fun p hp => by rw [HL.out p, if_neg (fun h => hp h.1), HI.out p hp])
      go_wp2_with (go_at_call 11; refine cy.mono ?_; rintro e w3 ⟨rfl, hD3, hB3⟩)
      have HN := Lib.hid (show Dm w3 b tb sb mb n m (Dk.crash st now dr picks m) (Dk.crash st now dr picks m) (zs m) (.map []) ∧ But (fun k => k = tb ∨ k = sb ∨ k = mb) w w3 from ⟨by rw [← HE.out]; exact hD3,
        ((But.of HB.out _).trans (HU.out.more fun k _ hk => .inl hk)).trans (hB3.more fun k _ hk => .inr hk)⟩)
      clear hD3 hB3 cy
      go_wp2_with fail
      go_end0
      exact ⟨rfl, HN.out.1, HN.out.2⟩
theorem ccrash {S : Nat → Prop} {b m : Nat} {st now dr picks : List Int} {A : Option Addr} {L c : Nat} (w : World) (h : Dq S w b m st now dr) (hr : RdK .i64 w w.heap.size A L picks) (hs : 0 < L → ∀ g off, A = some ⟨g, off, none⟩ → ¬ S g) (hpk : ∀ x ∈ picks, -9223372036854775808 ≤ x ∧ x ≤ 9223372036854775807) (_ : L ≤ c ∧ c ≤ maxLen) :
    Calls Try.prog 23 #[.pointer (some ⟨b, 0, none⟩), .slice A L c] w fun e w' => e = .returned (.tuple #[]) ∧ Left S w w' b m (Dk.crash st now dr picks m) (Dk.crash st now dr picks m) (zs m) := by
  obtain ⟨tb, sb, mb, n, D, rfl, h1, h2⟩ := h
  exact (pcrash w h1 h2 hr (fun hL g off e k => hs hL g off e (.inr (.inl k))) hpk).mono fun e w' ⟨he, hD, hB⟩ => ⟨he, _, ⟨tb, sb, mb, n, _, rfl, hD, fun _ _ => rfl⟩,
    hB.more fun k _ hk => .inr hk, fun k hk => .inl hk⟩
end Go.Proofs.Ytghepjppjmpihaa
