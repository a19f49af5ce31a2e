/- Law 7's one: a deed done with a disk and with its model. -/
import Derived.Test.YtijlhbpkpmjacaaDf
namespace Go.Proofs.Ytijlhbpkpmjacaa
open Go.ChangeShapes Go.WideShapes Go.ChangeAt Go.RowKit Go.Lib

abbrev ddv (W T N : Int) (bA : Option Addr) (bn bc : Nat) (pA : Option Addr) (pn pc : Nat) : Value := .agg #[.int .i64 W, .int .i64 T, .int .i64 N, .slice bA bn bc, .slice pA pn pc]
/-- a disk and its model, alike; their memory is behind B0, and apart -/
structure Both (B0 : Nat) (w : World) (S : Nat → Prop) (b m B sb nb db : Nat) (st now dr : List Int) : Prop where
  d : Dq S w b m st now dr
  m : Md w B sb nb db (64 * m) m st now dr
  s : ∀ k, S k → B0 ≤ k
  a : ∀ k, S k → k ≠ B ∧ k ≠ sb ∧ k ≠ nb ∧ k ≠ db
  g : B0 ≤ B ∧ B0 ≤ sb ∧ B0 ≤ nb ∧ B0 ≤ db
namespace Both
variable {B0 : Nat} {w w' : World} {S : Nat → Prop} {b m B sb nb db : Nat} {st now dr st' now' dr' : List Int}
theorem below (h : Both B0 w S b m B sb nb db st now dr) (hb : Below w.heap.size w w') : Both B0 w' S b m B sb nb db st now dr :=
  ⟨h.d.below hb, h.m.but (But.of hb (fun _ => False)) id id id id, h.s, h.a, h.g⟩
/-- behind a deed of the disk -/
theorem left (h : Both B0 w S b m B sb nb db st now dr) (hB : B0 ≤ w.heap.size) (hl : Left S w w' b m st' now' dr') :
    ∃ S', Dq S' w' b m st' now' dr' ∧ Md w' B sb nb db (64 * m) m st now dr ∧ (∀ k, S' k → B0 ≤ k) ∧ (∀ k, S' k → k ≠ B ∧ k ≠ sb ∧ k ≠ nb ∧ k ≠ db) ∧ (∀ k, k < w.heap.size → ¬ S k → ¬ S' k) ∧ But S w w' ∧ Below B0 w w' := by
  obtain ⟨S', hD, hU, hb, hS, hN⟩ := hl.use h.s hB
  have n0 : ¬ S B := fun hs => (h.a _ hs).1 rfl
  have n1 : ¬ S sb := fun hs => (h.a _ hs).2.1 rfl
  have n2 : ¬ S nb := fun hs => (h.a _ hs).2.2.1 rfl
  have n3 : ¬ S db := fun hs => (h.a _ hs).2.2.2 rfl
  refine ⟨S', hD, h.m.but hU n0 n1 n2 n3, hS, fun k hk => ⟨?_, ?_, ?_, ?_⟩, hN, hU, hb⟩
  · rintro rfl; exact hN _ h.m.lt n0 hk
  · rintro rfl; exact hN _ h.m.rs.1 n1 hk
  · rintro rfl; exact hN _ h.m.rn.1 n2 hk
  · rintro rfl; exact hN _ h.m.rd.1 n3 hk
end Both
/-- the five cells of a deed -/
structure Dd5 (w : World) (x : Nat) (W T N : Int) (bA : Option Addr) (bn bc : Nat) (pA : Option Addr) (pn pc : Nat) : Prop where
  lt : x < w.heap.size
  c0 : w.cell? ⟨x, 0, none⟩ = some (.int .i64 W)
  c1 : w.cell? ⟨x, 1, none⟩ = some (.int .i64 T)
  c2 : w.cell? ⟨x, 2, none⟩ = some (.int .i64 N)
  c3 : w.cell? ⟨x, 3, none⟩ = some (.slice bA bn bc)
  c4 : w.cell? ⟨x, 4, none⟩ = some (.slice pA pn pc)
theorem Dd5.but {S : Nat → Prop} {w w' : World} {x : Nat} {W T N : Int} {bA pA : Option Addr} {bn bc pn pc : Nat} (h : Dd5 w x W T N bA bn bc pA pn pc) (hb : But S w w') (hs : ¬ S x) : Dd5 w' x W T N bA bn bc pA pn pc :=
  ⟨Nat.lt_of_lt_of_le h.lt hb.size, (hb.cell (p := ⟨x, 0, none⟩) h.lt hs).trans h.c0, (hb.cell (p := ⟨x, 1, none⟩) h.lt hs).trans h.c1, (hb.cell (p := ⟨x, 2, none⟩) h.lt hs).trans h.c2, (hb.cell (p := ⟨x, 3, none⟩) h.lt hs).trans h.c3, (hb.cell (p := ⟨x, 4, none⟩) h.lt hs).trans h.c4⟩
theorem Dd5.new (w : World) (t : TypeId) (W T N : Int) (bA : Option Addr) (bn bc : Nat) (pA : Option Addr) (pn pc : Nat) : Dd5 (w.alloc (.cells #[.int .i64 W, .int .i64 T, .int .i64 N, .slice bA bn bc, .slice pA pn pc] t)) w.heap.size W T N bA bn bc pA pn pc :=
  ⟨by simp, by simp, by simp, by simp, by simp, by simp⟩
theorem RdK.apart4 {k : IntKind} {w : World} {B0 : Nat} {A : Option Addr} {n : Nat} {zs : List Int} {S : Nat → Prop} (h : RdK k w B0 A n zs) (hS : ∀ k, S k → B0 ≤ k) : 0 < n → ∀ g off, A = some ⟨g, off, none⟩ → ¬ S g := h.apart hS
def I64 (a : Int) : Prop := -9223372036854775808 ≤ a ∧ a ≤ 9223372036854775807
set_option maxHeartbeats 2000000 in
set_option maxRecDepth 1000000 in
theorem one_any {B0 : Nat} {S : Nat → Prop} {b m B sb nb db : Nat} {st now dr bs ps : List Int} {W T N : Int} {bA pA : Option Addr} {bn bc pn pc : Nat} (w : World) (h : Both B0 w S b m B sb nb db st now dr) (hB : B0 ≤ w.heap.size)
    (rb : RdK .u8 w B0 bA bn bs) (rp : RdK .i64 w B0 pA pn ps) (hW : I64 W) (hT : I64 T) (hN : I64 N) (hbc : bn ≤ bc ∧ bc ≤ maxLen) (hpc : pn ≤ pc ∧ pc ≤ maxLen) (hps : ∀ x ∈ ps, I64 x) :
    Calls Try.prog 14 #[.pointer (some ⟨b, 0, none⟩), .pointer (some ⟨B, 0, none⟩), ddv W T N bA bn bc pA pn pc] w fun e w' => e = .returned (.bool true) ∧ (∃ S' st' now' dr', Both B0 w' S' b m B sb nb db st' now' dr') ∧ Below B0 w w' := by
  have q1 := eqE1
  have al := (Below.refl w.heap.size w).alloc (Nat.le_refl _) (.cells #[.int .i64 W, .int .i64 T, .int .i64 N, .slice bA bn bc, .slice pA pn pc] 40)
  have H := Lib.hid (h.below al)
  have X := Lib.hid (Dd5.new w 40 W T N bA bn bc pA pn pc)
  have NX := Lib.hid (show ¬ S w.heap.size from h.d.new_not)
  have BB := Lib.hid (al.mono hB)
  have HB := Lib.hid (Nat.le_trans hB al.size)
  have RB := Lib.hid (rb.below (al.mono hB))
  have RP := Lib.hid (rp.below (al.mono hB))
  have LW := Lib.hid hW
  have LT := Lib.hid hT
  have LN := Lib.hid hN
  have HC := Lib.hid (show (bn ≤ bc ∧ bc ≤ maxLen) ∧ (pn ≤ pc ∧ pc ≤ maxLen) from ⟨hbc, hpc⟩)
  have HPS := Lib.hid hps
  have hm := h.m.le
  have l1 : (bn : Int) ≤ 9223372036854775807 := by have := len64 hbc.2; omega
  have l2 : (pn : Int) ≤ 9223372036854775807 := by have := len64 hpc.2; omega
  clear h hB rb rp hW hT hN hbc hpc hps al
  have hpk := pk_bd W (by decide : (0 : Int) < 4)
  obtain ⟨k, hk⟩ : ∃ k, k = pk W 4 := ⟨_, rfl⟩
  rw [← hk] at hpk
  have HK := Lib.hid hk
  clear hk
  obtain ⟨x, hx⟩ : ∃ x, x = w.heap.size := ⟨_, rfl⟩
  rw [← hx] at X NX
  go_enter Try.func14, Try.ntmps14
  go_wp2_with fail
  rw [← hx]
  generalize w.alloc (.cells #[.int .i64 W, .int .i64 T, .int .i64 N, .slice bA bn bc, .slice pA pn pc] 40) = w1 at *
  clear hx
  have c0 := X.out.c0
  go_wp2_with fail
  refine (pick_any W 4 LW.out (by decide) _).mono ?_; rintro e w' ⟨rfl, rfl⟩
  rw [← HK.out]
  clear c0
  have c1 := X.out.c1
  have c2 := X.out.c2
  have c3 := X.out.c3
  have c4 := X.out.c4
  obtain rfl | rfl | rfl | rfl : k = 0 ∨ k = 1 ∨ k = 2 ∨ k = 3 := by omega
  · go_wp2_with fail
    refine (cwrite_any _ H.out.d (RB.out.more HB.out) (RB.out.apart H.out.s) LT.out HC.out.1).mono ?_
    rintro e w2 ⟨v, now2, dr2, rfl, hl, hv⟩
    obtain ⟨S2, hD, hM, hS, hA, -, hU, hb⟩ := H.out.left HB.out hl
    have HV := Lib.hid hv
    have D := Lib.hid (show Dq S2 w2 b m st now2 dr2 ∧ (∀ k, S2 k → B0 ≤ k) ∧ (∀ k, S2 k → k ≠ B ∧ k ≠ sb ∧ k ≠ nb ∧ k ≠ db) from ⟨hD, hS, hA⟩)
    have M := Lib.hid hM
    have X := Lib.hid (X.out.but hU NX.out)
    have BB := Lib.hid (BB.out.trans hb)
    have HB := Lib.hid (Nat.le_trans HB.out hb.size)
    have RB := Lib.hid (RB.out.below hb)
    have G := Lib.hid H.out.g
    clear hl hv hD hM hS hA hU hb c1 c2 c3 c4
    have c1 := X.out.c1
    have c3 := X.out.c3
    rcases HV.out with ⟨t0, t1, rfl, rfl, rfl⟩ | ⟨t0, rfl, rfl, rfl⟩
    · obtain ⟨q, rfl⟩ : ∃ q : Nat, T = q := ⟨T.toNat, by omega⟩
      simp only [Int.toNat_natCast] at D t1
      go_wp2_with fail
      refine (refthere_any _ M.out q bn LT.out ⟨by omega, l1⟩).mono ?_; rintro e w' ⟨rfl, hw⟩; have hw2 := hw.symm; subst hw2; clear hw
      rw [decide_eq_true (by omega)]
      go_wp2_with fail
      refine (refwrite_any _ M.out (RB.out.more HB.out) (RB.out.apart (S := fun k => k = nb ∨ k = db) (fun k hk => by have := G.out; omega)) t1).mono ?_; rintro e w3 ⟨rfl, hM3, hU3⟩
      have F := Lib.hid (show Both B0 w3 S2 b m B sb nb db st _ _ ∧ Below B0 w w3 from ⟨⟨D.out.1.but hU3 (fun k hk => by have := D.out.2.2 k hk; omega), hM3, D.out.2.1, D.out.2.2, G.out⟩, BB.out.trans (hU3.below (fun k hk => by have := G.out; omega) HB.out)⟩)
      clear hM3 hU3 c1 c3
      go_wp2_with fail
      go_ret
      exact ⟨by simp, ⟨_, _, _, _, F.out.1⟩, F.out.2⟩
    · go_wp2_with fail
      refine (refthere_any _ M.out T bn LT.out ⟨by omega, l1⟩).mono ?_; rintro e w' ⟨rfl, hw⟩; have hw2 := hw.symm; subst hw2; clear hw
      rw [decide_eq_false (by omega)]
      clear c1 c3
      go_wp2_with fail
      go_ret
      exact ⟨by simp, ⟨S2, _, _, _, D.out.1, M.out, D.out.2.1, D.out.2.2, G.out⟩, BB.out⟩
  · by_cases hp : 0 ≤ T ∧ 0 ≤ N ∧ T + N ≤ 64 * (m : Int)
    · obtain ⟨q, rfl⟩ : ∃ q : Nat, T = q := ⟨T.toNat, by omega⟩
      obtain ⟨r, rfl⟩ : ∃ r : Nat, N = r := ⟨N.toNat, by omega⟩
      have hqr : q + r ≤ 64 * m := by omega
      have HN := Lib.hid (show now.length = 64 * m from H.out.m.ln)
      go_wp2_with fail
      refine (cread_yes (p := q) (q := r) _ H.out.d hqr).mono ?_; rintro e w2 ⟨A, c, rfl, -, -, hT, hb⟩
      have TT := Lib.hid hT.rd
      have X := Lib.hid (X.out.but (But.of hb (fun _ => False)) id)
      have BB := Lib.hid (BB.out.trans (hb.mono HB.out))
      have H := Lib.hid (H.out.below hb)
      clear hT hb c1 c2 c3 c4
      have c1 := X.out.c1
      have c2 := X.out.c2
      have m1 := H.out.m.c1
      go_wp2_with fail
      refine (refthere_any _ H.out.m q r LT.out LN.out).mono ?_; rintro e w' ⟨rfl, hw⟩; have hw2 := hw.symm; subst hw2; clear hw
      rw [decide_eq_true (by omega)]
      obtain ⟨e, he⟩ : ∃ e, e = q + r := ⟨_, rfl⟩
      obtain ⟨n1, hn1⟩ : ∃ n1, n1 = 64 * m := ⟨_, rfl⟩
      have ra : IntKind.i64.wrap ((q : Int) + (r : Int)) = (e : Int) := by rw [IntKind.wrap_i64]; omega
      rw [← hn1] at m1
      have RN := Lib.hid (show RdK .u8 w2 w2.heap.size (some ⟨nb, q, none⟩) r ((now.drop q).take r) from by
        have h0 := (H.out.m.rn.rd w2.heap.size H.out.m.rn.1)
        rw [HN.out] at h0
        have h1 := (h0.drops (j := q)).takes (j := r) (by omega)
        rwa [Nat.zero_add] at h1)
      have kA := fun n => rd_str (c := c) (TT.out.below (below_drewN _ _ n))
      have RM := Lib.hid (show RdK .u8 w2 w2.heap.size (if n1 = q then some ⟨nb, 0, none⟩ else some ⟨nb, q, none⟩) r ((now.drop q).take r) from by
        split
        · exact ⟨RN.out.1, fun j hj => absurd hj (by omega)⟩
        · exact RN.out)
      have kB := fun n => rd_str (c := n1 - q) (RM.out.below (below_drewN _ _ n))
      have z0 : (0 : Int) ≤ (q : Int) := by omega
      have z1 : (q : Int) ≤ (e : Int) := by omega
      have z2 : (e : Int) ≤ (n1 : Int) := by omega
      have z3 : e - q = r := by omega
      have z4 : q ≤ e := by omega
      have z5 : e ≤ n1 := by omega
      have z6 : (e : Int) - (q : Int) = (r : Int) := by omega
      clear he hn1 hp hqr
      go_wp2_with fail
      go_quiet (fail)
      go_wp2_with fail
      all_goals
        go_ret
        exact ⟨by simp, ⟨_, _, _, _, H.out.below (below_drewN _ _ _)⟩, BB.out.trans (below_drewN _ _ _)⟩
    · go_wp2_with fail
      refine (cread_no (p := T) (q := N) _ H.out.d hp LT.out LN.out).mono ?_; rintro e w2 ⟨rfl, hb⟩
      have X := Lib.hid (X.out.but (But.of hb (fun _ => False)) id)
      have BB := Lib.hid (BB.out.trans (hb.mono HB.out))
      have H := Lib.hid (H.out.below hb)
      clear hb c1 c2 c3 c4
      have c1 := X.out.c1
      have c2 := X.out.c2
      go_wp2_with fail
      refine (refthere_any _ H.out.m T N LT.out LN.out).mono ?_; rintro e w' ⟨rfl, hw⟩; have hw2 := hw.symm; subst hw2; clear hw
      rw [decide_eq_false (by omega)]
      clear c1 c2
      go_wp2_with fail
      go_ret
      exact ⟨by simp, ⟨_, _, _, _, H.out⟩, BB.out⟩
  · clear c1 c2 c3 c4
    go_wp2_with fail
    refine (csync _ H.out.d).mono ?_; rintro e w2 ⟨rfl, hl⟩
    obtain ⟨S2, hD, hM, hS, hA, -, hU, hb⟩ := H.out.left HB.out hl
    have D := Lib.hid (show Dq S2 w2 b m now now (zs m) ∧ (∀ k, S2 k → B0 ≤ k) ∧ (∀ k, S2 k → k ≠ B ∧ k ≠ sb ∧ k ≠ nb ∧ k ≠ db) from ⟨hD, hS, hA⟩)
    have M := Lib.hid hM
    have BB := Lib.hid (BB.out.trans hb)
    have HB := Lib.hid (Nat.le_trans HB.out hb.size)
    have G := Lib.hid H.out.g
    clear hl hD hM hS hA hU hb
    go_wp2_with fail
    refine (refsync_any _ M.out).mono ?_; rintro e w3 ⟨rfl, hM3, hU3⟩
    have F := Lib.hid (show Both B0 w3 S2 b m B sb nb db now now (zs m) ∧ Below B0 w w3 from ⟨⟨D.out.1.but hU3 (fun k hk => by have := D.out.2.2 k hk; omega), hM3, D.out.2.1, D.out.2.2, G.out⟩, BB.out.trans (hU3.below (fun k hk => by have := G.out; omega) HB.out)⟩)
    clear hM3 hU3
    go_wp2_with fail
    go_ret
    exact ⟨by simp, ⟨_, _, _, _, F.out.1⟩, F.out.2⟩
  · go_wp2_with fail
    refine (ccrash _ H.out.d (RP.out.more HB.out) (RP.out.apart H.out.s) HPS.out HC.out.2).mono ?_; rintro e w2 ⟨rfl, hl⟩
    obtain ⟨S2, hD, hM, hS, hA, -, hU, hb⟩ := H.out.left HB.out hl
    have D := Lib.hid (show Dq S2 w2 b m _ _ (zs m) ∧ (∀ k, S2 k → B0 ≤ k) ∧ (∀ k, S2 k → k ≠ B ∧ k ≠ sb ∧ k ≠ nb ∧ k ≠ db) from ⟨hD, hS, hA⟩)
    have M := Lib.hid hM
    have X := Lib.hid (X.out.but hU NX.out)
    have BB := Lib.hid (BB.out.trans hb)
    have HB := Lib.hid (Nat.le_trans HB.out hb.size)
    have RP := Lib.hid (RP.out.below hb)
    have G := Lib.hid H.out.g
    clear hl hD hM hS hA hU hb c1 c2 c3 c4
    have c4 := X.out.c4
    go_wp2_with fail
    refine (refcrash_any _ M.out (RP.out.more HB.out) (RP.out.apart (S := fun k => k = sb) (fun k hk => by have := G.out; omega))).mono ?_; rintro e w3 ⟨rfl, hM3, hU3⟩
    have F := Lib.hid (show Both B0 w3 S2 b m B sb nb db _ _ (zs m) ∧ Below B0 w w3 from ⟨⟨D.out.1.but hU3 (fun k hk => by have := D.out.2.2 k hk; omega), hM3, D.out.2.1, D.out.2.2, G.out⟩, BB.out.trans (hU3.below (fun k hk => by have := G.out; omega) HB.out)⟩)
    clear hM3 hU3 c4
    go_wp2_with fail
    go_ret
    exact ⟨by simp, ⟨_, _, _, _, F.out.1⟩, F.out.2⟩
end Go.Proofs.Ytijlhbpkpmjacaa
