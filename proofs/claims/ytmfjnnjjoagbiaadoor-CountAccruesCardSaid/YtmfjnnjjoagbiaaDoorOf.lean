import Derived.Test.YtmfjnnjjoagbiaaDoorPlus
namespace Go.Proofs.YtmfjnnjjoagbiaaDoor
open Go.RowKit Go.Shelf Go.Lib Ar Dg

def sgn (m : Bool) (x : Int) : Int := if m then -x else x
/-- a long number in memory, as the whole number that it is -/
def NumV (w : World) (B : Nat) (v : Value) (x : Int) : Prop :=
  ∃ A n c ds m, v = .agg #[.slice A n c, .bool m] ∧ n ≤ c ∧ c ≤ 9223372036854775807 ∧ RdK .u64 w B A n ds ∧ Dig ds ∧ Top ds ∧ (m = true → 0 < n) ∧ x = sgn m (dv ds)
def NumPost (w : World) (x : Int) (e : Ending) (w' : World) : Prop := ∃ v, e = .returned v ∧ NumV w' w'.heap.size v x ∧ Below w.heap.size w w'
theorem NumV.below {w w' : World} {B : Nat} {v : Value} {x : Int} (h : NumV w B v x) (hb : Below B w w') : NumV w' B v x := by
  obtain ⟨A, n, c, ds, m, e, h1, h2, h3, h4⟩ := h
  exact ⟨A, n, c, ds, m, e, h1, h2, h3.below hb, h4⟩
theorem NumV.more {w : World} {B B' : Nat} {v : Value} {x : Int} (h : NumV w B v x) (hb : B ≤ B') : NumV w B' v x := by
  obtain ⟨A, n, c, ds, m, e, h1, h2, h3, h4⟩ := h
  exact ⟨A, n, c, ds, m, e, h1, h2, h3.more hb, h4⟩

theorem norm_num (A : Option Addr) (n c : Nat) (ds : List Int) (m : Bool) (w : World) (hr : RdK .u64 w w.heap.size A n ds) (hd : Dig ds) (hn : n ≤ c) (hc : c ≤ 9223372036854775807) :
    Calls Tryd.prog 26 #[.slice A n c, .bool m] w (NumPost w (sgn m (dv ds))) := by
  refine (norm_any A n c ds m w hr hn hc).mono fun e w' h => ?_
  obtain ⟨k, hk, hp, ht, he, hb⟩ := h
  refine ⟨_, he, ⟨A, k, c, ds.take k, _, rfl, by have := hr.1; omega, hc, ((hr.takes (by have := hr.1; omega)).below hb).more hb.size, hd.take k, ht, ?_, ?_⟩, hb⟩
  · intro h; simp at h; exact h.2
  · show _ = sgn _ (pre ds k)
    rw [hp]
    rcases Nat.eq_zero_or_pos k with h0 | h0
    · subst h0
      rw [pre_zero] at hp
      rw [← hp]; cases m <;> rfl
    · rw [show decide (0 < k) = true by simpa using h0, Bool.and_true]

def OfRel (w : World) (U : Int) (d u i : Value) (wr : World) : Prop :=
  ∃ (k : Nat) (z : Int) (os : List Int), i = .int .i64 k ∧ u = .int .u64 z ∧ k ≤ 4 ∧ 0 ≤ z ∧ z < 18446744073709551616 ∧ Hid (z < pw (4 - k)) ∧ wr.ownsRow w.heap.size 54 1 d k (os.map (Value.int .u64)) ∧ Below w.heap.size w wr ∧ Hid (os.length = k ∧ Dig os ∧ dv os + pw k * z = U)

theorem u64_not (a : Nat) (ha : a < 18446744073709551616) : bits .xor .u64 IntKind.u64.max (a : Int) = 18446744073709551615 - (a : Int) := by
  show IntKind.u64.wrap ((BitVec.ofInt 64 18446744073709551615 ^^^ BitVec.ofInt 64 (a : Int)).toNat : Int) = _
  have h1 : BitVec.ofInt 64 18446744073709551615 = BitVec.allOnes 64 := by decide
  have h2 : (BitVec.ofInt 64 (a : Int)).toNat = a := by
    rw [BitVec.ofInt_natCast, BitVec.toNat_ofNat]; exact Nat.mod_eq_of_lt (by omega)
  rw [h1, BitVec.allOnes_xor, BitVec.toNat_not, h2, IntKind.wrap_u64]
  omega
theorem neg_u64 (a : Int) (h : a < 0) (h2 : -9223372036854775808 ≤ a) : IntKind.u64.wrap (bits .xor .u64 IntKind.u64.max (IntKind.u64.wrap a) + 1) = -a := by
  have e : IntKind.u64.wrap a = ((a + 18446744073709551616).toNat : Int) := by rw [IntKind.wrap_u64]; omega
  rw [e, u64_not _ (by omega), IntKind.wrap_u64]; omega

/-- a new variable for a long number: what is known of it in a later world -/
def Var2 (w : World) (g : Nat) : Prop :=
  (∃ x, w.cell? ⟨g, 0, none⟩ = some x) ∧ (∃ x, w.cell? ⟨g, 1, none⟩ = some x) ∧ w.frozen? ⟨g, 0, none⟩ = false ∧ w.frozen? ⟨g, 1, none⟩ = false ∧ ∀ i k z, w.cell? ⟨g, i, none⟩ ≠ some (.int k z)
theorem var2_new (w : World) (A : Option Addr) (n c : Nat) (b : Bool) (t : TypeId) : Var2 (w.alloc (.cells #[.slice A n c, .bool b] t)) w.heap.size := by
  refine ⟨⟨_, by simp [World.cell?_alloc_new]; rfl⟩, ⟨_, by simp [World.cell?_alloc_new]; rfl⟩, ?_, ?_, ?_⟩
  · rw [frozen?_alloc_cells]; simp [World.frozen?]
  · rw [frozen?_alloc_cells]; simp [World.frozen?]
  · intro i k z
    rw [World.cell?_alloc_new]
    match i with
    | 0 => simp
    | 1 => simp
    | i + 2 => simp
theorem Var2.below {w w' : World} {g B : Nat} (h : Var2 w g) (hb : Below B w w') (hg : g < B) : Var2 w' g := by
  obtain ⟨⟨x, hx⟩, ⟨y, hy⟩, h1, h2, h3⟩ := h
  exact ⟨⟨x, (hb.cell hg).trans hx⟩, ⟨y, (hb.cell hg).trans hy⟩, (hb.frozen hg).trans h1, (hb.frozen hg).trans h2, fun i k z e => h3 i k z ((hb.cell (p := ⟨g, i, none⟩) hg).symm.trans e)⟩
theorem RdK.apart {k : IntKind} {w w' : World} {B g : Nat} {A : Option Addr} {n : Nat} {zs : List Int} (h : RdK k w B A n zs) (hg : ∀ i k z, w.cell? ⟨g, i, none⟩ ≠ some (.int k z))
    (hk : ∀ p : Addr, p.block ≠ g → w'.cell? p = w.cell? p) : RdK k w' B A n zs :=
  ⟨h.1, fun j hj => by
    obtain ⟨b, off, e, hb, hc⟩ := h.2 j hj
    exact ⟨b, off, e, hb, (hk _ (fun e2 => by subst e2; exact hg _ _ _ hc)).trans hc⟩⟩
theorem set2_other (w : World) (g : Nat) (a b : Value) (p : Addr) (h : p.block ≠ g) : ((w.setCell ⟨g, 0, none⟩ a).setCell ⟨g, 1, none⟩ b).cell? p = w.cell? p := by
  rw [World.cell?_setCell_other _ _ _ _ (fun e => h (by rw [← e])), World.cell?_setCell_other _ _ _ _ (fun e => h (by rw [← e]))]
theorem NumV.store {w : World} {B g : Nat} {v a b : Value} {x : Int} (h : NumV w B v x) (hv : Var2 w g) : NumV ((w.setCell ⟨g, 0, none⟩ a).setCell ⟨g, 1, none⟩ b) B v x := by
  obtain ⟨A, n, c, ds, m, e, h1, h2, h3, h4⟩ := h
  exact ⟨A, n, c, ds, m, e, h1, h2, h3.apart hv.2.2.2.2 (fun p hp => set2_other w g a b p hp), h4⟩

set_option maxHeartbeats 1000000 in
theorem of_any (a : Int) (w : World) (ha : In a) : Calls Tryd.prog 14 #[.int .i64 a] w (NumPost w a) := by
  obtain ⟨i0, hi, hz0, hz1, hz2⟩ := info_parts info46
  obtain ⟨a1, a2⟩ := ha
  obtain ⟨w1, hw1⟩ : ∃ w1, w.alloc (.cells #[.slice none 0 0, .bool false] 37) = w1 := ⟨_, rfl⟩
  have hv : Var2 w1 w.heap.size := hw1 ▸ var2_new w _ _ _ _ _
  have hsz : w1.heap.size = w.heap.size + 1 := by rw [← hw1]; simp
  have HB0 := Lib.hid (show Below w.heap.size w w1 from hw1 ▸ (Below.refl _ _).alloc (Nat.le_refl _) _)
  have HV := Lib.hid hv; clear hv
  have HSZ := Lib.hid hsz; clear hsz
  obtain ⟨U, m, hU, hU2, E, hb⟩ : ∃ (U : Int) (m : Bool), 0 ≤ U ∧ U < 18446744073709551616 ∧ ((a < 0 ∧ IntKind.u64.wrap (bits .xor .u64 IntKind.u64.max (IntKind.u64.wrap a) + 1) = U ∧ m = true) ∨ (0 ≤ a ∧ U = a ∧ m = false)) ∧ Hid (sgn m U = a) := by
    by_cases hneg : a < 0
    · exact ⟨-a, true, by omega, by omega, .inl ⟨hneg, neg_u64 a hneg a1, rfl⟩, by show -(-a) = a; omega⟩
    · exact ⟨a, false, by omega, by omega, .inr ⟨by omega, rfl, rfl⟩, rfl⟩
  have hrel0 : OfRel w1 U (.slice none 0 0) (.int .u64 U) (.int .i64 0) w1 :=
    ⟨0, U, [], rfl, rfl, by omega, hU, hU2, hU2, ⟨rfl, .inl ⟨rfl, rfl⟩⟩, Below.refl _ _, rfl, (fun x hx => nomatch hx), by simp [dv, pw_zero]⟩
  have HREL0 := Lib.hid hrel0; clear hrel0
  rcases E with ⟨hneg, E, rfl⟩ | ⟨hneg, rfl, rfl⟩
  · have HE := Lib.hid E; clear E
    go_enter Tryd.func14, Tryd.ntmps14
    go_wp2_with fail
    rw [HE.out]
    go_loopw [3, 4, 5] (fun u d i wr => OfRel w1 U d u i wr) (fun u d i _ => 4 - (RowKit.intOf i).toNat)
    case atStart => exact HREL0.out
    case round =>
      obtain ⟨k, z, os, rfl, rfl, hk, z0, z1, hz, hown, hbl, hm⟩ := hrel
      have HBL := Lib.hid hbl; clear hbl
      by_cases hlt : k < 4
      · have h4 : (k : Int) < 4 := by omega
        have HM := Lib.hid (show (os ++ [z % 65536]).length = k + 1 ∧ Dig (os ++ [z % 65536]) ∧ dv (os ++ [z % 65536]) + pw (k + 1) * (z / 65536) = U ∧ z / 65536 < pw (4 - (k + 1)) from by
          refine ⟨by rw [List.length_append, hm.out.1]; rfl, hm.out.2.1.snoc (by omega) (by omega), ?_, ?_⟩
          · rw [dv_snoc, hm.out.1, pw_succ, ← hm.out.2.2]
            have : z % 65536 + 65536 * (z / 65536) = z := by omega
            conv => rhs; rw [← this]
            grind
          · have := hz.out
            rw [show 4 - k = (4 - (k + 1)) + 1 by omega, pw_succ] at this; omega)
        go_wp2_with (at_builtin; refine wpList_append_own _ rfl _ _ 35 rfl w1.heap.size 54 i0 (.int .u64 0) 1 8 Tryd.underlying35 hi hz0 hz1 hz2 rfl (by decide) u4 k (os.map (Value.int .u64)) rfl (hown.alloc _) ⟨wr.heap.size, 0, none⟩ 1 1 [.int .u64 (z % 65536)] rfl rfl (news1 _ _ _) (one64 _) (by unfold maxLen; omega) (by omega) (le_alloc HBL.out (Nat.le_refl _) _) ?_; intro v' w2 hown' hgrow _; have HB1 := Lib.hid ((HBL.out.alloc HBL.out.size _).grown hgrow (le_alloc HBL.out (Nat.le_refl _) _) (own_block hown)); clear hgrow)
        exact ⟨⟨k + 1, _, _, by go_num, rfl, by omega, by omega, by omega, HM.out.2.2.2, by rw [List.map_append]; exact hown', HB1.out, ⟨HM.out.1, HM.out.2.1, HM.out.2.2.1⟩⟩, by simp [RowKit.intOf]; omega⟩
      · obtain rfl : k = 4 := by omega
        obtain ⟨A, cp, rfl⟩ := own_form hown
        have HO := Lib.hid hown; clear hown
        have HU := Lib.hid (show sgn true (dv os) = a from by
          have h1 := hz.out
          rw [show 4 - 4 = 0 from rfl, pw_zero] at h1
          have h2 := hm.out.2.2
          obtain rfl : z = 0 := by omega
          rw [show dv os = U by omega]; exact hb)
        go_wp2_with fail
        refine (norm_num A 4 cp os true _ (RdK.of_own HO.out) hm.out.2.1 (own_caps HO.out).1 (own_caps HO.out).2).mono ?_
        rintro e w2 ⟨v, rfl, hnum, hb2⟩
        rw [HU.out] at hnum
        have HV2 := Lib.hid ((HV.out.below HBL.out (by rw [HSZ.out]; exact Nat.lt_succ_self _)).below hb2 (by have := HBL.out.size; rw [HSZ.out] at this; omega))
        obtain ⟨A2, n2, c2, ds2, m2, rfl, hnum2⟩ := hnum
        have HN := Lib.hid (show NumV w2 w2.heap.size (.agg #[.slice A2 n2 c2, .bool m2]) a from ⟨A2, n2, c2, ds2, m2, rfl, hnum2⟩)
        have HB2 := Lib.hid (HBL.out.trans (hb2.mono HBL.out.size))
        clear hnum2 hb2
        obtain ⟨⟨x0, hx0⟩, ⟨x1, hx1⟩, f0, f1, _⟩ := HV2.out
        go_wp2_with fail
        exact bodyPost_ret (v := .agg #[.slice A2 n2 c2, .bool m2]) (by simp [results, Tryd.results14, go_sem, hx0, hx1]) rfl
          ⟨_, rfl, (HN.out.store HV2.out).more (by simp), ((HB0.out.trans (HB2.out.mono (by rw [HSZ.out]; exact Nat.le_succ _))).setCell (Nat.le_refl _) _).setCell (Nat.le_refl _) _⟩
  · have hd : decide (U < 0) = false := by simp; omega
    go_enter Tryd.func14, Tryd.ntmps14
    go_wp2_with fail
    go_loopw [3, 4, 5] (fun u d i wr => OfRel w1 U d u i wr) (fun u d i _ => 4 - (RowKit.intOf i).toNat)
    case atStart => exact HREL0.out
    case round =>
      obtain ⟨k, z, os, rfl, rfl, hk, z0, z1, hz, hown, hbl, hm⟩ := hrel
      have HBL := Lib.hid hbl; clear hbl
      by_cases hlt : k < 4
      · have h4 : (k : Int) < 4 := by omega
        have HM := Lib.hid (show (os ++ [z % 65536]).length = k + 1 ∧ Dig (os ++ [z % 65536]) ∧ dv (os ++ [z % 65536]) + pw (k + 1) * (z / 65536) = U ∧ z / 65536 < pw (4 - (k + 1)) from by
          refine ⟨by rw [List.length_append, hm.out.1]; rfl, hm.out.2.1.snoc (by omega) (by omega), ?_, ?_⟩
          · rw [dv_snoc, hm.out.1, pw_succ, ← hm.out.2.2]
            have : z % 65536 + 65536 * (z / 65536) = z := by omega
            conv => rhs; rw [← this]
            grind
          · have := hz.out
            rw [show 4 - k = (4 - (k + 1)) + 1 by omega, pw_succ] at this; omega)
        go_wp2_with (at_builtin; refine wpList_append_own _ rfl _ _ 35 rfl w1.heap.size 54 i0 (.int .u64 0) 1 8 Tryd.underlying35 hi hz0 hz1 hz2 rfl (by decide) u4 k (os.map (Value.int .u64)) rfl (hown.alloc _) ⟨wr.heap.size, 0, none⟩ 1 1 [.int .u64 (z % 65536)] rfl rfl (news1 _ _ _) (one64 _) (by unfold maxLen; omega) (by omega) (le_alloc HBL.out (Nat.le_refl _) _) ?_; intro v' w2 hown' hgrow _; have HB1 := Lib.hid ((HBL.out.alloc HBL.out.size _).grown hgrow (le_alloc HBL.out (Nat.le_refl _) _) (own_block hown)); clear hgrow)
        exact ⟨⟨k + 1, _, _, by go_num, rfl, by omega, by omega, by omega, HM.out.2.2.2, by rw [List.map_append]; exact hown', HB1.out, ⟨HM.out.1, HM.out.2.1, HM.out.2.2.1⟩⟩, by simp [RowKit.intOf]; omega⟩
      · obtain rfl : k = 4 := by omega
        obtain ⟨A, cp, rfl⟩ := own_form hown
        have HO := Lib.hid hown; clear hown
        have HU := Lib.hid (show sgn false (dv os) = U from by
          have h1 := hz.out
          rw [show 4 - 4 = 0 from rfl, pw_zero] at h1
          have h2 := hm.out.2.2
          obtain rfl : z = 0 := by omega
          rw [show dv os = U by omega]; exact hb)
        go_wp2_with fail
        refine (norm_num A 4 cp os false _ (RdK.of_own HO.out) hm.out.2.1 (own_caps HO.out).1 (own_caps HO.out).2).mono ?_
        rintro e w2 ⟨v, rfl, hnum, hb2⟩
        rw [HU.out] at hnum
        have HV2 := Lib.hid ((HV.out.below HBL.out (by rw [HSZ.out]; exact Nat.lt_succ_self _)).below hb2 (by have := HBL.out.size; rw [HSZ.out] at this; omega))
        obtain ⟨A2, n2, c2, ds2, m2, rfl, hnum2⟩ := hnum
        have HN := Lib.hid (show NumV w2 w2.heap.size (.agg #[.slice A2 n2 c2, .bool m2]) U from ⟨A2, n2, c2, ds2, m2, rfl, hnum2⟩)
        have HB2 := Lib.hid (HBL.out.trans (hb2.mono HBL.out.size))
        clear hnum2 hb2
        obtain ⟨⟨x0, hx0⟩, ⟨x1, hx1⟩, f0, f1, _⟩ := HV2.out
        go_wp2_with fail
        exact bodyPost_ret (v := .agg #[.slice A2 n2 c2, .bool m2]) (by simp [results, Tryd.results14, go_sem, hx0, hx1]) rfl
          ⟨_, rfl, (HN.out.store HV2.out).more (by simp), ((HB0.out.trans (HB2.out.mono (by rw [HSZ.out]; exact Nat.le_succ _))).setCell (Nat.le_refl _) _).setCell (Nat.le_refl _) _⟩
