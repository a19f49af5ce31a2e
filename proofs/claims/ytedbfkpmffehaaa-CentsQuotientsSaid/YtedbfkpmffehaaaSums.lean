import Derived.Test.YtedbfkpmffehaaaTold
namespace Go.Proofs.Ytedbfkpmffehaaa
open Go.RowKit Go.Shelf Go.Lib Ar Dg
attribute [local go_sem ↓] Go.wp_at_zero Go.wp_at_succ

theorem small_of {x : Int} (h1 : -79228162514264337593543950336 < x) (h2 : x < 79228162514264337593543950336) : Small x := by
  have h := pw_mono (show 6 ≤ 1000 by decide)
  have e : pw 6 = 79228162514264337593543950336 := by decide
  rw [e] at h
  exact ⟨by omega, by omega⟩

theorem set2_zero {w : World} {g : Nat} (h : Var2 w g) (a b : Value) : ((w.setCell ⟨g, 0, none⟩ a).setCell ⟨g, 1, none⟩ b).cell? ⟨g, 0, none⟩ = some a := by
  obtain ⟨⟨x, hx⟩, _⟩ := h
  rw [World.cell?_setCell_other _ _ _ _ (by intro e; injection e with _ e; cases e)]
  exact World.cell?_setCell_same _ _ _ hx
theorem set2_one {w : World} {g : Nat} (h : Var2 w g) (a b : Value) : ((w.setCell ⟨g, 0, none⟩ a).setCell ⟨g, 1, none⟩ b).cell? ⟨g, 1, none⟩ = some b := by
  obtain ⟨_, ⟨y, hy⟩, _⟩ := h
  have h2 : (w.setCell ⟨g, 0, none⟩ a).cell? ⟨g, 1, none⟩ = some y := by
    rw [World.cell?_setCell_other _ _ _ _ (by intro e; injection e with _ e; cases e)]; exact hy
  exact World.cell?_setCell_same _ _ _ h2
theorem Var2.set {w : World} {g : Nat} (h : Var2 w g) (A : Option Addr) (n c : Nat) (m : Bool) : Var2 ((w.setCell ⟨g, 0, none⟩ (.slice A n c)).setCell ⟨g, 1, none⟩ (.bool m)) g := by
  refine ⟨⟨_, set2_zero h _ _⟩, ⟨_, set2_one h _ _⟩, ?_, ?_, ?_⟩
  · rw [World.frozen?_setCell, World.frozen?_setCell]; exact h.2.2.1
  · rw [World.frozen?_setCell, World.frozen?_setCell]; exact h.2.2.2.1
  · intro i k z
    match i with
    | 0 => rw [set2_zero h]; simp
    | 1 => rw [set2_one h]; simp
    | i + 2 =>
      rw [World.cell?_setCell_other _ _ _ _ (by intro e; injection e with _ e; omega), World.cell?_setCell_other _ _ _ _ (by intro e; injection e with _ e; omega)]
      exact h.2.2.2.2 _ k z

/-- the variable that holds the sum so far -/
structure SumSt (w : World) (g : Nat) (wr : World) (A : Option Addr) (n c : Nat) (m : Bool) (x : Int) : Prop where
  a0 : wr.cell? ⟨g, 0, none⟩ = some (.slice A n c)
  a1 : wr.cell? ⟨g, 1, none⟩ = some (.bool m)
  v : Var2 wr g
  num : NumV wr wr.heap.size (.agg #[.slice A n c, .bool m]) x
  low : Below w.heap.size w wr
  hg : w.heap.size ≤ g
  high : g < wr.heap.size
theorem SumSt.below {w w1 w2 : World} {g : Nat} {A : Option Addr} {n c : Nat} {m : Bool} {x : Int} (h : SumSt w g w1 A n c m x) (hb : Below w1.heap.size w1 w2) : SumSt w g w2 A n c m x :=
  ⟨(hb.cell (p := ⟨g, 0, none⟩) h.high).trans h.a0, (hb.cell (p := ⟨g, 1, none⟩) h.high).trans h.a1, h.v.below hb h.high, (h.num.below hb).more hb.size, h.low.trans (hb.mono (Nat.le_of_lt (Nat.lt_of_le_of_lt h.hg h.high))), h.hg, Nat.lt_of_lt_of_le h.high hb.size⟩

theorem SumSt.store {w w3 : World} {g : Nat} {A A3 : Option Addr} {n c n3 c3 : Nat} {m m3 : Bool} {x y : Int} (h : SumSt w g w3 A n c m x) (hn : NumV w3 w3.heap.size (.agg #[.slice A3 n3 c3, .bool m3]) y) :
    SumSt w g ((w3.setCell ⟨g, 0, none⟩ (.slice A3 n3 c3)).setCell ⟨g, 1, none⟩ (.bool m3)) A3 n3 c3 m3 y :=
  ⟨set2_zero h.v _ _, set2_one h.v _ _, h.v.set _ _ _ _, (hn.store h.v).more (by simp), (h.low.setCell h.hg _).setCell h.hg _, h.hg, by simpa using h.high⟩

def SumsRel (w : World) (g : Nat) (zs : List Int) (N : Nat) (i : Value) (wr : World) : Prop :=
  ∃ (k : Nat) (A : Option Addr) (n c : Nat) (m : Bool), i = .int .i64 k ∧ k ≤ N ∧ SumSt w g wr A n c m (zs.take k).sum

theorem part_small {zs : List Int} {N : Nat} (h : ∀ z ∈ zs, In z) (hl : zs.length = N) (hN : N ≤ 1000) (k : Nat) : Small (zs.take k).sum := by
  have hb := sum_bound (zs.take k) fun z hz => h z (List.mem_of_mem_take hz)
  have : (zs.take k).length ≤ 1000 := by rw [List.length_take]; omega
  exact small_of (by omega) (by omega)

set_option maxHeartbeats 2000000 in
theorem sums_any (A : Option Addr) (n cap : Nat) (zs : List Int) (w : World) (hcap : n ≤ 9223372036854775807) (hr : RdK .i64 w w.heap.size A n zs) (hin : ∀ z ∈ zs, In z) :
    Calls Try.prog 4 #[.slice A n cap] w fun e w' => e = .returned (.bool true) ∧ Below w.heap.size w w' := by
  have HIN := Lib.hid hin; clear hin
  have HR := Lib.hid hr; clear hr
  by_cases hbig : 1000 < n
  · have k6 : decide ((1000 : Int) < (n : Int)) = true := by simp; omega
    go_enter Try.func4, Try.ntmps4
    go_wp2_with fail
    refine (up_any _).mono ?_; rintro e w' ⟨rfl, m, rfl⟩
    go_wp2_with fail
    go_ret
    exact ⟨rfl, below_drewN _ w m⟩
  have k6 : decide ((1000 : Int) < (n : Int)) = false := by simp; omega
  have hle : n ≤ 1000 := by omega
  go_enter Try.func4, Try.ntmps4
  go_wp2_with fail
  refine (up_any _).mono ?_; rintro e w1 ⟨rfl, q, rfl⟩
  have HB0 := Lib.hid (below_drewN w.heap.size w q)
  have HSZ := Lib.hid (show (w.drewN q).heap.size = w.heap.size from rfl)
  have HR0 := Lib.hid (HR.out.below HB0.out)
  generalize w.drewN q = w0 at *
  have HST := Lib.hid (show SumSt w w0.heap.size (w0.alloc (.cells #[.slice none 0 0, .bool false] 25)) none 0 0 false 0 from
    ⟨by rw [World.cell?_alloc_new]; rfl, by rw [World.cell?_alloc_new]; rfl, var2_new _ _ _ _ _ _, ⟨none, 0, 0, [], false, rfl, Nat.le_refl _, by decide, ⟨rfl, fun j hj => absurd hj (Nat.not_lt_zero _)⟩, (fun x hx => nomatch hx), (fun h => absurd h (by simp)), (fun h => nomatch h), rfl⟩,
      HB0.out.alloc (by rw [HSZ.out]; exact Nat.le_refl _) _, by rw [HSZ.out]; exact Nat.le_refl _, by simp⟩)
  go_wp2_with fail
  go_loopw [5] (fun i wr => SumsRel w w0.heap.size zs n i wr) (fun i _ => n - (RowKit.intOf i).toNat)
  case atStart => exact ⟨0, none, 0, 0, false, rfl, Nat.zero_le _, HST.out⟩
  case round =>
    obtain ⟨k, A4, n4, c4, m4, rfl, hk, hst⟩ := hrel
    have HS := Lib.hid hst; clear hst
    by_cases hlt : k < n
    · obtain ⟨xb, xo, rfl, hxb, rx⟩ := (HR.out.below HS.out.low).2 k hlt
      have a0 := HS.out.a0
      have a1 := HS.out.a1
      obtain ⟨⟨x0, hx0⟩, ⟨x1, hx1⟩, f0, f1, _⟩ := HS.out.v
      have hz : In (zs.getD k 0) := by
        have : k < zs.length := by rw [HR.out.1]; exact hlt
        rw [List.getD_eq_getElem?_getD, List.getElem?_eq_getElem this]; exact HIN.out _ (List.getElem_mem _)
      have hsn := sum_snoc zs k (by rw [HR.out.1]; exact hlt)
      generalize zs.getD k 0 = z at *
      have HZ := Lib.hid (show In z ∧ (zs.take (k + 1)).sum = (zs.take k).sum + z from ⟨hz, hsn⟩)
      clear hz hsn
      have i1 : (k : Int) < (n : Int) := by omega
      have i2 : (0 : Int) ≤ (k : Int) := by omega
      go_wp2_with fail
      have HXB := Lib.hid (show xb < wr.heap.size from Nat.lt_of_lt_of_le hxb (Nat.le_trans HS.out.hg (Nat.le_of_lt HS.out.high)))
      have HSM := Lib.hid (show Small (zs.take k).sum ∧ Small z from ⟨part_small HIN.out HR.out.1 hle k, small_of (by have := HZ.out.1.1; omega) (by have := HZ.out.1.2; omega)⟩)
      clear hxb
      go_region_with (first
        | (go_at_call 13; refine (of_any z _ HZ.out.1).mono ?_; rintro e w2 ⟨v, rfl, hn, hb⟩; have HS2 := Lib.hid (HS.out.below (undrew hb)); have HN := Lib.hid hn; have b0 := HS2.out.a0; have b1 := HS2.out.a1; have rx2 := ((undrew hb).cell (p := ⟨xb, xo + k, none⟩) HXB.out).trans rx; clear hn hb)
        | (go_at_call 18; refine (add_num _ _ _ z _ HS2.out.num HN.out HSM.out.1 HSM.out.2).mono ?_; rintro e w3 ⟨v3, rfl, ⟨A3, n3, c3, d3, m3, rfl, hn3⟩, hb3⟩; have HS3 := Lib.hid (HS2.out.below hb3); have HN3 := Lib.hid (show NumV w3 w3.heap.size (.agg #[.slice A3 n3 c3, .bool m3]) (zs.take (k + 1)).sum from ⟨A3, n3, c3, d3, m3, rfl, by rw [HZ.out.2]; exact hn3⟩); obtain ⟨⟨y0, hy0⟩, ⟨y1, hy1⟩, e0, e1, _⟩ := HS3.out.v; clear hn3 hb3))
      all_goals
        go_wp2_with fail
        exact ⟨⟨k + 1, A3, n3, c3, m3, by go_num, by omega, HS3.out.store HN3.out⟩, by simp [RowKit.intOf]; omega⟩
    · obtain rfl : k = n := by omega
      have ht : zs.take k = zs := List.take_of_length_le (by rw [HR.out.1]; exact Nat.le_refl _)
      rw [ht] at HS
      have a0 := HS.out.a0
      have a1 := HS.out.a1
      clear ht
      go_wp2_with fail
      refine (sum_any A k cap zs _ _ (HR.out.below HS.out.low) HIN.out hcap).mono ?_; rintro e w2 ⟨rfl, rfl⟩
      go_wp2_with fail
      refine (told_true _ zs.sum _ HS.out.num).mono ?_; rintro e w3 ⟨rfl, hb⟩
      have HB := Lib.hid (HS.out.low.trans (hb.mono (Nat.le_of_lt (Nat.lt_of_le_of_lt HS.out.hg HS.out.high))))
      clear hb
      go_wp2_with fail
      go_ret
      exact ⟨rfl, HB.out⟩
