import Derived.Test.YtmfjnnjjoagbiaaDoorTo
namespace Go.Proofs.YtmfjnnjjoagbiaaDoor
open Go.RowKit Go.Shelf Go.Lib Ar Dg
attribute [local go_sem ↓] Go.wp_at_zero Go.wp_at_succ

theorem small_of {x : Int} (h1 : -79228162514264337593543950336 < x) (h2 : x < 79228162514264337593543950336) : Small x := by
  have h := pw_mono (show 6 ≤ 1000 by decide)
  have e : pw 6 = 79228162514264337593543950336 := by decide
  rw [e] at h
  exact ⟨by omega, by omega⟩

theorem set2_zero {w : World} {g : Nat} (h : Var2 w g) (a b : Value) : ((w.setCell ⟨g, 0, none⟩ a).setCell ⟨g, 1, none⟩ b).cell? ⟨g, 0, none⟩ = some a := by
  obtain ⟨⟨x, hx⟩, _⟩ := h
  rw [World.cell?_setCell_other _ _ _ _ (by intro e; injection e with _ e; cases e)]
  exact World.cell?_setCell_same _ _ _ hx
theorem set2_one {w : World} {g : Nat} (h : Var2 w g) (a b : Value) : ((w.setCell ⟨g, 0, none⟩ a).setCell ⟨g, 1, none⟩ b).cell? ⟨g, 1, none⟩ = some b := by
  obtain ⟨_, ⟨y, hy⟩, _⟩ := h
  have h2 : (w.setCell ⟨g, 0, none⟩ a).cell? ⟨g, 1, none⟩ = some y := by
    rw [World.cell?_setCell_other _ _ _ _ (by intro e; injection e with _ e; cases e)]; exact hy
  exact World.cell?_setCell_same _ _ _ h2
theorem Var2.set {w : World} {g : Nat} (h : Var2 w g) (A : Option Addr) (n c : Nat) (m : Bool) : Var2 ((w.setCell ⟨g, 0, none⟩ (.slice A n c)).setCell ⟨g, 1, none⟩ (.bool m)) g := by
  refine ⟨⟨_, set2_zero h _ _⟩, ⟨_, set2_one h _ _⟩, ?_, ?_, ?_⟩
  · rw [World.frozen?_setCell, World.frozen?_setCell]; exact h.2.2.1
  · rw [World.frozen?_setCell, World.frozen?_setCell]; exact h.2.2.2.1
  · intro i k z
    match i with
    | 0 => rw [set2_zero h]; simp
    | 1 => rw [set2_one h]; simp
    | i + 2 =>
      rw [World.cell?_setCell_other _ _ _ _ (by intro e; injection e with _ e; omega), World.cell?_setCell_other _ _ _ _ (by intro e; injection e with _ e; omega)]
      exact h.2.2.2.2 _ k z

/-- the variable that holds the sum so far -/
structure SumSt (w : World) (g : Nat) (wr : World) (A : Option Addr) (n c : Nat) (m : Bool) (x : Int) : Prop where
  a0 : wr.cell? ⟨g, 0, none⟩ = some (.slice A n c)
  a1 : wr.cell? ⟨g, 1, none⟩ = some (.bool m)
  v : Var2 wr g
  num : NumV wr wr.heap.size (.agg #[.slice A n c, .bool m]) x
  low : Below w.heap.size w wr
  hg : w.heap.size ≤ g
  high : g < wr.heap.size
theorem SumSt.below {w w1 w2 : World} {g : Nat} {A : Option Addr} {n c : Nat} {m : Bool} {x : Int} (h : SumSt w g w1 A n c m x) (hb : Below w1.heap.size w1 w2) : SumSt w g w2 A n c m x :=
  ⟨(hb.cell (p := ⟨g, 0, none⟩) h.high).trans h.a0, (hb.cell (p := ⟨g, 1, none⟩) h.high).trans h.a1, h.v.below hb h.high, (h.num.below hb).more hb.size, h.low.trans (hb.mono (Nat.le_of_lt (Nat.lt_of_le_of_lt h.hg h.high))), h.hg, Nat.lt_of_lt_of_le h.high hb.size⟩

theorem SumSt.store {w w3 : World} {g : Nat} {A A3 : Option Addr} {n c n3 c3 : Nat} {m m3 : Bool} {x y : Int} (h : SumSt w g w3 A n c m x) (hn : NumV w3 w3.heap.size (.agg #[.slice A3 n3 c3, .bool m3]) y) :
    SumSt w g ((w3.setCell ⟨g, 0, none⟩ (.slice A3 n3 c3)).setCell ⟨g, 1, none⟩ (.bool m3)) A3 n3 c3 m3 y :=
  ⟨set2_zero h.v _ _, set2_one h.v _ _, h.v.set _ _ _ _, (hn.store h.v).more (by simp), (h.low.setCell h.hg _).setCell h.hg _, h.hg, by simpa using h.high⟩

theorem part_small {zs : List Int} {N : Nat} (h : ∀ z ∈ zs, In z) (hl : zs.length = N) (hN : N ≤ 1000) (k : Nat) : Small (zs.take k).sum := by
  have hb := sum_bound (zs.take k) fun z hz => h z (List.mem_of_mem_take hz)
  have : (zs.take k).length ≤ 1000 := by rw [List.length_take]; omega
  exact small_of (by omega) (by omega)

end Go.Proofs.YtmfjnnjjoagbiaaDoor
