import Derived.Test.YtmfjnnjjoagbiaaDoorFlo
namespace Go.Proofs.YtmfjnnjjoagbiaaDoor
open Go.RowKit Go.Shelf Go.Lib Ar Dg
attribute [local go_sem ↓] Go.wp_at_zero Go.wp_at_succ

/-- x by y, y above 0, rounded -/
def qv (x y m : Int) : Int :=
  if x % y = 0 ∨ m = 1 then x / y else if m = 2 then x / y + 1 else if 2 * (x % y) < y then x / y else if y < 2 * (x % y) then x / y + 1
  else if (m = 4 ∧ x / y % 2 = 0) ∨ (m = 3 ∧ x < 0) then x / y else x / y + 1

theorem floor_num (v1 v2 : Value) (X C : Int) (w : World) (h1 : NumV w w.heap.size v1 X) (h2 : NumV w w.heap.size v2 C) (b1 : -340282366920938463463374607431768211456 < X) (b2 : X < 340282366920938463463374607431768211456) (hC0 : 0 < C) (hC1 : C ≤ 18446744073709551616) :
    Calls Tryd.prog 28 #[v1, v2] w (NumPost w (X / C)) := by
  obtain ⟨A1, n1, c1, d1, m1, rfl, _, _, r1, g1, t1, _, e1⟩ := h1
  have h2' := h2
  obtain ⟨A2, n2, c2, d2, m2, rfl, hh⟩ := h2'
  clear hh
  have l1 : n1 ≤ 10 := by
    rw [← r1.1]
    refine len_le g1 t1 ?_
    have h := pw_mono (show 8 ≤ 10 by decide)
    have e : pw 8 = 340282366920938463463374607431768211456 := by decide
    rw [e] at h
    cases m1
    · have : X = dv d1 := e1
      omega
    · have : X = -dv d1 := e1
      omega
  rw [e1]
  exact floor_walk A1 A2 n1 c1 n2 c2 d1 m1 m2 C w r1 g1 t1 h2 l1 hC0 hC1

/-- a variable that holds a long number -/
structure VarN (wr : World) (g : Nat) (A : Option Addr) (n c : Nat) (m : Bool) (x : Int) : Prop where
  a0 : wr.cell? ⟨g, 0, none⟩ = some (.slice A n c)
  a1 : wr.cell? ⟨g, 1, none⟩ = some (.bool m)
  v : Var2 wr g
  num : NumV wr wr.heap.size (.agg #[.slice A n c, .bool m]) x
  lt : g < wr.heap.size
section
variable {wr w2 : World} {g g' : Nat} {A A5 : Option Addr} {n c n5 c5 : Nat} {m m5 : Bool} {x x5 : Int}
theorem VarN.below (h : VarN wr g A n c m x) (hb : Below wr.heap.size wr w2) : VarN w2 g A n c m x :=
  ⟨(hb.cell (p := ⟨g, 0, none⟩) h.lt).trans h.a0, (hb.cell (p := ⟨g, 1, none⟩) h.lt).trans h.a1, h.v.below hb h.lt, (h.num.below hb).more hb.size, Nat.lt_of_lt_of_le h.lt hb.size⟩
theorem VarN.apart (h : VarN wr g A n c m x) (hv : Var2 wr g') (hne : g ≠ g') (a b : Value) : VarN ((wr.setCell ⟨g', 0, none⟩ a).setCell ⟨g', 1, none⟩ b) g A n c m x :=
  ⟨(set2_other wr g' a b ⟨g, 0, none⟩ hne).trans h.a0, (set2_other wr g' a b ⟨g, 1, none⟩ hne).trans h.a1, h.v.apart hne a b, (h.num.store hv).more (by simp), by simpa using h.lt⟩
theorem VarN.set (h : VarN wr g A n c m x) (hn : NumV wr wr.heap.size (.agg #[.slice A5 n5 c5, .bool m5]) x5) : VarN ((wr.setCell ⟨g, 0, none⟩ (.slice A5 n5 c5)).setCell ⟨g, 1, none⟩ (.bool m5)) g A5 n5 c5 m5 x5 :=
  ⟨set2_zero h.v _ _, set2_one h.v _ _, h.v.set _ _ _ _, (hn.store h.v).more (by simp), by simpa using h.lt⟩
theorem VarN.of_var2 (hv : Var2 wr g) (hlt : g < wr.heap.size) (hn : NumV wr wr.heap.size (.agg #[.slice A5 n5 c5, .bool m5]) x5) : VarN ((wr.setCell ⟨g, 0, none⟩ (.slice A5 n5 c5)).setCell ⟨g, 1, none⟩ (.bool m5)) g A5 n5 c5 m5 x5 :=
  ⟨set2_zero hv _ _, set2_one hv _ _, hv.set _ _ _ _, (hn.store hv).more (by simp), by simpa using hlt⟩
theorem VarN.new (h : NumV wr wr.heap.size (.agg #[.slice A n c, .bool m]) x) : VarN (wr.alloc (.cells #[.slice A n c, .bool m] 37)) wr.heap.size A n c m x := by
  have hb : Below wr.heap.size wr (wr.alloc (.cells #[.slice A n c, .bool m] 37)) := (Below.refl _ _).alloc (Nat.le_refl _) _
  exact ⟨by rw [World.cell?_alloc_new]; rfl, by rw [World.cell?_alloc_new]; rfl, var2_new _ _ _ _ _ _, (h.below hb).more hb.size, by simp⟩
end

/-- the first part: the divisor above 0 -/
def QA (w : World) (X Y : Int) (wx : World) : Prop :=
  ∃ (A1 A2 : Option Addr) (n1 c1 n2 c2 : Nat) (m1 m2 : Bool), VarN wx w.heap.size A1 n1 c1 m1 X ∧ VarN wx (w.heap.size + 1) A2 n2 c2 m2 Y ∧ Var2 wx (w.heap.size + 2) ∧ Below w.heap.size w wx ∧ w.heap.size + 3 ≤ wx.heap.size
theorem qa_new (w : World) (A1 A2 : Option Addr) (n1 c1 n2 c2 : Nat) (m1 m2 : Bool) (X Y : Int) (h1 : NumV w w.heap.size (.agg #[.slice A1 n1 c1, .bool m1]) X) (h2 : NumV w w.heap.size (.agg #[.slice A2 n2 c2, .bool m2]) Y)
    (wx : World) (hw : wx = ((w.alloc (.cells #[.slice A1 n1 c1, .bool m1] 37)).alloc (.cells #[.slice A2 n2 c2, .bool m2] 37)).alloc (.cells #[.slice none 0 0, .bool false] 37)) :
    VarN wx w.heap.size A1 n1 c1 m1 X ∧ VarN wx (w.heap.size + 1) A2 n2 c2 m2 Y ∧ Var2 wx (w.heap.size + 2) ∧ Below w.heap.size w wx ∧ wx.heap.size = w.heap.size + 3 := by
  have k1 := VarN.new h1
  have b1 : Below w.heap.size w (w.alloc (.cells #[.slice A1 n1 c1, .bool m1] 37)) := (Below.refl _ _).alloc (Nat.le_refl _) _
  have s1 : (w.alloc (.cells #[.slice A1 n1 c1, .bool m1] 37)).heap.size = w.heap.size + 1 := by simp
  have h2' := (h2.below b1).more b1.size
  generalize w.alloc (.cells #[.slice A1 n1 c1, .bool m1] 37) = u1 at *
  have k2 := VarN.new h2'
  have b2 : Below u1.heap.size u1 (u1.alloc (.cells #[.slice A2 n2 c2, .bool m2] 37)) := (Below.refl _ _).alloc (Nat.le_refl _) _
  have s2 : (u1.alloc (.cells #[.slice A2 n2 c2, .bool m2] 37)).heap.size = u1.heap.size + 1 := by simp
  generalize u1.alloc (.cells #[.slice A2 n2 c2, .bool m2] 37) = u2 at *
  have b3 : Below u2.heap.size u2 (u2.alloc (.cells #[.slice none 0 0, .bool false] 37)) := (Below.refl _ _).alloc (Nat.le_refl _) _
  have k3 := var2_new u2 none 0 0 false 37
  have s3 : (u2.alloc (.cells #[.slice none 0 0, .bool false] 37)).heap.size = u2.heap.size + 1 := by simp
  rw [← hw] at b3 k3 s3
  have e2 : u2.heap.size = w.heap.size + 2 := by omega
  rw [s1] at k2
  rw [e2] at k3
  exact ⟨(k1.below b2).below b3, k2.below b3, k3, (b1.trans (b2.mono b1.size)).trans (b3.mono (by omega)), by omega⟩

structure QSt (w : World) (gl : Nat) (wr : World) (A1 A2 A3 : Option Addr) (n1 c1 n2 c2 n3 c3 : Nat) (m1 m2 m3 : Bool) (x y z : Int) : Prop where
  v1 : VarN wr w.heap.size A1 n1 c1 m1 x
  v2 : VarN wr (w.heap.size + 1) A2 n2 c2 m2 y
  v3 : Var2 wr (w.heap.size + 2)
  vl : VarN wr gl A3 n3 c3 m3 z
  low : Below w.heap.size w wr
  hs : w.heap.size + 3 ≤ wr.heap.size
section
variable {w wr w2 : World} {gl gN : Nat} {A1 A2 A3 : Option Addr} {n1 c1 n2 c2 n3 c3 : Nat} {m1 m2 m3 : Bool} {x y z : Int}
theorem QSt.below (h : QSt w gl wr A1 A2 A3 n1 c1 n2 c2 n3 c3 m1 m2 m3 x y z) (hb : Below wr.heap.size wr w2) : QSt w gl w2 A1 A2 A3 n1 c1 n2 c2 n3 c3 m1 m2 m3 x y z :=
  ⟨h.v1.below hb, h.v2.below hb, h.v3.below hb (by have := h.hs; omega), h.vl.below hb, h.low.trans (hb.mono (by have := h.hs; omega)), Nat.le_trans h.hs hb.size⟩
theorem QSt.alloc (h : QSt w gl wr A1 A2 A3 n1 c1 n2 c2 n3 c3 m1 m2 m3 x y z) (o : Obj) : QSt w gl (wr.alloc o) A1 A2 A3 n1 c1 n2 c2 n3 c3 m1 m2 m3 x y z := h.below ((Below.refl _ _).alloc (Nat.le_refl _) _)
theorem QSt.apart (h : QSt w gl wr A1 A2 A3 n1 c1 n2 c2 n3 c3 m1 m2 m3 x y z) (hv : Var2 wr gN) (h3 : w.heap.size + 3 ≤ gN) (hl : gl < gN) (a b : Value) : QSt w gl ((wr.setCell ⟨gN, 0, none⟩ a).setCell ⟨gN, 1, none⟩ b) A1 A2 A3 n1 c1 n2 c2 n3 c3 m1 m2 m3 x y z :=
  ⟨h.v1.apart hv (by omega) a b, h.v2.apart hv (by omega) a b, h.v3.apart (by omega) a b, h.vl.apart hv (by omega) a b, (h.low.setCell (by show w.heap.size ≤ gN; omega) _).setCell (by show w.heap.size ≤ gN; omega) _, by simpa using h.hs⟩
end

/-- behind the rest -/
def QB (w : World) (gl : Nat) (A1 A2 A3 : Option Addr) (n1 c1 n2 c2 n3 c3 : Nat) (m1 m2 m3 : Bool) (x y z r : Int) (s8 : Value) (wx : World) : Prop :=
  ∃ (gr : Nat) (A4 : Option Addr) (n4 c4 : Nat) (m4 : Bool), s8 = .pointer (some ⟨gr, 0, none⟩) ∧ QSt w gl wx A1 A2 A3 n1 c1 n2 c2 n3 c3 m1 m2 m3 x y z ∧ VarN wx gr A4 n4 c4 m4 r

theorem VarN.alloc {wr : World} {g : Nat} {A : Option Addr} {n c : Nat} {m : Bool} {x : Int} (h : VarN wr g A n c m x) (o : Obj) : VarN (wr.alloc o) g A n c m x := h.below ((Below.refl _ _).alloc (Nat.le_refl _) _)
theorem num_sign {w : World} {B : Nat} {A : Option Addr} {n c : Nat} {m : Bool} {x : Int} (h : NumV w B (.agg #[.slice A n c, .bool m]) x) : (m = true ∧ x < 0) ∨ (m = false ∧ 0 ≤ x) := by
  obtain ⟨A', n', c', ds, m', he, _, _, r2, g2, t2, p2, e2⟩ := h
  injection he with he; injection he with he; injection he with he1 he2
  injection he1 with _ he3 _; subst he3
  injection he2 with he2; injection he2 with he2; subst he2
  cases m
  · refine .inr ⟨rfl, ?_⟩
    have h := (dv_bd g2).1
    have : x = dv ds := e2
    omega
  · refine .inl ⟨rfl, ?_⟩
    have h := top_lo g2 t2 (by rw [r2.1]; exact p2 rfl)
    have h' := pw_pos (ds.length - 1)
    have : x = -dv ds := e2
    omega
theorem num_even {w : World} {B : Nat} {A : Option Addr} {n c : Nat} {m : Bool} {x : Int} (h : NumV w B (.agg #[.slice A n c, .bool m]) x) :
    (n = 0 ∧ x % 2 = 0) ∨ (0 < n ∧ ∃ b off d, A = some ⟨b, off, none⟩ ∧ w.cell? ⟨b, off, none⟩ = some (.int .u64 d) ∧ 0 ≤ d ∧ d < 65536 ∧ (x % 2 = 0 ↔ d % 2 = 0)) := by
  obtain ⟨A', n', c', ds, m', he, _, _, r2, g2, t2, p2, e2⟩ := h
  injection he with he; injection he with he; injection he with he1 he2
  injection he1 with heA he3 _; subst he3; subst heA
  injection he2 with he2; injection he2 with he2; subst he2
  obtain ⟨hl, hr⟩ := r2
  cases ds with
  | nil =>
    refine .inl ⟨by simpa using hl.symm, ?_⟩
    rw [e2]; cases m <;> rfl
  | cons d ds =>
    have hn : 0 < n := by rw [← hl]; exact Nat.succ_pos _
    obtain ⟨b, off, e, _, hc⟩ := hr 0 hn
    have hd := g2 d (by simp)
    refine .inr ⟨hn, b, off, d, e, hc, hd.1, hd.2, ?_⟩
    have e3 : dv (d :: ds) = d + 65536 * dv ds := rfl
    generalize dv ds = t at e3
    cases m
    · have : x = d + 65536 * t := e2.trans e3
      omega
    · have : x = -(d + 65536 * t) := e2.trans (congrArg (fun z => -z) e3)
      omega
theorem q_ret {w wc : World} {gl g : Nat} {A1 A2 A3 A : Option Addr} {n1 c1 n2 c2 n3 c3 n c : Nat} {m1 m2 m3 m : Bool} {x y z v v' : Int} (hq : QSt w gl wc A1 A2 A3 n1 c1 n2 c2 n3 c3 m1 m2 m3 x y z) (hv : VarN wc g A n c m v) (e : v' = v) :
    NumPost w v' (.returned (.agg #[.slice A n c, .bool m])) ((wc.setCell ⟨w.heap.size + 2, 0, none⟩ (.slice A n c)).setCell ⟨w.heap.size + 2, 1, none⟩ (.bool m)) :=
  ⟨_, rfl, by rw [e]; exact (hv.num.store hq.v3).more (by simp), (hq.low.setCell (by show w.heap.size ≤ w.heap.size + 2; omega) _).setCell (by show w.heap.size ≤ w.heap.size + 2; omega) _⟩
/-- behind high -/
def QC (w : World) (gl gr : Nat) (A1 A2 A3 A4 : Option Addr) (n1 c1 n2 c2 n3 c3 n4 c4 : Nat) (m1 m2 m3 m4 : Bool) (x y z r : Int) (s9 : Value) (wx : World) : Prop :=
  ∃ (gh : Nat) (A6 : Option Addr) (n6 c6 : Nat) (m6 : Bool), s9 = .pointer (some ⟨gh, 0, none⟩) ∧ QSt w gl wx A1 A2 A3 n1 c1 n2 c2 n3 c3 m1 m2 m3 x y z ∧ VarN wx gr A4 n4 c4 m4 r ∧ VarN wx gh A6 n6 c6 m6 (z + 1)
/-- behind the comparison -/
def QD (w : World) (gl gr gh : Nat) (A1 A2 A3 A4 A6 : Option Addr) (n1 c1 n2 c2 n3 c3 n4 c4 n6 c6 : Nat) (m1 m2 m3 m4 m6 : Bool) (x y z r : Int) (s10 : Value) (wx : World) : Prop :=
  ∃ s : Int, s10 = .int .i64 s ∧ s = cmpv (r + r - y) ∧ QSt w gl wx A1 A2 A3 n1 c1 n2 c2 n3 c3 m1 m2 m3 x y z ∧ VarN wx gr A4 n4 c4 m4 r ∧ VarN wx gh A6 n6 c6 m6 (z + 1)

set_option maxHeartbeats 4000000 in
theorem quotient_num (v1 v2 : Value) (X Y mo : Int) (w : World) (h1 : NumV w w.heap.size v1 X) (h2 : NumV w w.heap.size v2 Y) (bx1 : -85070591730234615865843651857942052865 < X) (bx2 : X < 85070591730234615865843651857942052865) (hY : Y ≠ 0) (by1 : -9223372036854775809 < Y) (by2 : Y < 9223372036854775809) (hm1 : 1 ≤ mo) (hm2 : mo ≤ 4) :
    Calls Tryd.prog 16 #[v1, v2, .int .i64 mo] w (NumPost w (qv (if Y < 0 then -X else X) (abs Y) mo)) := by
  have h1' := h1
  have h2' := h2
  obtain ⟨A1, n1, c1, d1, m1, rfl, hh1⟩ := h1'
  obtain ⟨A2, n2, c2, d2, m2, rfl, hh2⟩ := h2'
  have hm : (m2 = true ∧ Hid (Y < 0)) ∨ (m2 = false ∧ Hid (0 < Y)) := by
    obtain ⟨_, _, r2, g2, t2, p2, e2⟩ := hh2
    cases m2
    · refine .inr ⟨rfl, ?_⟩
      have h := (dv_bd g2).1
      have : Y = dv d2 := e2
      show 0 < Y; omega
    · refine .inl ⟨rfl, ?_⟩
      have h := top_lo g2 t2 (by rw [r2.1]; exact p2 rfl)
      have h' := pw_pos (d2.length - 1)
      have : Y = -dv d2 := e2
      show Y < 0; omega
  clear hh1 hh2
  obtain ⟨w1, hw1⟩ : ∃ w1, ((w.alloc (.cells #[.slice A1 n1 c1, .bool m1] 37)).alloc (.cells #[.slice A2 n2 c2, .bool m2] 37)).alloc (.cells #[.slice none 0 0, .bool false] 37) = w1 := ⟨_, rfl⟩
  have HQ := Lib.hid (qa_new w A1 A2 n1 c1 n2 c2 m1 m2 X Y h1 h2 w1 hw1.symm)
  have HX := Lib.hid (show (-85070591730234615865843651857942052865 < X ∧ X < 85070591730234615865843651857942052865) ∧ Y ≠ 0 ∧ -9223372036854775809 < Y ∧ Y < 9223372036854775809 from ⟨⟨bx1, bx2⟩, hY, by1, by2⟩)
  clear h1 h2 bx1 bx2 hY by1 by2
  have k0 := HQ.out.1.a0
  have k1 := HQ.out.1.a1
  have k2 := HQ.out.2.1.a0
  have k3 := HQ.out.2.1.a1
  go_enter Tryd.func16, Tryd.ntmps16
  go_upto_if 13 with fail
  go_cut [] (fun wx => QA w (if Y < 0 then -X else X) (abs Y) wx)
  case first =>
    rcases hm with ⟨rfl, hneg⟩ | ⟨rfl, hpos⟩
    · have HE := Lib.hid (show (if Y < 0 then -X else X) = -X ∧ abs Y = -Y from ⟨if_pos hneg.out, if_pos hneg.out⟩)
      obtain ⟨⟨x0, hx0⟩, ⟨x1, hx1⟩, f0, f1, _⟩ := HQ.out.1.v
      go_wp2_with fail
      refine (neg_num _ X _ HQ.out.1.num).mono ?_; rintro e w2 ⟨v, rfl, ⟨A5, n5, c5, d5, m5, rfl, hn⟩, hb⟩
      have HN := Lib.hid (show NumV w2 w2.heap.size (.agg #[.slice A5 n5 c5, .bool m5]) (-X) from ⟨A5, n5, c5, d5, m5, rfl, hn⟩)
      have V1 := Lib.hid (HQ.out.1.below hb)
      have V2 := Lib.hid (HQ.out.2.1.below hb)
      have V3 := Lib.hid (HQ.out.2.2.1.below hb (by rw [HQ.out.2.2.2.2]; omega))
      have BB := Lib.hid (show Below w.heap.size w w2 ∧ w.heap.size + 3 ≤ w2.heap.size from ⟨HQ.out.2.2.2.1.trans (hb.mono HQ.out.2.2.2.1.size), by have := hb.size; rw [HQ.out.2.2.2.2] at this; exact this⟩)
      clear hn hb hx0 hx1 f0 f1 k0 k1 k2 k3
      obtain ⟨⟨y0, hy0⟩, ⟨y1, hy1⟩, g0, g1, _⟩ := V1.out.v
      have W1 := Lib.hid (V1.out.set HN.out)
      have W2 := Lib.hid (V2.out.apart V1.out.v (by omega) (.slice A5 n5 c5) (.bool m5))
      have W3 := Lib.hid (V3.out.apart (g := w.heap.size) (by omega) (.slice A5 n5 c5) (.bool m5))
      have WB := Lib.hid (show Below w.heap.size w ((w2.setCell ⟨w.heap.size, 0, none⟩ (.slice A5 n5 c5)).setCell ⟨w.heap.size, 1, none⟩ (.bool m5)) ∧ w.heap.size + 3 ≤ ((w2.setCell ⟨w.heap.size, 0, none⟩ (.slice A5 n5 c5)).setCell ⟨w.heap.size, 1, none⟩ (.bool m5)).heap.size from
        ⟨(BB.out.1.setCell (Nat.le_refl _) _).setCell (Nat.le_refl _) _, by simpa using BB.out.2⟩)
      go_upto_region 3 with fail
      generalize (w2.setCell ⟨w.heap.size, 0, none⟩ (.slice A5 n5 c5)).setCell ⟨w.heap.size, 1, none⟩ (.bool m5) = w3 at *
      clear hy0 hy1 g0 g1
      have k2 := W2.out.a0
      have k3 := W2.out.a1
      go_wp2_with fail
      refine (neg_num _ Y _ W2.out.num).mono ?_; rintro e w4 ⟨v, rfl, ⟨A6, n6, c6, d6, m6, rfl, hn⟩, hb⟩
      have HN6 := Lib.hid (show NumV w4 w4.heap.size (.agg #[.slice A6 n6 c6, .bool m6]) (-Y) from ⟨A6, n6, c6, d6, m6, rfl, hn⟩)
      have U1 := Lib.hid (W1.out.below hb)
      have U2 := Lib.hid (W2.out.below hb)
      have U3 := Lib.hid (W3.out.below hb (by have := WB.out.2; omega))
      have UB := Lib.hid (show Below w.heap.size w w4 ∧ w.heap.size + 3 ≤ w4.heap.size from ⟨WB.out.1.trans (hb.mono (by have := WB.out.2; omega)), Nat.le_trans WB.out.2 hb.size⟩)
      clear hn hb k2 k3
      obtain ⟨⟨y0, hy0⟩, ⟨y1, hy1⟩, g0, g1, _⟩ := U2.out.v
      go_wp2_with fail
      go_meet
      rw [HE.out.1, HE.out.2]
      exact ⟨A5, A6, n5, c5, n6, c6, m5, m6, U1.out.apart U2.out.v (by omega) _ _, U2.out.set HN6.out, U3.out.apart (by omega) _ _, (UB.out.1.setCell (Nat.le_succ _) _).setCell (Nat.le_succ _) _, by simpa using UB.out.2⟩
    · have HE := Lib.hid (show (if Y < 0 then -X else X) = X ∧ abs Y = Y from ⟨if_neg (by have := hpos.out; omega), if_neg (by have := hpos.out; omega)⟩)
      go_wp2_with fail
      go_meet
      rw [HE.out.1, HE.out.2]
      exact ⟨A1, A2, n1, c1, n2, c2, m1, false, HQ.out.1, HQ.out.2.1, HQ.out.2.2.1, HQ.out.2.2.2.1, by rw [HQ.out.2.2.2.2]; exact Nat.le_refl _⟩
  case rest =>
    obtain ⟨A1, A2, n1, c1, n2, c2, m1, m2, hv1, hv2, hv3, hb, hs⟩ := hcut
    have V1 := Lib.hid hv1
    have V2 := Lib.hid hv2
    have V3 := Lib.hid hv3
    have VB := Lib.hid (show Below w.heap.size w wc ∧ w.heap.size + 3 ≤ wc.heap.size from ⟨hb, hs⟩)
    have HXY := Lib.hid (show (-85070591730234615865843651857942052865 < (if Y < 0 then -X else X) ∧ (if Y < 0 then -X else X) < 85070591730234615865843651857942052865) ∧ 0 < abs Y ∧ abs Y ≤ 9223372036854775808 from by
      have h := HX.out
      refine ⟨by split <;> omega, by have := abs_pos h.2.1; omega, ?_⟩
      unfold abs; split <;> omega)
    clear hv1 hv2 hv3 hb hs k0 k1 k2 k3 hm HQ
    generalize (if Y < 0 then -X else X) = x at *
    generalize abs Y = y at *
    have k0 := V1.out.a0
    have k1 := V1.out.a1
    have k2 := V2.out.a0
    have k3 := V2.out.a1
    go_wp2_with fail
    refine (floor_num _ _ x y _ V1.out.num V2.out.num (by have := HXY.out.1.1; omega) (by have := HXY.out.1.2; omega) HXY.out.2.1 (by have := HXY.out.2.2; omega)).mono ?_; rintro e w2 ⟨v, rfl, ⟨A3, n3, c3, d3, m3, rfl, hn⟩, hb⟩
    have HN3 := Lib.hid (show NumV w2 w2.heap.size (.agg #[.slice A3 n3 c3, .bool m3]) (x / y) from ⟨A3, n3, c3, d3, m3, rfl, hn⟩)
    have HSq := Lib.hid (show QSt w w2.heap.size (w2.alloc (.cells #[.slice A3 n3 c3, .bool m3] 37)) A1 A2 A3 n1 c1 n2 c2 n3 c3 m1 m2 m3 x y (x / y) from by
      have hC : Below w2.heap.size w2 (w2.alloc (.cells #[.slice A3 n3 c3, .bool m3] 37)) := (Below.refl _ _).alloc (Nat.le_refl _) _
      exact ⟨(V1.out.below hb).below hC, (V2.out.below hb).below hC, (V3.out.below hb (by have := VB.out.2; omega)).below hC (by have := VB.out.2; have := hb.size; omega), VarN.new HN3.out, (VB.out.1.trans (hb.mono (by have := VB.out.2; omega))).trans (hC.mono (by have := VB.out.2; have := hb.size; omega)), by have := VB.out.2; have := hb.size; simp; omega⟩)
    obtain ⟨z, hz⟩ : ∃ z, x / y = z := ⟨_, rfl⟩
    obtain ⟨r, hr⟩ : ∃ r, x % y = r := ⟨_, rfl⟩
    have hzr : x + -(z * y) = r := by rw [← hz, ← hr, Int.emod_def, Int.mul_comm]; omega
    have hbd : 0 ≤ r ∧ r < y := by rw [← hr]; exact ⟨Int.emod_nonneg _ (by have := HXY.out.2.1; omega), Int.emod_lt_of_pos _ HXY.out.2.1⟩
    have SZ := Lib.hid (show Small z ∧ Small y ∧ Small x ∧ Small (-(z * y)) ∧ x + -(z * y) = r from by
      have h := HXY.out
      have hx1 : -85070591730234615865843651857942052865 ≤ z := by rw [← hz, Int.le_ediv_iff_mul_le h.2.1]; omega
      have hx2 : z < 85070591730234615865843651857942052865 := by rw [← hz, Int.ediv_lt_iff_lt_mul h.2.1]; omega
      have h9 : pw 9 ≤ pw 1000 := pw_mono (by decide)
      have e9 : pw 9 = 22300745198530623141535718272648361505980416 := by decide
      rw [e9] at h9
      unfold Small
      exact ⟨by omega, by omega, by omega, by omega, hzr⟩)
    have HR := Lib.hid hbd
    rw [hz] at HSq HN3
    have HZR := Lib.hid (show x / y = z ∧ x % y = r from ⟨hz, hr⟩)
    clear hn hb k0 k1 k2 k3 hz hr hzr hbd
    go_upto_region 5 with fail
    generalize w2.alloc (.cells #[.slice A3 n3 c3, .bool m3] 37) = w3 at *
    generalize w2.heap.size = gl at *
    have k0 := HSq.out.v1.a0
    have k1 := HSq.out.v1.a1
    have k2 := HSq.out.v2.a0
    have k3 := HSq.out.v2.a1
    have k4 := HSq.out.vl.a0
    have k5 := HSq.out.vl.a1
    have l1 := HSq.out.v1.lt
    have l2 := HSq.out.v2.lt
    have l3 := HSq.out.vl.lt
    go_cut [8] (fun s8 wx => QB w gl A1 A2 A3 n1 c1 n2 c2 n3 c3 m1 m2 m3 x y z r s8 wx)
    case first =>
      go_region_held3 (fun w' => w'.cell? ⟨w.heap.size, 0, none⟩ = some (.slice A1 n1 c1) ∧ w'.cell? ⟨w.heap.size, 1, none⟩ = some (.bool m1) ∧ w'.cell? ⟨w.heap.size + 1, 0, none⟩ = some (.slice A2 n2 c2) ∧ w'.cell? ⟨w.heap.size + 1, 1, none⟩ = some (.bool m2) ∧ w'.cell? ⟨gl, 0, none⟩ = some (.slice A3 n3 c3) ∧ w'.cell? ⟨gl, 1, none⟩ = some (.bool m3))
        (refine ⟨?_, ?_, ?_, ?_, ?_, ?_⟩ <;> (first | assumption | (rw [World.cell?_alloc_lt _ _ _ (World.block_lt_of_cell? _ _ (by assumption))]; assumption) | (rw [set2_other _ _ _ _ _ (Nat.ne_of_lt (by assumption))]; assumption) | go_keep))
        (first
          | (go_at_call 13; refine (mul_num _ _ z y _ (by first | exact HSq.out.vl.num | exact (HSq.out.alloc _).vl.num) (by first | exact HSq.out.v2.num | exact (HSq.out.alloc _).v2.num) SZ.out.1 SZ.out.2.1).mono ?_; rintro e w6 ⟨v20, rfl, hn, hb⟩; (first | have HVn := Lib.hid (show Var2 w6 w3.heap.size ∧ w3.heap.size < w6.heap.size ∧ w.heap.size + 3 ≤ w3.heap.size ∧ gl < w3.heap.size from ⟨(var2_new w3 none 0 0 false 37).below (w := w3.alloc (.cells #[.slice none 0 0, .bool false] 37)) (undrew hb) (by simp), Nat.lt_of_lt_of_le (by simp) hb.size, HSq.out.hs, HSq.out.vl.lt⟩) | skip); have HSq := Lib.hid (show QSt w gl w6 A1 A2 A3 n1 c1 n2 c2 n3 c3 m1 m2 m3 x y z from by first | exact HSq.out.below hb | exact HSq.out.below (undrew hb) | exact (HSq.out.alloc _).below hb | exact (HSq.out.alloc _).below (undrew hb)); have HNa := Lib.hid hn; have j0 := HSq.out.v1.a0; have j1 := HSq.out.v1.a1; have j2 := HSq.out.v2.a0; have j3 := HSq.out.v2.a1; have j4 := HSq.out.vl.a0; have j5 := HSq.out.vl.a1; have j6 := HSq.out.v1.lt; have j7 := HSq.out.v2.lt; have j8 := HSq.out.vl.lt; clear hn hb)
          | (go_at_call 27; refine (neg_num _ (z * y) _ (by first | exact HNa.out | exact (HNa.out.below ((Below.refl _ _).alloc (Nat.le_refl _) _)).more (by simp))).mono ?_; rintro e w7 ⟨v19, rfl, hn, hb⟩; (first | have HVn := Lib.hid (show Var2 w7 _ ∧ _ < w7.heap.size ∧ w.heap.size + 3 ≤ _ ∧ gl < _ from ⟨HVn.out.1.below hb HVn.out.2.1, Nat.lt_of_lt_of_le HVn.out.2.1 hb.size, HVn.out.2.2⟩) | have HVn := Lib.hid (show Var2 w7 w6.heap.size ∧ w6.heap.size < w7.heap.size ∧ w.heap.size + 3 ≤ w6.heap.size ∧ gl < w6.heap.size from ⟨(var2_new w6 none 0 0 false 37).below hb (by simp), Nat.lt_of_lt_of_le (by simp) hb.size, HSq.out.hs, HSq.out.vl.lt⟩) | skip); have HSq := Lib.hid (show QSt w gl w7 A1 A2 A3 n1 c1 n2 c2 n3 c3 m1 m2 m3 x y z from by first | exact HSq.out.below hb | exact HSq.out.below (undrew hb) | exact (HSq.out.alloc _).below hb | exact (HSq.out.alloc _).below (undrew hb)); have HNb := Lib.hid hn; have j0 := HSq.out.v1.a0; have j1 := HSq.out.v1.a1; have j2 := HSq.out.v2.a0; have j3 := HSq.out.v2.a1; have j4 := HSq.out.vl.a0; have j5 := HSq.out.vl.a1; have j6 := HSq.out.v1.lt; have j7 := HSq.out.v2.lt; have j8 := HSq.out.vl.lt; clear hn hb)
          | (go_at_call 29; refine (add_num _ _ x (-(z * y)) _ (by first | exact HSq.out.v1.num | exact (HSq.out.alloc _).v1.num) (by first | exact HNb.out | exact (HNb.out.below ((Below.refl _ _).alloc (Nat.le_refl _) _)).more (by simp)) SZ.out.2.2.1 SZ.out.2.2.2.1).mono ?_; rintro e w8 ⟨v18, rfl, ⟨A4, n4, c4, d4, m4, rfl, hn⟩, hb⟩; (first | have HVn := Lib.hid (show Var2 w8 _ ∧ _ < w8.heap.size ∧ w.heap.size + 3 ≤ _ ∧ gl < _ from ⟨HVn.out.1.below hb HVn.out.2.1, Nat.lt_of_lt_of_le HVn.out.2.1 hb.size, HVn.out.2.2⟩) | have HVn := Lib.hid (show Var2 w8 w7.heap.size ∧ w7.heap.size < w8.heap.size ∧ w.heap.size + 3 ≤ w7.heap.size ∧ gl < w7.heap.size from ⟨(var2_new w7 none 0 0 false 37).below hb (by simp), Nat.lt_of_lt_of_le (by simp) hb.size, HSq.out.hs, HSq.out.vl.lt⟩) | skip); have HSq := Lib.hid (show QSt w gl w8 A1 A2 A3 n1 c1 n2 c2 n3 c3 m1 m2 m3 x y z from by first | exact HSq.out.below hb | exact HSq.out.below (undrew hb) | exact (HSq.out.alloc _).below hb | exact (HSq.out.alloc _).below (undrew hb)); have HNc := Lib.hid (show NumV w8 w8.heap.size (.agg #[.slice A4 n4 c4, .bool m4]) r from ⟨A4, n4, c4, d4, m4, rfl, by rw [← SZ.out.2.2.2.2]; exact hn⟩); (first | obtain ⟨⟨y0, hy0⟩, ⟨y1, hy1⟩, e0, e1, _⟩ := HVn.out.1 | skip); have j0 := HSq.out.v1.a0; have j1 := HSq.out.v1.a1; have j2 := HSq.out.v2.a0; have j3 := HSq.out.v2.a1; have j4 := HSq.out.vl.a0; have j5 := HSq.out.vl.a1; have j6 := HSq.out.v1.lt; have j7 := HSq.out.v2.lt; have j8 := HSq.out.vl.lt; clear hn hb))
      all_goals
        go_wp2_with fail
        go_meet
        first
          | exact ⟨_, A4, n4, c4, m4, rfl, HSq.out.alloc _, VarN.new HNc.out⟩
          | exact ⟨_, A4, n4, c4, m4, rfl, HSq.out.apart HVn.out.1 HVn.out.2.2.1 HVn.out.2.2.2 _ _, VarN.of_var2 HVn.out.1 HVn.out.2.1 HNc.out⟩
    case rest =>
      obtain ⟨gr, A4, n4, c4, m4, rfl, hq, hv⟩ := hcut
      have HSq := Lib.hid hq
      have HRv := Lib.hid hv
      clear hq hv k0 k1 k2 k3 k4 k5 l1 l2 l3
      have hr0 : (n4 = 0 ∧ Hid (r = 0)) ∨ (0 < n4 ∧ Hid (r ≠ 0)) := by
        obtain ⟨B3, k3, e3, ds3, mm3, he, _, _, r3, g3, t3, g6, e3'⟩ := HRv.out.num
        injection he with he; injection he with he; injection he with he1 he2
        injection he1 with _ he3 _; subst he3
        injection he2 with he2; injection he2 with he2; subst he2
        rcases Nat.eq_zero_or_pos n4 with h | h
        · refine .inl ⟨h, ?_⟩
          have : dv ds3 = 0 := (zero_nil g3 t3).2 (List.length_eq_zero_iff.1 (by rw [r3.1, h]))
          show r = 0
          rw [e3', this]; cases m4 <;> rfl
        · refine .inr ⟨h, ?_⟩
          have h1 := top_lo g3 t3 (by rw [r3.1]; exact h)
          have h2 := pw_pos (ds3.length - 1)
          show r ≠ 0
          cases m4
          · have : r = dv ds3 := e3'
            omega
          · have : r = -dv ds3 := e3'
            omega
      obtain ⟨⟨x0, hx0⟩, ⟨x1, hx1⟩, f0, f1, _⟩ := HSq.out.v3
      have k0 := HSq.out.vl.a0
      have k1 := HSq.out.vl.a1
      have k2 := HRv.out.a0
      have k3 := HRv.out.a1
      have hlow : ∀ v : Int, Hid (v = z) → NumPost w v (.returned (.agg #[.slice A3 n3 c3, .bool m3])) ((wc.setCell ⟨w.heap.size + 2, 0, none⟩ (.slice A3 n3 c3)).setCell ⟨w.heap.size + 2, 1, none⟩ (.bool m3)) := fun v hv =>
        ⟨_, rfl, by rw [hv.out]; exact (HSq.out.vl.num.store HSq.out.v3).more (by simp), (HSq.out.low.setCell (by show w.heap.size ≤ w.heap.size + 2; omega) _).setCell (by show w.heap.size ≤ w.heap.size + 2; omega) _⟩
      have HLOW := Lib.hid hlow
      clear hlow
      rcases hr0 with ⟨rfl, hr⟩ | ⟨hp, hr⟩
      · have HV := Lib.hid (show qv x y mo = z by unfold qv; rw [if_pos (.inl (by rw [HZR.out.2]; exact hr.out)), HZR.out.1])
        clear hr
        go_wp2_with fail
        exact bodyPost_ret (v := .agg #[.slice A3 n3 c3, .bool m3]) (by simp [results, Tryd.results16, go_sem, hx0, hx1]) rfl (HLOW.out _ HV.out)
      have hz0 : ((n4 : Int) == 0) = false := by rw [beq_eq_false_iff_ne]; omega
      by_cases h1 : mo = 1
      · have HV := Lib.hid (show qv x y mo = z by unfold qv; rw [if_pos (.inr h1), HZR.out.1])
        subst h1
        clear hr
        go_wp2_with fail
        exact bodyPost_ret (v := .agg #[.slice A3 n3 c3, .bool m3]) (by simp [results, Tryd.results16, go_sem, hx0, hx1]) rfl (HLOW.out _ HV.out)
      have e1 : (mo == 1) = false := by rw [beq_eq_false_iff_ne]; exact h1
      have H1 := Lib.hid h1
      clear h1
      go_upto_region 8 with fail
      have HS1 := Lib.hid (show In 1 ∧ Small 1 ∧ Small r ∧ Small (r + r) ∧ Small (-y) from by
        have h9 : pw 9 ≤ pw 1000 := pw_mono (by decide)
        have e9 : pw 9 = 22300745198530623141535718272648361505980416 := by decide
        rw [e9] at h9
        have a1 := HXY.out.2.2
        have a2 := HR.out
        unfold Small
        exact ⟨⟨by decide, by decide⟩, by omega, by omega, by omega, by omega⟩)
      clear hx0 hx1 f0 f1 HLOW k2 k3 e1
      have l3 := HSq.out.vl.lt
      go_cut [9] (fun s9 wx => QC w gl gr A1 A2 A3 A4 n1 c1 n2 c2 n3 c3 n4 c4 m1 m2 m3 m4 x y z r s9 wx)
      case first =>
        go_region_held3 (fun w' => w'.cell? ⟨gl, 0, none⟩ = some (.slice A3 n3 c3) ∧ w'.cell? ⟨gl, 1, none⟩ = some (.bool m3))
          (refine ⟨?_, ?_⟩ <;> (first | assumption | (rw [World.cell?_alloc_lt _ _ _ (World.block_lt_of_cell? _ _ (by assumption))]; assumption) | (rw [set2_other _ _ _ _ _ (Nat.ne_of_lt (by assumption))]; assumption) | go_keep))
          (first
            | (go_at_call 14; refine (of_any 1 _ HS1.out.1).mono ?_; rintro e w6 ⟨v13, rfl, hn, hb⟩; (first | have HVn := Lib.hid (show Var2 w6 wc.heap.size ∧ wc.heap.size < w6.heap.size ∧ w.heap.size + 3 ≤ wc.heap.size ∧ gl < wc.heap.size ∧ gr < wc.heap.size from ⟨(var2_new wc none 0 0 false 37).below (w := wc.alloc (.cells #[.slice none 0 0, .bool false] 37)) (undrew hb) (by simp), Nat.lt_of_lt_of_le (by simp) hb.size, HSq.out.hs, HSq.out.vl.lt, HRv.out.lt⟩) | skip); have HRv := Lib.hid (show VarN w6 gr A4 n4 c4 m4 r from by first | exact HRv.out.below hb | exact HRv.out.below (undrew hb) | exact (HRv.out.alloc _).below hb | exact (HRv.out.alloc _).below (undrew hb)); have HSq := Lib.hid (show QSt w gl w6 A1 A2 A3 n1 c1 n2 c2 n3 c3 m1 m2 m3 x y z from by first | exact HSq.out.below hb | exact HSq.out.below (undrew hb) | exact (HSq.out.alloc _).below hb | exact (HSq.out.alloc _).below (undrew hb)); have j0 := HSq.out.vl.a0; have j1 := HSq.out.vl.a1; have j8 := HSq.out.vl.lt; have HNa := Lib.hid hn; clear hn hb)
            | (go_at_call 29; refine (add_num _ _ z 1 _ (by first | exact HSq.out.vl.num | exact (HSq.out.alloc _).vl.num) (by first | exact HNa.out | exact (HNa.out.below ((Below.refl _ _).alloc (Nat.le_refl _) _)).more (by simp)) SZ.out.1 HS1.out.2.1).mono ?_; rintro e w8 ⟨v18, rfl, ⟨A6, n6, c6, d6, m6, rfl, hn⟩, hb⟩; (first | have HVn := Lib.hid (show Var2 w8 _ ∧ _ < w8.heap.size ∧ w.heap.size + 3 ≤ _ ∧ gl < _ ∧ gr < _ from ⟨HVn.out.1.below hb HVn.out.2.1, Nat.lt_of_lt_of_le HVn.out.2.1 hb.size, HVn.out.2.2⟩) | have HVn := Lib.hid (show Var2 w8 w6.heap.size ∧ w6.heap.size < w8.heap.size ∧ w.heap.size + 3 ≤ w6.heap.size ∧ gl < w6.heap.size ∧ gr < w6.heap.size from ⟨(var2_new w6 none 0 0 false 37).below hb (by simp), Nat.lt_of_lt_of_le (by simp) hb.size, HSq.out.hs, HSq.out.vl.lt, HRv.out.lt⟩) | skip); have HRv := Lib.hid (show VarN w8 gr A4 n4 c4 m4 r from by first | exact HRv.out.below hb | exact HRv.out.below (undrew hb) | exact (HRv.out.alloc _).below hb | exact (HRv.out.alloc _).below (undrew hb)); have HSq := Lib.hid (show QSt w gl w8 A1 A2 A3 n1 c1 n2 c2 n3 c3 m1 m2 m3 x y z from by first | exact HSq.out.below hb | exact HSq.out.below (undrew hb) | exact (HSq.out.alloc _).below hb | exact (HSq.out.alloc _).below (undrew hb)); have j0 := HSq.out.vl.a0; have j1 := HSq.out.vl.a1; have j8 := HSq.out.vl.lt; have HNc := Lib.hid (show NumV w8 w8.heap.size (.agg #[.slice A6 n6 c6, .bool m6]) (z + 1) from ⟨A6, n6, c6, d6, m6, rfl, hn⟩); (first | obtain ⟨⟨y0, hy0⟩, ⟨y1, hy1⟩, e0, e1, _⟩ := HVn.out.1 | skip); clear hn hb))
        all_goals
          go_wp2_with fail
          go_meet
          first
            | exact ⟨_, A6, n6, c6, m6, rfl, HSq.out.alloc _, HRv.out.alloc _, VarN.new HNc.out⟩
            | exact ⟨_, A6, n6, c6, m6, rfl, HSq.out.apart HVn.out.1 HVn.out.2.2.1 HVn.out.2.2.2.1 _ _, HRv.out.apart HVn.out.1 (Nat.ne_of_lt HVn.out.2.2.2.2) _ _, VarN.of_var2 HVn.out.1 HVn.out.2.1 HNc.out⟩
      case rest =>
        obtain ⟨gh, A6, n6, c6, m6, rfl, hq, hv, hh⟩ := hcut
        have HSq := Lib.hid hq
        have HRv := Lib.hid hv
        have HHv := Lib.hid hh
        clear hq hv hh k0 k1 l3
        obtain ⟨⟨x0, hx0⟩, ⟨x1, hx1⟩, f0, f1, _⟩ := HSq.out.v3
        have k0 := HHv.out.a0
        have k1 := HHv.out.a1
        by_cases h2 : mo = 2
        · have HV := Lib.hid (show qv x y mo = z + 1 by unfold qv; rw [if_neg (by rw [HZR.out.2]; rintro (h | h); exact hr.out h; exact H1.out h), if_pos h2, HZR.out.1])
          subst h2
          clear hr
          go_wp2_with fail
          exact bodyPost_ret (v := .agg #[.slice A6 n6 c6, .bool m6]) (by simp [results, Tryd.results16, go_sem, hx0, hx1]) rfl (q_ret HSq.out HHv.out HV.out)
        have e2 : (mo == 2) = false := by rw [beq_eq_false_iff_ne]; exact h2
        have H2 := Lib.hid h2
        clear h2 hx0 hx1 f0 f1
        go_upto_region 11 with fail
        clear k0 k1 e2
        have k0 := HRv.out.a0
        have k1 := HRv.out.a1
        have k2 := HSq.out.v2.a0
        have k3 := HSq.out.v2.a1
        have l1 := HRv.out.lt
        have l2 := HSq.out.v2.lt
        go_cut [10] (fun s10 wx => QD w gl gr gh A1 A2 A3 A4 A6 n1 c1 n2 c2 n3 c3 n4 c4 n6 c6 m1 m2 m3 m4 m6 x y z r s10 wx)
        case first =>
          go_region_held3 (fun w' => w'.cell? ⟨gr, 0, none⟩ = some (.slice A4 n4 c4) ∧ w'.cell? ⟨gr, 1, none⟩ = some (.bool m4) ∧ w'.cell? ⟨w.heap.size + 1, 0, none⟩ = some (.slice A2 n2 c2) ∧ w'.cell? ⟨w.heap.size + 1, 1, none⟩ = some (.bool m2))
            (refine ⟨?_, ?_, ?_, ?_⟩ <;> (first | assumption | (rw [World.cell?_alloc_lt _ _ _ (World.block_lt_of_cell? _ _ (by assumption))]; assumption) | (rw [set2_other _ _ _ _ _ (Nat.ne_of_lt (by assumption))]; assumption) | go_keep))
            (first
              | (go_at_call 29; refine (add_num _ _ r r _ (by exact HRv.out.num) (by exact HRv.out.num) HS1.out.2.2.1 HS1.out.2.2.1).mono ?_; rintro e w6 ⟨v18, rfl, hn, hb⟩; have HHv := Lib.hid (show VarN w6 gh A6 n6 c6 m6 (z + 1) from by first | exact HHv.out.below hb | exact HHv.out.below (undrew hb)); have HRv := Lib.hid (show VarN w6 gr A4 n4 c4 m4 r from by first | exact HRv.out.below hb | exact HRv.out.below (undrew hb)); have HSq := Lib.hid (show QSt w gl w6 A1 A2 A3 n1 c1 n2 c2 n3 c3 m1 m2 m3 x y z from by first | exact HSq.out.below hb | exact HSq.out.below (undrew hb)); have HNa := Lib.hid hn; have j0 := HRv.out.a0; have j1 := HRv.out.a1; have j2 := HSq.out.v2.a0; have j3 := HSq.out.v2.a1; have j6 := HRv.out.lt; have j7 := HSq.out.v2.lt; clear hn hb)
              | (go_at_call 30; refine (cmp_num _ _ (r + r) y _ (by exact HNa.out) (by exact HSq.out.v2.num) HS1.out.2.2.2.1 HS1.out.2.2.2.2).mono ?_; rintro e w8 ⟨rfl, hb⟩; have HHv := Lib.hid (show VarN w8 gh A6 n6 c6 m6 (z + 1) from by first | exact HHv.out.below hb | exact HHv.out.below (undrew hb)); have HRv := Lib.hid (show VarN w8 gr A4 n4 c4 m4 r from by first | exact HRv.out.below hb | exact HRv.out.below (undrew hb)); have HSq := Lib.hid (show QSt w gl w8 A1 A2 A3 n1 c1 n2 c2 n3 c3 m1 m2 m3 x y z from by first | exact HSq.out.below hb | exact HSq.out.below (undrew hb)); have j0 := HRv.out.a0; have j1 := HRv.out.a1; have j2 := HSq.out.v2.a0; have j3 := HSq.out.v2.a1; have j6 := HRv.out.lt; have j7 := HSq.out.v2.lt; clear hb))
          all_goals
            go_wp2_with fail
            go_meet
            exact ⟨_, rfl, rfl, HSq.out, HRv.out, HHv.out⟩
        case rest =>
          obtain ⟨s, rfl, hs, hq, hv, hh⟩ := hcut
          have HSq := Lib.hid hq
          have HHv := Lib.hid hh
          clear hq hv hh k0 k1 k2 k3 l1 l2
          obtain ⟨⟨x0, hx0⟩, ⟨x1, hx1⟩, f0, f1, _⟩ := HSq.out.v3
          have k0 := HHv.out.a0
          have k1 := HHv.out.a1
          have k2 := HSq.out.vl.a0
          have k3 := HSq.out.vl.a1
          have HNR := Lib.hid (show ¬ (x % y = 0 ∨ mo = 1) by rw [HZR.out.2]; rintro (h | h); exact hr.out h; exact H1.out h)
          have hc : (s = -1 ∧ Hid (2 * r < y)) ∨ (s = 1 ∧ Hid (y < 2 * r)) ∨ (s = 0 ∧ Hid (2 * r = y)) := by
            unfold cmpv at hs
            by_cases h1 : r + r - y = 0
            · rw [if_pos h1] at hs
              exact .inr (.inr ⟨hs, show 2 * r = y by omega⟩)
            · rw [if_neg h1] at hs
              by_cases h2 : r + r - y < 0
              · rw [if_pos h2] at hs
                exact .inl ⟨hs, show 2 * r < y by omega⟩
              · rw [if_neg h2] at hs
                exact .inr (.inl ⟨hs, show y < 2 * r by omega⟩)
          clear hs
          rcases hc with ⟨rfl, hc⟩ | ⟨rfl, hc⟩ | ⟨rfl, hc⟩
          · have HV := Lib.hid (show qv x y mo = z by unfold qv; rw [if_neg HNR.out, if_neg H2.out, if_pos (by rw [HZR.out.2]; exact hc.out), HZR.out.1])
            clear hr hc
            go_wp2_with fail
            exact bodyPost_ret (v := .agg #[.slice A3 n3 c3, .bool m3]) (by simp [results, Tryd.results16, go_sem, hx0, hx1]) rfl (q_ret HSq.out HSq.out.vl HV.out)
          · have HV := Lib.hid (show qv x y mo = z + 1 by unfold qv; rw [if_neg HNR.out, if_neg H2.out, if_neg (by rw [HZR.out.2]; have := hc.out; omega), if_pos (by rw [HZR.out.2]; exact hc.out), HZR.out.1])
            clear hr hc
            go_wp2_with fail
            exact bodyPost_ret (v := .agg #[.slice A6 n6 c6, .bool m6]) (by simp [results, Tryd.results16, go_sem, hx0, hx1]) rfl (q_ret HSq.out HHv.out HV.out)
          · have HV := Lib.hid (show qv x y mo = (if (mo = 4 ∧ z % 2 = 0) ∨ (mo = 3 ∧ x < 0) then z else z + 1) by unfold qv; rw [if_neg HNR.out, if_neg H2.out, if_neg (by rw [HZR.out.2]; have := hc.out; omega), if_neg (by rw [HZR.out.2]; have := hc.out; omega), HZR.out.1])
            clear hr hc
            have hx := num_sign HSq.out.v1.num
            have hz := num_even HSq.out.vl.num
            have k4 := HSq.out.v1.a0
            have k5 := HSq.out.v1.a1
            have hmo : mo = 3 ∨ mo = 4 := by have := H1.out; have := H2.out; omega
            clear hm1 hm2
            rcases hmo with rfl | rfl
            · -- half away
              rcases hx with ⟨rfl, hx⟩ | ⟨rfl, hx⟩
              · have HX2 := Lib.hid ((HV.out).trans (if_pos (.inr ⟨rfl, hx⟩)))
                clear hx HV
                rcases hz with ⟨rfl, hz⟩ | ⟨hz, b, off, d, rfl, hd, d1, d2, _⟩
                · clear hz
                  go_wp2_with fail
                  exact bodyPost_ret (v := .agg #[.slice A3 0 c3, .bool m3]) (by simp [results, Tryd.results16, go_sem, hx0, hx1]) rfl (q_ret HSq.out HSq.out.vl HX2.out)
                · have hn0 : ((n3 : Int) == 0) = false := by rw [beq_eq_false_iff_ne]; omega
                  have hlt : (0 : Int) < n3 := by omega
                  go_wp2_with fail
                  exact bodyPost_ret (v := .agg #[.slice (some ⟨b, off, none⟩) n3 c3, .bool m3]) (by simp [results, Tryd.results16, go_sem, hx0, hx1]) rfl (q_ret HSq.out HSq.out.vl HX2.out)
              · have HX2 := Lib.hid ((HV.out).trans (if_neg (by rintro (⟨h, _⟩ | ⟨_, h⟩) <;> omega)))
                clear hx HV
                rcases hz with ⟨rfl, hz⟩ | ⟨hz, b, off, d, rfl, hd, d1, d2, _⟩
                · clear hz
                  go_wp2_with fail
                  exact bodyPost_ret (v := .agg #[.slice A6 n6 c6, .bool m6]) (by simp [results, Tryd.results16, go_sem, hx0, hx1]) rfl (q_ret HSq.out HHv.out HX2.out)
                · have hn0 : ((n3 : Int) == 0) = false := by rw [beq_eq_false_iff_ne]; omega
                  have hlt : (0 : Int) < n3 := by omega
                  go_wp2_with fail
                  exact bodyPost_ret (v := .agg #[.slice A6 n6 c6, .bool m6]) (by simp [results, Tryd.results16, go_sem, hx0, hx1]) rfl (q_ret HSq.out HHv.out HX2.out)
            · -- half even
              clear hx
              rcases hz with ⟨rfl, hz⟩ | ⟨hz, b, off, d, rfl, hd, d1, d2, hdd⟩
              · have HX2 := Lib.hid ((HV.out).trans (if_pos (.inl ⟨rfl, hz⟩)))
                clear hz HV
                go_wp2_with fail
                exact bodyPost_ret (v := .agg #[.slice A3 0 c3, .bool m3]) (by simp [results, Tryd.results16, go_sem, hx0, hx1]) rfl (q_ret HSq.out HSq.out.vl HX2.out)
              · have hn0 : ((n3 : Int) == 0) = false := by rw [beq_eq_false_iff_ne]; omega
                have hlt : (0 : Int) < n3 := by omega
                by_cases he : d % 2 = 0
                · have HX2 := Lib.hid ((HV.out).trans (if_pos (.inl ⟨rfl, hdd.2 he⟩)))
                  have hq : (d % 2 == 0) = true := by rw [he]; rfl
                  clear hdd HV
                  go_wp2_with fail
                  exact bodyPost_ret (v := .agg #[.slice (some ⟨b, off, none⟩) n3 c3, .bool m3]) (by simp [results, Tryd.results16, go_sem, hx0, hx1]) rfl (q_ret HSq.out HSq.out.vl HX2.out)
                · have HX2 := Lib.hid ((HV.out).trans (if_neg (by rintro (⟨_, h⟩ | ⟨h, _⟩); exact he (hdd.1 h); omega)))
                  have hq : (d % 2 == 0) = false := by rw [beq_eq_false_iff_ne]; exact he
                  clear hdd HV
                  go_wp2_with fail
                  exact bodyPost_ret (v := .agg #[.slice A6 n6 c6, .bool m6]) (by simp [results, Tryd.results16, go_sem, hx0, hx1]) rfl (q_ret HSq.out HHv.out HX2.out)
