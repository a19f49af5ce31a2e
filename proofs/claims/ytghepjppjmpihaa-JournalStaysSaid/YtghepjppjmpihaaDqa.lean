/- The program's disk: its two rows and the map of the blocks that were written; Size, Dirty, has. -/
import Derived.Test.YtghepjppjmpihaaDr
import Derived.Test.YtghepjppjmpihaaBy
import Derived.Maps.OwnSet
import Derived.Maps.RangeWalk
namespace Go.Proofs.Ytghepjppjmpihaa
open Go.ChangeShapes Go.WideShapes Go.ChangeAt Go.RowKit Go.Lib

abbrev vErr (k : Int) : Value := .iface 58 (.int .i64 k)
/-- what is told: bytes in memory that was made behind w0, and may be written -/
structure Told (w0 w : World) (A : Option Addr) (n : Nat) (bs : List Int) : Prop where
  rd : RdK .u8 w w.heap.size A n bs
  new : ∀ g off, A = some ⟨g, off, none⟩ → w0.heap.size ≤ g
  free : ∀ g off, A = some ⟨g, off, none⟩ → ∀ j, j < n → w.frozen? ⟨g, off + j, none⟩ = false

theorem keyI : Maps.Keyed Try.prog 3 := Maps.int_keyed Try.underlying3
theorem own_tight {P : Program} {k : TypeId} {R : Value → Option (DataW Unit × List MemPlace)} {w : World} {b n : Nat} {D : DataW Unit} (h : w.ownsMap P k R b n D) : w.ownsMap P k R b (Maps.size D) D := by
  obtain ⟨es, clock, hb, F, hs, rfl⟩ := h
  exact ⟨es, clock, hb, F, by simp [Maps.size, length_sorted], rfl⟩
theorem own_but {P : Program} {k : TypeId} {R : Value → Option (DataW Unit × List MemPlace)} {w w' : World} {b n : Nat} {D : DataW Unit} {S : Nat → Prop} (h : w.ownsMap P k R b n D) (hb : But S w w') (hs : ¬ S b) : w'.ownsMap P k R b n D := by
  have hlt := h.lt
  obtain ⟨es, clock, h1, r⟩ := h
  exact ⟨es, clock, (hb.block b hlt hs).trans h1, r⟩
theorem But.grown {S : Nat → Prop} {w w' : World} {row : Option Nat} (h : w.grownBy w' row) (hS : ∀ j, row = some j → S j) : But S w w' := ⟨h.os, h.tape, h.output, h.size, fun k hk hs => h.block k hk (fun e => hs (hS k e.symm))⟩

theorem many_set {dr : List Int} {j : Nat} (hj : j < dr.length) (h : dr.getD j 0 ≠ 1) : ∀ m, Dk.many (dr.set j 1) m = if j < m then Dk.many dr m + 1 else Dk.many dr m := by
  intro m
  induction m with
  | zero => rfl
  | succ m ih =>
    have e1 : Dk.many (dr.set j 1) (m + 1) = Dk.many (dr.set j 1) m + (if (dr.set j 1).getD m 0 = 1 then 1 else 0) := rfl
    have e2 : Dk.many dr (m + 1) = Dk.many dr m + (if dr.getD m 0 = 1 then 1 else 0) := rfl
    rw [e1, e2, ih, Dk.getD_set _ _ _ _ hj]
    by_cases e : m = j
    · subst e; rw [if_pos (rfl : m = m), if_pos (rfl : (1 : Int) = 1), if_neg h, if_neg (Nat.lt_irrefl m), if_pos (Nat.lt_succ_self m)]
    · rw [if_neg e]
      by_cases h2 : j < m
      · rw [if_pos h2, if_pos (show j < m + 1 by omega)]; omega
      · rw [if_neg h2, if_neg (show ¬ j < m + 1 by omega)]
theorem set_same {dr : List Int} {j : Nat} (hj : j < dr.length) (h : dr.getD j 0 = 1) : dr.set j 1 = dr := Dk.ext (by simp) fun p hp => by
  rw [Dk.getD_set _ _ _ _ hj]
  by_cases e : p = j
  · subst e; rw [if_pos rfl, h]
  · rw [if_neg e]

/-- a disk in memory: rows tb (there) and sb (stands), map mb (written), which reads as D -/
structure Dm (w : World) (b tb sb mb n m : Nat) (st now dr : List Int) (D : DataW Unit) : Prop where
  lt : b < w.heap.size
  c0 : w.cell? ⟨b, 0, none⟩ = some (.slice (some ⟨tb, 0, none⟩) n n)
  c1 : w.cell? ⟨b, 1, none⟩ = some (.slice (some ⟨sb, 0, none⟩) n n)
  c2 : w.cell? ⟨b, 2, none⟩ = some (.map (some mb))
  rn : Arr (.int .u8) w tb now
  rs : Arr (.int .u8) w sb st
  own : w.ownsMap Try.prog 3 unitElem mb (Maps.size D) D
  ls : st.length = n
  ln : now.length = n
  ld : dr.length = m
  e : n = 64 * m
  le : m ≤ 1024
  hk : ∀ k, Maps.has D k = true ↔ ∃ i : Nat, i < m ∧ k = .int .i64 i ∧ dr.getD i 0 = 1
  sz : Maps.size D = Dk.many dr m
  ne : b ≠ tb ∧ b ≠ sb ∧ b ≠ mb ∧ tb ≠ sb ∧ tb ≠ mb ∧ sb ≠ mb
namespace Dm
variable {w w' : World} {b tb sb mb n m : Nat} {st now dr : List Int} {D : DataW Unit}
theorem but {S : Nat → Prop} (h : Dm w b tb sb mb n m st now dr D) (hb : But S w w') (h0 : ¬ S b) (h1 : ¬ S tb) (h2 : ¬ S sb) (h3 : ¬ S mb) : Dm w' b tb sb mb n m st now dr D :=
  ⟨Nat.lt_of_lt_of_le h.lt hb.size, (hb.cell (p := ⟨b, 0, none⟩) h.lt h0).trans h.c0, (hb.cell (p := ⟨b, 1, none⟩) h.lt h0).trans h.c1, (hb.cell (p := ⟨b, 2, none⟩) h.lt h0).trans h.c2,
    h.rn.but hb h1, h.rs.but hb h2, own_but h.own hb h3, h.ls, h.ln, h.ld, h.e, h.le, h.hk, h.sz, h.ne⟩
theorem drew (h : Dm w b tb sb mb n m st now dr D) : Dm w.drew b tb sb mb n m st now dr D := h.but (But.refl (fun _ => False) w).drew id id id id
/-- the row of what is there turns -/
theorem there {now' : List Int} (h : Dm w b tb sb mb n m st now dr D) (hb : But (fun k => k = tb) w w') (hr : Arr (.int .u8) w' tb now') (hl : now'.length = n) : Dm w' b tb sb mb n m st now' dr D := by
  obtain ⟨e1, e2, e3, e4, e5, e6⟩ := h.ne
  exact ⟨Nat.lt_of_lt_of_le h.lt hb.size, (hb.cell (p := ⟨b, 0, none⟩) h.lt e1).trans h.c0, (hb.cell (p := ⟨b, 1, none⟩) h.lt e1).trans h.c1, (hb.cell (p := ⟨b, 2, none⟩) h.lt e1).trans h.c2,
    hr, h.rs.but hb (fun e => e4 e.symm), own_but h.own hb (fun e => e5 e.symm), h.ls, hl, h.ld, h.e, h.le, h.hk, h.sz, h.ne⟩
/-- the row of what stands turns -/
theorem stands {st' : List Int} (h : Dm w b tb sb mb n m st now dr D) (hb : But (fun k => k = sb) w w') (hr : Arr (.int .u8) w' sb st') (hl : st'.length = n) : Dm w' b tb sb mb n m st' now dr D := by
  obtain ⟨e1, e2, e3, e4, e5, e6⟩ := h.ne
  exact ⟨Nat.lt_of_lt_of_le h.lt hb.size, (hb.cell (p := ⟨b, 0, none⟩) h.lt e2).trans h.c0, (hb.cell (p := ⟨b, 1, none⟩) h.lt e2).trans h.c1, (hb.cell (p := ⟨b, 2, none⟩) h.lt e2).trans h.c2,
    h.rn.but hb e4, hr, own_but h.own hb (fun e => e6 e.symm), hl, h.ln, h.ld, h.e, h.le, h.hk, h.sz, h.ne⟩
/-- the map turns -/
theorem marks {dr' : List Int} {D' : DataW Unit} {k : Nat} (h : Dm w b tb sb mb n m st now dr D) (hb : But (fun k => k = mb) w w') (ho : w'.ownsMap Try.prog 3 unitElem mb k D') (hl : dr'.length = m)
    (hk : ∀ k, Maps.has D' k = true ↔ ∃ i : Nat, i < m ∧ k = .int .i64 i ∧ dr'.getD i 0 = 1) (hs : Maps.size D' = Dk.many dr' m) : Dm w' b tb sb mb n m st now dr' D' := by
  obtain ⟨e1, e2, e3, e4, e5, e6⟩ := h.ne
  exact ⟨Nat.lt_of_lt_of_le h.lt hb.size, (hb.cell (p := ⟨b, 0, none⟩) h.lt e3).trans h.c0, (hb.cell (p := ⟨b, 1, none⟩) h.lt e3).trans h.c1, (hb.cell (p := ⟨b, 2, none⟩) h.lt e3).trans h.c2,
    h.rn.but hb e5, h.rs.but hb e6, own_tight ho, h.ls, h.ln, hl, h.e, h.le, hk, hs, h.ne⟩
/-- a block is written -/
theorem mark {j k : Nat} (h : Dm w b tb sb mb n m st now dr D) (hj : j < m) (hg : w.grownBy w' (some mb)) (ho : w'.ownsMap Try.prog 3 unitElem mb k (D.put (.int .i64 j) (.agg []))) :
    Dm w' b tb sb mb n m st now (dr.set j 1) (D.put (.int .i64 j) (.agg [])) := by
  have hj' : j < dr.length := by rw [h.ld]; exact hj
  refine h.marks (But.grown hg fun j e => by injection e with e; exact e.symm) ho (by rw [List.length_set]; exact h.ld) (fun k => ?_) ?_
  · by_cases e : k = .int .i64 j
    · subst e
      rw [Maps.has_put_same (k := .int .i64 j) h.own.isMap (show True from trivial)]
      exact ⟨fun _ => ⟨j, hj, rfl, by rw [Dk.getD_set _ _ _ _ hj', if_pos rfl]⟩, fun _ => rfl⟩
    · rw [Maps.has_put_other e, h.hk]
      constructor
      · rintro ⟨i, h1, rfl, h2⟩
        exact ⟨i, h1, rfl, by rw [Dk.getD_set _ _ _ _ hj', if_neg (fun e' => e (by rw [e']))]; exact h2⟩
      · rintro ⟨i, h1, rfl, h2⟩
        rw [Dk.getD_set _ _ _ _ hj', if_neg (fun e' => e (by rw [e']))] at h2
        exact ⟨i, h1, rfl, h2⟩
  · rw [Maps.size_put (h.own.tidy keyI), h.sz]
    by_cases hd : dr.getD j 0 = 1
    · rw [if_pos ((h.hk _).2 ⟨j, hj, rfl, hd⟩), set_same hj' hd]
    · rw [if_neg (fun hh => by
        obtain ⟨i, _, e, h2⟩ := (h.hk _).1 hh
        injection e with _ e
        rw [show j = i from by omega] at hd
        exact hd h2), many_set hj' hd, if_pos hj]
end Dm
/-- a disk of m blocks, its pointer at b: what stands, what is there, what was written; S: the memory that it has -/
def Dq (S : Nat → Prop) (w : World) (b m : Nat) (st now dr : List Int) : Prop :=
  ∃ tb sb mb n D, (S = fun k => k = b ∨ k = tb ∨ k = sb ∨ k = mb) ∧ Dm w b tb sb mb n m st now dr D ∧ ∀ p, dr.getD (p / 64) 0 ≠ 1 → now.getD p 0 = st.getD p 0
theorem Dq.but {S T : Nat → Prop} {w w' : World} {b m : Nat} {st now dr : List Int} (h : Dq S w b m st now dr) (hb : But T w w') (hs : ∀ k, S k → ¬ T k) : Dq S w' b m st now dr := by
  obtain ⟨tb, sb, mb, n, D, rfl, h1, h2⟩ := h
  exact ⟨tb, sb, mb, n, D, rfl, h1.but hb (hs _ (.inl rfl)) (hs _ (.inr (.inl rfl))) (hs _ (.inr (.inr (.inl rfl)))) (hs _ (.inr (.inr (.inr rfl)))), h2⟩
theorem Dq.lt {S : Nat → Prop} {w : World} {b m : Nat} {st now dr : List Int} (h : Dq S w b m st now dr) : ∀ k, S k → k < w.heap.size := by
  obtain ⟨tb, sb, mb, n, D, rfl, h1, h2⟩ := h
  rintro k (rfl | rfl | rfl | rfl)
  · exact h1.lt
  · exact h1.rn.1
  · exact h1.rs.1
  · exact h1.own.lt
theorem Dq.sizes {S : Nat → Prop} {w : World} {b m : Nat} {st now dr : List Int} (h : Dq S w b m st now dr) : st.length = 64 * m ∧ now.length = 64 * m ∧ dr.length = m ∧ m ≤ 1024 := by
  obtain ⟨tb, sb, mb, n, D, rfl, h1, h2⟩ := h
  exact ⟨h1.ls.trans h1.e, h1.ln.trans h1.e, h1.ld, h1.le⟩
/-- where nothing was written what is there stands -/
theorem Dq.inv {S : Nat → Prop} {w : World} {b m : Nat} {st now dr : List Int} (h : Dq S w b m st now dr) : ∀ p, dr.getD (p / 64) 0 ≠ 1 → now.getD p 0 = st.getD p 0 := by
  obtain ⟨tb, sb, mb, n, D, rfl, h1, h2⟩ := h
  exact h2
/-- what a deed leaves: the disk, and nothing else that was there has turned -/
def Left (S : Nat → Prop) (w w' : World) (b m : Nat) (st now dr : List Int) : Prop := ∃ S', Dq S' w' b m st now dr ∧ But S w w' ∧ ∀ k, S' k → S k ∨ w.heap.size ≤ k
abbrev zs (n : Nat) : List Int := List.replicate n 0
theorem psize {b tb sb mb n m : Nat} {st now dr : List Int} {D : DataW Unit} (w : World) (h : Dm w b tb sb mb n m st now dr D) : Calls Try.prog 37 #[.pointer (some ⟨b, 0, none⟩)] w fun e w' => e = .returned (.int .i64 (n : Nat)) ∧ w = w' := by
  have c0 := h.c0
  clear h
  go_enter Try.func37, Try.ntmps37
  go_wp2_with fail
  go_ret
  exact ⟨rfl, rfl⟩
theorem csize {S : Nat → Prop} {b m : Nat} {st now dr : List Int} (w : World) (h : Dq S w b m st now dr) : Calls Try.prog 37 #[.pointer (some ⟨b, 0, none⟩)] w fun e w' => e = .returned (.int .i64 (64 * m : Nat)) ∧ Below w.heap.size w w' := by
  obtain ⟨tb, sb, mb, n, D, rfl, h1, h2⟩ := h
  rw [← h1.e]
  exact (psize w h1).mono fun e w' ⟨he, hw⟩ => ⟨he, by rw [← hw]; exact Below.refl _ _⟩
theorem phas {b tb sb mb n m : Nat} {st now dr : List Int} {D : DataW Unit} (w : World) (h : Dm w b tb sb mb n m st now dr D) (p q : Int) (hp : -9223372036854775808 ≤ p ∧ p ≤ 9223372036854775807) (hq : -9223372036854775808 ≤ q ∧ q ≤ 9223372036854775807) :
    Calls Try.prog 25 #[.pointer (some ⟨b, 0, none⟩), .int .i64 p, .int .i64 q] w fun e w' => e = .returned (.bool (decide (0 ≤ p ∧ 0 ≤ q ∧ p + q ≤ n))) ∧ w' = w := by
  have hn : n ≤ 65536 := by have := h.e; have := h.le; omega
  have cs := psize w h
  clear h
  by_cases h0 : 0 ≤ p
  · by_cases h1 : 0 ≤ q
    · have hw : IntKind.i64.wrap ((n : Int) - p) = (n : Int) - p := by rw [IntKind.wrap_i64]; omega
      by_cases h3 : q ≤ n - p
      · have he : decide (0 ≤ p ∧ 0 ≤ q ∧ p + q ≤ n) = true := by simp; omega
        rw [he]; clear he
        go_enter Try.func25, Try.ntmps25
        go_wp2_with (go_at_call 37; refine cs.mono ?_; rintro e w' ⟨rfl, rfl⟩)
        go_ret
        exact ⟨rfl, rfl⟩
      · have he : decide (0 ≤ p ∧ 0 ≤ q ∧ p + q ≤ n) = false := by simp; omega
        have h3b : decide (q ≤ (n : Int) - p) = false := by simp; omega
        rw [he]; clear he
        go_enter Try.func25, Try.ntmps25
        go_wp2_with (go_at_call 37; refine cs.mono ?_; rintro e w' ⟨rfl, rfl⟩)
        go_ret
        exact ⟨rfl, rfl⟩
    · have he : decide (0 ≤ p ∧ 0 ≤ q ∧ p + q ≤ n) = false := by simp; omega
      have h1b : decide (0 ≤ q) = false := by simp; omega
      rw [he]; clear he
      go_enter Try.func25, Try.ntmps25
      go_wp2_with fail
      go_ret
      exact ⟨rfl, rfl⟩
  · have he : decide (0 ≤ p ∧ 0 ≤ q ∧ p + q ≤ n) = false := by simp; omega
    have h0b : decide (0 ≤ p) = false := by simp; omega
    rw [he]; clear he
    go_enter Try.func25, Try.ntmps25
    go_wp2_with fail
    go_ret
    exact ⟨rfl, rfl⟩
end Go.Proofs.Ytghepjppjmpihaa
