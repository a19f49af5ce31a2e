/- A disk that other memory is made beside; what several laws want. -/
import Derived.Test.YtghepjppjmpihaaDq
import Derived.KernelRfl
namespace Go.Proofs.Ytghepjppjmpihaa
open Go.ChangeShapes Go.WideShapes Go.ChangeAt Go.RowKit Go.Lib

theorem in64 {a : Int} (h : (Lit.int .i64 a).wf = true) : -9223372036854775808 ≤ a ∧ a ≤ 9223372036854775807 := by
  simp [Lit.wf, IntKind.min, IntKind.max, IntKind.signed, IntKind.bits] at h
  omega
theorem u8_of {a : Int} (h : (Lit.int .u8 a).wf = true) : 0 ≤ a ∧ a < 256 := by
  simp [Lit.wf, IntKind.min, IntKind.max, IntKind.signed, IntKind.bits] at h
  omega
theorem len64 {c : Nat} (h : c ≤ maxLen) : c ≤ 9223372036854775807 := by unfold maxLen at h; omega
section
variable {S : Nat → Prop} {w w' : World} {b m : Nat} {st now dr : List Int}
theorem Dq.below (h : Dq S w b m st now dr) (hb : Below w.heap.size w w') : Dq S w' b m st now dr := h.but (But.of hb (fun _ => False)) (fun _ _ h => h)
theorem Dq.alloc (h : Dq S w b m st now dr) (o : Obj) : Dq S (w.alloc o) b m st now dr := h.below ((Below.refl _ _).alloc (Nat.le_refl _) o)
theorem Dq.drew (h : Dq S w b m st now dr) : Dq S w.drew b m st now dr := h.below (Below.refl _ _).drew
/-- memory that was there before the disk has not turned -/
theorem But.below {B0 : Nat} (h : But S w w') (hs : ∀ k, S k → B0 ≤ k) (hB : B0 ≤ w.heap.size) : Below B0 w w' :=
  ⟨h.os, h.tape, h.output, h.size, fun k hk => h.block k (Nat.lt_of_lt_of_le hk hB) (fun hk' => absurd (hs k hk') (by omega))⟩
theorem Dq.new_not (h : Dq S w b m st now dr) : ¬ S w.heap.size := fun hk => absurd (h.lt _ hk) (by omega)
/-- what a deed left, where all of the disk's memory is new -/
theorem Left.use {B0 : Nat} (h : Left S w w' b m st now dr) (hs : ∀ k, S k → B0 ≤ k) (hB : B0 ≤ w.heap.size) :
    ∃ S', Dq S' w' b m st now dr ∧ But S w w' ∧ Below B0 w w' ∧ (∀ k, S' k → B0 ≤ k) ∧ ∀ k, k < w.heap.size → ¬ S k → ¬ S' k := by
  obtain ⟨S', hD, hb, hS⟩ := h
  exact ⟨S', hD, hb, hb.below hs hB, fun k hk => (hS k hk).elim (hs k) (Nat.le_trans hB), fun k hk hn hk' => (hS k hk').elim hn (fun h => absurd h (by omega))⟩
end
/-- the numbers of a literal, read in the world in which it was made -/
theorem lit_rd {k : IntKind} (w : World) (t : TypeId) (l : List Int) : RdK k (w.alloc (.cells (l.map (Value.int k)).toArray t)) (w.alloc (.cells (l.map (Value.int k)).toArray t)).heap.size (some ⟨w.heap.size, 0, none⟩) l.length l :=
  ⟨rfl, fun j hj => ⟨w.heap.size, 0, rfl, by simp, by
    rw [Nat.zero_add, cell_of_row _ _ _ _ _ _ (heap_alloc_new _ _)]
    simp [List.getElem?_map, List.getD_eq_getElem?_getD, List.getElem?_eq_getElem hj]⟩⟩
theorem not_at {S : Nat → Prop} {x : Nat} (h : ¬ S x) {L : Nat} : 0 < L → ∀ g off, some (⟨x, 0, none⟩ : Addr) = some ⟨g, off, none⟩ → ¬ S g := fun _ g off e => by
  injection e with e; injection e with e; subst e; exact h
theorem wr_read (bs now : List Int) (p L : Nat) (hl : bs.length = L) (hp : p + L ≤ now.length) : ((Dk.wr bs now p L).drop p).take L = bs := by
  refine Dk.ext (by rw [List.length_take, List.length_drop, Dk.wr_len]; omega) fun i hi => ?_
  rw [List.length_take, List.length_drop, Dk.wr_len] at hi
  rw [List.getD_eq_getElem?_getD, List.getElem?_take_of_lt (by omega), List.getElem?_drop, ← List.getD_eq_getElem?_getD, Dk.wr_get _ _ _ _ _ hp, if_pos (by omega)]
  congr 1; omega
theorem RdK.apart {k : IntKind} {w : World} {B : Nat} {A : Option Addr} {n : Nat} {zs : List Int} {S : Nat → Prop} (h : RdK k w B A n zs) (hS : ∀ k, S k → B ≤ k) : 0 < n → ∀ g off, A = some ⟨g, off, none⟩ → ¬ S g := fun hn g off e hs => by
  obtain ⟨g', off', e', hg, _⟩ := h.2 0 hn
  rw [e] at e'; injection e' with e'; injection e' with e1
  have := hS g hs
  omega
/-- Write, whatever the place -/
theorem cwrite_any {S : Nat → Prop} {b m : Nat} {st now dr bs : List Int} {A : Option Addr} {L c : Nat} {p : Int} (w : World) (h : Dq S w b m st now dr) (hr : RdK .u8 w w.heap.size A L bs) (hs : 0 < L → ∀ g off, A = some ⟨g, off, none⟩ → ¬ S g) (hp' : -9223372036854775808 ≤ p ∧ p ≤ 9223372036854775807) (hc : L ≤ c ∧ c ≤ maxLen) :
    Calls Try.prog 10 #[.pointer (some ⟨b, 0, none⟩), .int .i64 p, .slice A L c] w fun e w' => ∃ v now' dr', e = .returned v ∧ Left S w w' b m st now' dr' ∧
      ((0 ≤ p ∧ p.toNat + L ≤ 64 * m ∧ v = .nilIface ∧ now' = Dk.wr bs now p.toNat L ∧ dr' = Dk.dirt dr p.toNat L) ∨ (¬ (0 ≤ p ∧ p + L ≤ 64 * (m : Int)) ∧ v = vErr 1 ∧ now' = now ∧ dr' = dr)) := by
  by_cases k : 0 ≤ p ∧ p + L ≤ 64 * (m : Int)
  · obtain ⟨q, rfl⟩ : ∃ q : Nat, p = q := ⟨p.toNat, by omega⟩
    exact (cwrite_yes w h hr hs (by omega) hc).mono fun e w' ⟨a, b⟩ => ⟨_, _, _, a, b, .inl ⟨by omega, by simp; omega, rfl, by simp, by simp⟩⟩
  · exact (cwrite_no w h hr k hp' hc).mono fun e w' ⟨a, b⟩ => ⟨_, _, _, a, ⟨S, h.below b, But.of b S, fun _ h => .inl h⟩, .inr ⟨k, rfl, rfl, rfl⟩⟩
end Go.Proofs.Ytghepjppjmpihaa
