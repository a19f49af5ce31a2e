/- split.mostFirst: the places of the rests, sorted. -/
import Derived.Test.YtinimjejdkcodaaSt
import Derived.Test.YtinimjejdkcodaaAw
import Derived.Test.YtinimjejdkcodaaSv
namespace Go.Proofs.Ytinimjejdkcodaa
open Go.RowKit Go.Shelf Go.Lib Go.Sort Ss

theorem Pl.below {w0 W : World} {blk off n : Nat} {dk : Array Nat} (h : Pl w0 blk off n dk W) (B : Nat) (hB : B ≤ blk) (hB0 : B ≤ w0.heap.size) : Below B w0 W := by
  obtain ⟨_, ⟨m, os, rfl⟩, _⟩ := h
  refine ⟨rfl, rfl, rfl, ?_, fun i hi => ?_⟩
  · unfold sortWorld; rw [size_grow, Go.Sort.size_putRow]; exact Nat.le_add_right _ _
  · unfold sortWorld grow putRow mapBlock
    show ((w0.heap.modify blk _) ++ os)[i]? = _
    rw [Array.getElem?_append_left (by simp; omega), Array.getElem?_modify, if_neg (by omega)]
theorem Pl.keep {w0 W : World} {blk off n : Nat} {dk : Array Nat} (h : Pl w0 blk off n dk W) (p : Addr) (hp : p.block ≠ blk) (hs : p.block < w0.heap.size) : W.cell? p = w0.cell? p := by
  obtain ⟨_, ⟨m, os, rfl⟩, _⟩ := h
  unfold sortWorld
  rw [cell?_grow _ _ _ (by rw [Go.Sort.size_putRow]; exact hs), cell?_putRow_other _ _ _ _ _ _ (Or.inl hp)]
  rfl

theorem infoInt : ∃ i, Try.prog.info? 3 = some i ∧ i.zero = some (.int .i64 0) ∧ i.size = 1 ∧ i.bytes = 8 := ⟨_, rfl, rfl, rfl, rfl⟩
set_option maxHeartbeats 4000000 in
set_option maxRecDepth 1000000 in
theorem mostFirst_any (rb n : Nat) (k : Nat → Nat) (w : World) (hr : ∀ i, i < n → w.cell? ⟨rb, i, none⟩ = some (.int .u64 (k i))) (hrb : rb < w.heap.size) (hn : n ≤ 1000000) :
    Calls Try.prog 24 #[.slice (some ⟨rb, 0, none⟩) n n] w fun e w' =>
      ∃ (blk : Nat) (d : Array Nat), e = .returned (.slice (some ⟨blk, 0, none⟩) n n) ∧ Sorted k n d ∧ Below w.heap.size w w' ∧ w.heap.size ≤ blk ∧ blk < w'.heap.size ∧ ∀ i, i < n → w'.cell? ⟨blk, i, none⟩ = some (.int .i64 (d[i]! : Nat)) := by
  obtain ⟨i0, hi, hz0, hz1, hz2⟩ := infoInt
  have HR := Lib.hid hr
  clear hr
  go_enter Try.func24, Try.ntmps24
  go_wp2_with (at_make; refine wpList_make_eq _ rfl _ _ 48 rfl 3 i0 (.int .i64 0) Try.underlying48 hi hz0 hz1 n rfl rfl (by rw [hz2]; omega) (by unfold maxLen; omega) ?_)
  obtain ⟨W1, hW1⟩ : ∃ W1, (w.alloc (.cells #[.slice (some ⟨rb, 0, none⟩) n n] 34)).alloc (.cells (madeCells #[.int .i64 0] n) 3) = W1 := ⟨_, rfl⟩
  obtain ⟨bx, hbx⟩ : ∃ bx, bx = w.heap.size := ⟨_, rfl⟩
  obtain ⟨bp, hbp⟩ : ∃ bp, bp = w.heap.size + 1 := ⟨_, rfl⟩
  have H1 := Lib.hid (show Below w.heap.size w W1 ∧ Arr (.int .i64) W1 bp (List.replicate n 0) ∧ W1.cell? ⟨bx, 0, none⟩ = some (.slice (some ⟨rb, 0, none⟩) n n) ∧ bx = w.heap.size ∧ bp = w.heap.size + 1 from by
    have ha := Arr.made (.int .i64) (w.alloc (.cells #[.slice (some ⟨rb, 0, none⟩) n n] 34)) 3 n rfl
    have h2 : (w.alloc (.cells #[.slice (some ⟨rb, 0, none⟩) n n] 34)).heap.size = w.heap.size + 1 := by simp
    rw [h2] at ha
    refine ⟨by rw [← hW1]; exact ((Below.refl _ _).alloc (Nat.le_refl _) _).alloc (by simp) _, by rw [← hW1, hbp]; exact ha, ?_, hbx, hbp⟩
    rw [← hW1, hbx]; simp)
  rw [hW1, ← hbp, ← hbx]
  clear hW1 hbx hbp
  go_loopw [10] (fun v wr => ∃ (i : Nat) (l : List Int), v = .int .i64 i ∧ i ≤ n ∧ Hid (Below (bx + 1) W1 wr ∧ Arr (.int .i64) wr bp l ∧ l.length = n ∧ ∀ j, j < i → l.getD j 0 = j)) (fun v wr => n - (RowKit.intOf v).toNat)
  case atStart => exact ⟨0, List.replicate n 0, rfl, Nat.zero_le _, Below.refl _ _, H1.out.2.1, by simp, fun j hj => absurd hj (Nat.not_lt_zero _)⟩
  case round =>
    obtain ⟨i, l, rfl, hin, H⟩ := hrel
    by_cases hlt : i < n
    · have hltz : (i : Int) < (n : Int) := by omega
      have c1 := H.out.2.1.c i (by rw [H.out.2.2.1]; exact hlt)
      have z1 := H.out.2.1.z i (by rw [H.out.2.2.1]; exact hlt)
      have HN := Lib.hid (show Below (bx + 1) W1 (wr.setCell ⟨bp, i, none⟩ (.int .i64 i)) ∧ Arr (.int .i64) (wr.setCell ⟨bp, i, none⟩ (.int .i64 i)) bp (l.set i i) ∧ (l.set i (i : Int)).length = n ∧ ∀ j, j < i + 1 → (l.set i (i : Int)).getD j 0 = j from
        ⟨H.out.1.setCell (by have := H1.out.2.2.2; show bx + 1 ≤ bp; omega) _, H.out.2.1.set i (by rw [H.out.2.2.1]; exact hlt) i, by rw [List.length_set]; exact H.out.2.2.1, fun j hj => by
          by_cases e : j = i
          · subst e
            rw [List.getD_eq_getElem?_getD, List.getElem?_set_self (by rw [H.out.2.2.1]; exact hlt)]; rfl
          · rw [List.getD_eq_getElem?_getD, List.getElem?_set_ne (by omega), ← List.getD_eq_getElem?_getD]; exact H.out.2.2.2 j (by omega)⟩)
      clear H
      generalize l.getD i 0 = zc at c1
      go_wp2_with fail
      exact ⟨⟨i + 1, _, by go_num, by omega, HN⟩, by simp [RowKit.intOf]; omega⟩
    · obtain rfl : i = n := by omega
      have hltz : ¬ (i : Int) < (i : Int) := by omega
      have HS := Lib.hid (show Pl wr bp 0 i (Array.range i) wr from by
        have hd : ∀ j, j < i → l.getD j 0 = (j : Int) := H.out.2.2.2
        have hh : Holds en wr bp 0 (Array.range i) := fun j hj => by
          have hj' : j < i := by simpa using hj
          rw [Nat.zero_add, range_get i j hj']
          exact ⟨by rw [H.out.2.1.c j (by rw [H.out.2.2.1]; exact hj'), hd j hj']; rfl, H.out.2.1.z j (by rw [H.out.2.2.1]; exact hj')⟩
        exact ⟨⟨Array.range i, by simp, en_one, hh, H.out.2.1.1⟩, SW.start hh, by simp, fun p hp => by rw [range_get i p hp]; exact hp⟩)
      have HC := Lib.hid (show Cm k bx wr bp 0 i from fun dk W hS x y hx hy => by
        have q := H1.out
        have s1 : w.heap.size ≤ W1.heap.size := q.1.size
        have s2 : W1.heap.size ≤ wr.heap.size := H.out.1.size
        have s3 := q.2.1.1
        refine closure_any (bx := bx) (rb := rb) (ro := 0) (c := i) ⟨?_, fun j hj => ?_⟩ x y hx hy
        · rw [hS.keep _ (by show bx ≠ bp; omega) (by show bx < _; omega), H.out.1.cell (by show bx < bx + 1; omega)]; exact q.2.2.1
        · rw [Nat.zero_add, hS.keep _ (by show rb ≠ bp; omega) (by show rb < _; omega), H.out.1.cell (by show rb < bx + 1; omega), q.1.cell (by exact hrb)]; exact HR.out j hj)
      have HB := Lib.hid H.out.1
      clear H
      go_wp2_with fail
      refine (sortStable_any i (Array.range i) _ HC.out HS.out (fun p hp => range_get i p hp) hn).mono ?_
      rintro e w2 ⟨rfl, d, p1, p2, p3⟩
      have HF := Lib.hid (show Sorted k i d ∧ Below w.heap.size w w2 ∧ w.heap.size ≤ bp ∧ bp < w2.heap.size ∧ ∀ j, j < i → w2.cell? ⟨bp, j, none⟩ = some (.int .i64 (d[j]! : Nat)) from by
        have q := H1.out
        have s1 : w.heap.size ≤ W1.heap.size := q.1.size
        have s2 : W1.heap.size ≤ wr.heap.size := HB.out.size
        have b2 : Below w.heap.size wr w2 := p3.below w.heap.size (by omega) (by omega)
        have b1 : Below w.heap.size W1 wr := HB.out.mono (by omega)
        refine ⟨⟨p3.2.2.1, p1, p2.2⟩, (q.1.trans b1).trans b2, by omega, ?_, fun j hj => ?_⟩
        · have := q.2.1.1; have := b2.size; omega
        · have := p3.c1 j hj; rwa [Nat.zero_add] at this)
      clear p1 p2 p3
      go_wp2_with fail
      go_ret
      exact ⟨bp, d, rfl, HF.out⟩
end Go.Proofs.Ytinimjejdkcodaa
