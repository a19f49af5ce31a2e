/- slices.Repeat of one number, and split.Even. -/
import Derived.Test.YtinimjejdkcodaaSu
import Derived.Laws.CopyOwn
import Derived.Deep.RegionLaw
namespace Go.Proofs.Ytinimjejdkcodaa
open Go.RowKit Go.Shelf Go.Lib Go.Sort

theorem mul_one_any (n : Nat) (hn : n ≤ 1000000) (w : World) : Calls Try.prog 38 #[.int .u64 1, .int .u64 n] w fun e w' => e = .returned (.tuple #[.int .u64 0, .int .u64 n]) ∧ w = w' := by
  have m := Try.bits_Mul 1 n (by decide) (by omega) w
  rw [Nat.one_mul, Nat.div_eq_of_lt (by omega), Nat.mod_eq_of_lt (by omega)] at m
  exact m.mono fun _ _ h => ⟨h.1, h.2.symm⟩
theorem made_list (n : Nat) : madeCells #[.int .i64 0] n = (List.replicate n (Value.int .i64 0)).toArray := by
  apply Array.ext (by simp [madeCells])
  intro i h1 h2
  simp [madeCells, Nat.mod_one]
theorem size2 : (Try.prog.info? 2).map (·.size) = some 1 := by kernel_rfl
/-- k ones, and noughts behind them -/
def oneRow (n k : Nat) : List Value := List.replicate k (.int .i64 1) ++ List.replicate (n - k) (.int .i64 0)
theorem oneRow_len {n k : Nat} (h : k ≤ n) : (oneRow n k).length = n := by simp [oneRow]; omega
theorem oneRow_splice {n k m : Nat} : splice (oneRow n k) k (List.replicate m (.int .i64 1)) = oneRow n (k + m) := by
  unfold splice oneRow
  rw [List.take_append_of_le_length (by simp), List.take_of_length_le (by simp), List.length_replicate, List.drop_append, List.drop_of_length_le (by simp), List.nil_append, List.length_replicate, List.drop_replicate, ← List.append_assoc, List.replicate_append_replicate]
  congr 2; omega
theorem oneRow_get {n k j : Nat} (h : j < k) : (oneRow n k)[j]? = some (.int .i64 1) := by
  unfold oneRow
  rw [List.getElem?_append_left (by simpa using h), List.getElem?_replicate, if_pos h]
theorem one_cells (m : Nat) : ∀ v ∈ List.replicate m (Value.int .i64 1), v.oneCell' = true := fun v hv => by rw [List.eq_of_mem_replicate hv]; rfl
theorem replicate_get {m j : Nat} {v : Value} (h : (List.replicate m (Value.int .i64 1))[j]? = some v) : j < m ∧ v = .int .i64 1 := by
  rw [List.getElem?_replicate] at h
  split at h
  · injection h with h; exact ⟨by assumption, h.symm⟩
  · cases h
/-- the row is there, k of it ones -/
def OneRow (w : World) (g n k : Nat) : Prop := w.heap[g]? = some (.cells (oneRow n k).toArray 2 (0, 0))
theorem OneRow.cell {w : World} {g n k : Nat} (h : OneRow w g n k) (j : Nat) (hj : j < k) : w.cell? ⟨g, j, none⟩ = some (.int .i64 1) := by
  rw [cell_of_row w g j _ _ _ h]
  simp [oneRow_get hj]

set_option maxHeartbeats 400000 in
set_option maxRecDepth 1000000 in
theorem repeat_any (xb n : Nat) (w : World) (hx : w.cell? ⟨xb, 0, none⟩ = some (.int .i64 1)) (h1 : 1 ≤ n) (h2 : n ≤ 1000) :
    Calls Try.prog 27 #[.slice (some ⟨xb, 0, none⟩) 1 1, .int .i64 n] w fun e w' =>
      ∃ g, e = .returned (.slice (some ⟨g, 0, none⟩) n n) ∧ RdK .i64 w' w'.heap.size (some ⟨g, 0, none⟩) n (List.replicate n 1) ∧ Below w.heap.size w w' := by
  obtain ⟨i2, hi2, hz20, hz21, hz22⟩ := infoI64
  have HX := Lib.hid hx
  have g1 : ¬ (n : Int) < 0 := by omega
  have g2 : decide ((n : Int) > 9223372036854775807) = false := decide_eq_false (by omega)
  have g3 : ¬ (9223372036854775807 : Int) < (n : Int) := by omega
  clear hx
  go_enter Try.func27, Try.ntmps27
  have A0 := Lib.hid (show OneRow (w.alloc (.cells (madeCells #[.int .i64 0] n) 2)) w.heap.size n 0 ∧ Below w.heap.size w (w.alloc (.cells (madeCells #[.int .i64 0] n) 2)) ∧ (w.alloc (.cells (madeCells #[.int .i64 0] n) 2)).cell? ⟨xb, 0, none⟩ = some (.int .i64 1) from by
    have hb : Below w.heap.size w (w.alloc (.cells (madeCells #[.int .i64 0] n) 2)) := (Below.refl _ _).alloc (Nat.le_refl _) _
    refine ⟨?_, hb, (hb.cell (cell_lt HX.out)).trans HX.out⟩
    show (w.heap.push _)[w.heap.size]? = _
    rw [Array.getElem?_push, if_pos rfl, made_list]
    simp [oneRow])
  have K1 := Lib.hid (show (List.replicate 1 (Value.int .i64 1)).length = Nat.min 1 n from by rw [List.length_replicate]; exact (Nat.min_eq_left h1).symm)
  have K2 := Lib.hid (show ∀ j v, (List.replicate 1 (Value.int .i64 1))[j]? = some v → (w.alloc (.cells (madeCells #[.int .i64 0] n) 2)).cell? ((⟨xb, 0, none⟩ : Addr).add j) = some v from fun j v hv => by
    obtain ⟨hj, rfl⟩ := replicate_get hv
    obtain rfl : j = 0 := by omega
    exact A0.out.2.2)
  have K3 := Lib.hid (show 0 + (List.replicate 1 (Value.int .i64 1)).length ≤ (oneRow n 0).length from by rw [oneRow_len (Nat.zero_le _)]; simp; exact h1)
  go_wp2_with (first | (go_at_call 38; refine (mul_one_any n (by omega) _).mono ?_; rintro e w' ⟨rfl, rfl⟩) | (at_make; refine wpList_make_eq _ rfl _ _ 22 rfl 2 i2 (.int .i64 0) Try.underlying22 hi2 hz20 hz21 n rfl rfl (by rw [hz22]; omega) (by unfold maxLen; omega) ?_) | (refine wpList_copy_splice rfl _ _ 22 22 rfl 2 Try.underlying22 size2 (some ⟨w.heap.size, 0, none⟩) (some ⟨xb, 0, none⟩) n n 1 1 rfl rfl w.heap.size 0 (oneRow n 0) 2 A0.out.1 (List.replicate 1 (.int .i64 1)) K1.out (fun _ => ⟨rfl, ⟨xb, 0, none⟩, rfl, K2.out⟩) K3.out (one_cells 1) w.heap.size w A0.out.2.1 (Nat.le_refl _) ?_; intro w2 hg2 hb2))
  have H2 := Lib.hid (show OneRow w2 w.heap.size n 1 ∧ Below w.heap.size w w2 from ⟨by have := hg2.out; rw [oneRow_splice] at this; exact this, hb2⟩)
  clear hg2 hb2 A0 g1 g2 g3
  obtain ⟨g, hg⟩ : ∃ g, g = w.heap.size := ⟨_, rfl⟩
  rw [← hg] at H2 ⊢
  have HG := Lib.hid hg
  clear hg
  go_wp2_with fail
  go_loopw [8] (fun v wr => ∃ k : Nat, v = .int .i64 k ∧ 1 ≤ k ∧ k ≤ n ∧ Hid (OneRow wr g n k ∧ Below w.heap.size w wr)) (fun v wr => n - (RowKit.intOf v).toNat)
  case atStart => exact ⟨1, by simp, Nat.le_refl _, h1, H2.out.1, by have := H2.out.2; rwa [HG.out] at this⟩
  case round =>
    obtain ⟨k, rfl, hk1, hkn, H⟩ := hrel
    by_cases hlt : k < n
    · have hltz : (k : Int) < (n : Int) := by omega
      have l1 : (k : Int) ≤ (n : Int) := by omega
      have l0 : (0 : Int) ≤ (k : Int) := by omega
      obtain ⟨m, hm⟩ : ∃ m, m = Nat.min k (n - k) := ⟨_, rfl⟩
      have HM := Lib.hid (show m = Nat.min k (n - k) ∧ 0 < m ∧ m ≤ k ∧ k + m ≤ n from ⟨hm, by rw [hm]; simp only [Nat.min_def]; split <;> omega, by rw [hm]; simp only [Nat.min_def]; split <;> omega, by rw [hm]; simp only [Nat.min_def]; split <;> omega⟩)
      clear hm
      have K1 := Lib.hid (show (List.replicate m (Value.int .i64 1)).length = Nat.min k (n - k) from by rw [List.length_replicate]; exact HM.out.1)
      have K2 := Lib.hid (show ∀ j v, (List.replicate m (Value.int .i64 1))[j]? = some v → wr.drew.cell? ((⟨g, 0, none⟩ : Addr).add j) = some v from fun j v hv => by
        obtain ⟨hj, rfl⟩ := replicate_get hv
        rw [show (⟨g, 0, none⟩ : Addr).add j = ⟨g, 0 + j, none⟩ from by unfold Addr.add; split <;> simp_all, Nat.zero_add]
        exact H.out.1.cell j (by have := HM.out; omega))
      have K3 := Lib.hid (show k + (List.replicate m (Value.int .i64 1)).length ≤ (oneRow n k).length from by rw [oneRow_len hkn, List.length_replicate]; exact HM.out.2.2.2)
      have K4 := Lib.hid (show Below w.heap.size w wr.drew ∧ w.heap.size ≤ g ∧ OneRow wr.drew g n k from ⟨H.out.2.drew, by rw [HG.out]; exact Nat.le_refl _, H.out.1⟩)
      go_wp2_with fail
      go_region_law (refine step_copy_splice rfl (.tmp 41) (.tmp 44) 22 22 rfl 2 Try.underlying22 size2 (some ⟨g, k, none⟩) (some ⟨g, 0, none⟩) (n - k) (n - k) k n (by first | (simp [Act.eval, Act.put]; done) | (simp [Act.eval, Act.put]; omega)) (by first | (simp [Act.eval, Act.put]; done) | (simp [Act.eval, Act.put]; omega)) g k (oneRow n k) 2 K4.out.2.2 (List.replicate m (.int .i64 1)) K1.out (fun _ => ⟨rfl, ⟨g, 0, none⟩, rfl, K2.out⟩) K3.out (one_cells m) w.heap.size w K4.out.1 K4.out.2.1 ?_; intro w3 hg3 hb3)
      all_goals
        have HN := Lib.hid (show OneRow w3 g n (k + m) ∧ Below w.heap.size w w3 ∧ k + m ≤ n ∧ 0 < m from ⟨by have := hg3.out; rw [oneRow_splice] at this; exact this, hb3, HM.out.2.2.2, HM.out.2.1⟩)
        clear hg3 hb3
        have l3 : (m : Int) ≤ 1000 := by have := HN.out.2.2.1; omega
        go_wp2_with fail
        have ww : IntKind.i64.wrap ((k : Int) + (m : Int)) = ((k + m : Nat) : Int) := by rw [IntKind.wrap_i64]; have := HN.out.2.2.1; omega
        exact ⟨⟨k + m, by rw [← ww], by omega, HN.out.2.2.1, HN.out.1, HN.out.2.1⟩, by simp [RowKit.intOf]; rw [ww]; have := HN.out.2.2; omega⟩
    · obtain rfl : k = n := by omega
      have hltz : ¬ (k : Int) < (k : Int) := by omega
      have HN := Lib.hid (show RdK .i64 wr wr.heap.size (some ⟨g, 0, none⟩) k (List.replicate k 1) from ⟨by simp, fun j hj => ⟨g, 0, rfl, cell_lt (H.out.1.cell j hj), by
        rw [Nat.zero_add, H.out.1.cell j hj, List.getD_eq_getElem?_getD, List.getElem?_replicate, if_pos hj]; rfl⟩⟩)
      go_wp2_with fail
      go_ret
      exact ⟨g, rfl, HN.out, H.out.2⟩

/-- split.Even: the shares of the same weight -/
theorem even_any (t : Int) (n : Nat) (w : World) (h1 : 1 ≤ n) (h2 : n ≤ 480) :
    Calls Try.prog 14 #[.int .i64 t, .int .i64 n] w (fun e w' => ShPost t (List.replicate n 1) w e w') := by
  have g1 : ¬ (n : Int) < 1 := by omega
  have g2 : decide ((n : Int) > 480) = false := decide_eq_false (by omega)
  have g3 : ¬ 480 < (n : Int) := by omega
  have HB := Lib.hid (show Below w.heap.size w (w.alloc (.cells #[.int .i64 1] 2)) from (Below.refl _ _).alloc (Nat.le_refl _) _)
  go_enter Try.func14, Try.ntmps14
  go_wp2_with (first | (go_at_call 27; refine (repeat_any _ n _ (by simp) h1 (by omega)).mono ?_; rintro e w2 ⟨g, rfl, p1, p2⟩; have H := Lib.hid (And.intro p1 (HB.out.trans (p2.mono HB.out.size))); clear p1 p2))
  refine (shares_any _ n n t _ _ H.out.1 (by omega)).mono ?_
  rintro e w3 ⟨q1, q2, q3⟩
  have HQ := Lib.hid (show Below w.heap.size w w3 from H.out.2.trans (q3.mono H.out.2.size))
  have HS := Lib.hid (show w.heap.size ≤ w2.heap.size from H.out.2.size)
  by_cases hm : Sv.May t (List.replicate n 1)
  · obtain ⟨blk, rfl, r1, r2⟩ := q1 hm
    have HR := Lib.hid (And.intro r1 r2)
    have HM := Lib.hid hm
    clear q1 q2 q3 r1 r2 hm
    go_wp2_with fail
    go_ret2
    exact ⟨fun _ => ⟨blk, by rw [List.length_replicate]; rfl, Nat.le_trans HS.out HR.out.1, HR.out.2⟩, fun h => absurd HM.out h, HQ.out⟩
  · obtain rfl := q2 hm
    have HM := Lib.hid hm
    clear q1 q2 q3 hm
    go_wp2_with fail
    go_ret2
    exact ⟨fun h => absurd h HM.out, fun _ => rfl, HQ.out⟩
theorem even_none (t : Int) (n : Int) (w : World) (h : n < 1 ∨ 480 < n) :
    Calls Try.prog 14 #[.int .i64 t, .int .i64 n] w fun e w' => e = .returned (.tuple #[.slice none 0 0, .iface 29 (.int .i64 1)]) ∧ Below w.heap.size w w' := by
  by_cases g1 : n < 1
  · go_enter Try.func14, Try.ntmps14
    go_wp2_with fail
    go_ret2
    exact ⟨rfl, Below.refl _ _⟩
  · have g3 : 480 < n := by omega
    have g2 : decide (n > 480) = true := decide_eq_true (by omega)
    clear h
    go_enter Try.func14, Try.ntmps14
    go_wp2_with fail
    go_ret2
    exact ⟨rfl, Below.refl _ _⟩
end Go.Proofs.Ytinimjejdkcodaa
