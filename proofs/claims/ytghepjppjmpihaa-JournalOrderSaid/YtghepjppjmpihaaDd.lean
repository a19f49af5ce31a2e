/- The places of the blocks that were written, rising (no program). -/
import Derived.Test.YtghepjppjmpihaaDk
import Derived.Lib.SlKeysI
namespace Go.Proofs.Ytghepjppjmpihaa.Dk
open Go.Maps
/-- the blocks below i that were written -/
def dl (dr : List Int) : Nat → List Nat
  | 0 => []
  | i + 1 => if dr.getD i 0 = 1 then dl dr i ++ [i] else dl dr i
theorem dl_len (dr : List Int) (m : Nat) : (dl dr m).length = many dr m := by
  induction m with
  | zero => rfl
  | succ m ih => unfold dl many; split <;> simp [ih]
theorem dl_mem (dr : List Int) (m x : Nat) : x ∈ dl dr m ↔ x < m ∧ dr.getD x 0 = 1 := by
  induction m with
  | zero => simp [dl]
  | succ m ih =>
    unfold dl
    by_cases h : dr.getD m 0 = 1
    · rw [if_pos h, List.mem_append, ih, List.mem_singleton]
      constructor
      · rintro (⟨h1, h2⟩ | rfl)
        · exact ⟨by omega, h2⟩
        · exact ⟨by omega, h⟩
      · rintro ⟨h1, h2⟩
        rcases Nat.lt_or_ge x m with h3 | h3
        · exact .inl ⟨h3, h2⟩
        · exact .inr (by omega)
    · rw [if_neg h, ih]
      constructor
      · rintro ⟨h1, h2⟩; exact ⟨by omega, h2⟩
      · rintro ⟨h1, h2⟩
        refine ⟨?_, h2⟩
        rcases Nat.lt_or_ge x m with h3 | h3
        · exact h3
        · exact absurd (show dr.getD m 0 = 1 by rw [show m = x by omega]; exact h2) h
theorem dl_rise (dr : List Int) (m : Nat) : (dl dr m).Pairwise (· < ·) := by
  induction m with
  | zero => exact List.Pairwise.nil
  | succ m ih =>
    unfold dl
    split
    · exact List.pairwise_append.2 ⟨ih, List.pairwise_singleton _ _, fun a ha b hb => by rw [List.mem_singleton] at hb; subst hb; exact ((dl_mem _ _ _).1 ha).1⟩
    · exact ih
theorem many_mono (dr : List Int) {i m : Nat} (h : i ≤ m) : many dr i ≤ many dr m := by
  induction m with
  | zero => obtain rfl : i = 0 := by omega
            exact Nat.le_refl _
  | succ m ih =>
    rcases Nat.lt_or_ge i (m + 1) with h1 | h1
    · have := ih (by omega)
      show many dr i ≤ many dr m + (if dr.getD m 0 = 1 then 1 else 0)
      omega
    · obtain rfl : i = m + 1 := by omega
      exact Nat.le_refl _
theorem many_lt {dr : List Int} {x m : Nat} (hx : x < m) (hd : dr.getD x 0 = 1) : many dr x < many dr m := by
  have := many_mono dr (show x + 1 ≤ m by omega)
  rw [many_yes hd] at this
  omega
/-- the j-th one -/
theorem dl_get {dr : List Int} {m j : Nat} (h : j < many dr m) : (dl dr m).getD j 0 < m ∧ dr.getD ((dl dr m).getD j 0) 0 = 1 ∧ many dr ((dl dr m).getD j 0) = j := by
  induction m with
  | zero => exact absurd h (Nat.not_lt_zero _)
  | succ m ih =>
    by_cases hd : dr.getD m 0 = 1
    · rw [many_yes hd] at h
      have e : dl dr (m + 1) = dl dr m ++ [m] := if_pos hd
      rw [e]
      rcases Nat.lt_or_ge j (many dr m) with h1 | h1
      · rw [List.getD_eq_getElem?_getD, List.getElem?_append_left (by rw [dl_len]; exact h1), ← List.getD_eq_getElem?_getD]
        obtain ⟨a, b, c⟩ := ih h1
        exact ⟨by omega, b, c⟩
      · obtain rfl : j = many dr m := by omega
        rw [List.getD_eq_getElem?_getD, List.getElem?_append_right (by rw [dl_len]; exact Nat.le_refl _), dl_len, Nat.sub_self]
        exact ⟨by simp, by simpa using hd, by simp⟩
    · rw [many_no hd] at h
      have e : dl dr (m + 1) = dl dr m := if_neg hd
      rw [e]
      obtain ⟨a, b, c⟩ := ih h
      exact ⟨by omega, b, c⟩
/-- the keys of the map, sorted -/
theorem dl_sorted {D : DataW Unit} {dr : List Int} {m : Nat} {es : List (Lit × DataW Unit)} (hD : D = .map es) (hp : es.Pairwise (fun p q => p.1 ≠ q.1)) (hki : ∀ p ∈ es, ∃ x, p.1 = .int .i64 x)
    (hk : ∀ k, has D k = true ↔ ∃ i : Nat, i < m ∧ k = .int .i64 i ∧ dr.getD i 0 = 1) {ss : List Int} (hs : ss.Perm (intKeys D)) : ss.mergeSort leI = (dl dr m).map (fun i : Nat => (i : Int)) := by
  subst hD
  have hnd : ((dl dr m).map (fun i : Nat => (i : Int))).Nodup := List.pairwise_map.2 ((dl_rise dr m).imp fun h e => by omega)
  have hperm : ((dl dr m).map (fun i : Nat => (i : Int))).Perm (intKeys (.map es)) := perm_intKeys hp hki hnd fun x => by
    rw [hk, List.mem_map]
    constructor
    · rintro ⟨i, hi, rfl⟩
      exact ⟨i, ((dl_mem _ _ _).1 hi).1, rfl, ((dl_mem _ _ _).1 hi).2⟩
    · rintro ⟨i, h1, e, h2⟩
      injection e with _ e
      exact ⟨i, (dl_mem _ _ _).2 ⟨h1, h2⟩, e.symm⟩
  rw [mergeSort_of_perm_i (hs.trans hperm.symm)]
  refine List.mergeSort_of_pairwise (List.pairwise_map.2 ((dl_rise dr m).imp fun h => ?_))
  simp only [leI, decide_eq_true_eq]; omega
end Go.Proofs.Ytghepjppjmpihaa.Dk
