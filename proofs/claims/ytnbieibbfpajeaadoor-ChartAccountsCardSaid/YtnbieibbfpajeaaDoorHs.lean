/- What a name may be, found by its beginning: the plain half. -/
import Derived.Test.YtnbieibbfpajeaaDoorHp
namespace Go.Proofs.YtnbieibbfpajeaaDoor.Hp
/-- no account of the kinds up to K has this name -/
def Par (K : Nat) (bs : List Int) : Prop := ∀ j o : Nat, 1 ≤ j → j ≤ K → May j o → bs ≠ name j o
theorem par_zero (bs : List Int) : Par 0 bs := fun j o h1 h2 => by omega
theorem par_next {K : Nat} {bs : List Int} (h : Par K bs) (h2 : ∀ o : Nat, May (K + 1 : Nat) o → bs ≠ name (K + 1) o) : Par (K + 1) bs := fun j o h1 h3 hm => by
  rcases Nat.lt_or_ge j (K + 1) with h4 | h4
  · exact h j o h1 (by omega) hm
  · obtain rfl : j = K + 1 := by omega
    exact h2 o hm
theorem name_small {k o : Nat} (h : k ≤ 3) (hm : May k o) : name k o = nm k := by
  unfold May at hm
  unfold name; rw [if_pos (by omega), List.append_nil]
theorem may_small {k : Nat} (h1 : 1 ≤ k) (h : k ≤ 3) : May k 0 := by unfold May; omega
theorem name_great {k o : Nat} (h : 3 < k) (hm : May k o) : name k o = nm k ++ 46 :: dg o ∧ 1 ≤ (dg o).length ∧ (dg o).length ≤ 5 := by
  unfold May at hm
  have := dg_len (n := o) (by omega) (by omega)
  unfold name; rw [if_neg (by omega)]
  exact ⟨rfl, this⟩
/-- a beginning as of kind k, and one to five bytes more -/
def Shape (k : Nat) (bs : List Int) : Prop := (nm k).length + 1 < bs.length ∧ bs.length ≤ (nm k).length + 6 ∧ bs.take (nm k).length = nm k ∧ bs.getD (nm k).length 0 = 46
theorem shape_of {k o : Nat} {bs : List Int} (h : 3 < k) (hm : May k o) (e : bs = name k o) : Shape k bs := by
  obtain ⟨e2, h1, h2⟩ := name_great h hm
  rw [e2] at e
  subst e
  refine ⟨by simp; omega, by simp; omega, by simp, by simp [List.getD_eq_getElem?_getD]⟩
theorem shape_parts {k : Nat} {bs : List Int} (h : Shape k bs) : bs = nm k ++ 46 :: bs.drop ((nm k).length + 1) := by
  obtain ⟨h1, h2, h3, h4⟩ := h
  have e : bs.drop (nm k).length = 46 :: bs.drop ((nm k).length + 1) := by
    rw [List.drop_eq_getElem_cons (by omega)]
    congr 1
    rw [List.getD_eq_getElem?_getD, List.getElem?_eq_getElem (by omega)] at h4
    exact h4
  have e2 := (List.take_append_drop (nm k).length bs).symm
  rwa [h3, e] at e2
/-- such bytes are no other kind's name -/
theorem shape_only {k j o : Nat} {bs : List Int} (hk : 1 ≤ k ∧ k ≤ 12) (hj : 1 ≤ j ∧ j ≤ 12) (h : Shape k bs) (e : bs = name j o) : j = k ∧ bs.drop ((nm k).length + 1) = dg o := by
  have e2 := shape_parts h
  have hd : 46 ∈ bs := by rw [e2]; simp
  by_cases ho : o = 0
  · rw [e] at hd
    unfold name at hd
    rw [if_pos ho, List.append_nil] at hd
    exact absurd hd (nm_dot j)
  · generalize bs.drop ((nm k).length + 1) = ds at *
    rw [e] at e2
    unfold name at e2
    rw [if_neg ho] at e2
    obtain ⟨e3, e4⟩ := dot_part (nm_dot j) (nm_dot k) e2
    exact ⟨nm_inj hj hk e3, e4.symm⟩
theorem may_kind {j o : Nat} (h : May j o) : 1 ≤ j ∧ j ≤ 12 := by unfold May at h; omega
/-- no account's name -/
def None (bs : List Int) : Prop := ∀ k o : Nat, ¬ Is bs k o
theorem none_par {bs : List Int} (h : Par 12 bs) : None bs := fun k o hi => h k o (may_kind hi.1).1 (may_kind hi.1).2 hi.1 hi.2
theorem none_digit {k i : Nat} {bs : List Int} (hk : 1 ≤ k ∧ k ≤ 12) (h : Shape k bs) (hi : (nm k).length + 1 ≤ i) (hl : i < bs.length) (hd : bs.getD i 0 < 48 ∨ 57 < bs.getD i 0) : None bs := fun j o hz => by
  have e := (shape_only hk (may_kind hz.1) h hz.2).2
  have hm : bs.getD i 0 ∈ dg o := by
    rw [← e, List.getD_eq_getElem?_getD, List.getElem?_eq_getElem hl]
    have e3 : bs[i] = (bs.drop ((nm k).length + 1))[i - ((nm k).length + 1)]'(by rw [List.length_drop]; omega) := by
      rw [List.getElem_drop]; congr 1; omega
    show bs[i] ∈ _
    rw [e3]
    exact List.getElem_mem _
  have := dg_digits o _ hm
  omega
theorem is_from {k n j o : Nat} {bs : List Int} (hk : 1 ≤ k ∧ k ≤ 12) (h : Shape k bs) (hv : val 0 (bs.drop ((nm k).length + 1)) = n) (hz : Is bs j o) : j = k ∧ o = n := by
  obtain ⟨e1, e2⟩ := shape_only hk (may_kind hz.1) h hz.2
  rw [e2, val_dg] at hv
  exact ⟨e1, by omega⟩
theorem val_next {bs : List Int} {a i : Nat} (ha : a ≤ i) (hl : i < bs.length) : val 0 ((bs.take (i + 1)).drop a) = val 0 ((bs.take i).drop a) * 10 + (bs.getD i 0 - 48) := by
  have e : (bs.take (i + 1)).drop a = (bs.take i).drop a ++ [bs.getD i 0] := by
    rw [List.take_add_one, List.getElem?_eq_getElem hl, List.drop_append_of_le_length (by rw [List.length_take]; omega), List.getD_eq_getElem?_getD, List.getElem?_eq_getElem hl]; rfl
  unfold val
  rw [e, List.foldl_append]; rfl
end Go.Proofs.YtnbieibbfpajeaaDoor.Hp
