/- Accounts and their names: the plain half, no program in sight. A name is a row of bytes. -/
namespace Go.Proofs.YtnbieibbfpajeaaDoor.Hp
/-- a kind's name: cash, trust, own, investor, escrow, suspense, advance, fee, guaranty, late, principal, loan -/
def nm : Nat → List Int
  | 1 => [99, 97, 115, 104]
  | 2 => [116, 114, 117, 115, 116]
  | 3 => [111, 119, 110]
  | 4 => [105, 110, 118, 101, 115, 116, 111, 114]
  | 5 => [101, 115, 99, 114, 111, 119]
  | 6 => [115, 117, 115, 112, 101, 110, 115, 101]
  | 7 => [97, 100, 118, 97, 110, 99, 101]
  | 8 => [102, 101, 101]
  | 9 => [103, 117, 97, 114, 97, 110, 116, 121]
  | 10 => [108, 97, 116, 101]
  | 11 => [112, 114, 105, 110, 99, 105, 112, 97, 108]
  | 12 => [108, 111, 97, 110]
  | _ => []
/-- a number's digits; of 0 none -/
def dg (n : Nat) : List Int := if _h : n = 0 then [] else dg (n / 10) ++ [48 + ((n % 10 : Nat) : Int)]
termination_by n
decreasing_by exact Nat.div_lt_self (Nat.pos_of_ne_zero _h) (by decide)
theorem dg_zero : dg 0 = [] := by rw [dg]; rfl
theorem dg_pos {n : Nat} (h : n ≠ 0) : dg n = dg (n / 10) ++ [48 + ((n % 10 : Nat) : Int)] := by rw [dg, dif_neg h]
/-- what digits come to, behind a number -/
def val (n : Int) (l : List Int) : Int := l.foldl (fun n d => n * 10 + (d - 48)) n
theorem val_dg (n : Nat) : val 0 (dg n) = n := by
  induction n using Nat.strongRecOn with
  | _ n ih =>
    by_cases h : n = 0
    · subst h; rw [dg_zero]; rfl
    · rw [dg_pos h]
      have := ih (n / 10) (Nat.div_lt_self (Nat.pos_of_ne_zero h) (by decide))
      unfold val at this ⊢
      rw [List.foldl_append, this]
      show ((n / 10 : Nat) : Int) * 10 + (48 + ((n % 10 : Nat) : Int) - 48) = n
      omega
theorem dg_inj {n m : Nat} (h : dg n = dg m) : n = m := by
  have := val_dg n
  rw [h, val_dg] at this
  omega
theorem dg_digits (n : Nat) : ∀ d ∈ dg n, 48 ≤ d ∧ d ≤ 57 := by
  induction n using Nat.strongRecOn with
  | _ n ih =>
    by_cases h : n = 0
    · subst h; rw [dg_zero]; exact fun d hd => nomatch hd
    · rw [dg_pos h]
      intro d hd
      rcases List.mem_append.1 hd with k | k
      · exact ih (n / 10) (Nat.div_lt_self (Nat.pos_of_ne_zero h) (by decide)) d k
      · simp at k; omega
theorem dg_len {n : Nat} (h : n ≠ 0) (h2 : n < 100000) : 1 ≤ (dg n).length ∧ (dg n).length ≤ 5 := by
  have step : ∀ k, k ≠ 0 → (dg k).length = (dg (k / 10)).length + 1 := fun k hk => by rw [dg_pos hk]; simp
  have z : (dg 0).length = 0 := by rw [dg_zero]; rfl
  have e1 := step n h
  by_cases h3 : n / 10 = 0
  · rw [h3, z] at e1; omega
  have e2 := step _ h3
  by_cases h4 : n / 10 / 10 = 0
  · rw [h4, z] at e2; omega
  have e3 := step _ h4
  by_cases h5 : n / 10 / 10 / 10 = 0
  · rw [h5, z] at e3; omega
  have e4 := step _ h5
  by_cases h6 : n / 10 / 10 / 10 / 10 = 0
  · rw [h6, z] at e4; omega
  have e5 := step _ h6
  have h7 : n / 10 / 10 / 10 / 10 / 10 = 0 := by omega
  rw [h7, z] at e5; omega
/-- is there that account? -/
def May (k o : Int) : Prop := (1 ≤ k ∧ k ≤ 3 ∧ o = 0) ∨ (4 ≤ k ∧ k ≤ 12 ∧ 1 ≤ o ∧ o ≤ 65536)
instance (k o : Int) : Decidable (May k o) := inferInstanceAs (Decidable (_ ∨ _))
/-- an account's name -/
def name (k o : Nat) : List Int := nm k ++ if o = 0 then [] else 46 :: dg o
theorem nm_dot : ∀ k, 46 ∉ nm k := fun k => by
  unfold nm; split <;> decide
theorem nm_cases {k : Nat} (h1 : 1 ≤ k) (h2 : k ≤ 12) : k = 1 ∨ k = 2 ∨ k = 3 ∨ k = 4 ∨ k = 5 ∨ k = 6 ∨ k = 7 ∨ k = 8 ∨ k = 9 ∨ k = 10 ∨ k = 11 ∨ k = 12 := by omega
theorem nm_inj {k j : Nat} (h1 : 1 ≤ k ∧ k ≤ 12) (h2 : 1 ≤ j ∧ j ≤ 12) (h : nm k = nm j) : k = j := by
  have key : ∀ k, k < 13 → ∀ j, j < 13 → 1 ≤ k → 1 ≤ j → nm k = nm j → k = j := by decide
  exact key k (by omega) j (by omega) h1.1 h2.1 h
/-- two rows that are parted by their first dots -/
theorem dot_part {a b x y : List Int} (ha : 46 ∉ a) (hb : 46 ∉ b) (h : a ++ 46 :: x = b ++ 46 :: y) : a = b ∧ x = y := by
  induction a generalizing b with
  | nil => cases b with
    | nil => injection h with _ h; exact ⟨rfl, h⟩
    | cons z b => injection h with h _; exact absurd (h ▸ List.mem_cons_self) hb
  | cons z a ih => cases b with
    | nil => injection h with h _; exact absurd (h ▸ List.mem_cons_self) ha
    | cons w b =>
      injection h with h1 h2
      obtain ⟨e1, e2⟩ := ih (fun h => ha (List.mem_cons_of_mem _ h)) (fun h => hb (List.mem_cons_of_mem _ h)) h2
      exact ⟨by rw [h1, e1], e2⟩
theorem name_dot {k o : Nat} (h : o ≠ 0) : 46 ∈ name k o := by unfold name; rw [if_neg h]; simp
theorem name_inj {k o j p : Nat} (h1 : 1 ≤ k ∧ k ≤ 12) (h2 : 1 ≤ j ∧ j ≤ 12) (h : name k o = name j p) : k = j ∧ o = p := by
  by_cases ho : o = 0
  · by_cases hp : p = 0
    · subst ho hp
      unfold name at h
      simp at h
      exact ⟨nm_inj h1 h2 h, rfl⟩
    · have := name_dot (k := j) hp
      rw [← h] at this
      unfold name at this
      rw [if_pos ho, List.append_nil] at this
      exact absurd this (nm_dot k)
  · by_cases hp : p = 0
    · have := name_dot (k := k) ho
      rw [h] at this
      unfold name at this
      rw [if_pos hp, List.append_nil] at this
      exact absurd this (nm_dot j)
    · unfold name at h
      rw [if_neg ho, if_neg hp] at h
      obtain ⟨e1, e2⟩ := dot_part (nm_dot k) (nm_dot j) h
      exact ⟨nm_inj h1 h2 e1, dg_inj e2⟩
theorem nm_bytes : ∀ k, ∀ d ∈ nm k, 0 ≤ d ∧ d < 256 := fun k => by unfold nm; split <;> decide
theorem name_bytes (k o : Nat) : ∀ d ∈ name k o, 0 ≤ d ∧ d < 256 := fun d hd => by
  unfold name at hd
  rcases List.mem_append.1 hd with h | h
  · exact nm_bytes k d h
  · split at h
    · cases h
    · rcases List.mem_cons.1 h with rfl | h
      · decide
      · have := dg_digits o d h; omega
theorem nm_len {k : Nat} (h1 : 1 ≤ k) (h2 : k ≤ 12) : 3 ≤ (nm k).length ∧ (nm k).length ≤ 9 := by
  have key : ∀ k, k < 13 → 1 ≤ k → 3 ≤ (nm k).length ∧ (nm k).length ≤ 9 := by decide
  exact key k (by omega) h1
theorem name_len {k o : Nat} (h1 : 1 ≤ k) (h2 : k ≤ 12) (h3 : o ≤ 65536) : (name k o).length ≤ 15 := by
  have := nm_len h1 h2
  unfold name
  by_cases h : o = 0
  · rw [if_pos h]; simp; omega
  · have := dg_len h (by omega)
    rw [if_neg h]; simp; omega
/-- an account of which a row of bytes is the name -/
def Is (s : List Int) (k o : Nat) : Prop := May k o ∧ s = name k o
theorem is_unique {s : List Int} {k o j p : Nat} (h : Is s k o) (h' : Is s j p) : k = j ∧ o = p := by
  obtain ⟨m1, rfl⟩ := h
  obtain ⟨m2, e⟩ := h'
  unfold May at m1 m2
  exact name_inj (by omega) (by omega) e
/-- what stands ahead -/
def lt (k o j p : Int) : Prop := k < j ∨ (k = j ∧ o < p)
instance (k o j p : Int) : Decidable (lt k o j p) := inferInstanceAs (Decidable (_ ∨ _))
theorem lt_trans {k o j p x y : Int} (h : lt k o j p) (h' : lt j p x y) : lt k o x y := by unfold lt at *; omega
theorem lt_one (k o j p : Int) : (k = j ∧ o = p) ↔ (¬ lt k o j p ∧ ¬ lt j p k o) := by unfold lt; omega
theorem lt_not {k o j p : Int} (h : lt k o j p) : ¬ lt j p k o := by unfold lt at *; omega
end Go.Proofs.YtnbieibbfpajeaaDoor.Hp
