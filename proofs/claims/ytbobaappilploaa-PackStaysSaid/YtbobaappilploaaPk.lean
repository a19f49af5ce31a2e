/- Commands as bytes: the plain half, no program in sight. -/
namespace Go.Proofs.Ytbobaappilploaa.Pk
def I64 (v : Int) : Prop := -9223372036854775808 ≤ v ∧ v ≤ 9223372036854775807
instance (v : Int) : Decidable (I64 v) := inferInstanceAs (Decidable (_ ∧ _))
/-- a number without a sign -/
def zz (n : Int) : Int := if n < 0 then -2 * n - 1 else 2 * n
def uz (u : Int) : Int := if u % 2 = 1 then -(u / 2) - 1 else u / 2
/-- seven-bit digits, in at most so many bytes more than one -/
def vb : Nat → Int → List Int
  | 0, u => [u]
  | k + 1, u => if 127 < u then (u % 128 + 128) :: vb k (u / 128) else [u]
/-- a number's bytes -/
def num (n : Int) : List Int := vb 9 (zz n)
/-- a command's bytes -/
def cb (k key l : Int) (ns : List Int) : List Int := num k ++ (num key ++ (num l ++ (num (ns.length : Int) ++ ns.flatMap num)))
def Ok (k key l : Int) (ns : List Int) : Prop := I64 k ∧ I64 key ∧ I64 l ∧ ∀ n ∈ ns, I64 n
/-- the value of digits, the lowest first -/
def val : List Int → Int
  | [] => 0
  | x :: r => x % 128 + 128 * val r
/-- how many bytes in front tell that another one follows -/
def run : Nat → List Int → Nat
  | 0, _ => 0
  | _ + 1, [] => 0
  | k + 1, x :: r => if 127 < x then run k r + 1 else 0

theorem zz_inj {a b : Int} (h : zz a = zz b) : a = b := by unfold zz at h; split at h <;> split at h <;> omega
theorem zz_bd {n : Int} (h : I64 n) : 0 ≤ zz n ∧ zz n < 18446744073709551616 := by unfold I64 at h; unfold zz; split <;> omega
theorem uz_zz (n : Int) : uz (zz n) = n := by unfold uz zz; split <;> split <;> omega
theorem zz_uz {u : Int} (h : 0 ≤ u) : zz (uz u) = u := by unfold uz zz; split <;> split <;> omega
theorem uz_in {u : Int} (h0 : 0 ≤ u) (h1 : u < 18446744073709551616) : I64 (uz u) := by unfold uz I64; split <;> omega
theorem vb_free : ∀ (k : Nat) {u v : Int} {s t : List Int}, vb k u ++ s = vb k v ++ t → u = v ∧ s = t
  | 0, u, v, s, t, h => by simpa [vb] using h
  | k + 1, u, v, s, t, h => by
    unfold vb at h
    split at h <;> split at h
    · simp only [List.cons_append, List.cons.injEq] at h
      have := vb_free k h.2
      exact ⟨by omega, this.2⟩
    · simp only [List.cons_append, List.cons.injEq] at h; omega
    · simp only [List.cons_append, List.cons.injEq] at h; omega
    · simpa using h
theorem num_free {a b : Int} {s t : List Int} (h : num a ++ s = num b ++ t) : a = b ∧ s = t := by
  have := vb_free 9 h
  exact ⟨zz_inj this.1, this.2⟩
theorem vb_len : ∀ (k : Nat) (u : Int), 1 ≤ (vb k u).length ∧ (vb k u).length ≤ k + 1
  | 0, u => by simp [vb]
  | k + 1, u => by
    unfold vb
    have := vb_len k (u / 128)
    split <;> simp <;> omega
theorem num_len (n : Int) : 1 ≤ (num n).length ∧ (num n).length ≤ 10 := vb_len 9 (zz n)
theorem vb_bytes : ∀ (k : Nat) {u : Int}, 0 ≤ u → u < 128 ^ (k + 1) → ∀ x ∈ vb k u, 0 ≤ x ∧ x < 256
  | 0, u, h0, h1, x, hx => by
    simp [vb] at hx; subst hx; simp at h1; omega
  | k + 1, u, h0, h1, x, hx => by
    unfold vb at hx
    have e : (128 : Int) ^ (k + 1 + 1) = 128 * 128 ^ (k + 1) := by rw [Int.pow_succ]; omega
    rw [e] at h1
    split at hx
    · rcases List.mem_cons.1 hx with rfl | hx
      · omega
      · exact vb_bytes k (by omega) (by omega) x hx
    · simp at hx; subst hx; omega
theorem num_bytes {n : Int} (h : I64 n) : ∀ x ∈ num n, 0 ≤ x ∧ x < 256 := by
  have := zz_bd h
  exact vb_bytes 9 this.1 (by have : (128 : Int) ^ (9 + 1) = 1180591620717411303424 := by decide
                              omega)
theorem flat_free : ∀ {ns ms : List Int} {s t : List Int}, ns.length = ms.length → ns.flatMap num ++ s = ms.flatMap num ++ t → ns = ms ∧ s = t
  | [], [], s, t, _, h => ⟨rfl, by simpa using h⟩
  | [], _ :: _, _, _, hl, _ => by simp at hl
  | _ :: _, [], _, _, hl, _ => by simp at hl
  | n :: ns, m :: ms, s, t, hl, h => by
    simp only [List.flatMap_cons, List.append_assoc] at h
    obtain ⟨rfl, h2⟩ := num_free h
    obtain ⟨rfl, h3⟩ := flat_free (by simpa using hl) h2
    exact ⟨rfl, h3⟩
/-- no two commands' bytes are the same, whatever follows -/
theorem cb_free {k key l k' key' l' : Int} {ns ns' s t : List Int} (h : cb k key l ns ++ s = cb k' key' l' ns' ++ t) : k = k' ∧ key = key' ∧ l = l' ∧ ns = ns' ∧ s = t := by
  unfold cb at h
  simp only [List.append_assoc] at h
  have h1 := num_free h
  have h2 := num_free h1.2
  have h3 := num_free h2.2
  have h4 := num_free h3.2
  have h5 := flat_free (by have := h4.1; omega) h4.2
  exact ⟨h1.1, h2.1, h3.1, h5.1, h5.2⟩
theorem cb_inj {k key l k' key' l' : Int} {ns ns' : List Int} (h : cb k key l ns = cb k' key' l' ns') : k = k' ∧ key = key' ∧ l = l' ∧ ns = ns' := by
  have := cb_free (s := []) (t := []) (by simpa using h)
  exact ⟨this.1, this.2.1, this.2.2.1, this.2.2.2.1⟩
/-- no beginning of a command's bytes is one's -/
theorem cb_take {k key l k' key' l' : Int} {ns ns' : List Int} {j : Nat} (hj : j < (cb k key l ns).length) : (cb k key l ns).take j ≠ cb k' key' l' ns' := fun h => by
  have e : cb k key l ns ++ [] = cb k' key' l' ns' ++ (cb k key l ns).drop j := by rw [← h, List.take_append_drop, List.append_nil]
  have := (cb_free e).2.2.2.2
  have h2 := congrArg List.length this
  simp at h2
  omega
/-- nor are they with more behind -/
theorem cb_more {k key l k' key' l' : Int} {ns ns' : List Int} {x : Int} {r : List Int} : cb k key l ns ++ x :: r ≠ cb k' key' l' ns' := fun h => by
  have e : cb k key l ns ++ x :: r = cb k' key' l' ns' ++ [] := by rw [h, List.append_nil]
  have := (cb_free e).2.2.2.2
  simp at this
theorem cb_len (k key l : Int) (ns : List Int) : 4 ≤ (cb k key l ns).length ∧ (cb k key l ns).length ≤ 40 + 10 * ns.length := by
  have h : ∀ ns : List Int, (ns.flatMap num).length ≤ 10 * ns.length := by
    intro ns
    induction ns with
    | nil => simp
    | cons n ns ih =>
      have := num_len n
      simp only [List.flatMap_cons, List.length_append, List.length_cons]; omega
  have a := num_len k
  have b := num_len key
  have c := num_len l
  have d := num_len (ns.length : Int)
  have e := h ns
  unfold cb
  simp only [List.length_append]
  omega
theorem cb_bytes {k key l : Int} {ns : List Int} (h : Ok k key l ns) (hn : ns.length ≤ 1000) : ∀ x ∈ cb k key l ns, 0 ≤ x ∧ x < 256 := by
  intro x hx
  unfold cb at hx
  simp only [List.mem_append, List.mem_flatMap] at hx
  rcases hx with hx | hx | hx | hx | ⟨n, hn2, hx⟩
  · exact num_bytes h.1 x hx
  · exact num_bytes h.2.1 x hx
  · exact num_bytes h.2.2.1 x hx
  · exact num_bytes (by unfold I64; omega) x hx
  · exact num_bytes (h.2.2.2 n hn2) x hx
/-! ### reading -/
theorem val_vb : ∀ (k : Nat) {u : Int}, 0 ≤ u → u < 128 ^ (k + 1) → val (vb k u) = u
  | 0, u, h0, h1 => by simp at h1; simp [vb, val]; omega
  | k + 1, u, h0, h1 => by
    have e : (128 : Int) ^ (k + 1 + 1) = 128 * 128 ^ (k + 1) := by rw [Int.pow_succ]; omega
    rw [e] at h1
    unfold vb
    split
    · simp only [val]
      rw [val_vb k (by omega) (by omega)]; omega
    · simp only [val]; omega
theorem val_num {n : Int} (h : I64 n) : val (num n) = zz n := by
  have := zz_bd h
  exact val_vb 9 this.1 (by have : (128 : Int) ^ (9 + 1) = 1180591620717411303424 := by decide
                            omega)
theorem run_vb (k : Nat) : ∀ (j : Nat) {u : Int} {s : List Int}, 0 ≤ u → u < 128 ^ (k + 1) → k < j → run j (vb k u ++ s) + 1 = (vb k u).length := by
  induction k with
  | zero =>
    intro j u s h0 h1 hj
    obtain ⟨j, rfl⟩ : ∃ i, j = i + 1 := ⟨j - 1, by omega⟩
    simp at h1
    simp [vb, run]; omega
  | succ k ih =>
    intro j u s h0 h1 hj
    obtain ⟨j, rfl⟩ : ∃ i, j = i + 1 := ⟨j - 1, by omega⟩
    have e : (128 : Int) ^ (k + 1 + 1) = 128 * 128 ^ (k + 1) := by rw [Int.pow_succ]; omega
    rw [e] at h1
    unfold vb
    split
    · simp only [List.cons_append, run]
      rw [if_pos (by omega)]
      have := ih j (u := u / 128) (s := s) (by omega) (by omega) (by omega)
      simp only [List.length_cons]; omega
    · simp [run]; omega
theorem run_num {n : Int} {s : List Int} (h : I64 n) : run 10 (num n ++ s) + 1 = (num n).length := by
  have := zz_bd h
  exact run_vb 9 10 this.1 (by have : (128 : Int) ^ (9 + 1) = 1180591620717411303424 := by decide
                               omega) (by decide)
/-- one byte on: while there are some, fewer than ten, that tell of another one -/
theorem run_step : ∀ {n j : Nat} {b : List Int}, n < j → n < b.length → (∀ i, i ≤ n → 127 < b.getD i 0) → n + 1 ≤ run j b
  | 0, j + 1, x :: r, _, _, h => by
    have := h 0 (Nat.le_refl _)
    simp at this
    simp [run, this]
  | n + 1, j + 1, x :: r, hj, hl, h => by
    have h0 := h 0 (Nat.zero_le _)
    simp at h0
    simp only [run, if_pos h0]
    have := run_step (n := n) (j := j) (b := r) (by omega) (by simpa using hl) (fun i hi => by simpa using h (i + 1) (by omega))
    omega
/-- the end of them -/
theorem run_end : ∀ {n j : Nat} {b : List Int}, n ≤ j → n ≤ b.length → (∀ i, i < n → 127 < b.getD i 0) → (n = j ∨ n = b.length ∨ ¬ 127 < b.getD n 0) → run j b = n
  | 0, 0, b, _, _, _, _ => by simp [run]
  | 0, j + 1, [], _, _, _, _ => by simp [run]
  | 0, j + 1, x :: r, _, _, _, h => by
    rcases h with h | h | h
    · omega
    · simp at h
    · simp at h
      simp [run]; omega
  | n + 1, j + 1, [], _, hl, _, _ => by simp at hl
  | n + 1, j + 1, x :: r, hj, hl, hb, h => by
    have h0 := hb 0 (by omega)
    simp at h0
    simp only [run, if_pos h0]
    have := run_end (n := n) (j := j) (b := r) (by omega) (by simpa using hl) (fun i hi => by simpa using hb (i + 1) (by omega)) (by simpa using h)
    omega
end Go.Proofs.Ytbobaappilploaa.Pk
