/- Digits of commands' bytes, as a reader finds them: the plain half, no program in sight. -/
import Derived.Test.YtbobaappilploaaPk
namespace Go.Proofs.Ytbobaappilploaa.Pk
def Far (x : Int) : Prop := 127 < x ∧ x < 256
/-- two ways to part at the first byte that tells of no other -/
theorem far_free : ∀ {p q s t : List Int} {d e : Int}, (∀ x ∈ p, Far x) → (∀ x ∈ q, Far x) → d < 128 → e < 128 → p ++ d :: s = q ++ e :: t → p = q ∧ d = e ∧ s = t
  | [], [], s, t, d, e, _, _, _, _, h => by simpa using h
  | [], y :: q, s, t, d, e, _, hq, hd, _, h => by
    simp only [List.nil_append, List.cons_append, List.cons.injEq] at h
    have := hq y List.mem_cons_self
    have := this.1; omega
  | x :: p, [], s, t, d, e, hp, _, _, he, h => by
    simp only [List.nil_append, List.cons_append, List.cons.injEq] at h
    have := hp x List.mem_cons_self
    have := this.1; omega
  | x :: p, y :: q, s, t, d, e, hp, hq, hd, he, h => by
    simp only [List.cons_append, List.cons.injEq] at h
    have := far_free (fun z hz => hp z (List.mem_cons_of_mem _ hz)) (fun z hz => hq z (List.mem_cons_of_mem _ hz)) hd he h.2
    exact ⟨by rw [h.1, this.1], this.2⟩
/-- so many bytes that tell of another one stand in front -/
theorem far_len : ∀ {p q t r : List Int} {e : Int}, (∀ x ∈ p, Far x) → (∀ x ∈ q, Far x) → e < 128 → p ++ r = q ++ e :: t → p.length ≤ q.length
  | [], q, t, r, e, _, _, _, _ => Nat.zero_le _
  | x :: p, [], t, r, e, hp, _, he, h => by
    simp only [List.nil_append, List.cons_append, List.cons.injEq] at h
    have := hp x List.mem_cons_self
    have := this.1; omega
  | x :: p, y :: q, t, r, e, hp, hq, he, h => by
    simp only [List.cons_append, List.cons.injEq] at h
    have := far_len (fun z hz => hp z (List.mem_cons_of_mem _ hz)) (fun z hz => hq z (List.mem_cons_of_mem _ hz)) he h.2
    simpa using this
theorem val_snoc : ∀ (p : List Int) (d : Int), val (p ++ [d]) = val p + 128 ^ p.length * (d % 128)
  | [], d => by simp [val]
  | x :: p, d => by
    simp only [List.cons_append, val, List.length_cons]
    have e : (128 : Int) ^ (p.length + 1) = 128 * 128 ^ p.length := by rw [Int.pow_succ]; omega
    rw [val_snoc p d, e, Int.mul_assoc]
    generalize (128 : Int) ^ p.length * (d % 128) = z
    omega
theorem val_bd : ∀ (p : List Int), 0 ≤ val p ∧ val p < 128 ^ p.length
  | [] => by simp [val]
  | x :: p => by
    have := val_bd p
    have e : (128 : Int) ^ (p.length + 1) = 128 * 128 ^ p.length := by rw [Int.pow_succ]; omega
    simp only [val, List.length_cons]
    rw [e]
    omega
theorem val_pos : ∀ (p : List Int) {d : Int}, 0 < d → d < 128 → 0 < val (p ++ [d])
  | [], d, h, h2 => by simp [val]; omega
  | x :: p, d, h, h2 => by
    have := val_pos p h h2
    simp only [List.cons_append, val]
    omega
/-- digits that are as few as can be are their value's -/
theorem vb_val : ∀ (p : List Int) (k : Nat) {d : Int}, p.length ≤ k → (∀ x ∈ p, Far x) → 0 ≤ d → d < 128 → (p ≠ [] → 0 < d) → vb k (val (p ++ [d])) = p ++ [d]
  | [], k, d, _, _, h0, h1, _ => by
    have e : d % 128 + 128 * 0 = d := by omega
    simp only [List.nil_append, val, e]
    cases k with
    | zero => rfl
    | succ k => unfold vb; rw [if_neg (by omega)]
  | x :: p, 0, d, hl, _, _, _, _ => by simp at hl
  | x :: p, k + 1, d, hl, hp, h0, h1, hd => by
    have hd := hd (by simp)
    have hx := hp x List.mem_cons_self
    have ih := vb_val p k (d := d) (by simpa using hl) (fun z hz => hp z (List.mem_cons_of_mem _ hz)) h0 h1 (fun _ => hd)
    have hv := val_pos p hd h1
    obtain ⟨hx0, hx1⟩ := hx
    simp only [List.cons_append, val]
    generalize val (p ++ [d]) = V at *
    unfold vb
    rw [if_pos (by omega)]
    have e1 : (x % 128 + 128 * V) % 128 + 128 = x := by omega
    have e2 : (x % 128 + 128 * V) / 128 = V := by omega
    rw [e1, e2, ih]
theorem vb_form : ∀ (k : Nat) {u : Int}, 0 ≤ u → u < 128 ^ (k + 1) → ∃ p d, vb k u = p ++ [d] ∧ (∀ x ∈ p, Far x) ∧ 0 ≤ d ∧ d < 128 ∧ (p ≠ [] → 0 < d) ∧ p.length ≤ k ∧ (0 < u → 0 < d)
  | 0, u, h0, h1 => ⟨[], u, rfl, (fun x hx => nomatch hx), h0, by simpa using h1, fun h => absurd rfl h, Nat.le_refl _, id⟩
  | k + 1, u, h0, h1 => by
    unfold vb
    split
    · rename_i h
      have e : (128 : Int) ^ (k + 1 + 1) = 128 * 128 ^ (k + 1) := by rw [Int.pow_succ]; omega
      rw [e] at h1
      obtain ⟨p, d, e2, hp, d0, d1, hd, hl, hz⟩ := vb_form k (u := u / 128) (by omega) (by omega)
      have hd9 := hz (by omega)
      refine ⟨(u % 128 + 128) :: p, d, by rw [e2]; rfl, ?_, d0, d1, fun _ => hd9, by simpa using hl, fun _ => hd9⟩
      intro x hx
      rcases List.mem_cons.1 hx with rfl | hx
      · exact ⟨by omega, by omega⟩
      · exact hp x hx
    · rename_i h
      exact ⟨[], u, rfl, (fun x hx => nomatch hx), h0, by omega, fun h => absurd rfl h, Nat.zero_le _, id⟩
theorem num_form {n : Int} (h : I64 n) : ∃ p d, num n = p ++ [d] ∧ (∀ x ∈ p, Far x) ∧ 0 ≤ d ∧ d < 128 ∧ (p ≠ [] → 0 < d) ∧ p.length ≤ 9 := by
  have hz := zz_bd h
  obtain ⟨p, d, e, hp, d0, d1, hd, hl, _⟩ := vb_form 9 (u := zz n) hz.1 (by have : (128 : Int) ^ (9 + 1) = 1180591620717411303424 := by decide
                                                                            omega)
  exact ⟨p, d, e, hp, d0, d1, hd, hl⟩
theorem pow9 : (128 : Int) ^ 9 = 9223372036854775808 := by decide
/-- what a reader has found: a number's end -/
theorem num_yes {p : List Int} {d : Int} (hp : ∀ x ∈ p, Far x) (d0 : 0 ≤ d) (d1 : d < 128) (hd : p ≠ [] → 0 < d) (hl : p.length ≤ 9) (h9 : p.length = 9 → d ≤ 1) : 0 ≤ val (p ++ [d]) ∧ val (p ++ [d]) < 18446744073709551616 ∧ I64 (uz (val (p ++ [d]))) ∧ num (uz (val (p ++ [d]))) = p ++ [d] := by
  have hb := val_bd p
  have hs := val_snoc p d
  have hm : d % 128 = d := by omega
  have e : val (p ++ [d]) < 18446744073709551616 := by
    rcases Nat.lt_or_ge p.length 9 with h | h
    · have hb2 := val_bd (p ++ [d])
      have hn : (128 : Nat) ^ (p ++ [d]).length ≤ 128 ^ 9 := Nat.pow_le_pow_right (by decide) (by simp; omega)
      have : (128 : Int) ^ (p ++ [d]).length ≤ 128 ^ 9 := by exact_mod_cast hn
      rw [pow9] at this
      omega
    · have h99 : p.length = 9 := by omega
      rw [h99, pow9] at hb hs
      have := h9 h99
      omega
  have e0 := (val_bd (p ++ [d])).1
  refine ⟨e0, e, uz_in e0 e, ?_⟩
  unfold num
  rw [zz_uz e0, vb_val p 9 hl hp d0 d1 hd]
/-- that digit leaves no room: there is no number -/
theorem num_no9 {p r : List Int} {d : Int} (hp : ∀ x ∈ p, Far x) (hl : p.length = 9) (d0 : 1 < d) (d1 : d < 256) : ∀ v s, I64 v → p ++ d :: r ≠ num v ++ s := by
  intro v s hv e
  obtain ⟨q, c, e2, hq, c0, c1, hc, hl2⟩ := num_form hv
  rw [e2, List.append_assoc] at e
  rcases Int.lt_or_le d 128 with h | h
  · obtain ⟨rfl, rfl, -⟩ := far_free hp hq h c1 e
    have hz := val_num hv
    have hb := zz_bd hv
    rw [e2, val_snoc, hl, pow9] at hz
    have := (val_bd p).1
    omega
  · have := far_len (p := p ++ [d]) (q := q) (r := r) (t := s) (e := c) (fun x hx => by
      rcases List.mem_append.1 hx with hx | hx
      · exact hp x hx
      · rw [List.mem_singleton.1 hx]; exact ⟨by omega, d1⟩) hq c1 (by simpa using e)
    simp at this
    omega
/-- a digit of 0 on top: there is no number -/
theorem num_no0 {p r : List Int} (hp : ∀ x ∈ p, Far x) (hl : p ≠ []) : ∀ v s, I64 v → p ++ 0 :: r ≠ num v ++ s := by
  intro v s hv e
  obtain ⟨q, c, e2, hq, c0, c1, hc, hl2⟩ := num_form hv
  rw [e2, List.append_assoc] at e
  obtain ⟨rfl, rfl, -⟩ := far_free hp hq (by decide) c1 e
  have := hc hl
  omega
/-- the bytes end: there is no number -/
theorem num_noend {p : List Int} (hp : ∀ x ∈ p, Far x) : ∀ v s, I64 v → p ≠ num v ++ s := by
  intro v s hv e
  obtain ⟨q, c, e2, hq, c0, c1, hc, hl2⟩ := num_form hv
  rw [e2, List.append_assoc] at e
  have := hp c (by rw [e]; simp)
  have := this.1
  omega
/-- the next digit comes to its place -/
theorem or_digit {V d : Int} {i : Nat} (h0 : 0 ≤ V) (h1 : V < 128 ^ i) (d0 : 0 ≤ d) : ((V.toNat ||| (d * 128 ^ i).toNat : Nat) : Int) = V + 128 ^ i * d := by
  have e : (128 : Int) ^ i = ((2 ^ (7 * i) : Nat) : Int) := by
    rw [Nat.pow_mul]; simp
  obtain ⟨v, rfl⟩ : ∃ v : Nat, V = v := ⟨V.toNat, by omega⟩
  obtain ⟨c, rfl⟩ : ∃ c : Nat, d = c := ⟨d.toNat, by omega⟩
  rw [e] at h1 ⊢
  have h1 : v < 2 ^ (7 * i) := by exact_mod_cast h1
  have e3 : ((c : Int) * ((2 ^ (7 * i) : Nat) : Int)).toNat = 2 ^ (7 * i) * c := by
    rw [← Int.natCast_mul, Int.toNat_natCast, Nat.mul_comm]
  rw [e3, Int.toNat_natCast, Nat.or_comm, ← Nat.two_pow_add_eq_or_of_lt h1]
  push_cast
  omega
end Go.Proofs.Ytbobaappilploaa.Pk
