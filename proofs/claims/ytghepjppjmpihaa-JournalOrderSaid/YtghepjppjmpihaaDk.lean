/- A disk's bytes: the plain half, no program in sight. Blocks' signs are 0 and 1. -/
namespace Go.Proofs.Ytghepjppjmpihaa.Dk
theorem getD_set (l : List Int) (i j : Nat) (v : Int) (hi : i < l.length) : (l.set i v).getD j 0 = if j = i then v else l.getD j 0 := by
  rw [List.getD_eq_getElem?_getD, List.getD_eq_getElem?_getD]
  by_cases h : j = i
  · subst h; rw [List.getElem?_set_self hi, if_pos rfl]; rfl
  · rw [List.getElem?_set_ne (by omega), if_neg h]
/-- the first i bytes are written -/
def wr (bs now : List Int) (p0 : Nat) : Nat → List Int
  | 0 => now
  | i + 1 => (wr bs now p0 i).set (p0 + i) (bs.getD i 0)
/-- the blocks of the first i bytes are signed -/
def dirt (dr : List Int) (p0 : Nat) : Nat → List Int
  | 0 => dr
  | i + 1 => (dirt dr p0 i).set ((p0 + i) / 64) 1
/-- how many of the first i blocks are signed -/
def many (dr : List Int) : Nat → Nat
  | 0 => 0
  | i + 1 => many dr i + if dr.getD i 0 = 1 then 1 else 0
/-- the first k bytes of block b, as far as the pick goes -/
def blk (now : List Int) (pk : Int) (b : Nat) (st : List Int) : Nat → List Int
  | 0 => st
  | k + 1 => if (k : Int) < pk then (blk now pk b st k).set (64 * b + k) (now.getD (64 * b + k) 0) else blk now pk b st k
/-- what stands behind a crash, of the first b blocks -/
def crash (st now dr picks : List Int) : Nat → List Int
  | 0 => st
  | b + 1 => if dr.getD b 0 = 1 then blk now (picks.getD (many dr b) 0) b (crash st now dr picks b) 64 else crash st now dr picks b
theorem wr_len (bs now : List Int) (p0 i : Nat) : (wr bs now p0 i).length = now.length := by
  induction i with
  | zero => rfl
  | succ i ih => simp [wr, ih]
theorem dirt_len (dr : List Int) (p0 i : Nat) : (dirt dr p0 i).length = dr.length := by
  induction i with
  | zero => rfl
  | succ i ih => simp [dirt, ih]
theorem blk_len (now : List Int) (pk : Int) (b : Nat) (st : List Int) (k : Nat) : (blk now pk b st k).length = st.length := by
  induction k with
  | zero => rfl
  | succ k ih => unfold blk; split <;> simp [ih]
theorem crash_len (st now dr picks : List Int) (b : Nat) : (crash st now dr picks b).length = st.length := by
  induction b with
  | zero => rfl
  | succ b ih => unfold crash; split <;> simp [ih, blk_len]
theorem wr_get (bs now : List Int) (p0 i p : Nat) (h : p0 + i ≤ now.length) : (wr bs now p0 i).getD p 0 = if p0 ≤ p ∧ p < p0 + i then bs.getD (p - p0) 0 else now.getD p 0 := by
  induction i with
  | zero => rw [if_neg (by omega)]; rfl
  | succ i ih =>
    unfold wr
    rw [getD_set _ _ _ _ (by rw [wr_len]; omega), ih (by omega)]
    by_cases e : p = p0 + i
    · subst e; rw [if_pos rfl, if_pos (by omega)]; congr 1; omega
    · rw [if_neg e]
      by_cases h2 : p0 ≤ p ∧ p < p0 + i
      · rw [if_pos h2, if_pos (by omega)]
      · rw [if_neg h2, if_neg (by omega)]
theorem dirt_get (dr : List Int) (p0 i b : Nat) (h : p0 + i ≤ 64 * dr.length) : (dirt dr p0 i).getD b 0 = if 0 < i ∧ p0 / 64 ≤ b ∧ b ≤ (p0 + i - 1) / 64 then 1 else dr.getD b 0 := by
  induction i with
  | zero => rw [if_neg (by omega)]; rfl
  | succ i ih =>
    unfold dirt
    rw [getD_set _ _ _ _ (by rw [dirt_len]; omega), ih (by omega)]
    by_cases e : b = (p0 + i) / 64
    · rw [if_pos e, if_pos (by omega)]
    · rw [if_neg e]
      by_cases h2 : 0 < i ∧ p0 / 64 ≤ b ∧ b ≤ (p0 + i - 1) / 64
      · rw [if_pos h2, if_pos (by omega)]
      · rw [if_neg h2, if_neg (by omega)]
theorem ext {a b : List Int} (hl : a.length = b.length) (h : ∀ p, p < a.length → a.getD p 0 = b.getD p 0) : a = b := by
  refine List.ext_getElem hl fun i h1 h2 => ?_
  have := h i h1
  rwa [List.getD_eq_getElem?_getD, List.getD_eq_getElem?_getD, List.getElem?_eq_getElem h1, List.getElem?_eq_getElem h2] at this
/-- all bytes are written -/
theorem wr_all {a b : List Int} {n : Nat} (ha : a.length = n) (hb : b.length = n) : wr a b 0 n = a :=
  ext (by rw [wr_len, ha, hb]) fun p hp => by
    rw [wr_len, hb] at hp
    rw [wr_get _ _ _ _ _ (by omega), if_pos (by omega)]; rfl
/-- the first i signs are gone -/
def zr (dr : List Int) : Nat → List Int
  | 0 => dr
  | i + 1 => (zr dr i).set i 0
theorem zr_len (dr : List Int) (i : Nat) : (zr dr i).length = dr.length := by
  induction i with
  | zero => rfl
  | succ i ih => simp [zr, ih]
theorem zr_get (dr : List Int) (i p : Nat) (h : i ≤ dr.length) : (zr dr i).getD p 0 = if p < i then 0 else dr.getD p 0 := by
  induction i with
  | zero => rfl
  | succ i ih =>
    unfold zr
    rw [getD_set _ _ _ _ (by rw [zr_len]; omega), ih (by omega)]
    by_cases e : p = i
    · subst e; rw [if_pos rfl, if_pos (by omega)]
    · rw [if_neg e]
      by_cases h2 : p < i
      · rw [if_pos h2, if_pos (by omega)]
      · rw [if_neg h2, if_neg (by omega)]
theorem zr_all {dr : List Int} {m : Nat} (h : dr.length = m) : zr dr m = List.replicate m 0 :=
  ext (by rw [zr_len, h, List.length_replicate]) fun p hp => by
    rw [zr_len, h] at hp
    rw [zr_get _ _ _ (by omega), if_pos hp, List.getD_eq_getElem?_getD, List.getElem?_replicate, if_pos hp]; rfl
theorem many_le (dr : List Int) (i : Nat) : many dr i ≤ i := by
  induction i with
  | zero => exact Nat.le_refl _
  | succ i ih => unfold many; split <;> omega
theorem many_yes {dr : List Int} {i : Nat} (h : dr.getD i 0 = 1) : many dr (i + 1) = many dr i + 1 := by
  show many dr i + (if dr.getD i 0 = 1 then 1 else 0) = _; rw [if_pos h]
theorem many_no {dr : List Int} {i : Nat} (h : ¬ dr.getD i 0 = 1) : many dr (i + 1) = many dr i := by
  show many dr i + (if dr.getD i 0 = 1 then 1 else 0) = _; rw [if_neg h]; rfl
theorem blk_get (now : List Int) (pk : Int) (b : Nat) (st : List Int) (k p : Nat) (h : 64 * b + k ≤ st.length) :
    (blk now pk b st k).getD p 0 = if 64 * b ≤ p ∧ p < 64 * b + k ∧ ((p - 64 * b : Nat) : Int) < pk then now.getD p 0 else st.getD p 0 := by
  induction k with
  | zero => rw [if_neg (by omega)]; rfl
  | succ k ih =>
    unfold blk
    by_cases hk : (k : Int) < pk
    · rw [if_pos hk, getD_set _ _ _ _ (by rw [blk_len]; omega), ih (by omega)]
      by_cases e : p = 64 * b + k
      · subst e; rw [if_pos rfl, if_pos (by omega)]
      · rw [if_neg e]
        by_cases h2 : 64 * b ≤ p ∧ p < 64 * b + k ∧ ((p - 64 * b : Nat) : Int) < pk
        · rw [if_pos h2, if_pos (by omega)]
        · rw [if_neg h2, if_neg (by omega)]
    · rw [if_neg hk, ih (by omega)]
      by_cases h2 : 64 * b ≤ p ∧ p < 64 * b + k ∧ ((p - 64 * b : Nat) : Int) < pk
      · rw [if_pos h2, if_pos (by omega)]
      · rw [if_neg h2, if_neg (by omega)]
/-- what stands behind a crash -/
theorem crash_get (st now dr picks : List Int) (b p : Nat) (h : 64 * b ≤ st.length) :
    (crash st now dr picks b).getD p 0 = if p < 64 * b ∧ dr.getD (p / 64) 0 = 1 ∧ ((p % 64 : Nat) : Int) < picks.getD (many dr (p / 64)) 0 then now.getD p 0 else st.getD p 0 := by
  induction b with
  | zero => rw [if_neg (by omega)]; rfl
  | succ b ih =>
    unfold crash
    by_cases hb : p / 64 = b
    · subst hb
      have ih' := ih (by omega)
      rw [if_neg (by omega)] at ih'
      by_cases hd : dr.getD (p / 64) 0 = 1
      · rw [if_pos hd, blk_get _ _ _ _ _ _ (by rw [crash_len]; omega), ih']
        have e : p - 64 * (p / 64) = p % 64 := by omega
        rw [e]
        by_cases h2 : ((p % 64 : Nat) : Int) < picks.getD (many dr (p / 64)) 0
        · rw [if_pos ⟨by omega, by omega, h2⟩, if_pos ⟨by omega, hd, h2⟩]
        · rw [if_neg (fun h => h2 h.2.2), if_neg (fun h => h2 h.2.2)]
      · rw [if_neg hd, ih', if_neg (fun h => hd h.2.1)]
    · have ih' := ih (by omega)
      have key : (if dr.getD b 0 = 1 then blk now (picks.getD (many dr b) 0) b (crash st now dr picks b) 64 else crash st now dr picks b).getD p 0 = (crash st now dr picks b).getD p 0 := by
        split
        · rw [blk_get _ _ _ _ _ _ (by rw [crash_len]; omega), if_neg (by omega)]
        · rfl
      rw [key, ih']
      by_cases h2 : p < 64 * b ∧ dr.getD (p / 64) 0 = 1 ∧ ((p % 64 : Nat) : Int) < picks.getD (many dr (p / 64)) 0
      · rw [if_pos h2, if_pos ⟨by omega, h2.2⟩]
      · rw [if_neg h2, if_neg (fun h => h2 ⟨by omega, h.2⟩)]
/-- what wasn't signed stays -/
theorem crash_same (st now dr picks : List Int) (b : Nat) (h : 64 * b ≤ st.length) (hs : ∀ p, dr.getD (p / 64) 0 ≠ 1 → now.getD p 0 = st.getD p 0) (p : Nat) (hd : dr.getD (p / 64) 0 ≠ 1) :
    (crash st now dr picks b).getD p 0 = now.getD p 0 := by
  rw [crash_get _ _ _ _ _ _ h, if_neg (fun h => hd h.2.1), hs p hd]
end Go.Proofs.Ytghepjppjmpihaa.Dk
