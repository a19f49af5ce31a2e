/- A journal's records on a disk's bytes: the plain half, no program in sight. -/
import Derived.Test.YtghepjppjmpihaaDk
namespace Go.Proofs.Ytghepjppjmpihaa.Jk
open Dk
/-- the bytes of a head -/
def hd (n : Nat) : List Int := [((n % 256 : Nat) : Int), ((n / 256 % 256 : Nat) : Int), ((n / 65536 % 256 : Nat) : Int), ((n / 16777216 % 256 : Nat) : Int), 255 - ((n % 256 : Nat) : Int), 255 - ((n / 256 % 256 : Nat) : Int), 255 - ((n / 65536 % 256 : Nat) : Int), 255 - ((n / 16777216 % 256 : Nat) : Int)]
theorem hd_len (n : Nat) : (hd n).length = 8 := rfl
/-- a record of n bytes stands at a place -/
def OkAt (l : List Int) (a n : Nat) : Prop := 1 ≤ n ∧ n ≤ 1024 ∧ a + 8 + n ≤ l.length ∧ ∀ i, i < 8 → l.getD (a + i) 0 = (hd n).getD i 0
instance (l : List Int) (a n : Nat) : Decidable (OkAt l a n) := inferInstanceAs (Decidable (_ ∧ _ ∧ _ ∧ _))
def nn (l : List Int) (a : Nat) : Nat := (l.getD a 0 + 256 * l.getD (a + 1) 0).toNat
/-- how many bytes the record has that stands at a place; 0: none does -/
def fd (l : List Int) (a : Nat) : Nat := if OkAt l a (nn l a) then nn l a else 0
theorem OkAt.nn {l : List Int} {a n : Nat} (h : OkAt l a n) : nn l a = n := by
  obtain ⟨h1, h2, _, h4⟩ := h
  have b0 := h4 0 (by decide)
  have b1 := h4 1 (by decide)
  rw [Nat.add_zero] at b0
  unfold Jk.nn
  rw [b0, b1]
  show (((n % 256 : Nat) : Int) + 256 * ((n / 256 % 256 : Nat) : Int)).toNat = n
  omega
theorem fd_ok {l : List Int} {a n : Nat} (h : OkAt l a n) : fd l a = n := by
  unfold fd; rw [h.nn, if_pos h]
theorem fd_yes {l : List Int} {a : Nat} (h : fd l a ≠ 0) : OkAt l a (fd l a) := by
  unfold fd at *
  split
  · assumption
  · rename_i k; rw [if_neg k] at h; exact absurd rfl h
theorem fd_none {l : List Int} {a : Nat} (h : ∀ n, ¬ OkAt l a n) : fd l a = 0 := by
  by_cases k : fd l a = 0
  · exact k
  · exact absurd (fd_yes k) (h _)
theorem fd_bd (l : List Int) (a : Nat) : fd l a ≤ 1024 ∧ (fd l a ≠ 0 → a + 8 + fd l a ≤ l.length) := by
  by_cases k : fd l a = 0
  · exact ⟨by omega, fun h => absurd k h⟩
  · have := fd_yes k; exact ⟨this.2.1, fun _ => this.2.2.1⟩
/-- a record's bytes -/
def rc (l : List Int) (a n : Nat) : List Int := (l.drop (a + 8)).take n
theorem rc_len {l : List Int} {a n : Nat} (h : a + 8 + n ≤ l.length) : (rc l a n).length = n := by unfold rc; rw [List.length_take, List.length_drop]; omega
theorem rc_get {l : List Int} {a n i : Nat} (h : i < n) : (rc l a n).getD i 0 = l.getD (a + 8 + i) 0 := by
  unfold rc; rw [List.getD_eq_getElem?_getD, List.getElem?_take_of_lt h, List.getElem?_drop, ← List.getD_eq_getElem?_getD]
/-- the first k records, and where they end -/
def it (l : List Int) : Nat → Option (Nat × List (List Int))
  | 0 => some (0, [])
  | k + 1 => match it l k with
    | some (a, rs) => if fd l a = 0 then none else some (a + 8 + fd l a, rs ++ [rc l a (fd l a)])
    | none => none
theorem it_step {l : List Int} {k e : Nat} {rs : List (List Int)} (h : it l (k + 1) = some (e, rs)) :
    ∃ a rs0, it l k = some (a, rs0) ∧ fd l a ≠ 0 ∧ e = a + 8 + fd l a ∧ rs = rs0 ++ [rc l a (fd l a)] := by
  simp only [it] at h
  split at h
  · rename_i a rs0 h0
    split at h
    · cases h
    · rename_i k0
      injection h with h; injection h with h1 h2
      exact ⟨a, rs0, h0, k0, h1.symm, h2.symm⟩
  · cases h
theorem it_next {l : List Int} {k a : Nat} {rs : List (List Int)} (h : it l k = some (a, rs)) (hf : fd l a ≠ 0) : it l (k + 1) = some (a + 8 + fd l a, rs ++ [rc l a (fd l a)]) := by
  simp only [it, h, if_neg hf]
theorem it_stop {l : List Int} {k a : Nat} {rs : List (List Int)} (h : it l k = some (a, rs)) (hf : fd l a = 0) : ∀ j, it l (k + 1 + j) = none := by
  intro j
  induction j with
  | zero => simp only [it, h, if_pos hf]
  | succ j ih => show it l (k + 1 + j + 1) = none; simp only [it, ih]
theorem it_len {l : List Int} : ∀ {k e : Nat} {rs : List (List Int)}, it l k = some (e, rs) → rs.length = k
  | 0, _, _, h => by simp [it] at h; simp [h.2]
  | k + 1, _, _, h => by
    obtain ⟨a, rs0, h0, _, _, rfl⟩ := it_step h
    simp [it_len h0]
theorem it_bd {l : List Int} : ∀ {k e : Nat} {rs : List (List Int)}, it l k = some (e, rs) → 9 * k ≤ e ∧ e ≤ l.length
  | 0, _, _, h => by simp [it] at h; omega
  | k + 1, _, _, h => by
    obtain ⟨a, rs0, h0, hf, rfl, rfl⟩ := it_step h
    have := it_bd h0
    have := (fd_bd l a).2 hf
    omega
/-- rs are the records, e their end -/
def J (l : List Int) (rs : List (List Int)) (e : Nat) : Prop := it l rs.length = some (e, rs) ∧ fd l e = 0
theorem J.le {l : List Int} {rs : List (List Int)} {e : Nat} (h : J l rs e) : e ≤ l.length := (it_bd h.1).2
theorem J.many {l : List Int} {rs : List (List Int)} {e : Nat} (h : J l rs e) : 9 * rs.length ≤ e := (it_bd h.1).1
theorem J_unique {l : List Int} {rs rs' : List (List Int)} {e e' : Nat} (h : J l rs e) (h' : J l rs' e') : rs = rs' ∧ e = e' := by
  rcases Nat.lt_trichotomy rs.length rs'.length with k | k | k
  · have := it_stop h.1 h.2 (rs'.length - (rs.length + 1))
    rw [show rs.length + 1 + (rs'.length - (rs.length + 1)) = rs'.length by omega, h'.1] at this
    cases this
  · have h2 := h'.1
    rw [← k, h.1] at h2
    injection h2 with h2; injection h2 with h3 h4
    exact ⟨h4, h3⟩
  · have := it_stop h'.1 h'.2 (rs.length - (rs'.length + 1))
    rw [show rs'.length + 1 + (rs.length - (rs'.length + 1)) = rs.length by omega, h.1] at this
    cases this
theorem J_from {l : List Int} : ∀ (d k a : Nat) (rs : List (List Int)), l.length - a ≤ d → it l k = some (a, rs) → ∃ rs' e', J l rs' e'
  | 0, k, a, rs, hd, h => ⟨rs, a, by rw [it_len h]; exact h, by
      by_cases hf : fd l a = 0
      · exact hf
      · have := (fd_bd l a).2 hf; omega⟩
  | d + 1, k, a, rs, hd, h => by
    by_cases hf : fd l a = 0
    · exact ⟨rs, a, by rw [it_len h]; exact h, hf⟩
    · have := (fd_bd l a).2 hf
      exact J_from d (k + 1) _ _ (by omega) (it_next h hf)
theorem J_exists (l : List Int) : ∃ rs e, J l rs e := J_from l.length 0 0 [] (by omega) rfl
theorem OkAt.same {l l' : List Int} {a n e : Nat} (h : OkAt l a n) (hs : ∀ p, p < e → l'.getD p 0 = l.getD p 0) (he : a + 8 + n ≤ e) (hl : e ≤ l'.length) : OkAt l' a n :=
  ⟨h.1, h.2.1, by omega, fun i hi => by rw [hs _ (by omega)]; exact h.2.2.2 i hi⟩
theorem it_same {l l' : List Int} : ∀ {k e : Nat} {rs : List (List Int)}, (∀ p, p < e → l'.getD p 0 = l.getD p 0) → e ≤ l'.length → it l k = some (e, rs) → it l' k = some (e, rs)
  | 0, _, _, _, _, h => h
  | k + 1, _, _, hs, hl, h => by
    obtain ⟨a, rs0, h0, hf, rfl, rfl⟩ := it_step h
    have hok := fd_yes hf
    have hok' := hok.same hs (Nat.le_refl _) hl
    have hf' := fd_ok hok'
    have h0' := it_same (fun p hp => hs p (by omega)) (by omega) h0
    have e1 : rc l' a (fd l a) = rc l a (fd l a) := ext (by rw [rc_len hok.2.2.1, rc_len hok'.2.2.1]) fun i hi => by
      rw [rc_len hok'.2.2.1] at hi
      rw [rc_get hi, rc_get hi, hs _ (by omega)]
    have := it_next h0' (by rw [hf']; exact hf)
    rw [hf', e1] at this
    exact this
/-- behind e nothing but 0s -/
def Zb (l : List Int) (e : Nat) : Prop := ∀ p, e ≤ p → l.getD p 0 = 0
theorem hd6 {n : Nat} (h : n ≤ 1024) : (hd n).getD 6 0 = 255 := by
  show 255 - ((n / 65536 % 256 : Nat) : Int) = 255
  omega
theorem fd_zero {l : List Int} {a : Nat} (h : l.getD (a + 6) 0 = 0) : fd l a = 0 := fd_none fun n hn => by
  have := hn.2.2.2 6 (by decide)
  rw [h, hd6 hn.2.1] at this
  exact absurd this (by decide)
theorem Zb.fd {l : List Int} {e p : Nat} (h : Zb l e) (hp : e ≤ p) : fd l p = 0 := fd_zero (h _ (by omega))
theorem J.keep {l l' : List Int} {rs : List (List Int)} {e : Nat} (h : J l rs e) (hs : ∀ p, p < e → l'.getD p 0 = l.getD p 0) (hl : e ≤ l'.length) (hz : fd l' e = 0) : J l' rs e := ⟨it_same hs hl h.1, hz⟩
theorem J.more {l l' : List Int} {rs : List (List Int)} {e n : Nat} (h : J l rs e) (hs : ∀ p, p < e → l'.getD p 0 = l.getD p 0) (hn : OkAt l' e n) (hz : fd l' (e + 8 + n) = 0) : J l' (rs ++ [rc l' e n]) (e + 8 + n) := by
  have h0 := it_same hs (by have := hn.2.2.1; omega) h.1
  have hf := fd_ok hn
  have h1 := it_next h0 (by rw [hf]; have := hn.1; omega)
  rw [hf] at h1
  exact ⟨by rw [List.length_append]; exact h1, hz⟩
/-- an empty disk's journal -/
theorem J_zero (n : Nat) : J (List.replicate n 0) [] 0 := ⟨rfl, fd_zero (by rw [List.getD_eq_getElem?_getD, List.getElem?_replicate]; split <;> rfl)⟩
theorem Zb_zero (n e : Nat) : Zb (List.replicate n 0) e := fun p _ => by rw [List.getD_eq_getElem?_getD, List.getElem?_replicate]; split <;> rfl

/-! ### appending -/
/-- behind an append -/
def ap (bs now : List Int) (e : Nat) : List Int := wr (hd bs.length) (wr bs now (e + 8) bs.length) e 8
theorem ap_len (bs now : List Int) (e : Nat) : (ap bs now e).length = now.length := by unfold ap; rw [wr_len, wr_len]
theorem ap_get {bs now : List Int} {e : Nat} (h : e + 8 + bs.length ≤ now.length) (p : Nat) :
    (ap bs now e).getD p 0 = if e ≤ p ∧ p < e + 8 then (hd bs.length).getD (p - e) 0 else if e + 8 ≤ p ∧ p < e + 8 + bs.length then bs.getD (p - (e + 8)) 0 else now.getD p 0 := by
  unfold ap
  rw [wr_get _ _ _ _ _ (by rw [wr_len]; omega), wr_get _ _ _ _ _ (by omega)]
theorem ap_ok {bs now : List Int} {e : Nat} (h1 : 1 ≤ bs.length) (h2 : bs.length ≤ 1024) (h : e + 8 + bs.length ≤ now.length) : OkAt (ap bs now e) e bs.length :=
  ⟨h1, h2, by rw [ap_len]; exact h, fun i hi => by rw [ap_get h, if_pos (by omega)]; congr 1; omega⟩
theorem ap_rc {bs now X : List Int} {e : Nat} (h : e + 8 + bs.length ≤ now.length) (hX : ∀ p, e + 8 ≤ p → p < e + 8 + bs.length → X.getD p 0 = (ap bs now e).getD p 0) (hl : X.length = now.length) : rc X e bs.length = bs :=
  ext (by rw [rc_len (by omega)]) fun i hi => by
    rw [rc_len (by omega)] at hi
    rw [rc_get hi, hX _ (by omega) (by omega), ap_get h, if_neg (by omega), if_pos (by omega)]; congr 1; omega
theorem ap_J {bs now : List Int} {rs : List (List Int)} {e : Nat} (hJ : J now rs e) (hZ : Zb now e) (h1 : 1 ≤ bs.length) (h2 : bs.length ≤ 1024) (h : e + 8 + bs.length ≤ now.length) :
    J (ap bs now e) (rs ++ [bs]) (e + 8 + bs.length) ∧ Zb (ap bs now e) (e + 8 + bs.length) := by
  have hz : Zb (ap bs now e) (e + 8 + bs.length) := fun p hp => by rw [ap_get h, if_neg (by omega), if_neg (by omega)]; exact hZ p (by omega)
  have := hJ.more (fun p hp => by rw [ap_get h, if_neg (by omega), if_neg (by omega)]) (ap_ok h1 h2 h) (hz.fd (Nat.le_refl _))
  rw [ap_rc h (fun _ _ _ => rfl) (ap_len _ _ _)] at this
  exact ⟨this, hz⟩
/-- what is there as long as no head is: the records are as they were -/
theorem stay_J {now X : List Int} {rs : List (List Int)} {e : Nat} (hJ : J now rs e) (hZ : Zb now e) (hs : ∀ p, p < e + 8 → X.getD p 0 = now.getD p 0) (hl : X.length = now.length) : J X rs e :=
  hJ.keep (fun p hp => hs p (by omega)) (by rw [hl]; exact hJ.le) (fd_zero (by rw [hs _ (by omega)]; exact hZ _ (by omega)))
/-- a head of which each byte is there, or 0 -/
theorem torn_hd {X : List Int} {e n m : Nat} (hn : n ≤ 1024) (hX : ∀ i, i < 8 → X.getD (e + i) 0 = (hd n).getD i 0 ∨ X.getD (e + i) 0 = 0) (hm : OkAt X e m) : m = n := by
  obtain ⟨_, h2, _, h4⟩ := hm
  have c0 := hX 0 (by decide)
  have c1 := hX 1 (by decide)
  have c4 := hX 4 (by decide)
  have c5 := hX 5 (by decide)
  rw [h4 0 (by decide)] at c0
  rw [h4 1 (by decide)] at c1
  rw [h4 4 (by decide)] at c4
  rw [h4 5 (by decide)] at c5
  change ((m % 256 : Nat) : Int) = ((n % 256 : Nat) : Int) ∨ ((m % 256 : Nat) : Int) = 0 at c0
  change ((m / 256 % 256 : Nat) : Int) = ((n / 256 % 256 : Nat) : Int) ∨ ((m / 256 % 256 : Nat) : Int) = 0 at c1
  change 255 - ((m % 256 : Nat) : Int) = 255 - ((n % 256 : Nat) : Int) ∨ 255 - ((m % 256 : Nat) : Int) = 0 at c4
  change 255 - ((m / 256 % 256 : Nat) : Int) = 255 - ((n / 256 % 256 : Nat) : Int) ∨ 255 - ((m / 256 % 256 : Nat) : Int) = 0 at c5
  omega
/-- a torn append, whose bytes stand: the record is there whole, or it isn't -/
theorem torn_J {bs now X : List Int} {rs : List (List Int)} {e : Nat} (hJ : J now rs e) (hZ : Zb now e) (h1 : 1 ≤ bs.length) (h2 : bs.length ≤ 1024) (h : e + 8 + bs.length ≤ now.length) (hl : X.length = now.length)
    (hX : ∀ p, X.getD p 0 = (ap bs now e).getD p 0 ∨ (e ≤ p ∧ p < e + 8 ∧ X.getD p 0 = 0)) : J X rs e ∨ J X (rs ++ [bs]) (e + 8 + bs.length) := by
  have hs : ∀ p, p < e → X.getD p 0 = now.getD p 0 := fun p hp => by
    rcases hX p with k | k
    · rw [k, ap_get h, if_neg (by omega), if_neg (by omega)]
    · omega
  by_cases hf : fd X e = 0
  · exact .inl (hJ.keep hs (by rw [hl]; exact hJ.le) hf)
  · right
    have hok := fd_yes hf
    have en : fd X e = bs.length := torn_hd h2 (fun i hi => by
      rcases hX (e + i) with k | ⟨_, _, k⟩
      · left; rw [k, ap_get h, if_pos (by omega)]; congr 1; omega
      · exact .inr k) hok
    rw [en] at hok
    have := hJ.more hs hok (fd_zero (by
      rcases hX (e + 8 + bs.length + 6) with k | k
      · rw [k, ap_get h, if_neg (by omega), if_neg (by omega)]; exact hZ _ (by omega)
      · omega))
    rw [ap_rc h (fun p p1 p2 => by
      rcases hX p with k | k
      · exact k
      · omega) hl] at this
    exact this
/-- 0s behind e -/
def zb (l : List Int) (e : Nat) : List Int := wr (List.replicate (l.length - e) 0) l e (l.length - e)
theorem zb_len (l : List Int) (e : Nat) : (zb l e).length = l.length := by unfold zb; rw [wr_len]
theorem zb_get {l : List Int} {e : Nat} (h : e ≤ l.length) (p : Nat) : (zb l e).getD p 0 = if e ≤ p then 0 else l.getD p 0 := by
  unfold zb
  rw [wr_get _ _ _ _ _ (by omega)]
  by_cases h1 : e ≤ p
  · rw [if_pos h1]
    by_cases h2 : p < e + (l.length - e)
    · rw [if_pos ⟨h1, h2⟩, List.getD_eq_getElem?_getD, List.getElem?_replicate]; split <;> rfl
    · rw [if_neg (by omega), List.getD_eq_getElem?_getD, List.getElem?_eq_none (by omega)]; rfl
  · rw [if_neg (by omega), if_neg h1]
theorem zb_J {l : List Int} {rs : List (List Int)} {e : Nat} (h : J l rs e) : J (zb l e) rs e ∧ Zb (zb l e) e := by
  have hz : Zb (zb l e) e := fun p hp => by rw [zb_get h.le, if_pos hp]
  exact ⟨h.keep (fun p hp => by rw [zb_get h.le, if_neg (by omega)]) (by rw [zb_len]; exact h.le) (hz.fd (Nat.le_refl _)), hz⟩
theorem zb_same {l : List Int} {e : Nat} (hl : e ≤ l.length) (h : Zb l e) : zb l e = l := ext (zb_len _ _) fun p _ => by
  rw [zb_get hl]
  split
  · exact (h p (by assumption)).symm
  · rfl
/-- bytes -/
def By (l : List Int) : Prop := ∀ p, 0 ≤ l.getD p 0 ∧ l.getD p 0 < 256
theorem By.of {l : List Int} (h : ∀ x ∈ l, 0 ≤ x ∧ x < 256) : By l := fun p => by
  rcases Nat.lt_or_ge p l.length with k | k
  · rw [List.getD_eq_getElem?_getD, List.getElem?_eq_getElem k]; exact h _ (List.getElem_mem k)
  · rw [List.getD_eq_getElem?_getD, List.getElem?_eq_none k]; exact ⟨by decide, by decide⟩
theorem By.zs (n : Nat) : By (List.replicate n 0) := fun p => by rw [List.getD_eq_getElem?_getD, List.getElem?_replicate]; split <;> exact ⟨by decide, by decide⟩
theorem By.hd (n : Nat) : By (hd n) := By.of fun x hx => by
  simp only [Jk.hd, List.mem_cons, List.not_mem_nil, or_false] at hx
  rcases hx with rfl | rfl | rfl | rfl | rfl | rfl | rfl | rfl <;> omega
theorem By.wr {bs now : List Int} {p L : Nat} (h : By bs) (h' : By now) (hp : p + L ≤ now.length) : By (wr bs now p L) := fun q => by
  rw [wr_get _ _ _ _ _ hp]; split
  · exact h _
  · exact h' _
theorem By.ap {bs now : List Int} {e : Nat} (h : By bs) (h' : By now) (he : e + 8 + bs.length ≤ now.length) : By (ap bs now e) := fun q => by
  rw [ap_get he]; split
  · exact By.hd _ _
  · split
    · exact h _
    · exact h' _
theorem By.zb {now : List Int} {e : Nat} (h : By now) (he : e ≤ now.length) : By (zb now e) := fun q => by
  rw [zb_get he]; split
  · exact ⟨by decide, by decide⟩
  · exact h _
theorem By.crash {st now dr picks : List Int} {m : Nat} (h : By st) (h' : By now) (hm : 64 * m ≤ st.length) : By (crash st now dr picks m) := fun q => by
  rw [crash_get _ _ _ _ _ _ hm]; split
  · exact h' _
  · exact h _
/-- how great a record may be appended -/
def fr (n e : Nat) : Nat := if n - (e + 8) < 1024 then n - (e + 8) else 1024
theorem fr_ok {n e L : Nat} (h1 : 1 ≤ L) (h : L ≤ fr n e) : e + 8 + L ≤ n ∧ L ≤ 1024 := by unfold fr at h; split at h <;> omega
end Go.Proofs.Ytghepjppjmpihaa.Jk
