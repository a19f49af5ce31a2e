/- The stable sort of places by their rests, greatest first: the plain half, no program in sight. -/
import Derived.Sort.LotA
namespace Go.Proofs.Ytinimjejdkcodaa.Ss
open Go.Sort
variable (k : Nat → Nat)
/-- x goes ahead of y: its rest is greater -/
def lt (x y : Nat) : Bool := decide (k y < k x)
/-- x goes ahead of y: its rest is greater, or it is the same and x is the earlier place -/
def R (x y : Nat) : Bool := decide (k y < k x ∨ (k x = k y ∧ x < y))
variable {k}
theorem R_t {x y : Nat} : R k x y = true ↔ k y < k x ∨ (k x = k y ∧ x < y) := by simp [R]
theorem R_f {x y : Nat} : R k x y = false ↔ ¬ (k y < k x ∨ (k x = k y ∧ x < y)) := by simp only [R, decide_eq_false_iff_not]
theorem lt_t {x y : Nat} : lt k x y = true ↔ k y < k x := by simp [lt]
theorem lt_f {x y : Nat} : lt k x y = false ↔ ¬ k y < k x := by simp only [lt, decide_eq_false_iff_not]
theorem swo : SWO (R k) where
  irrefl x := by rw [R_f]; omega
  trans x y z := by simp only [R_t]; omega
  ntrans x y z := by simp only [R_f]; omega
/-- of an earlier x and a later y: y goes ahead of x just where its rest is greater -/
theorem lt_R {x y : Nat} (h : x < y) : lt k y x = R k y x := by
  cases e : R k y x with
  | true => rw [R_t] at e; rw [lt_t]; omega
  | false => rw [R_f] at e; rw [lt_f]; omega

/-! ### the insertion sort -/
theorem insInner_R (a : Nat) : ∀ (j : Nat) (d : Array Nat), j < d.size → (∀ p, a ≤ p → p < j → d[p]! < d[j]!) → insInner (lt k) a j d = insInner (R k) a j d
  | 0, d, _, _ => by simp [insInner]
  | j + 1, d, hs, h => by
    unfold insInner
    by_cases ha : j + 1 > a
    · have e := lt_R (k := k) (h j (by omega) (by omega))
      simp only [ha, decide_true, Bool.true_and]
      rw [e]
      split
      · have g := swp_get d hs (show j < d.size by omega)
        refine insInner_R a j _ (by rw [size_swp]; omega) fun p h1 h2 => ?_
        rw [g, g, if_neg (by omega), if_neg (by omega), if_pos rfl]
        exact h p h1 (by omega)
      · rfl
    · simp [ha]
theorem insOuter_R (a b : Nat) : ∀ (n i : Nat) (d : Array Nat), b - i = n → a < i → b ≤ d.size → SortedIn (R k) a i d → (∀ p q, a ≤ p → p < q → i ≤ q → q < b → d[p]! < d[q]!) → insOuter (lt k) a b i d = insOuter (R k) a b i d
  | 0, i, d, hn, _, _, _, _ => by unfold insOuter; rw [if_neg (by omega), if_neg (by omega)]
  | n + 1, i, d, hn, hai, hb, hs, h => by
    have hib : i < b := by omega
    unfold insOuter
    rw [if_pos hib, if_pos hib, insInner_R a i d (by omega) (fun p h1 h2 => h p i h1 h2 (Nat.le_refl _) hib)]
    have hI : Ins (R k) a i i d := ⟨fun p q hap hpq hqi _ hq => hs p q hap hpq (by omega), fun q h1 h2 => by omega⟩
    have sp := insInner_spec (lt := R k) swo swp_permIn permIn_refl permIn_trans a (i + 1) i (by omega) i d (by omega) (Nat.le_refl _) (by omega) hI
    refine insOuter_R a b n (i + 1) _ (by omega) (by omega) (by rw [sp.1.1]; exact hb) sp.2 fun p q h1 h2 h3 h4 => ?_
    have eq : (insInner (R k) a i d)[q]! = d[q]! := sp.1.2.1 q (Or.inr h3)
    rw [eq]
    by_cases hp : p < i + 1
    · exact permIn_all d _ a (i + 1) (fun x => x < d[q]!) (by omega) sp.1 (fun t h5 h6 => h t q h5 (by omega) (by omega) h4) p h1 hp
    · rw [sp.1.2.1 p (Or.inr (by omega))]
      exact h p q h1 h2 (by omega) h4
/-- of ascending places the insertion sort is the one by rest and place -/
theorem ins (d : Array Nat) (a b : Nat) (hab : a ≤ b) (hb : b ≤ d.size) (h : ∀ p q, a ≤ p → p < q → q < b → d[p]! < d[q]!) :
    PermIn a b d (insertionSort (lt k) d a b) ∧ SortedIn (R k) a b (insertionSort (lt k) d a b) := by
  have e : insertionSort (lt k) d a b = insertionSort (R k) d a b := by
    unfold insertionSort
    exact insOuter_R a b _ (a + 1) d rfl (by omega) hb (fun i j h1 h2 h3 => by omega) fun p q h1 h2 h3 h4 => h p q h1 h2 h4
  rw [e]
  exact insertionSort_holds swo d a b hab hb

/-! ### ranges that are exchanged, and turned -/
/-- the ranges of i places at a and at b were exchanged -/
def Swr (d : Array Nat) (a b i : Nat) (e : Array Nat) : Prop := e.size = d.size ∧ ∀ q, e[q]! = if a ≤ q ∧ q < a + i then d[q - a + b]! else if b ≤ q ∧ q < b + i then d[q - b + a]! else d[q]!
theorem Swr.zero (d : Array Nat) (a b : Nat) : Swr d a b 0 d := ⟨rfl, fun q => by rw [if_neg (by omega), if_neg (by omega)]⟩
theorem Swr.succ {d e : Array Nat} {a b i : Nat} (h : Swr d a b i e) (hab : a + i < b) (hb : b + i < d.size) : Swr d a b (i + 1) (swp e (a + i) (b + i)) := by
  refine ⟨by rw [size_swp]; exact h.1, fun q => ?_⟩
  rw [swp_get e (by rw [h.1]; omega) (by rw [h.1]; exact hb)]
  have hh := h.2
  by_cases h1 : q = b + i
  · subst h1
    rw [if_pos rfl, hh, if_neg (by omega), if_neg (by omega), if_neg (by omega), if_pos (by omega)]
    congr 1; omega
  · rw [if_neg h1]
    by_cases h2 : q = a + i
    · subst h2
      rw [if_pos rfl, hh, if_neg (by omega), if_neg (by omega), if_pos (by omega)]
      congr 1; omega
    · rw [if_neg h2, hh]
      by_cases h3 : a ≤ q ∧ q < a + i
      · rw [if_pos h3, if_pos (by omega)]
      · rw [if_neg h3, if_neg (show ¬ (a ≤ q ∧ q < a + (i + 1)) by omega)]
        by_cases h4 : b ≤ q ∧ q < b + i
        · rw [if_pos h4, if_pos (by omega)]
        · rw [if_neg h4, if_neg (by omega)]
/-- the parts [a, m) and [m, b) have changed places -/
def Rot (d : Array Nat) (a m b : Nat) (e : Array Nat) : Prop := e.size = d.size ∧ ∀ q, e[q]! = if a ≤ q ∧ q < a + (b - m) then d[q + (m - a)]! else if a + (b - m) ≤ q ∧ q < b then d[q - (b - m)]! else d[q]!
theorem Rot.left {d e f : Array Nat} {m i j : Nat} (hm : i ≤ m) (hij : j < i) (h : Swr d (m - i) m j e) (g : Rot e (m - (i - j)) m (m + j) f) : Rot d (m - i) m (m + j) f := by
  refine ⟨g.1.trans h.1, fun q => ?_⟩
  rw [g.2 q]
  have hh := h.2
  by_cases h1 : m - i ≤ q ∧ q < m - i + (m + j - m)
  · rw [if_neg (by omega), if_neg (by omega), hh, if_pos (by omega), if_pos h1]
    congr 1; omega
  · by_cases h2 : m - (i - j) ≤ q ∧ q < m - (i - j) + (m + j - m)
    · rw [if_pos h2, if_neg h1, if_pos (by omega), hh]
      by_cases h3 : q + (m - (m - (i - j))) < m
      · omega
      · rw [if_neg (by omega), if_pos (by omega)]
        congr 1; omega
    · by_cases h3 : m - (i - j) + (m + j - m) ≤ q ∧ q < m + j
      · rw [if_neg h2, if_pos h3, if_neg h1, if_pos (by omega), hh, if_neg (by omega), if_neg (by omega)]
      · rw [if_neg h2, if_neg h3, if_neg h1, if_neg (by omega), hh, if_neg (by omega), if_neg (by omega)]
theorem Rot.right {d e f : Array Nat} {m i j : Nat} (hm : i ≤ m) (hij : i < j) (h : Swr d (m - i) (m + j - i) i e) (g : Rot e (m - i) m (m + (j - i)) f) : Rot d (m - i) m (m + j) f := by
  refine ⟨g.1.trans h.1, fun q => ?_⟩
  rw [g.2 q]
  have hh := h.2
  by_cases h1 : m - i ≤ q ∧ q < m - i + (m + (j - i) - m)
  · rw [if_pos h1, if_pos (by omega), hh, if_neg (by omega), if_neg (by omega)]
  · by_cases h2 : m - i + (m + (j - i) - m) ≤ q ∧ q < m + (j - i)
    · rw [if_neg h1, if_pos h2, hh, if_pos (by omega), if_pos (by omega)]
      congr 1; omega
    · by_cases h3 : m + (j - i) ≤ q ∧ q < m + j
      · rw [if_neg h1, if_neg h2, hh, if_neg (by omega), if_pos (by omega), if_neg (by omega), if_pos (by omega)]
        congr 1; omega
      · rw [if_neg h1, if_neg h2, hh, if_neg (by omega), if_neg (by omega), if_neg (by omega), if_neg (by omega)]
theorem Rot.even {d e : Array Nat} {m i : Nat} (hm : i ≤ m) (h : Swr d (m - i) m i e) : Rot d (m - i) m (m + i) e := by
  refine ⟨h.1, fun q => ?_⟩
  rw [h.2 q]
  by_cases h1 : m - i ≤ q ∧ q < m - i + i
  · rw [if_pos h1, if_pos (by omega)]; congr 1; omega
  · rw [if_neg h1, if_neg (show ¬ (m - i ≤ q ∧ q < m - i + (m + i - m)) by omega)]
    by_cases h2 : m ≤ q ∧ q < m + i
    · rw [if_pos h2, if_pos (by omega)]; congr 1; omega
    · rw [if_neg h2, if_neg (by omega)]
/-- nothing to turn -/
theorem Rot.none (d : Array Nat) {a m b : Nat} (ham : a ≤ m) (hmb : m ≤ b) (h : a = m ∨ m = b) : Rot d a m b d := by
  refine ⟨rfl, fun q => ?_⟩
  by_cases h1 : a ≤ q ∧ q < a + (b - m)
  · rw [if_pos h1]; congr 1; omega
  · rw [if_neg h1]
    by_cases h2 : a + (b - m) ≤ q ∧ q < b
    · rw [if_pos h2]; congr 1; omega
    · rw [if_neg h2]
/-- one place goes up, step by step -/
theorem Rot.up {d e : Array Nat} {a c : Nat} (hc : a < c) (h : Rot d a (a + 1) c e) (hb : c < d.size) : Rot d a (a + 1) (c + 1) (swp e (c - 1) c) := by
  refine ⟨by rw [size_swp]; exact h.1, fun q => ?_⟩
  rw [swp_get e (by rw [h.1]; omega) (by rw [h.1]; omega)]
  have hh := h.2
  by_cases h1 : q = c
  · subst h1
    rw [if_pos rfl, hh, if_neg (by omega), if_pos (by omega), if_neg (by omega), if_pos (by omega)]
    congr 1; omega
  · rw [if_neg h1]
    by_cases h2 : q = c - 1
    · subst h2
      rw [if_pos rfl, hh, if_neg (by omega), if_neg (by omega), if_pos (by omega)]
      congr 1; omega
    · rw [if_neg h2, hh]
      by_cases h3 : a ≤ q ∧ q < a + (c - (a + 1))
      · rw [if_pos h3, if_pos (by omega)]
      · rw [if_neg h3, if_neg (by omega), if_neg (by omega), if_neg (by omega)]
/-- one place goes down, step by step -/
theorem Rot.down {d e : Array Nat} {i m : Nat} (hi : i < m) (h : Rot d i m (m + 1) e) (i' : Nat) (hi' : i' + 1 = i) (hb : m < d.size) : Rot d i' m (m + 1) (swp e i i') := by
  refine ⟨by rw [size_swp]; exact h.1, fun q => ?_⟩
  rw [swp_get e (by rw [h.1]; omega) (by rw [h.1]; omega)]
  have hh := h.2
  by_cases h1 : q = i'
  · subst h1
    rw [if_pos rfl, hh, if_pos (by omega), if_pos (by omega)]
    congr 1; omega
  · rw [if_neg h1]
    by_cases h2 : q = i
    · subst h2
      rw [if_pos rfl, hh, if_neg (by omega), if_neg (by omega), if_neg (by omega), if_pos (by omega)]
      congr 1; omega
    · rw [if_neg h2, hh, if_neg (show ¬ (i' ≤ q ∧ q < i' + (m + 1 - m)) by omega)]
      by_cases h3 : i + (m + 1 - m) ≤ q ∧ q < m + 1
      · rw [if_neg (by omega), if_pos h3, if_pos (by omega)]
      · rw [if_neg (by omega), if_neg h3, if_neg (by omega)]
theorem Rot.down_le {d e : Array Nat} {i m : Nat} (hi : i ≤ m) (h : Rot d i m (m + 1) e) (i' : Nat) (hi' : i' + 1 = i) (hb : m < d.size) : Rot d i' m (m + 1) (swp e i i') := by
  rcases Nat.lt_or_ge i m with x | x
  · exact h.down x i' hi' hb
  · obtain rfl : i = m := by omega
    refine ⟨by rw [size_swp]; exact h.1, fun q => ?_⟩
    rw [swp_get e (by rw [h.1]; omega) (by rw [h.1]; omega)]
    have hh := h.2
    by_cases h1 : q = i'
    · subst h1
      rw [if_pos rfl, hh, if_pos (by omega), if_pos (by omega)]
      congr 1; omega
    · rw [if_neg h1]
      by_cases h2 : q = i
      · subst h2
        rw [if_pos rfl, hh, if_neg (by omega), if_neg (by omega), if_neg (by omega), if_pos (by omega)]
        congr 1; omega
      · rw [if_neg h2, hh, if_neg (show ¬ (i' ≤ q ∧ q < i' + (i + 1 - i)) by omega), if_neg (by omega), if_neg (by omega), if_neg (by omega)]

/-! ### the merge -/
/-- sorted parts [a, m) and [m, b), and what is in the first is of an earlier place -/
structure Pre (k : Nat → Nat) (a m b : Nat) (d : Array Nat) : Prop where
  l : SortedIn (R k) a m d
  r : SortedIn (R k) m b d
  e : ∀ p q, a ≤ p → p < m → m ≤ q → q < b → d[p]! < d[q]!
/-- sorted, the same places -/
def Post (k : Nat → Nat) (a b : Nat) (d e : Array Nat) : Prop := PermIn a b d e ∧ SortedIn (R k) a b e

/-- further on in the first part, or less far in the second: a goes-ahead stays -/
theorem Pre.lt_mono {a m b p p' h h' : Nat} {d : Array Nat} (P : Pre k a m b d) (hp : a ≤ p) (hpp : p ≤ p') (hpm : p' < m) (hh : m ≤ h') (hhh : h' ≤ h) (hb : h < b) (e : lt k d[h]! d[p]! = true) : lt k d[h']! d[p']! = true := by
  rw [lt_R (P.e p h hp (by omega) (by omega) hb)] at e
  rw [lt_R (P.e p' h' (by omega) hpm hh (by omega))]
  have e1 : R k d[p']! d[p]! = false := by
    rcases Nat.lt_or_ge p p' with x | x
    · exact P.l p p' hp x hpm
    · obtain rfl : p = p' := by omega
      exact swo.irrefl _
  have e2 : R k d[h]! d[h']! = false := by
    rcases Nat.lt_or_ge h' h with x | x
    · exact P.r h' h hh x hb
    · obtain rfl : h = h' := by omega
      exact swo.irrefl _
  cases e3 : R k d[h']! d[p']! with
  | true => rfl
  | false => exact absurd e (by rw [swo.ntrans _ _ _ e2 (swo.ntrans _ _ _ e3 e1)]; decide)
theorem Pre.f {a m b p h : Nat} {d : Array Nat} (P : Pre k a m b d) (hp : a ≤ p) (hpm : p < m) (hh : m ≤ h) (hb : h < b) (e : lt k d[h]! d[p]! = false) : R k d[h]! d[p]! = false := by rwa [lt_R (P.e p h hp hpm hh hb)] at e
theorem Pre.t {a m b p h : Nat} {d : Array Nat} (P : Pre k a m b d) (hp : a ≤ p) (hpm : p < m) (hh : m ≤ h) (hb : h < b) (e : lt k d[h]! d[p]! = true) : R k d[p]! d[h]! = false := by
  rw [lt_R (P.e p h hp hpm hh hb)] at e; exact swo.asymmA e

/-- the cut: all of the first part ahead of s goes ahead of all of the second behind t, and the other way round -/
theorem halves {a m b s t : Nat} {d e : Array Nat} (P : Pre k a m b d) (has : a ≤ s) (hsm : s ≤ m) (hmt : m ≤ t) (htb : t ≤ b)
    (h1 : a < s → t < b → R k d[t]! d[s - 1]! = false) (h2 : m < t → s < m → R k d[s]! d[t - 1]! = false) (hR : Rot d s m t e) :
    Pre k a s (s + (t - m)) e ∧ Pre k (s + (t - m)) t b e ∧ ∀ p q, a ≤ p → p < s + (t - m) → s + (t - m) ≤ q → q < b → R k e[q]! e[p]! = false := by
  have g := hR.2
  have g1 : ∀ p, p < s → e[p]! = d[p]! := fun p hp => by rw [g, if_neg (by omega), if_neg (by omega)]
  have g2 : ∀ p, s ≤ p → p < s + (t - m) → e[p]! = d[p + (m - s)]! := fun p hp hq => by rw [g, if_pos (by omega)]
  have g3 : ∀ p, s + (t - m) ≤ p → p < t → e[p]! = d[p - (t - m)]! := fun p hp hq => by rw [g, if_neg (by omega), if_pos (by omega)]
  have g4 : ∀ p, t ≤ p → e[p]! = d[p]! := fun p hp => by rw [g, if_neg (by omega), if_neg (by omega)]
  have le_refl : ∀ x, R k x x = false := swo.irrefl
  have L : ∀ p q, a ≤ p → p ≤ q → q < m → R k d[q]! d[p]! = false := fun p q x1 x2 x3 => by
    rcases Nat.lt_or_ge p q with h | h
    · exact P.l p q x1 h x3
    · obtain rfl : p = q := by omega
      exact le_refl _
  have Rr : ∀ p q, m ≤ p → p ≤ q → q < b → R k d[q]! d[p]! = false := fun p q x1 x2 x3 => by
    rcases Nat.lt_or_ge p q with h | h
    · exact P.r p q x1 h x3
    · obtain rfl : p = q := by omega
      exact le_refl _
  refine ⟨⟨?_, ?_, ?_⟩, ⟨?_, ?_, ?_⟩, ?_⟩
  · intro p q x1 x2 x3
    rw [g1 p (by omega), g1 q x3]; exact P.l p q x1 x2 (by omega)
  · intro p q x1 x2 x3
    rw [g2 p x1 (by omega), g2 q (by omega) x3]; exact P.r _ _ (by omega) (by omega) (by omega)
  · intro p q x1 x2 x3 x4
    rw [g1 p x2, g2 q x3 x4]; exact P.e _ _ x1 (by omega) (by omega) (by omega)
  · intro p q x1 x2 x3
    rw [g3 p x1 (by omega), g3 q (by omega) x3]; exact P.l _ _ (by omega) (by omega) (by omega)
  · intro p q x1 x2 x3
    rw [g4 p x1, g4 q (by omega)]; exact P.r _ _ (by omega) x2 x3
  · intro p q x1 x2 x3 x4
    rw [g3 p x1 x2, g4 q x3]; exact P.e _ _ (by omega) (by omega) (by omega) x4
  · intro p q x1 x2 x3 x4
    by_cases hp : p < s
    · rw [g1 p hp]
      by_cases hq : q < t
      · rw [g3 q x3 hq]; exact P.l _ _ x1 (by omega) (by omega)
      · rw [g4 q (by omega)]
        exact swo.ntrans _ _ _ (Rr t q (by omega) (by omega) x4) (swo.ntrans _ _ _ (h1 (by omega) (by omega)) (L p (s - 1) x1 (by omega) (by omega)))
    · rw [g2 p (by omega) x2]
      by_cases hq : q < t
      · rw [g3 q x3 hq]
        exact swo.ntrans _ _ _ (L s _ (by omega) (by omega) (by omega)) (swo.ntrans _ _ _ (h2 (by omega) (by omega)) (Rr _ (t - 1) (by omega) (by omega) (by omega)))
      · rw [g4 q (by omega)]; exact P.r _ _ (by omega) (by omega) x4

theorem sorted_of_halves {a c b : Nat} {e : Array Nat} (h1 : SortedIn (R k) a c e) (h2 : SortedIn (R k) c b e) (h3 : ∀ p q, a ≤ p → p < c → c ≤ q → q < b → R k e[q]! e[p]! = false) : SortedIn (R k) a b e := by
  intro p q x1 x2 x3
  by_cases hq : q < c
  · exact h1 p q x1 x2 hq
  · by_cases hp : p < c
    · exact h3 p q x1 hp (by omega) x3
    · exact h2 p q (by omega) x2 x3

/-- both halves sorted: all is -/
theorem glue {a c b : Nat} {e f g : Array Nat} (hac : a ≤ c) (hcb : c ≤ b) (hb : b ≤ e.size) (h3 : ∀ p q, a ≤ p → p < c → c ≤ q → q < b → R k e[q]! e[p]! = false) (hf : Post k a c e f) (hg : Post k c b f g) : Post k a b e g := by
  have sf : f.size = e.size := hf.1.1
  have sg : g.size = f.size := hg.1.1
  refine ⟨permIn_trans _ _ _ _ _ (permIn_mono e f a c a b (Nat.le_refl _) hcb hb hf.1) (permIn_mono f g c b a b hac (Nat.le_refl _) (by rw [sf]; exact hb) hg.1), ?_⟩
  refine sorted_of_halves (c := c) (fun p q x1 x2 x3 => ?_) hg.2 fun p q x1 x2 x3 x4 => ?_
  · rw [hg.1.2.1 p (Or.inl (by omega)), hg.1.2.1 q (Or.inl x3)]; exact hf.2 p q x1 x2 x3
  · rw [hg.1.2.1 p (Or.inl x2)]
    refine permIn_all f g c b (fun x => R k x f[p]! = false) (by rw [sf]; exact hb) hg.1 (fun i y1 y2 => ?_) q x3 x4
    rw [hf.1.2.1 i (Or.inr y1)]
    exact permIn_all e f a c (fun x => R k e[i]! x = false) (by omega) hf.1 (fun j z1 z2 => h3 j i z1 z2 y1 y2) p x1 x2
theorem Post.refl {a b : Nat} {d : Array Nat} (h : SortedIn (R k) a b d) : Post k a b d d := ⟨permIn_refl d a b, h⟩
theorem Post.after {a b s t : Nat} {d e f : Array Nat} (hb : b ≤ d.size) (hs : a ≤ s) (ht : t ≤ b) (h : PermIn s t d e) (g : Post k a b e f) : Post k a b d f := ⟨permIn_trans _ _ _ _ _ (permIn_mono d e s t a b hs ht hb h) g.1, g.2⟩
/-- one of the parts is empty: it is sorted -/
theorem Pre.sorted {a m b : Nat} {d : Array Nat} (P : Pre k a m b d) (h : m ≤ a ∨ b ≤ m) : SortedIn (R k) a b d := by
  intro p q x1 x2 x3
  rcases h with h | h
  · exact P.r p q (by omega) x2 x3
  · exact P.l p q x1 x2 (by omega)
/-- a first part of one place: it goes to its place -/
theorem one_left {a i b : Nat} {d e : Array Nat} (P : Pre k a (a + 1) b d) (hi : a + 1 ≤ i) (hib : i ≤ b)
    (h1 : i < b → R k d[i]! d[a]! = false) (h2 : a + 1 < i → R k d[a]! d[i - 1]! = false) (hR : Rot d a (a + 1) i e) : SortedIn (R k) a b e := by
  obtain ⟨_, q2, q3⟩ := halves (s := a) (t := i) P (Nat.le_refl _) (by omega) hi hib (fun h => by omega) (fun h _ => h2 h) hR
  obtain ⟨q1, _⟩ := halves (s := a) (t := i) P (Nat.le_refl _) (by omega) hi hib (fun h => by omega) (fun h _ => h2 h) hR
  refine sorted_of_halves (q1.sorted (Or.inl (Nat.le_refl _))) ?_ q3
  refine sorted_of_halves q2.l q2.r fun p q x1 x2 x3 x4 => ?_
  obtain rfl : p = i - 1 := by omega
  rw [hR.2 q, hR.2 (i - 1), if_neg (by omega), if_neg (by omega), if_neg (by omega), if_pos (by omega), show i - 1 - (i - (a + 1)) = a by omega]
  rcases Nat.lt_or_ge i q with h | h
  · exact swo.ntrans _ _ _ (P.r i q (by omega) h x4) (h1 (by omega))
  · obtain rfl : i = q := by omega
    exact h1 x4
/-- a second part of one place: it goes to its place -/
theorem one_right {a i m : Nat} {d e : Array Nat} (P : Pre k a m (m + 1) d) (hi : a ≤ i) (him : i ≤ m)
    (h1 : a < i → R k d[m]! d[i - 1]! = false) (h2 : i < m → R k d[i]! d[m]! = false) (hR : Rot d i m (m + 1) e) : SortedIn (R k) a (m + 1) e := by
  obtain ⟨q1, q2, q3⟩ := halves (s := i) (t := m + 1) P hi him (by omega) (Nat.le_refl _) (fun h h' => by omega) (fun _ h => h2 h) hR
  rw [show i + (m + 1 - m) = i + 1 by omega] at q1 q2 q3
  refine sorted_of_halves (sorted_of_halves q1.l q1.r fun p q x1 x2 x3 x4 => ?_) (q2.sorted (Or.inr (Nat.le_refl _))) q3
  obtain rfl : q = i := by omega
  rw [hR.2 q, hR.2 p, if_pos (by omega), if_neg (by omega), if_neg (by omega), show q + (m - q) = m by omega]
  rcases Nat.lt_or_ge p (q - 1) with h | h
  · exact swo.ntrans _ _ _ (h1 (by omega)) (P.l p (q - 1) x1 h (by omega))
  · obtain rfl : p = q - 1 := by omega
    exact h1 (by omega)

/-! ### runs -/
/-- the places of [a, b), sorted -/
def Run (k : Nat → Nat) (a b : Nat) (d : Array Nat) : Prop := (∀ p, a ≤ p → p < b → a ≤ d[p]! ∧ d[p]! < b) ∧ SortedIn (R k) a b d
theorem Run.pre {a m b : Nat} {d : Array Nat} (h1 : Run k a m d) (h2 : Run k m b d) : Pre k a m b d :=
  ⟨h1.2, h2.2, fun p q x1 x2 x3 x4 => by have := (h1.1 p x1 x2).2; have := (h2.1 q x3 x4).1; omega⟩
theorem Run.merged {a m b : Nat} {d e : Array Nat} (ham : a ≤ m) (hmb : m ≤ b) (hb : b ≤ d.size) (h1 : Run k a m d) (h2 : Run k m b d) (h : Post k a b d e) : Run k a b e :=
  ⟨fun p x1 x2 => permIn_all d e a b (fun x => a ≤ x ∧ x < b) hb h.1 (fun i y1 y2 => by
    by_cases hi : i < m
    · have := h1.1 i y1 hi; omega
    · have := h2.1 i (by omega) y2; omega) p x1 x2, h.2⟩
theorem Run.other {a b s t : Nat} {d e : Array Nat} (h : Run k a b d) (hp : PermIn s t d e) (ho : b ≤ s ∨ t ≤ a) : Run k a b e := by
  have g : ∀ p, a ≤ p → p < b → e[p]! = d[p]! := fun p x1 x2 => hp.2.1 p (by omega)
  exact ⟨fun p x1 x2 => by rw [g p x1 x2]; exact h.1 p x1 x2, fun p q x1 x2 x3 => by rw [g p x1 (by omega), g q (by omega) x3]; exact h.2 p q x1 x2 x3⟩
theorem Run.start {a b : Nat} {d e : Array Nat} (hab : a ≤ b) (hb : b ≤ d.size) (h : ∀ p, a ≤ p → p < b → d[p]! = p) (he : e = insertionSort (lt k) d a b) : Run k a b e ∧ PermIn a b d e := by
  subst he
  have q := ins (k := k) d a b hab hb fun p q x1 x2 x3 => by rw [h p x1 (by omega), h q (by omega) x3]; exact x2
  exact ⟨⟨fun p x1 x2 => permIn_all d _ a b (fun x => a ≤ x ∧ x < b) hb q.1 (fun i y1 y2 => by rw [h i y1 y2]; exact ⟨y1, y2⟩) p x1 x2, q.2⟩, q.1⟩
/-- the blocks of B places from a on, up to c, are runs (the last one may be short) -/
def Runs (k : Nat → Nat) (n B a c : Nat) (d : Array Nat) : Prop := ∀ j, a ≤ j * B → j * B < c → Run k (j * B) (min (j * B + B) n) d
theorem Runs.weaken {n B a a' c : Nat} {d e : Array Nat} (h : Runs k n B a c d) (haa : a ≤ a') (hp : PermIn a a' d e) : Runs k n B a' c e := fun j x1 x2 => (h j (by omega) x2).other hp (Or.inr x1)
theorem Runs.grow {n B t : Nat} {d e : Array Nat} (_ : 0 < B) (h : Runs k n B 0 (t * B) d) (hn : t * B + B ≤ n) (hp : PermIn (t * B) (t * B + B) d e) (hr : Run k (t * B) (t * B + B) e) : Runs k n B 0 (t * B + B) e := by
  intro j _ x2
  have hj : j ≤ t := by
    rcases Nat.lt_or_ge t j with h1 | h1
    · have := Nat.mul_le_mul_right B (show t + 1 ≤ j from h1); rw [Nat.add_mul, Nat.one_mul] at this; omega
    · exact h1
  rcases Nat.lt_or_ge j t with h1 | h1
  · have h2 := Nat.mul_le_mul_right B (show j + 1 ≤ t from h1)
    rw [Nat.add_mul, Nat.one_mul] at h2
    exact (h j (Nat.zero_le _) (by omega)).other hp (Or.inl (by omega))
  · obtain rfl : j = t := by omega
    rw [Nat.min_eq_left hn]; exact hr
/-- the last block, short or none -/
theorem Runs.last {n B t : Nat} {d e : Array Nat} (hB : 0 < B) (h : Runs k n B 0 (t * B) d) (hn : n < t * B + B) (htn : t * B ≤ n) (hp : PermIn (t * B) n d e) (hr : Run k (t * B) n e) : Runs k n B 0 n e := by
  intro j _ x2
  have hj : j ≤ t := by
    rcases Nat.lt_or_ge t j with h1 | h1
    · have := Nat.mul_le_mul_right B (show t + 1 ≤ j from h1); rw [Nat.add_mul, Nat.one_mul] at this; omega
    · exact h1
  rcases Nat.lt_or_ge j t with h1 | h1
  · have h2 := Nat.mul_le_mul_right B (show j + 1 ≤ t from h1)
    rw [Nat.add_mul, Nat.one_mul] at h2
    exact (h j (Nat.zero_le _) (by omega)).other hp (Or.inl (by omega))
  · obtain rfl : j = t := by omega
    rw [Nat.min_eq_right (by omega)]; exact hr
/-- two blocks of B from a place on that is a multiple of 2B -/
theorem Runs.pair {n B t : Nat} {d : Array Nat} (hB : 0 < B) (h : Runs k n B (t * (2 * B)) n d) (hn : t * (2 * B) + 2 * B ≤ n) : Run k (t * (2 * B)) (t * (2 * B) + B) d ∧ Run k (t * (2 * B) + B) (t * (2 * B) + 2 * B) d := by
  have e1 : t * (2 * B) = (2 * t) * B := by rw [← Nat.mul_assoc, Nat.mul_comm t 2]
  have e2 : t * (2 * B) + B = (2 * t + 1) * B := by rw [e1, Nat.add_mul, Nat.one_mul]
  have a1 := h (2 * t) (by omega) (by omega)
  have a2 := h (2 * t + 1) (by omega) (by omega)
  rw [← e1, Nat.min_eq_left (by omega)] at a1
  rw [← e2, Nat.min_eq_left (by omega)] at a2
  exact ⟨a1, by rwa [show t * (2 * B) + B + B = t * (2 * B) + 2 * B by omega] at a2⟩
theorem Runs.rest {n B t : Nat} {d : Array Nat} (hB : 0 < B) (h : Runs k n B (t * (2 * B)) n d) (hn : n < t * (2 * B) + 2 * B) (hm : t * (2 * B) + B < n) : Run k (t * (2 * B)) (t * (2 * B) + B) d ∧ Run k (t * (2 * B) + B) n d := by
  have e1 : t * (2 * B) = (2 * t) * B := by rw [← Nat.mul_assoc, Nat.mul_comm t 2]
  have e2 : t * (2 * B) + B = (2 * t + 1) * B := by rw [e1, Nat.add_mul, Nat.one_mul]
  have a1 := h (2 * t) (by omega) (by omega)
  have a2 := h (2 * t + 1) (by omega) (by omega)
  rw [← e1, Nat.min_eq_left (by omega)] at a1
  rw [← e2, Nat.min_eq_right (by omega)] at a2
  exact ⟨a1, a2⟩
theorem Runs.alone {n B t : Nat} {d : Array Nat} (_ : 0 < B) (h : Runs k n B (t * (2 * B)) n d) (hm : n ≤ t * (2 * B) + B) (ht : t * (2 * B) < n) : Run k (t * (2 * B)) n d := by
  have e1 : t * (2 * B) = (2 * t) * B := by rw [← Nat.mul_assoc, Nat.mul_comm t 2]
  have a1 := h (2 * t) (by omega) (by omega)
  rwa [← e1, Nat.min_eq_right (by omega)] at a1
theorem Run.empty {a : Nat} {d : Array Nat} {b : Nat} (h : b ≤ a) : Run k a b d := ⟨fun p x1 x2 => by omega, fun p q x1 x2 x3 => by omega⟩
theorem Runs.all {n B : Nat} {d : Array Nat} (h : Runs k n B 0 n d) (hB : n ≤ B) : Run k 0 n d := by
  by_cases hn : n = 0
  · subst hn; exact Run.empty (Nat.le_refl _)
  · have a := h 0 (by omega) (by omega)
    rwa [Nat.zero_mul, Nat.zero_add, Nat.min_eq_right hB] at a
end Go.Proofs.Ytinimjejdkcodaa.Ss
