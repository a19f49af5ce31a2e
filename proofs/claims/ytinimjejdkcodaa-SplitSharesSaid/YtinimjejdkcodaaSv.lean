/- What a total's shares are: the plain half, no program in sight. -/
import Derived.Test.YtinimjejdkcodaaSs
namespace Go.Proofs.Ytinimjejdkcodaa
open Go.Sort Ss

/-- the places are sorted: by rest, then by place -/
def Sorted (k : Nat → Nat) (n : Nat) (d : Array Nat) : Prop := d.size = n ∧ PermIn 0 n (Array.range n) d ∧ SortedIn (R k) 0 n d
theorem range_get (n j : Nat) (h : j < n) : (Array.range n)[j]! = j := by
  rw [getElem!_pos _ _ (by simpa using h)]; simp

namespace Sv
/-- how many go ahead of x -/
def rank (k : Nat → Nat) (n x : Nat) : Nat := (List.range n).countP (fun j => R k j x)

theorem perm_list {k : Nat → Nat} {n : Nat} {d : Array Nat} (h : Sorted k n d) : ((List.range n).map (fun i => d[i]!)).Perm (List.range n) := by
  have p := h.2.1.2.2
  rw [extract_toList d 0 n (by rw [h.1]; exact Nat.le_refl _), extract_toList _ 0 n (by simp)] at p
  rw [Nat.sub_zero, ← List.range_eq_range'] at p
  refine p.trans ?_
  have e : (List.range n).map (fun i => (Array.range n)[i]!) = (List.range n).map id := List.map_congr_left fun i hi => range_get n i (List.mem_range.1 hi)
  rw [e, List.map_id]
theorem count_lt (t : Nat) : ∀ n, (List.range n).countP (fun u => decide (u < t)) = min t n
  | 0 => by simp
  | n + 1 => by
    rw [List.range_succ, List.countP_append, count_lt t n]
    by_cases h : n < t <;> simp [h] <;> omega
theorem ne_of {k : Nat → Nat} {n : Nat} {d : Array Nat} (h : Sorted k n d) {u t : Nat} (hut : u < t) (ht : t < n) : d[u]! ≠ d[t]! := by
  have nd : ((List.range n).map (fun i => d[i]!)).Nodup := (perm_list h).nodup_iff.2 List.nodup_range
  have q := List.pairwise_map.1 nd
  rw [List.pairwise_iff_getElem] at q
  have := q u t (by simp; omega) (by simpa using ht) hut
  simpa using this
theorem total {k : Nat → Nat} {x y : Nat} (h : R k y x = false) (hne : x ≠ y) : R k x y = true := by
  rw [R_f] at h; rw [R_t]; omega
theorem rank_sorted {k : Nat → Nat} {n : Nat} {d : Array Nat} (h : Sorted k n d) (t : Nat) (ht : t < n) : rank k n d[t]! = t := by
  unfold rank
  rw [← (perm_list h).countP_eq, List.countP_map]
  rw [List.countP_congr (q := fun u => decide (u < t)) fun u hu => ?_, count_lt]
  · omega
  · have hu' := List.mem_range.1 hu
    simp only [Function.comp, decide_eq_true_eq]
    constructor
    · intro hR
      rcases Nat.lt_trichotomy u t with x | x | x
      · exact x
      · subst x; rw [swo.irrefl] at hR; cases hR
      · rw [h.2.2 t u (Nat.zero_le _) x hu'] at hR; cases hR
    · intro x
      exact total (h.2.2 u t (Nat.zero_le _) x ht) (ne_of h x ht)
theorem at_rank {k : Nat → Nat} {n : Nat} {d : Array Nat} (h : Sorted k n d) (x : Nat) (hx : x < n) : d[rank k n x]! = x ∧ rank k n x < n := by
  have m : x ∈ (List.range n).map (fun i => d[i]!) := (perm_list h).mem_iff.2 (List.mem_range.2 hx)
  obtain ⟨u, hu, e⟩ := List.mem_map.1 m
  have hu' := List.mem_range.1 hu
  have r := rank_sorted h u hu'
  rw [e] at r
  rw [r]; exact ⟨e, hu'⟩
theorem sorted_exists (k : Nat → Nat) (n : Nat) : ∃ d, Sorted k n d := by
  have q := ins (k := k) (Array.range n) 0 n (Nat.zero_le _) (by simp) fun p q _ h1 h2 => by rw [range_get n p (by omega), range_get n q h2]; exact h1
  exact ⟨_, by rw [q.1.1]; simp, q.1, q.2⟩
theorem get_lt {k : Nat → Nat} {n : Nat} {d : Array Nat} (h : Sorted k n d) (t : Nat) (ht : t < n) : d[t]! < n := by
  have m : d[t]! ∈ (List.range n).map (fun i => d[i]!) := List.mem_map.2 ⟨t, List.mem_range.2 ht, rfl⟩
  exact List.mem_range.1 ((perm_list h).mem_iff.1 m)
theorem rank_lt (k : Nat → Nat) (n x : Nat) (hx : x < n) : rank k n x < n := by
  obtain ⟨d, h⟩ := sorted_exists k n
  exact (at_rank h x hx).2
theorem count_rank (k : Nat → Nat) (n L : Nat) (hL : L ≤ n) : (List.range n).countP (fun i => decide (rank k n i < L)) = L := by
  obtain ⟨d, h⟩ := sorted_exists k n
  rw [← (perm_list h).countP_eq, List.countP_map, List.countP_congr (q := fun u => decide (u < L)) fun u hu => ?_, count_lt]
  · omega
  · simp only [Function.comp, decide_eq_true_eq]
    rw [rank_sorted h u (List.mem_range.1 hu)]
theorem rank_mono {k : Nat → Nat} {n x y : Nat} (h : R k y x = false) : rank k n x ≤ rank k n y := by
  refine List.countP_mono_left fun j _ hj => ?_
  cases e : R k j y with
  | true => rfl
  | false => rw [swo.ntrans _ _ _ e h] at hj; cases hj
theorem rank_congr {k k' : Nat → Nat} {n x : Nat} (h : ∀ j, j < n → R k j x = R k' j x) : rank k n x = rank k' n x :=
  List.countP_congr fun j hj => by rw [h j (List.mem_range.1 hj)]

/-! ### the shares -/
def q (t : Int) (ws : List Int) (i : Nat) : Int := t * ws.getD i 0 / ws.sum
def kk (t : Int) (ws : List Int) (i : Nat) : Nat := (t * ws.getD i 0 % ws.sum).toNat
def qs (t : Int) (ws : List Int) : List Int := (List.range ws.length).map (q t ws)
def left (t : Int) (ws : List Int) : Int := t - (qs t ws).sum
def sh (t : Int) (ws : List Int) (i : Nat) : Int := q t ws i + if (rank (kk t ws) ws.length i : Int) < left t ws then 1 else 0
def shares (t : Int) (ws : List Int) : List Int := (List.range ws.length).map (sh t ws)
def May (t : Int) (ws : List Int) : Prop := 0 ≤ t ∧ t ≤ 10000000000000 ∧ ws.length ≤ 480 ∧ (∀ x ∈ ws, 0 ≤ x ∧ x ≤ 10000000000000) ∧ 0 < ws.sum
instance (t : Int) (ws : List Int) : Decidable (May t ws) := inferInstanceAs (Decidable (_ ∧ _ ∧ _ ∧ _ ∧ _))

theorem getD_bd {ws : List Int} {B : Int} (hB : 0 ≤ B) (h : ∀ x ∈ ws, 0 ≤ x ∧ x ≤ B) (i : Nat) : 0 ≤ ws.getD i 0 ∧ ws.getD i 0 ≤ B := by
  rw [List.getD_eq_getElem?_getD]
  rcases Nat.lt_or_ge i ws.length with x | x
  · rw [List.getElem?_eq_getElem x]; exact h _ (List.getElem_mem _)
  · rw [List.getElem?_eq_none x]; exact ⟨Int.le_refl _, hB⟩
theorem sum_bd {B : Int} : ∀ {ws : List Int}, (∀ x ∈ ws, 0 ≤ x ∧ x ≤ B) → 0 ≤ ws.sum ∧ ws.sum ≤ ws.length * B
  | [], _ => by simp
  | x :: ws, h => by
    have a := sum_bd (fun y hy => h y (List.mem_cons_of_mem _ hy))
    have b := h x List.mem_cons_self
    rw [List.sum_cons, List.length_cons, Int.natCast_add, Int.add_mul]
    omega
theorem le_sum : ∀ {ws : List Int}, (∀ x ∈ ws, 0 ≤ x) → ∀ x ∈ ws, x ≤ ws.sum
  | [], _, x, hx => nomatch hx
  | y :: ws, h, x, hx => by
    have p : 0 ≤ ws.sum := by
      have : ∀ {l : List Int}, (∀ x ∈ l, 0 ≤ x) → 0 ≤ l.sum := by
        intro l
        induction l with
        | nil => intro _; simp
        | cons a l ih => intro h; rw [List.sum_cons]; have := h a List.mem_cons_self; have := ih (fun x hx => h x (List.mem_cons_of_mem _ hx)); omega
      exact this (fun z hz => h z (List.mem_cons_of_mem _ hz))
    have q := h y List.mem_cons_self
    rw [List.sum_cons]
    rcases List.mem_cons.1 hx with e | e
    · omega
    · have := le_sum (fun z hz => h z (List.mem_cons_of_mem _ hz)) x e; omega
theorem range_map (ws : List Int) (g : Int → Int) : (List.range ws.length).map (fun i => g (ws.getD i 0)) = ws.map g := by
  refine List.ext_getElem (by simp) fun i h1 h2 => ?_
  simp at h1
  simp [h1]
theorem qs_eq (t : Int) (ws : List Int) : qs t ws = ws.map (fun x => t * x / ws.sum) := range_map ws fun x => t * x / ws.sum
theorem parts (t S : Int) : ∀ l : List Int, (l.map (fun x => t * x / S)).sum * S + (l.map (fun x => t * x % S)).sum = t * l.sum
  | [] => by simp
  | x :: l => by
    have a := parts t S l
    have b := Int.mul_ediv_add_emod (t * x) S
    simp only [List.map_cons, List.sum_cons]
    rw [Int.mul_add, ← a, ← b]
    grind
theorem rests_bd (t S : Int) (hS : 0 < S) : ∀ l : List Int, 0 ≤ (l.map (fun x => t * x % S)).sum ∧ (l.map (fun x => t * x % S)).sum ≤ (l.countP (fun x => decide (0 < t * x % S)) : Int) * (S - 1)
  | [] => by simp
  | x :: l => by
    have a := rests_bd t S hS l
    have b := Int.emod_nonneg (t * x) (show S ≠ 0 by omega)
    have c := Int.emod_lt_of_pos (t * x) hS
    simp only [List.map_cons, List.sum_cons, List.countP_cons]
    by_cases h : 0 < t * x % S
    · simp only [h, decide_true, if_true]
      rw [Int.natCast_add, Int.add_mul]; omega
    · simp only [h, decide_false, Bool.false_eq_true, if_false, Nat.add_zero]; omega
/-- as many cents are left as rests, together, make -/
theorem left_eq (t : Int) (ws : List Int) : left t ws * ws.sum = (ws.map (fun x => t * x % ws.sum)).sum := by
  have a := parts t ws.sum ws
  unfold left
  rw [qs_eq, Int.sub_mul]; omega
theorem left_bd {t : Int} {ws : List Int} (hS : 0 < ws.sum) : 0 ≤ left t ws ∧ left t ws ≤ (ws.countP (fun x => decide (0 < t * x % ws.sum)) : Int) := by
  have a := left_eq t ws
  have b := rests_bd t ws.sum hS ws
  have hp : (0 : Int) ≤ (ws.countP (fun x => decide (0 < t * x % ws.sum)) : Int) := by omega
  generalize left t ws = L at *
  generalize (ws.countP (fun x => decide (0 < t * x % ws.sum)) : Int) = p at *
  generalize (ws.map (fun x => t * x % ws.sum)).sum = r at *
  generalize ws.sum = S at *
  subst a
  refine ⟨?_, ?_⟩
  · rcases Int.lt_or_le L 0 with h | h
    · have := Int.mul_lt_mul_of_pos_right h hS; omega
    · exact h
  · rcases Int.lt_or_le p L with h | h
    · have h1 := Int.mul_le_mul_of_nonneg_right (show p + 1 ≤ L from h) (Int.le_of_lt hS)
      rw [Int.add_mul] at h1
      have h2 := b.2
      rw [Int.mul_sub] at h2
      omega
    · exact h
theorem left_le {t : Int} {ws : List Int} (hS : 0 < ws.sum) : left t ws ≤ ws.length := by
  have a := (left_bd (t := t) hS).2
  have b := List.countP_le_length (p := fun x => decide (0 < t * x % ws.sum)) (l := ws)
  omega
theorem kk_of {t : Int} {ws : List Int} (hS : 0 < ws.sum) (i : Nat) : (kk t ws i : Int) = t * ws.getD i 0 % ws.sum := by
  unfold kk
  rw [Int.toNat_of_nonneg (Int.emod_nonneg _ (by omega))]
/-- what gets a cent was cut off -/
theorem cut_pos {t : Int} {ws : List Int} (hS : 0 < ws.sum) {i : Nat} (h : (rank (kk t ws) ws.length i : Int) < left t ws) : 0 < t * ws.getD i 0 % ws.sum := by
  rcases Int.lt_or_le 0 (t * ws.getD i 0 % ws.sum) with x | x
  · exact x
  · exfalso
    have z : kk t ws i = 0 := by have := kk_of (t := t) hS i; omega
    have a := (left_bd (t := t) hS).2
    have b : ws.countP (fun x => decide (0 < t * x % ws.sum)) ≤ rank (kk t ws) ws.length i := by
      have e : ws = (List.range ws.length).map (fun j => ws.getD j 0) := by
        have := range_map ws (fun x => x)
        rw [List.map_id'] at this
        exact this.symm
      have e2 : ws.countP (fun x => decide (0 < t * x % ws.sum)) = (List.range ws.length).countP (fun j => decide (0 < t * ws.getD j 0 % ws.sum)) := by
        conv => lhs; arg 2; rw [e]
        rw [List.countP_map]; rfl
      rw [e2]
      refine List.countP_mono_left fun j _ hj => ?_
      rw [R_t, z]
      have := kk_of (t := t) hS j
      simp only [decide_eq_true_eq] at hj
      omega
    omega
theorem sum_ite (p : Nat → Bool) : ∀ l : List Nat, (l.map (fun i => if p i = true then (1 : Int) else 0)).sum = l.countP p
  | [] => rfl
  | x :: l => by
    rw [List.map_cons, List.sum_cons, sum_ite p l, List.countP_cons]
    by_cases h : p x = true <;> simp [h] <;> omega
theorem sum_add (f g : Nat → Int) : ∀ l : List Nat, (l.map (fun i => f i + g i)).sum = (l.map f).sum + (l.map g).sum
  | [] => rfl
  | x :: l => by simp only [List.map_cons, List.sum_cons]; rw [sum_add f g l]; omega
/-- shares sum to the total -/
theorem shares_sum {t : Int} {ws : List Int} (hS : 0 < ws.sum) : (shares t ws).sum = t := by
  unfold shares sh
  rw [sum_add (q t ws) (fun i => if (rank (kk t ws) ws.length i : Int) < left t ws then 1 else 0)]
  have b := left_bd (t := t) hS
  have c := left_le (t := t) hS
  have e : (List.range ws.length).map (fun i => if (rank (kk t ws) ws.length i : Int) < left t ws then (1 : Int) else 0) = (List.range ws.length).map (fun i => if (decide (rank (kk t ws) ws.length i < (left t ws).toNat)) = true then (1 : Int) else 0) :=
    List.map_congr_left fun i _ => by
      by_cases h : (rank (kk t ws) ws.length i : Int) < left t ws
      · rw [if_pos h, if_pos (by simp; omega)]
      · rw [if_neg h, if_neg (by simp; omega)]
  rw [e, sum_ite, count_rank _ _ _ (by omega)]
  have : (qs t ws).sum = ((List.range ws.length).map (q t ws)).sum := rfl
  unfold left at *
  omega
theorem shares_length (t : Int) (ws : List Int) : (shares t ws).length = ws.length := by simp [shares]
theorem shares_get (t : Int) (ws : List Int) (i : Nat) (h : i < ws.length) : (shares t ws).getD i 0 = sh t ws i := by
  rw [List.getD_eq_getElem?_getD, List.getElem?_eq_getElem (by simp [shares]; exact h)]; simp [shares]
theorem q_bd {t : Int} {ws : List Int} (h : May t ws) (i : Nat) : 0 ≤ q t ws i ∧ q t ws i ≤ t := by
  obtain ⟨t0, t1, _, hx, hS⟩ := h
  have b := getD_bd (by decide) hx i
  have c : ws.getD i 0 ≤ ws.sum := by
    rw [List.getD_eq_getElem?_getD]
    rcases Nat.lt_or_ge i ws.length with x | x
    · rw [List.getElem?_eq_getElem x]; exact le_sum (fun x hx' => (hx x hx').1) _ (List.getElem_mem _)
    · rw [List.getElem?_eq_none x]; exact Int.le_of_lt hS
  refine ⟨Int.ediv_nonneg (Int.mul_nonneg t0 b.1) (Int.le_of_lt hS), ?_⟩
  exact Int.ediv_le_of_le_mul hS (Int.mul_le_mul_of_nonneg_left c t0)
theorem sh_bd {t : Int} {ws : List Int} (h : May t ws) (i : Nat) : 0 ≤ sh t ws i ∧ sh t ws i ≤ 10000000000001 := by
  have := q_bd h i; have := h.2.1
  unfold sh; split <;> omega
/-- each is less than a cent from its quotient -/
theorem sh_near {t : Int} {ws : List Int} (h : May t ws) (i : Nat) : -ws.sum < t * ws.getD i 0 - sh t ws i * ws.sum ∧ t * ws.getD i 0 - sh t ws i * ws.sum < ws.sum := by
  have hS := h.2.2.2.2
  have a := Int.mul_ediv_add_emod (t * ws.getD i 0) ws.sum
  have b := Int.emod_nonneg (t * ws.getD i 0) (show ws.sum ≠ 0 by omega)
  have c := Int.emod_lt_of_pos (t * ws.getD i 0) hS
  rw [Int.mul_comm] at a
  unfold sh q
  split
  · rename_i hr
    have d := cut_pos hS hr
    rw [Int.add_mul]; omega
  · rw [Int.add_zero]; omega
/-- of weight 0 it is 0 -/
theorem sh_zero {t : Int} {ws : List Int} (h : May t ws) {i : Nat} (hz : ws.getD i 0 = 0) : sh t ws i = 0 := by
  have e : q t ws i = 0 := by unfold q; rw [hz, Int.mul_zero, Int.zero_ediv]
  unfold sh
  rw [e, if_neg]
  · rfl
  · intro hr
    have := cut_pos h.2.2.2.2 hr
    rw [hz, Int.mul_zero, Int.zero_emod] at this
    omega
theorem sh_le {t : Int} {ws : List Int} (h : May t ws) {i : Nat} (hi : i < ws.length) : sh t ws i ≤ t := by
  have a := le_sum (ws := shares t ws) (fun x hx => by
    obtain ⟨j, _, e⟩ := List.mem_map.1 hx
    rw [← e]; exact (sh_bd h j).1) (sh t ws i) (List.mem_map.2 ⟨i, List.mem_range.2 hi, rfl⟩)
  rwa [shares_sum h.2.2.2.2] at a
/-- of equal weights earlier oneRow get no less, and at most a cent more -/
theorem sh_first {t : Int} {ws : List Int} {i j : Nat} (hij : i < j) (he : ws.getD i 0 = ws.getD j 0) : sh t ws j ≤ sh t ws i ∧ sh t ws i ≤ sh t ws j + 1 := by
  have e1 : q t ws i = q t ws j := by unfold q; rw [he]
  have e2 : kk t ws i = kk t ws j := by unfold kk; rw [he]
  have r := rank_mono (k := kk t ws) (n := ws.length) (x := i) (y := j) (by rw [R_f, e2]; omega)
  unfold sh
  rw [e1]
  split <;> split <;> omega
/-- weights that are all so many times as great split alike -/
theorem sh_scale {t c : Int} {ws : List Int} (hc : 0 < c) (hS : 0 < ws.sum) : shares t (ws.map (· * c)) = shares t ws := by
  have es : ∀ l : List Int, (l.map (· * c)).sum = l.sum * c := by
    intro l
    induction l with
    | nil => simp
    | cons a l ih => rw [List.map_cons, List.sum_cons, List.sum_cons, ih, Int.add_mul]
  have eg : ∀ i, (ws.map (· * c)).getD i 0 = ws.getD i 0 * c := fun i => by
    rw [List.getD_eq_getElem?_getD, List.getD_eq_getElem?_getD, List.getElem?_map]
    cases ws[i]? <;> simp
  have eq : ∀ i, q t (ws.map (· * c)) i = q t ws i := fun i => by
    unfold q
    rw [es, eg, ← Int.mul_assoc, Int.mul_ediv_mul_of_pos_left _ _ hc]
  have ek : ∀ i, (kk t (ws.map (· * c)) i : Int) = kk t ws i * c := fun i => by
    rw [kk_of (by rw [es]; exact Int.mul_pos hS hc), kk_of hS, es, eg, ← Int.mul_assoc, Int.mul_comm (t * ws.getD i 0) c, Int.mul_comm ws.sum c, Int.mul_emod_mul_of_pos _ _ hc, Int.mul_comm]
  have eR : ∀ i j, R (kk t (ws.map (· * c))) i j = R (kk t ws) i j := fun i j => by
    have lt : ∀ x y, kk t (ws.map (· * c)) x < kk t (ws.map (· * c)) y ↔ kk t ws x < kk t ws y := fun x y => by
      have h1 := ek x
      have h2 := ek y
      constructor
      · intro h
        rcases Nat.lt_or_ge (kk t ws x) (kk t ws y) with z | z
        · exact z
        · have := Int.mul_le_mul_of_nonneg_right (show ((kk t ws y : Int)) ≤ kk t ws x by omega) (Int.le_of_lt hc); omega
      · intro h
        have := Int.mul_lt_mul_of_pos_right (show ((kk t ws x : Int)) < kk t ws y by omega) hc; omega
    have l1 := lt i j
    have l2 := lt j i
    cases e : R (kk t ws) i j with
    | true => rw [R_t] at *; omega
    | false => rw [R_f] at *; omega
  have eql : left t (ws.map (· * c)) = left t ws := by
    unfold left qs
    rw [List.length_map]
    congr 2
    exact List.map_congr_left fun i _ => eq i
  unfold shares
  rw [List.length_map]
  refine List.map_congr_left fun i _ => ?_
  unfold sh
  rw [eq, eql, List.length_map, rank_congr fun j _ => eR j i]
/-- of the same weight -/
theorem sh_even {t : Int} {n : Nat} {i : Nat} (hi : i < n) : sh t (List.replicate n 1) i = t / n + if (i : Int) < t % n then 1 else 0 := by
  have es : ∀ m : Nat, (List.replicate m (1 : Int)).sum = m := fun m => by
    induction m with
    | zero => rfl
    | succ m ih => rw [List.replicate_succ, List.sum_cons, ih]; omega
  have eg : ∀ j, j < n → (List.replicate n (1 : Int)).getD j 0 = 1 := fun j hj => by
    rw [List.getD_eq_getElem?_getD, List.getElem?_replicate, if_pos hj]; rfl
  have eq : ∀ j, j < n → q t (List.replicate n 1) j = t / n := fun j hj => by unfold q; rw [eg j hj, es, Int.mul_one]
  have ek : ∀ j, j < n → kk t (List.replicate n 1) j = (t % n).toNat := fun j hj => by unfold kk; rw [eg j hj, es, Int.mul_one]
  have er : rank (kk t (List.replicate n 1)) n i = i := by
    unfold rank
    rw [List.countP_congr (q := fun u => decide (u < i)) fun u hu => ?_, count_lt]
    · omega
    · have := List.mem_range.1 hu
      simp only [decide_eq_true_eq]
      rw [R_t, ek u this, ek i hi]; omega
  have el : left t (List.replicate n 1) = t % n := by
    have a := left_eq t (List.replicate n 1)
    unfold left qs
    rw [List.length_replicate, List.map_congr_left (g := fun _ => t / (n : Int)) fun j hj => eq j (List.mem_range.1 hj)]
    have : ∀ m : Nat, ((List.range m).map (fun _ => t / (n : Int))).sum = m * (t / n) := fun m => by
      induction m with
      | zero => simp
      | succ m ih => rw [List.range_succ, List.map_append, List.sum_append, ih]; simp; rw [Int.add_mul, Int.one_mul]
    rw [this]
    have := Int.mul_ediv_add_emod t n
    omega
  unfold sh
  rw [eq i hi, List.length_replicate, er, el]
end Sv
end Go.Proofs.Ytinimjejdkcodaa
