/- Numbers as lists of digits to the base 2 to 16, the lowest first. No program in sight. -/
namespace Go.Proofs.YtmfjnnjjoagbiaaDoor.Dg
def dv : List Int → Int
  | [] => 0
  | d :: r => d + 65536 * dv r
def Dig (l : List Int) : Prop := ∀ d ∈ l, 0 ≤ d ∧ d < 65536
/-- no zero on top -/
def Top (l : List Int) : Prop := 0 < l.length → l.getD (l.length - 1) 0 ≠ 0
def pw (n : Nat) : Int := 65536 ^ n
theorem pw_zero : pw 0 = 1 := rfl
theorem pw_succ (n : Nat) : pw (n + 1) = 65536 * pw n := by unfold pw; rw [Int.pow_succ]; omega
theorem pw_pos (n : Nat) : 1 ≤ pw n := by
  induction n with
  | zero => rw [pw_zero]; omega
  | succ n ih => rw [pw_succ]; omega
theorem pw_mono {m n : Nat} (h : m ≤ n) : pw m ≤ pw n := by
  induction n with
  | zero => obtain rfl : m = 0 := by omega
            exact Int.le_refl _
  | succ n ih =>
    rcases Nat.lt_or_ge n m with h1 | h1
    · obtain rfl : m = n + 1 := by omega
      exact Int.le_refl _
    · have := ih h1; have := pw_pos n; rw [pw_succ]; omega
theorem Dig.cons {d : Int} {l : List Int} (h : Dig (d :: l)) : (0 ≤ d ∧ d < 65536) ∧ Dig l := ⟨h d List.mem_cons_self, fun x hx => h x (List.mem_cons_of_mem _ hx)⟩
theorem dv_bd : ∀ {l : List Int}, Dig l → 0 ≤ dv l ∧ dv l < pw l.length
  | [], _ => ⟨Int.le_refl _, by rw [List.length_nil, pw_zero]; exact Int.zero_lt_one⟩
  | d :: l, h => by
    obtain ⟨h1, h2⟩ := h.cons
    have ih := dv_bd h2
    rw [List.length_cons, pw_succ]; simp only [dv]; omega
theorem dv_append : ∀ (l m : List Int), dv (l ++ m) = dv l + pw l.length * dv m
  | [], m => by simp [dv, pw_zero]
  | d :: l, m => by
    have ih := dv_append l m
    simp only [List.cons_append, dv, List.length_cons, pw_succ, ih]; grind
theorem dv_snoc (l : List Int) (d : Int) : dv (l ++ [d]) = dv l + pw l.length * d := by rw [dv_append]; simp [dv]
theorem Dig.append {l m : List Int} (h1 : Dig l) (h2 : Dig m) : Dig (l ++ m) := fun d hd => by
  rcases List.mem_append.1 hd with h | h
  · exact h1 d h
  · exact h2 d h
theorem Dig.snoc {l : List Int} {d : Int} (h1 : Dig l) (h2 : 0 ≤ d) (h3 : d < 65536) : Dig (l ++ [d]) := h1.append fun x hx => by
  simp at hx; subst hx; exact ⟨h2, h3⟩
theorem Dig.take {l : List Int} (h : Dig l) (k : Nat) : Dig (l.take k) := fun d hd => h d (List.mem_of_mem_take hd)
theorem Dig.getD {l : List Int} (h : Dig l) (k : Nat) : 0 ≤ l.getD k 0 ∧ l.getD k 0 < 65536 := by
  rw [List.getD_eq_getElem?_getD]
  rcases Nat.lt_or_ge k l.length with h1 | h1
  · rw [List.getElem?_eq_getElem h1]; exact h _ (List.getElem_mem _)
  · rw [List.getElem?_eq_none h1]; decide
/-- one digit more of a list, zeros behind its end -/
def pre (l : List Int) (k : Nat) : Int := dv (l.take k)
theorem pre_zero (l : List Int) : pre l 0 = 0 := by simp [pre, dv]
theorem pre_succ (l : List Int) (k : Nat) : pre l (k + 1) = pre l k + pw k * l.getD k 0 := by
  unfold pre
  rcases Nat.lt_or_ge k l.length with h | h
  · rw [List.take_succ_eq_append_getElem h, dv_snoc, List.length_take, Nat.min_eq_left (by omega), List.getD_eq_getElem?_getD, List.getElem?_eq_getElem h]; rfl
  · rw [List.take_of_length_le (by omega), List.take_of_length_le h, List.getD_eq_getElem?_getD, List.getElem?_eq_none h]; simp
theorem pre_all (l : List Int) (k : Nat) (h : l.length ≤ k) : pre l k = dv l := by unfold pre; rw [List.take_of_length_le h]
theorem pre_bd {l : List Int} (h : Dig l) (k : Nat) : 0 ≤ pre l k ∧ pre l k < pw k := by
  have := dv_bd (h.take k)
  refine ⟨this.1, Int.lt_of_lt_of_le this.2 (pw_mono ?_)⟩
  rw [List.length_take]; omega
/-- a zero on top may go -/
theorem trim_step {l : List Int} {k : Nat} (h : l.getD k 0 = 0) : pre l (k + 1) = pre l k := by rw [pre_succ, h]; omega
theorem top_lo {l : List Int} (h : Dig l) (ht : Top l) (h0 : 0 < l.length) : pw (l.length - 1) ≤ dv l := by
  have h1 := ht h0
  have h2 := h.getD (l.length - 1)
  have e := pre_succ l (l.length - 1)
  rw [show l.length - 1 + 1 = l.length by omega, pre_all l _ (Nat.le_refl _)] at e
  have h3 := (pre_bd h (l.length - 1)).1
  have := Int.mul_le_mul_of_nonneg_left (show (1 : Int) ≤ l.getD (l.length - 1) 0 by omega) (show 0 ≤ pw (l.length - 1) by have := pw_pos (l.length - 1); omega)
  omega
theorem len_le {l : List Int} (h : Dig l) (ht : Top l) {k : Nat} (hk : dv l < pw k) : l.length ≤ k := by
  rcases Nat.lt_or_ge k l.length with h1 | h1
  · have := top_lo h ht (by omega)
    have := pw_mono (show k ≤ l.length - 1 by omega)
    omega
  · exact h1
theorem zero_nil {l : List Int} (h : Dig l) (ht : Top l) : dv l = 0 ↔ l = [] := by
  refine ⟨fun e => ?_, fun e => by subst e; rfl⟩
  have := len_le h ht (k := 0) (by rw [e, pw_zero]; exact Int.zero_lt_one)
  exact List.length_eq_zero_iff.1 (by omega)
/-- the longer one is the greater one -/
theorem len_lt {l m : List Int} (hl : Dig l) (hm : Dig m) (tm : Top m) (h : l.length < m.length) : dv l < dv m := by
  have h1 := (dv_bd hl).2
  have h2 := top_lo hm tm (by omega)
  have := pw_mono (show l.length ≤ m.length - 1 by omega)
  omega
/-- of two of one length the first digit from the top that differs decides -/
theorem at_lt {l m : List Int} (hl : Dig l) (k : Nat) (he : ∀ j, k < j → l.getD j 0 = m.getD j 0) (h : l.getD k 0 < m.getD k 0) (hm : Dig m) : dv l < dv m := by
  have key : ∀ n, k + 1 ≤ n → pre l n < pre m n := by
    intro n hn
    induction n with
    | zero => omega
    | succ n ih =>
      rcases Nat.lt_or_ge k n with h1 | h1
      · rw [pre_succ, pre_succ, he n h1]; have := ih (by omega); omega
      · obtain rfl : n = k := by omega
        have a := (pre_bd hl n).2
        have b := (pre_bd hm n).1
        have c := Int.mul_le_mul_of_nonneg_left (show l.getD n 0 + 1 ≤ m.getD n 0 by omega) (show 0 ≤ pw n by have := pw_pos n; omega)
        rw [pre_succ, pre_succ, Int.mul_add] at *
        omega
  have := key (max (k + 1) (max l.length m.length)) (by omega)
  rwa [pre_all l _ (by omega), pre_all m _ (by omega)] at this
theorem same_dv {l m : List Int} (he : ∀ j, l.getD j 0 = m.getD j 0) : dv l = dv m := by
  have key : ∀ n, pre l n = pre m n := by
    intro n
    induction n with
    | zero => rw [pre_zero, pre_zero]
    | succ n ih => rw [pre_succ, pre_succ, ih, he n]
  have := key (max l.length m.length)
  rwa [pre_all l _ (by omega), pre_all m _ (by omega)] at this
/-- a round of the sum -/
theorem plus_step {a b os : List Int} {i : Nat} {c s : Int} (hl : os.length = i) (h : dv os + pw i * c = pre a i + pre b i) (hs : a.getD i 0 + b.getD i 0 + c = s) :
    dv (os ++ [s % 65536]) + pw (i + 1) * (s / 65536) = pre a (i + 1) + pre b (i + 1) := by
  rw [dv_snoc, hl, pre_succ, pre_succ, pw_succ]
  have e : s % 65536 + 65536 * (s / 65536) = s := by omega
  have : pw i * (s % 65536) + 65536 * pw i * (s / 65536) = pw i * a.getD i 0 + pw i * b.getD i 0 + pw i * c := by
    rw [← Int.mul_add, ← Int.mul_add, hs]
    conv => rhs; rw [← e]
    grind
  omega
/-- a round of the difference -/
theorem minus_step {a b os : List Int} {i : Nat} {c s : Int} (hl : os.length = i) (h : dv os - pw i * c = pre a i - pre b i) (hs : 65536 + a.getD i 0 - b.getD i 0 - c = s) :
    dv (os ++ [s % 65536]) - pw (i + 1) * (1 - s / 65536) = pre a (i + 1) - pre b (i + 1) := by
  rw [dv_snoc, hl, pre_succ, pre_succ, pw_succ]
  have e : s % 65536 + 65536 * (s / 65536) = s := by omega
  have : pw i * (s % 65536) - 65536 * pw i * (1 - s / 65536) = pw i * a.getD i 0 - pw i * b.getD i 0 - pw i * c := by
    have h1 : pw i * a.getD i 0 - pw i * b.getD i 0 - pw i * c = pw i * (s - 65536) := by rw [← hs]; grind
    rw [h1]
    conv => rhs; rw [← e]
    grind
  omega
/-- a row's beginning: zeros -/
theorem dv_zeros : ∀ n : Nat, dv (List.replicate n 0) = 0
  | 0 => rfl
  | n + 1 => by rw [List.replicate_succ]; simp [dv, dv_zeros n]
theorem dig_zeros (n : Nat) : Dig (List.replicate n 0) := fun d h => by rw [List.eq_of_mem_replicate h]; decide
/-- a digit times a digit, and what is carried -/
theorem mul_bd {x y c : Int} (x0 : 0 ≤ x) (x1 : x < 65536) (y0 : 0 ≤ y) (y1 : y < 65536) (c0 : 0 ≤ c) (c1 : c < 65536) : 0 ≤ x * y ∧ x * y ≤ 4294836225 ∧ 0 ≤ (x * y + c) / 65536 ∧ (x * y + c) / 65536 < 65536 := by
  have h1 := Int.mul_nonneg x0 y0
  have h2 : x * y ≤ 65535 * 65535 := Int.mul_le_mul (by omega) (by omega) y0 (by decide)
  omega
theorem mul_step {b row : List Int} {i k : Nat} {x c s : Int} (hl : row.length = i + k) (h : dv row + pw (i + k) * c = pw i * (x * pre b k)) (hs : x * b.getD k 0 + c = s) :
    dv (row ++ [s % 65536]) + pw (i + (k + 1)) * (s / 65536) = pw i * (x * pre b (k + 1)) := by
  rw [dv_snoc, hl, pre_succ, show i + (k + 1) = (i + k) + 1 by omega, pw_succ]
  have e : s % 65536 + 65536 * (s / 65536) = s := by omega
  have hp : pw (i + k) = pw i * pw k := by unfold pw; rw [Int.pow_add]
  have h1 : pw (i + k) * (s % 65536) + 65536 * pw (i + k) * (s / 65536) = pw (i + k) * s := by
    conv => rhs; rw [← e]
    grind
  have h2 : pw i * (x * (pre b k + pw k * b.getD k 0)) = pw i * (x * pre b k) + pw (i + k) * (x * b.getD k 0) := by rw [hp]; grind
  have h3 : pw (i + k) * s = pw (i + k) * (x * b.getD k 0) + pw (i + k) * c := by rw [← hs]; grind
  omega
end Go.Proofs.YtmfjnnjjoagbiaaDoor.Dg
