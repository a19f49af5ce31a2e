/- Months of interest: the plain arithmetic, no program in sight. -/
namespace Go.Proofs.YtmfjnnjjoagbiaaDoor.Rt
def May (b r : Int) : Prop := 0 ≤ b ∧ b ≤ 10000000000000 ∧ 0 ≤ r ∧ r ≤ 300000
instance (b r : Int) : Decidable (May b r) := inferInstanceAs (Decidable (_ ∧ _ ∧ _ ∧ _))
/-- a twelfth of a millionth, halves to even -/
def rd (n : Int) : Int := if 6000000 < n % 12000000 ∨ (n % 12000000 = 6000000 ∧ n / 12000000 % 2 = 1) then n / 12000000 + 1 else n / 12000000
def mi (b r : Int) : Int := rd (b * r)
/-- the next balance, whatever it is -/
def nx (b r p : Int) : Int := if b + mi b r ≤ p then 0 else b + mi b r - p
/-- what is left behind so many months; none: one is too great -/
def lf (r p : Int) : Nat → Int → Option Int
  | 0, b => some b
  | k + 1, b => if 10000000000000 < nx b r p then none else lf r p k (nx b r p)
def Pays (b r p m : Int) : Prop := lf r p m.toNat b = some 0
instance (b r p m : Int) : Decidable (Pays b r p m) := inferInstanceAs (Decidable (_ = _))

theorem rd_mono {x y : Int} (h : x ≤ y) : rd x ≤ rd y := by unfold rd; split <;> split <;> omega
theorem rd_zero : rd 0 = 0 := by decide
theorem rd_bd {x : Int} (h0 : 0 ≤ x) (h1 : x ≤ 3000000000000000000) : 0 ≤ rd x ∧ rd x ≤ 250000000000 := by
  have a := rd_mono h0
  have b := rd_mono h1
  rw [rd_zero] at a
  have e : rd 3000000000000000000 = 250000000000 := by decide
  omega
theorem pr_bd {b r : Int} (h : May b r) : 0 ≤ b * r ∧ b * r ≤ 3000000000000000000 := by
  obtain ⟨h1, h2, h3, h4⟩ := h
  refine ⟨Int.mul_nonneg h1 h3, ?_⟩
  have a := Int.mul_le_mul h2 h4 h3 (by decide : (0 : Int) ≤ 10000000000000)
  omega
theorem mi_bd {b r : Int} (h : May b r) : 0 ≤ mi b r ∧ mi b r ≤ 250000000000 := rd_bd (pr_bd h).1 (pr_bd h).2
theorem mi_mono {a b r : Int} (hr : 0 ≤ r) (h : a ≤ b) : mi a r ≤ mi b r := rd_mono (Int.mul_le_mul_of_nonneg_right h hr)
theorem mi_zero (r : Int) : mi 0 r = 0 := by unfold mi; rw [Int.zero_mul, rd_zero]
theorem mi_nn {b r : Int} (h0 : 0 ≤ b) (hr : 0 ≤ r) : 0 ≤ mi b r := by have := mi_mono hr h0; rw [mi_zero] at this; exact this
theorem nx_nn (b r p : Int) : 0 ≤ nx b r p := by unfold nx; split <;> omega
theorem nx_mono {a b r p q : Int} (hr : 0 ≤ r) (h : a ≤ b) (hp : p ≤ q) : nx a r q ≤ nx b r p := by
  have := mi_mono hr h
  unfold nx; split <;> split <;> omega
theorem nx_may {b r p : Int} (hr : May b r) (h : ¬ 10000000000000 < nx b r p) : May (nx b r p) r := ⟨nx_nn b r p, by omega, hr.2.2.1, hr.2.2.2⟩
theorem lf_mono {r : Int} (hr : 0 ≤ r) : ∀ (k : Nat) {a b p q v : Int}, a ≤ b → p ≤ q → lf r p k b = some v → ∃ u, lf r q k a = some u ∧ u ≤ v
  | 0, a, b, p, q, v, h, _, e => by
    have e' : b = v := by simpa [lf] using e
    exact ⟨a, rfl, by omega⟩
  | k + 1, a, b, p, q, v, h, hp, e => by
    have hn := nx_mono hr h hp
    unfold lf at e
    by_cases g : 10000000000000 < nx b r p
    · rw [if_pos g] at e; cases e
    · rw [if_neg g] at e
      obtain ⟨u, hu, hv⟩ := lf_mono hr k hn hp e
      refine ⟨u, ?_, hv⟩
      unfold lf; rw [if_neg (by omega)]; exact hu
theorem lf_range {r p : Int} : ∀ (k : Nat) {b v : Int}, 0 ≤ b → b ≤ 10000000000000 → lf r p k b = some v → 0 ≤ v ∧ v ≤ 10000000000000
  | 0, b, v, h0, h1, e => by have e' : b = v := by simpa [lf] using e
                             omega
  | k + 1, b, v, h0, h1, e => by
    unfold lf at e
    by_cases g : 10000000000000 < nx b r p
    · rw [if_pos g] at e; cases e
    · rw [if_neg g] at e
      exact lf_range k (nx_nn b r p) (by omega) e
theorem lf_add {r p : Int} : ∀ (k m : Nat) {b : Int}, lf r p (k + m) b = (lf r p k b).bind (lf r p m)
  | 0, m, b => by simp [lf]
  | k + 1, m, b => by
    have e : k + 1 + m = k + m + 1 := by omega
    rw [e]
    show (if 10000000000000 < nx b r p then none else lf r p (k + m) (nx b r p)) = (if 10000000000000 < nx b r p then none else lf r p k (nx b r p)).bind (lf r p m)
    by_cases g : 10000000000000 < nx b r p
    · rw [if_pos g, if_pos g]; rfl
    · rw [if_neg g, if_neg g]; exact lf_add k m
theorem lf_low {r p : Int} (hr : 0 ≤ r) (hp : 0 ≤ p) : ∀ (k : Nat) {b v : Int}, 0 ≤ b → lf r p k b = some v → b ≤ v + k * p
  | 0, b, v, h0, e => by have e' : b = v := by simpa [lf] using e
                         omega
  | k + 1, b, v, h0, e => by
    unfold lf at e
    by_cases g : 10000000000000 < nx b r p
    · rw [if_pos g] at e; cases e
    · rw [if_neg g] at e
      have a := lf_low hr hp k (nx_nn b r p) e
      have c := mi_nn h0 hr
      have d : b ≤ nx b r p + p := by unfold nx; split <;> omega
      have f : ((k + 1 : Nat) : Int) * p = k * p + p := by rw [Int.natCast_add, Int.add_mul]; simp
      omega
theorem lf_high {B r p lo : Int} (hr : 0 ≤ r) (hB : B ≤ 10000000000000) (hl : 0 ≤ lo) (hp : lo + mi B r ≤ p) : ∀ (k : Nat) {b : Int}, 0 ≤ b → b ≤ B → ∃ v, lf r p k b = some v ∧ 0 ≤ v ∧ (v = 0 ∨ v + k * lo ≤ b)
  | 0, b, h0, h1 => ⟨b, rfl, h0, .inr (by omega)⟩
  | k + 1, b, h0, h1 => by
    have c := mi_mono hr h1
    have d : nx b r p = 0 ∨ nx b r p + lo ≤ b := by unfold nx; split <;> omega
    have n0 := nx_nn b r p
    obtain ⟨v, e, v0, hv⟩ := lf_high hr hB hl hp k n0 (by omega)
    refine ⟨v, ?_, v0, ?_⟩
    · unfold lf; rw [if_neg (by omega)]; exact e
    · rcases hv with hv | hv
      · exact .inl hv
      · rcases d with d | d
        · have : 0 ≤ (k : Int) * lo := Int.mul_nonneg (by omega) hl
          exact .inl (by omega)
        · refine .inr ?_
          have f : ((k + 1 : Nat) : Int) * lo = k * lo + lo := by rw [Int.natCast_add, Int.add_mul]; simp
          omega
theorem pays_mono {b r p q m : Int} (h : May b r) (hp : p ≤ q) (e : Pays b r p m) : Pays b r q m := by
  obtain ⟨u, hu, hv⟩ := lf_mono h.2.2.1 m.toNat (Int.le_refl b) hp e
  have := lf_range m.toNat h.1 h.2.1 hu
  unfold Pays; rw [hu]; congr 1; omega
/-- what the least payment is sought between -/
theorem pays_low {b r p m lo : Int} (h : May b r) (hm : 1 ≤ m) (hp : 0 ≤ p) (e : Pays b r p m) (hlo : (lo - 1) * m < b) : lo ≤ p := by
  have a := lf_low h.2.2.1 hp m.toNat h.1 e
  have c : (m.toNat : Int) = m := Int.toNat_of_nonneg (by omega)
  rw [c] at a
  by_cases g : lo ≤ p
  · exact g
  · have := Int.mul_le_mul_of_nonneg_left (show p ≤ lo - 1 by omega) (show 0 ≤ m by omega)
    rw [Int.mul_comm m (lo - 1)] at this
    omega
theorem pays_high {b r p m lo : Int} (h : May b r) (hm : 1 ≤ m) (hl : 0 ≤ lo) (hlo : b ≤ lo * m) (hp : lo + mi b r ≤ p) : Pays b r p m := by
  obtain ⟨v, e, v0, hv⟩ := lf_high h.2.2.1 h.2.1 hl hp m.toNat h.1 (Int.le_refl b)
  have c : (m.toNat : Int) = m := Int.toNat_of_nonneg (by omega)
  rw [c, Int.mul_comm] at hv
  unfold Pays; rw [e]; congr 1; omega
/-- the least payment -/
def IsLvl (b r m p : Int) : Prop := 0 ≤ p ∧ Pays b r p m ∧ (0 < p → ¬ Pays b r (p - 1) m)
noncomputable def lvl (b r m : Int) : Int := Classical.epsilon (IsLvl b r m)
theorem lvl_uniq {b r m p q : Int} (h : May b r) (hp : IsLvl b r m p) (hq : IsLvl b r m q) : p = q := by
  obtain ⟨p0, p1, p2⟩ := hp
  obtain ⟨q0, q1, q2⟩ := hq
  rcases Int.lt_trichotomy p q with g | g | g
  · exact absurd (pays_mono h (show p ≤ q - 1 by omega) p1) (q2 (by omega))
  · exact g
  · exact absurd (pays_mono h (show q ≤ p - 1 by omega) q1) (p2 (by omega))
theorem lvl_is {b r m p : Int} (h : May b r) (hp : IsLvl b r m p) : lvl b r m = p := lvl_uniq h (Classical.epsilon_spec ⟨p, hp⟩) hp
end Go.Proofs.YtmfjnnjjoagbiaaDoor.Rt
