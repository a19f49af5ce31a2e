/- Days of the calendar: the plain half, no program in sight. -/
namespace Go.Proofs.YtmfjnnjjoagbiaaDoor.Dt
def leap (y : Int) : Prop := y % 400 = 0 ∨ (y % 4 = 0 ∧ y % 100 ≠ 0)
instance (y : Int) : Decidable (leap y) := inferInstanceAs (Decidable (_ ∨ _))
/-- February's days -/
def fb (y : Int) : Int := if leap y then 29 else 28
def InY (y : Int) : Prop := 1900 ≤ y ∧ y ≤ 2199
def InM (m : Int) : Prop := 1 ≤ m ∧ m ≤ 12
/-- a month's days, of any numbers -/
def dys (y m : Int) : Int := if y < 1900 ∨ 2199 < y ∨ m < 1 ∨ 12 < m then 0 else if m = 2 then fb y else if m = 4 ∨ m = 6 ∨ m = 9 ∨ m = 11 then 30 else 31
def May (y m d : Int) : Prop := 1 ≤ d ∧ d ≤ dys y m
instance (y m d : Int) : Decidable (May y m d) := inferInstanceAs (Decidable (_ ∧ _))
/-- days from January 1, 1970 to January 1 of a year -/
def cy (y : Int) : Int := 365 * (y - 1970) + (y - 1) / 4 - (y - 1) / 100 + (y - 1) / 400 - 477
/-- days of a year ahead of a month -/
def tb (m : Int) : Int := if m ≤ 1 then 0 else if m = 2 then 31 else if m = 3 then 59 else if m = 4 then 90 else if m = 5 then 120 else if m = 6 then 151 else if m = 7 then 181 else if m = 8 then 212 else if m = 9 then 243 else if m = 10 then 273 else if m = 11 then 304 else if m = 12 then 334 else 365
def cm (y m : Int) : Int := tb m + if 3 ≤ m then fb y - 28 else 0
/-- a day's number -/
def nm (y m d : Int) : Int := cy y + cm y m + d - 1

theorem fb_cases (y : Int) : (leap y ∧ fb y = 29) ∨ (¬ leap y ∧ fb y = 28) := by
  unfold fb
  by_cases h : leap y
  · exact .inl ⟨h, if_pos h⟩
  · exact .inr ⟨h, if_neg h⟩
theorem cy_step (y : Int) : cy (y + 1) = cy y + 337 + fb y := by
  rcases fb_cases y with ⟨h, e⟩ | ⟨h, e⟩ <;> (unfold leap at h; unfold cy; rw [e]; omega)
theorem cy_bd {y : Int} (h1 : 1900 ≤ y) (h2 : y ≤ 2200) : -25567 ≤ cy y ∧ cy y ≤ 84006 := by unfold cy; omega
theorem cy_1970 : cy 1970 = 0 := by decide
theorem may_in {y m d : Int} (h : May y m d) : InY y ∧ InM m := by
  unfold May dys at h
  unfold InY InM
  by_cases c : y < 1900 ∨ 2199 < y ∨ m < 1 ∨ 12 < m
  · rw [if_pos c] at h; omega
  · omega
theorem dys_in {y m : Int} (hy : InY y) (hm : InM m) : dys y m = if m = 2 then fb y else if m = 4 ∨ m = 6 ∨ m = 9 ∨ m = 11 then 30 else 31 := by
  unfold dys InY InM at *
  rw [if_neg (by omega)]
theorem dys_bd {y m : Int} (hy : InY y) (hm : InM m) : 28 ≤ dys y m ∧ dys y m ≤ 31 := by
  rw [dys_in hy hm]
  have := fb_cases y
  split
  · omega
  · split <;> omega
theorem dys_nn (y m : Int) : 0 ≤ dys y m ∧ dys y m ≤ 31 := by
  have := fb_cases y
  unfold dys
  split
  · omega
  · split
    · omega
    · split <;> omega
theorem twelve {m : Int} (h : InM m) : m = 1 ∨ m = 2 ∨ m = 3 ∨ m = 4 ∨ m = 5 ∨ m = 6 ∨ m = 7 ∨ m = 8 ∨ m = 9 ∨ m = 10 ∨ m = 11 ∨ m = 12 := by unfold InM at h; omega
theorem cm_step {y m : Int} (hy : InY y) (hm : InM m) : cm y (m + 1) = cm y m + dys y m := by
  rw [dys_in hy hm]
  have := fb_cases y
  rcases twelve hm with rfl | rfl | rfl | rfl | rfl | rfl | rfl | rfl | rfl | rfl | rfl | rfl <;> simp [cm, tb] <;> omega
theorem cm_one (y : Int) : cm y 1 = 0 := by simp [cm, tb]
theorem cm_last (y : Int) : cm y 13 = 337 + fb y := by simp [cm, tb]; omega
theorem cm_bd {y m : Int} (hy : InY y) (hm : InM m) : 0 ≤ cm y m ∧ cm y m + dys y m ≤ 337 + fb y := by
  rw [dys_in hy hm]
  have := fb_cases y
  rcases twelve hm with rfl | rfl | rfl | rfl | rfl | rfl | rfl | rfl | rfl | rfl | rfl | rfl <;> simp [cm, tb] <;> omega
theorem cy_lt {y z : Int} (h : y < z) : cy y + 337 + fb y ≤ cy z := by
  obtain ⟨k, rfl⟩ : ∃ k : Nat, z = y + 1 + k := ⟨(z - y - 1).toNat, by omega⟩
  clear h
  induction k with
  | zero => rw [show y + 1 + ((0 : Nat) : Int) = y + 1 by omega, cy_step]; omega
  | succ k ih =>
    have e : y + 1 + ((k + 1 : Nat) : Int) = (y + 1 + (k : Int)) + 1 := by omega
    rw [e, cy_step]
    have := fb_cases (y + 1 + (k : Int))
    omega
theorem cm_lt {y m p : Int} (hy : InY y) (hm : InM m) (hp : InM p) (h : m < p) : cm y m + dys y m ≤ cm y p := by
  rw [dys_in hy hm]
  have := fb_cases y
  rcases twelve hm with rfl | rfl | rfl | rfl | rfl | rfl | rfl | rfl | rfl | rfl | rfl | rfl <;> rcases twelve hp with rfl | rfl | rfl | rfl | rfl | rfl | rfl | rfl | rfl | rfl | rfl | rfl <;> first | omega | (simp [cm, tb] <;> omega)
theorem in_year {y m d : Int} (h : May y m d) : cy y ≤ nm y m d ∧ nm y m d < cy y + 337 + fb y := by
  obtain ⟨hy, hm⟩ := may_in h
  have := cm_bd hy hm
  unfold May at h
  unfold nm
  omega
/-- no two days have the same number -/
theorem nm_inj {y m d y' m' d' : Int} (h : May y m d) (h' : May y' m' d') (e : nm y m d = nm y' m' d') : y = y' ∧ m = m' ∧ d = d' := by
  have a := in_year h
  have a' := in_year h'
  obtain ⟨hy, hm⟩ := may_in h
  obtain ⟨hy', hm'⟩ := may_in h'
  have e1 : y = y' := by
    rcases Int.lt_trichotomy y y' with x | x | x
    · have := cy_lt x; omega
    · exact x
    · have := cy_lt x; omega
  subst e1
  have e2 : m = m' := by
    unfold May at h h'
    unfold nm at e
    rcases Int.lt_trichotomy m m' with x | x | x
    · have := cm_lt hy hm hm' x; omega
    · exact x
    · have := cm_lt hy hm' hm x; omega
  subst e2
  unfold nm at e
  exact ⟨rfl, rfl, by omega⟩
theorem first_is : nm 1900 1 1 = -25567 := by decide
theorem last_is : nm 2199 12 31 = 84005 := by decide
theorem nm_bd {y m d : Int} (h : May y m d) : -25567 ≤ nm y m d ∧ nm y m d ≤ 84005 := by
  have a := in_year h
  obtain ⟨hy, hm⟩ := may_in h
  unfold InY at hy
  have c1 : cy 1900 = -25567 := by decide
  have c2 : cy 2200 = 84006 := by decide
  constructor
  · rcases Int.lt_or_eq_of_le hy.1 with x | x
    · have := cy_lt x; have := fb_cases 1900; omega
    · subst x; omega
  · have := cy_lt (show y < 2200 by omega); omega
/-- each number between has its day: the one of its year, month and rest -/
theorem of_parts {y m d n : Int} (_ : InY y) (_ : InM m) (h0 : 0 ≤ n - cy y - cm y m) (h1 : n - cy y - cm y m < dys y m) (hd : d = n - cy y - cm y m + 1) : May y m d ∧ nm y m d = n := by
  unfold May nm; omega
/-- the next day -/
theorem next_day {y m d : Int} (h : May y m d) : (d < dys y m → May y m (d + 1) ∧ nm y m (d + 1) = nm y m d + 1) ∧ (d = dys y m → m < 12 → May y (m + 1) 1 ∧ nm y (m + 1) 1 = nm y m d + 1) ∧ (d = dys y m → m = 12 → y < 2199 → May (y + 1) 1 1 ∧ nm (y + 1) 1 1 = nm y m d + 1) := by
  obtain ⟨hy, hm⟩ := may_in h
  have hm2 := hm
  have hy2 := hy
  unfold InM at hm2
  unfold InY at hy2
  unfold May at h
  refine ⟨fun x => ⟨⟨by omega, by omega⟩, by unfold nm; omega⟩, fun x x2 => ?_, fun x x2 x3 => ?_⟩
  · have b := dys_bd hy (m := m + 1) ⟨by omega, by omega⟩
    exact ⟨⟨by omega, by omega⟩, by unfold nm; rw [cm_step hy hm]; omega⟩
  · subst x2
    have b := dys_bd (y := y + 1) (m := 1) ⟨by omega, by omega⟩ ⟨by omega, by omega⟩
    refine ⟨⟨by omega, by omega⟩, ?_⟩
    have c := cm_step hy hm
    have e : cm y (12 + 1) = 337 + fb y := cm_last y
    unfold nm
    rw [cy_step, cm_one]
    omega
/-- each number of these years is a day's -/
theorem exists_day {n : Int} (h1 : -25567 ≤ n) (h2 : n ≤ 84005) : ∃ y m d, May y m d ∧ nm y m d = n := by
  obtain ⟨k, rfl⟩ : ∃ k : Nat, n = -25567 + (k : Int) := ⟨(n + 25567).toNat, by omega⟩
  clear h1
  induction k with
  | zero => exact ⟨1900, 1, 1, by decide, by decide⟩
  | succ k ih =>
    obtain ⟨y, m, d, h, e⟩ := ih (by omega)
    obtain ⟨a, b, c⟩ := next_day h
    have hin := may_in h
    unfold InY InM at hin
    have e2 : nm y m d + 1 = -25567 + ((k + 1 : Nat) : Int) := by omega
    by_cases h1 : d < dys y m
    · exact ⟨y, m, d + 1, (a h1).1, by rw [(a h1).2, e2]⟩
    · have hd : d = dys y m := by unfold May at h; omega
      by_cases h3 : m < 12
      · exact ⟨y, m + 1, 1, (b hd h3).1, by rw [(b hd h3).2, e2]⟩
      · have hm : m = 12 := by omega
        by_cases h4 : y < 2199
        · exact ⟨y + 1, 1, 1, (c hd hm h4).1, by rw [(c hd hm h4).2, e2]⟩
        · exfalso
          have hy : y = 2199 := by omega
          subst hm; subst hy
          have hd31 : d = 31 := by rw [hd]; decide
          subst hd31
          rw [last_is] at e
          omega

/-! ### months on -/
/-- the month so many months behind: its year and its number -/
def my (y m n : Int) : Int := (12 * y + m - 1 + n) / 12
def mm (y m n : Int) : Int := (12 * y + m - 1 + n) % 12 + 1
theorem mm_in (y m n : Int) : InM (mm y m n) := by unfold mm InM; omega
theorem my_mm (y m n : Int) : 12 * my y m n + mm y m n = 12 * y + m + n := by unfold my mm; omega
theorem my_unique {y m n Y M : Int} (hM : InM M) (h : 12 * Y + M = 12 * y + m + n) : my y m n = Y ∧ mm y m n = M := by unfold my mm InM at *; omega
theorem my_add (y m a b : Int) : my (my y m a) (mm y m a) b = my y m (a + b) ∧ mm (my y m a) (mm y m a) b = mm y m (a + b) := by
  have h := my_mm y m a
  unfold my mm at *; omega
/-- the same day of another month, or its last one -/
def md (y m d n : Int) : Int := if d > dys (my y m n) (mm y m n) then dys (my y m n) (mm y m n) else d
/-- there is such a day -/
def mok (y m n : Int) : Prop := -3600 ≤ n ∧ n ≤ 3600 ∧ 0 < dys (my y m n) (mm y m n)
instance (y m n : Int) : Decidable (mok y m n) := inferInstanceAs (Decidable (_ ∧ _ ∧ _))
theorem md_may {y m d n : Int} (hd : 1 ≤ d) (h : mok y m n) : May (my y m n) (mm y m n) (md y m d n) := by
  unfold mok at h; unfold May md; split <;> omega
theorem my_bd {y m n Y M : Int} (hM : InM M) (hm : InM m) (hy : InY y) (h1 : -3600 ≤ n) (h2 : n ≤ 3600) (h : 12 * Y + M = 12 * y + m + n) : 1599 ≤ Y ∧ Y ≤ 2500 := by unfold InM InY at *; omega
end Go.Proofs.YtmfjnnjjoagbiaaDoor.Dt
