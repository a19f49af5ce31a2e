/- Days between and interest of days: the plain half, no program in sight. -/
import Derived.Test.YtmfjnnjjoagbiaaDoorDt
import Derived.Test.YtmfjnnjjoagbiaaDoorRt
namespace Go.Proofs.YtmfjnnjjoagbiaaDoor.Ct
/-- a day's number by months of 30 days -/
def th (y m d : Int) : Int := 360 * y + 30 * m + if d = 31 then 30 else d
/-- days between -/
def bt (mo : Bool) (y m d Y M D : Int) : Int := if mo then th Y M D - th y m d else Dt.nm Y M D - Dt.nm y m d
def AMay (b r d : Int) : Prop := Rt.May b r ∧ 0 ≤ d ∧ d ≤ 40000
instance (b r d : Int) : Decidable (AMay b r d) := inferInstanceAs (Decidable (_ ∧ _ ∧ _))
/-- a quotient, halves to even -/
def rq (c n : Int) : Int := if c < 2 * (n % c) ∨ (2 * (n % c) = c ∧ n / c % 2 = 1) then n / c + 1 else n / c
def yr (mo : Bool) : Int := if mo then 360000000 else 365000000
/-- interest of days -/
def aq (mo : Bool) (b r d : Int) : Int := rq (yr mo) (b * (r * d))

theorem yr_is (mo : Bool) : yr mo = 360000000 ∨ yr mo = 365000000 := by cases mo; exact .inr rfl; exact .inl rfl
theorem rq_mono {c x y : Int} (hc : c = 360000000 ∨ c = 365000000) (h : x ≤ y) : rq c x ≤ rq c y := by
  rcases hc with rfl | rfl <;> (unfold rq; split <;> split <;> omega)
theorem rq_zero {c : Int} (hc : c = 360000000 ∨ c = 365000000) : rq c 0 = 0 := by rcases hc with rfl | rfl <;> decide
theorem rq_bd {c x : Int} (hc : c = 360000000 ∨ c = 365000000) (h0 : 0 ≤ x) (h1 : x ≤ 120000000000000000000000) : 0 ≤ rq c x ∧ rq c x ≤ 400000000000000 := by
  have a := rq_mono hc h0
  have b := rq_mono hc h1
  rw [rq_zero hc] at a
  have e : rq c 120000000000000000000000 ≤ 400000000000000 := by rcases hc with rfl | rfl <;> decide
  omega
theorem rd_bd {r d : Int} (hr : 0 ≤ r ∧ r ≤ 300000) (hd : 0 ≤ d ∧ d ≤ 40000) : 0 ≤ r * d ∧ r * d ≤ 12000000000 := by
  refine ⟨Int.mul_nonneg hr.1 hd.1, ?_⟩
  have := Int.mul_le_mul hr.2 hd.2 hd.1 (by decide : (0 : Int) ≤ 300000)
  omega
theorem pr_bd {b r d : Int} (h : AMay b r d) : 0 ≤ r * d ∧ r * d ≤ 12000000000 ∧ 0 ≤ b * (r * d) ∧ b * (r * d) ≤ 120000000000000000000000 := by
  obtain ⟨⟨h1, h2, h3, h4⟩, h5, h6⟩ := h
  have k := rd_bd ⟨h3, h4⟩ ⟨h5, h6⟩
  refine ⟨k.1, k.2, Int.mul_nonneg h1 k.1, ?_⟩
  have := Int.mul_le_mul h2 k.2 k.1 (by decide : (0 : Int) ≤ 10000000000000)
  omega
theorem aq_bd {b r d : Int} (mo : Bool) (h : AMay b r d) : 0 ≤ aq mo b r d ∧ aq mo b r d ≤ 400000000000000 := rq_bd (yr_is mo) (pr_bd h).2.2.1 (pr_bd h).2.2.2
theorem aq_zero (mo : Bool) (b r : Int) : aq mo b r 0 = 0 := by unfold aq; rw [Int.mul_zero, Int.mul_zero, rq_zero (yr_is mo)]
theorem aq_mono {b r d e : Int} (mo : Bool) (hb : 0 ≤ b) (hr : 0 ≤ r) (h : d ≤ e) : aq mo b r d ≤ aq mo b r e :=
  rq_mono (yr_is mo) (Int.mul_le_mul_of_nonneg_left (Int.mul_le_mul_of_nonneg_left h hr) hb)
/-- 30 days by months are a month -/
theorem aq_month (b r : Int) : aq true b r 30 = Rt.mi b r := by
  have e : b * (r * 30) = b * r * 30 := by rw [Int.mul_assoc]
  unfold aq Rt.mi
  rw [e]
  generalize b * r = n
  show rq 360000000 (n * 30) = Rt.rd n
  unfold rq Rt.rd
  split <;> split <;> omega
theorem bt_turn (mo : Bool) (y m d Y M D : Int) : bt mo y m d Y M D + bt mo Y M D y m d = 0 := by unfold bt; cases mo <;> simp <;> omega
theorem bt_sum (mo : Bool) (y m d Y M D p q s : Int) : bt mo y m d Y M D + bt mo Y M D p q s = bt mo y m d p q s := by unfold bt; cases mo <;> simp <;> omega
theorem th_bd {y m d : Int} (h : Dt.May y m d) : 0 ≤ th y m d ∧ th y m d ≤ 800000 := by
  have hin := Dt.may_in h
  have hd := Dt.dys_nn y m
  unfold Dt.May at h
  unfold Dt.InY Dt.InM at hin
  unfold th; split <;> omega
theorem bt_bd {y m d Y M D : Int} (mo : Bool) (h : Dt.May y m d) (h' : Dt.May Y M D) : -800000 ≤ bt mo y m d Y M D ∧ bt mo y m d Y M D ≤ 800000 := by
  have a := th_bd h
  have b := th_bd h'
  have p := Dt.nm_bd h
  have q := Dt.nm_bd h'
  unfold bt; cases mo <;> simp <;> omega
/-- the same day of the next month -/
theorem bt_next {y m d : Int} (hm : Dt.InM m) (hd : d ≤ 28) : bt true y m d (Dt.my y m 1) (Dt.mm y m 1) d = 30 := by
  have := Dt.my_mm y m 1
  unfold bt th; simp; split <;> omega
end Go.Proofs.YtmfjnnjjoagbiaaDoor.Ct
