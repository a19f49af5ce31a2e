import Derived.Test.YtmfjnnjjoagbiaaDoorDiv
import Derived.Test.YtmfjnnjjoagbiaaDoorSp
import Derived.BigGuardPart
import Derived.Deep.RegionWith
namespace Go.Proofs.YtmfjnnjjoagbiaaDoor
open Go.RowKit Go.Shelf Go.Lib Ar

theorem ismode_yes (m : Int) (h1 : 1 ≤ m) (h2 : m ≤ 4) (w : World) : Calls Tryd.prog 35 #[.int .i64 m] w fun e w' => e = .returned (.bool true) ∧ w = w' := by
  go_enter Tryd.func35, Tryd.ntmps35
  go_wp2
  go_ret
  exact ⟨by simp, rfl⟩
theorem ismode_no (m : Int) (h : m < 1 ∨ 4 < m) (w : World) : Calls Tryd.prog 35 #[.int .i64 m] w fun e w' => e = .returned (.bool false) ∧ w = w' := by
  rcases h with h | h
  all_goals
    go_enter Tryd.func35, Tryd.ntmps35
    go_wp2
    all_goals (go_ret; exact ⟨by simp; try omega, rfl⟩)

theorem size_any (n : Int) (h : In n) (w : World) : Calls Tryd.prog 36 #[.int .i64 n] w fun e w' => e = .returned (.int .u64 (abs n)) ∧ w = w' := by
  obtain ⟨h1, h2⟩ := h
  by_cases hn : n < 0
  · have e : abs n = -n := by unfold abs; rw [if_pos hn]
    rw [e]
    have e1 : IntKind.u64.wrap (-IntKind.u64.wrap n) = -n := by rw [IntKind.wrap_u64, IntKind.wrap_u64]; omega
    go_enter Tryd.func36, Tryd.ntmps36
    go_wp2
    go_ret
    exact ⟨by simp, rfl⟩
  · have e : abs n = n := by unfold abs; rw [if_neg hn]
    rw [e]
    go_enter Tryd.func36, Tryd.ntmps36
    go_wp2
    go_ret
    exact ⟨by simp, rfl⟩

theorem further_any (q r C m : Int) (B : Bool) (hq0 : 0 ≤ q) (hq : q < 18446744073709551616) (hr0 : 0 ≤ r) (hr : r < C) (hC : C < 18446744073709551616) (h1 : 1 ≤ m) (h2 : m ≤ 4) (w : World) :
    Calls Tryd.prog 39 #[.int .u64 q, .int .u64 r, .int .u64 C, .bool B, .int .i64 m] w fun e w' => e = .returned (.bool (rup q r C B m)) ∧ w = w' := by
  by_cases h0 : r = 0
  · subst h0
    have e : rup q 0 C B m = false := by simp [rup]
    rw [e]
    go_enter Tryd.func39, Tryd.ntmps39
    go_wp2
    go_ret
    exact ⟨rfl, rfl⟩
  have e0 : (r == 0) = false := by simp [h0]
  have hm : m = 1 ∨ m = 2 ∨ m = 3 ∨ m = 4 := by omega
  rcases hm with rfl | rfl | rfl | rfl
  · have e : rup q r C B 1 = B := by simp [rup, h0]
    rw [e]
    go_enter Tryd.func39, Tryd.ntmps39
    go_wp2
    go_ret
    exact ⟨rfl, rfl⟩
  · have e : rup q r C B 2 = !B := by simp [rup, h0]
    rw [e]
    go_enter Tryd.func39, Tryd.ntmps39
    go_wp2
    go_ret
    exact ⟨rfl, rfl⟩
  · have e : rup q r C B 3 = decide (C - r ≤ r) := by simp [rup, h0]
    rw [e]
    go_enter Tryd.func39, Tryd.ntmps39
    go_wp2
    go_ret
    exact ⟨rfl, rfl⟩
  · have e : rup q r C B 4 = (decide (C - r < r) || (decide (r = C - r) && decide (q % 2 = 1))) := by simp [rup, h0]
    rw [e]
    by_cases c1 : C - r < r
    · have e1 : decide (C - r < r) = true := by simp [c1]
      rw [e1]
      go_enter Tryd.func39, Tryd.ntmps39
      go_wp2
      go_ret
      exact ⟨rfl, rfl⟩
    · have e1 : decide (C - r < r) = false := by simp [c1]
      rw [e1]
      by_cases c2 : r = C - r
      · have e2 : (r == C - r) = true := by simpa using c2
        have e3 : decide (r = C - r) = true := by simp only [decide_eq_true_eq]; exact c2
        rw [e3]
        clear c2 e3 e
        go_enter Tryd.func39, Tryd.ntmps39
        go_wp2
        go_ret
        exact ⟨by simp; rw [Bool.eq_iff_iff]; simp, rfl⟩
      · have e2 : (r == C - r) = false := by simpa using c2
        have e3 : decide (r = C - r) = false := by simp only [decide_eq_false_iff_not]; exact c2
        rw [e3]
        clear c2 e3 e
        go_enter Tryd.func39, Tryd.ntmps39
        go_wp2
        go_ret
        exact ⟨by simp, rfl⟩

theorem signed_pos (n : Int) (h0 : 0 ≤ n) (h1 : n ≤ 9223372036854775807) (w : World) :
    Calls Tryd.prog 40 #[.int .u64 n, .bool false] w fun e w' => e = .returned (.tuple #[.int .i64 n, .nilIface]) ∧ w = w' := by
  go_enter Tryd.func40, Tryd.ntmps40
  go_wp2
  go_ret2
  exact ⟨rfl, rfl⟩
theorem signed_over (n : Int) (h0 : 9223372036854775808 ≤ n) (h1 : n < 18446744073709551616) (w : World) :
    Calls Tryd.prog 40 #[.int .u64 n, .bool false] w fun e w' => e = .returned (.tuple #[.int .i64 0, .iface 30 (.int .i64 3)]) ∧ w = w' := by
  go_enter Tryd.func40, Tryd.ntmps40
  go_wp2
  go_ret2
  exact ⟨rfl, rfl⟩
theorem signed_neg (n : Int) (h0 : 0 ≤ n) (h1 : n ≤ 9223372036854775808) (w : World) :
    Calls Tryd.prog 40 #[.int .u64 n, .bool true] w fun e w' => e = .returned (.tuple #[.int .i64 (-n), .nilIface]) ∧ w = w' := by
  have e1 : IntKind.i64.wrap (IntKind.u64.wrap (-n)) = -n := by rw [IntKind.wrap_u64, IntKind.wrap_i64]; omega
  go_enter Tryd.func40, Tryd.ntmps40
  go_wp2
  go_ret2
  exact ⟨by simp, rfl⟩
theorem signed_nover (n : Int) (h0 : 9223372036854775808 < n) (h1 : n < 18446744073709551616) (w : World) :
    Calls Tryd.prog 40 #[.int .u64 n, .bool true] w fun e w' => e = .returned (.tuple #[.int .i64 0, .iface 30 (.int .i64 3)]) ∧ w = w' := by
  go_enter Tryd.func40, Tryd.ntmps40
  go_wp2
  go_ret2
  exact ⟨rfl, rfl⟩

theorem mul64 (x y : Int) (hx0 : 0 ≤ x) (hx : x < 18446744073709551616) (hy0 : 0 ≤ y) (hy : y < 18446744073709551616) (w : World) :
    Calls Tryd.prog 37 #[.int .u64 x, .int .u64 y] w fun e w' => e = .returned (.tuple #[.int .u64 (x * y / 18446744073709551616), .int .u64 (x * y % 18446744073709551616)]) ∧ w = w' := by
  obtain ⟨x, rfl⟩ := Int.eq_ofNat_of_zero_le hx0
  obtain ⟨y, rfl⟩ := Int.eq_ofNat_of_zero_le hy0
  refine (Tryd.bits_Mul64 x y (by omega) (by omega) w).mono fun e w' ⟨he, hw⟩ => ⟨?_, hw.symm⟩
  rw [he]
  have e1 : ((x * y / 18446744073709551616 : Nat) : Int) = (x : Int) * y / 18446744073709551616 := by rw [Int.natCast_ediv, Int.natCast_mul]; rfl
  have e2 : ((x * y % 18446744073709551616 : Nat) : Int) = (x : Int) * y % 18446744073709551616 := by rw [Int.natCast_emod, Int.natCast_mul]; rfl
  rw [e1, e2]

theorem muldiv_zero (a b m : Int) (w : World) :
    Calls Tryd.prog 24 #[.int .i64 a, .int .i64 b, .int .i64 0, .int .i64 m] w fun e w' => e = .returned (.tuple #[.int .i64 0, .iface 30 (.int .i64 1)]) ∧ ∃ n, w' = w.drewN n := by
  go_enter Tryd.func24, Tryd.ntmps24
  go_wp2
  go_ret2
  exact ⟨rfl, 0, rfl⟩
theorem muldiv_mode (a b c m : Int) (hc : c ≠ 0) (hm : m < 1 ∨ 4 < m) (w : World) :
    Calls Tryd.prog 24 #[.int .i64 a, .int .i64 b, .int .i64 c, .int .i64 m] w fun e w' => e = .returned (.tuple #[.int .i64 0, .iface 30 (.int .i64 1)]) ∧ ∃ n, w' = w.drewN n := by
  have e0 : (c == 0) = false := by simp [hc]
  have HM := Lib.hid hm; clear hm
  go_enter Tryd.func24, Tryd.ntmps24
  go_wp2_with (go_at_call 35; refine (ismode_no m HM.out _).mono ?_; rintro e w' ⟨rfl, rfl⟩)
  go_ret2
  exact ⟨rfl, 0, rfl⟩
theorem muldiv_wide (a b c m A C hi lo : Int) (ha : In a) (hb : In b) (hc : In c) (hc0 : c ≠ 0) (h1 : 1 ≤ m) (h2 : m ≤ 4) (eA : abs a * abs b = A) (eC : abs c = C) (eh : A / 18446744073709551616 = hi) (el : A % 18446744073709551616 = lo) (hh : C ≤ hi) (w : World) :
    Calls Tryd.prog 24 #[.int .i64 a, .int .i64 b, .int .i64 c, .int .i64 m] w fun e w' => e = .returned (.tuple #[.int .i64 0, .iface 30 (.int .i64 3)]) ∧ ∃ n, w' = w.drewN n := by
  have e0 : (c == 0) = false := by simp [hc0]
  have h3 := abs_in ha
  have h4 := abs_in hb
  have HH := Lib.hid (show In a ∧ In b ∧ In c ∧ (0 ≤ abs a ∧ abs a < 18446744073709551616) ∧ 0 ≤ abs b ∧ abs b < 18446744073709551616 from ⟨ha, hb, hc, by omega, by omega⟩)
  clear ha hb hc hc0 h3 h4
  go_enter Tryd.func24, Tryd.ntmps24
  go_wp2_with (first
    | (go_at_call 35; refine (ismode_yes m (by omega) (by omega) _).mono ?_; rintro e w' ⟨rfl, rfl⟩)
    | (go_at_call_of 36 (Value.int .i64 a); refine (size_any a HH.out.1 _).mono ?_; rintro e w' ⟨rfl, rfl⟩)
    | (go_at_call_of 36 (Value.int .i64 b); refine (size_any b HH.out.2.1 _).mono ?_; rintro e w' ⟨rfl, rfl⟩)
    | (go_at_call_of 36 (Value.int .i64 c); refine (size_any c HH.out.2.2.1 _).mono ?_; rintro e w' ⟨rfl, rfl⟩)
    | (go_at_call 37; refine (mul64 _ _ HH.out.2.2.2.1.1 HH.out.2.2.2.1.2 HH.out.2.2.2.2.1 HH.out.2.2.2.2.2 _).mono ?_; rintro e w' ⟨rfl, rfl⟩))
  go_ret2
  exact ⟨rfl, 0, rfl⟩

theorem muldiv_big (a b c m A C hi lo q r : Int) (ha : In a) (hb : In b) (hc : In c) (hc0 : c ≠ 0) (h1 : 1 ≤ m) (h2 : m ≤ 4) (eA : abs a * abs b = A) (eC : abs c = C) (eh : A / 18446744073709551616 = hi) (el : A % 18446744073709551616 = lo)
    (h0 : 0 ≤ hi) (hh : hi < C) (eq : (hi * 18446744073709551616 + lo) / C = q) (er : (hi * 18446744073709551616 + lo) % C = r) (hq : 9223372036854775808 < q) (w : World) :
    Calls Tryd.prog 24 #[.int .i64 a, .int .i64 b, .int .i64 c, .int .i64 m] w fun e w' => e = .returned (.tuple #[.int .i64 0, .iface 30 (.int .i64 3)]) ∧ ∃ n, w' = w.drewN n := by
  have e0 : (c == 0) = false := by simp [hc0]
  have h3 := abs_in ha
  have h4 := abs_in hb
  have h5 := abs_in hc
  have HH := Lib.hid (show In a ∧ In b ∧ In c ∧ (0 ≤ abs a ∧ abs a < 18446744073709551616) ∧ 0 ≤ abs b ∧ abs b < 18446744073709551616 from ⟨ha, hb, hc, by omega, by omega⟩)
  have HL := Lib.hid (show 0 ≤ lo ∧ lo < 18446744073709551616 ∧ C < 18446744073709551616 from ⟨by omega, by omega, by omega⟩)
  clear ha hb hc hc0 h3 h4 h5
  go_enter Tryd.func24, Tryd.ntmps24
  go_wp2_with (first
    | (go_at_call 35; refine (ismode_yes m (by omega) (by omega) _).mono ?_; rintro e w' ⟨rfl, rfl⟩)
    | (go_at_call_of 36 (Value.int .i64 a); refine (size_any a HH.out.1 _).mono ?_; rintro e w' ⟨rfl, rfl⟩)
    | (go_at_call_of 36 (Value.int .i64 b); refine (size_any b HH.out.2.1 _).mono ?_; rintro e w' ⟨rfl, rfl⟩)
    | (go_at_call_of 36 (Value.int .i64 c); refine (size_any c HH.out.2.2.1 _).mono ?_; rintro e w' ⟨rfl, rfl⟩)
    | (go_at_call 37; refine (mul64 _ _ HH.out.2.2.2.1.1 HH.out.2.2.2.1.2 HH.out.2.2.2.2.1 HH.out.2.2.2.2.2 _).mono ?_; rintro e w' ⟨rfl, rfl⟩)
    | (go_at_call 38; refine (div64_any _ _ _ h0 hh HL.out.1 HL.out.2.1 HL.out.2.2 _).mono ?_; rintro e w' ⟨rfl, n, rfl⟩))
  go_ret2
  exact ⟨rfl, _, rfl⟩

theorem muldiv_mid (a b c m A C hi lo q r n : Int) (B up : Bool) (res : Value) (ha : In a) (hb : In b) (hc : In c) (hc0 : c ≠ 0) (h1 : 1 ≤ m) (h2 : m ≤ 4) (eA : abs a * abs b = A) (eC : abs c = C) (eh : A / 18446744073709551616 = hi) (el : A % 18446744073709551616 = lo)
    (h0 : 0 ≤ hi) (hh : hi < C) (eq : (hi * 18446744073709551616 + lo) / C = q) (er : (hi * 18446744073709551616 + lo) % C = r) (hq : q ≤ 9223372036854775808) (eB : neg3 a b c = B) (eu : rup q r C B m = up) (en : (if up then q + 1 else q) = n)
    (hsg : ∀ w, Calls Tryd.prog 40 #[.int .u64 n, .bool B] w fun e w' => e = .returned res ∧ w = w') (hres : ∃ x y, res = .tuple #[x, y]) (w : World) :
    Calls Tryd.prog 24 #[.int .i64 a, .int .i64 b, .int .i64 c, .int .i64 m] w fun e w' => e = .returned res ∧ ∃ n, w' = w.drewN n := by
  obtain ⟨x, y, rfl⟩ := hres
  have e0 : (c == 0) = false := by simp [hc0]
  have h3 := abs_in ha
  have h4 := abs_in hb
  have h5 := abs_in hc
  have HH := Lib.hid (show In a ∧ In b ∧ In c ∧ (0 ≤ abs a ∧ abs a < 18446744073709551616) ∧ 0 ≤ abs b ∧ abs b < 18446744073709551616 from ⟨ha, hb, hc, by omega, by omega⟩)
  have HL := Lib.hid (show 0 ≤ lo ∧ lo < 18446744073709551616 ∧ C < 18446744073709551616 from ⟨by omega, by omega, by omega⟩)
  have hq0 : 0 ≤ q := by rw [← eq]; exact Int.ediv_nonneg (by omega) (by omega)
  have hr0 : 0 ≤ r := by rw [← er]; exact Int.emod_nonneg _ (by omega)
  have hr : r < C := by rw [← er]; exact Int.emod_lt_of_pos _ (by omega)
  have HS := Lib.hid hsg
  clear ha hb hc hc0 h3 h4 h5 hsg
  have eB' : (!((!(decide (a < 0) == decide (b < 0))) == decide (c < 0))) = B := eB
  clear eB
  cases up
  all_goals
    simp at en; subst en
    have HU := Lib.hid eu; clear eu
    go_enter Tryd.func24, Tryd.ntmps24
    go_wp2_with (first
      | (go_at_call 35; refine (ismode_yes m (by omega) (by omega) _).mono ?_; rintro e w' ⟨rfl, rfl⟩)
      | (go_at_call_of 36 (Value.int .i64 a); refine (size_any a HH.out.1 _).mono ?_; rintro e w' ⟨rfl, rfl⟩)
      | (go_at_call_of 36 (Value.int .i64 b); refine (size_any b HH.out.2.1 _).mono ?_; rintro e w' ⟨rfl, rfl⟩)
      | (go_at_call_of 36 (Value.int .i64 c); refine (size_any c HH.out.2.2.1 _).mono ?_; rintro e w' ⟨rfl, rfl⟩)
      | (go_at_call 37; refine (mul64 _ _ HH.out.2.2.2.1.1 HH.out.2.2.2.1.2 HH.out.2.2.2.2.1 HH.out.2.2.2.2.2 _).mono ?_; rintro e w' ⟨rfl, rfl⟩)
      | (go_at_call 38; refine (div64_any _ _ _ h0 hh HL.out.1 HL.out.2.1 HL.out.2.2 _).mono ?_; rintro e w' ⟨rfl, n, rfl⟩)
      | (go_at_call 39; refine (further_any _ _ _ _ _ hq0 (by omega) hr0 hr HL.out.2.2 h1 h2 _).mono ?_; rintro e w' ⟨rfl, rfl⟩; rw [HU.out])
      | (go_at_call 40; refine (HS.out _).mono ?_; rintro e w' ⟨rfl, rfl⟩))
    go_ret2
    exact ⟨rfl, _, rfl⟩

/-- what MulDiv comes to: its number and its error -/
def Bad (c m : Int) : Prop := c = 0 ∨ m < 1 ∨ 4 < m
instance (c m : Int) : Decidable (Bad c m) := inferInstanceAs (Decidable (_ ∨ _ ∨ _))
instance (v : Int) : Decidable (Fits v) := inferInstanceAs (Decidable (_ ∧ _))
def mv (a b c m : Int) : Int := if Bad c m then 0 else if Fits (mdv a b c m) then mdv a b c m else 0
def me (a b c m : Int) : Value := if Bad c m then .iface 30 (.int .i64 1) else if Fits (mdv a b c m) then .nilIface else .iface 30 (.int .i64 3)

theorem muldiv_any (a b c m : Int) (ha : In a) (hb : In b) (hc : In c) (w : World) :
    Calls Tryd.prog 24 #[.int .i64 a, .int .i64 b, .int .i64 c, .int .i64 m] w fun e w' => e = .returned (.tuple #[.int .i64 (mv a b c m), me a b c m]) ∧ ∃ n, w' = w.drewN n := by
  by_cases hbad : Bad c m
  · have e1 : mv a b c m = 0 := if_pos hbad
    have e2 : me a b c m = .iface 30 (.int .i64 1) := if_pos hbad
    rw [e1, e2]
    by_cases h0 : c = 0
    · subst h0; exact muldiv_zero a b m w
    · exact muldiv_mode a b c m h0 (by rcases hbad with h | h; exact absurd h h0; exact h) w
  have hc0 : c ≠ 0 := fun h => hbad (.inl h)
  have hm1 : 1 ≤ m := Int.not_lt.1 fun h => hbad (.inr (.inl h))
  have hm2 : m ≤ 4 := Int.not_lt.1 fun h => hbad (.inr (.inr h))
  have h3 := abs_in ha
  have h4 := abs_in hb
  have h5 := abs_in hc
  have h6 := abs_pos hc0
  have e1 : mv a b c m = if Fits (mdv a b c m) then mdv a b c m else 0 := if_neg hbad
  have e2 : me a b c m = if Fits (mdv a b c m) then .nilIface else .iface 30 (.int .i64 3) := if_neg hbad
  have hA0 : 0 ≤ abs a * abs b := Int.mul_nonneg h3.1 h4.1
  have eN : abs a * abs b / 18446744073709551616 * 18446744073709551616 + abs a * abs b % 18446744073709551616 = abs a * abs b := by omega
  have hmag : mag a b c m = abs a * abs b / abs c + if rup (abs a * abs b / abs c) (abs a * abs b % abs c) (abs c) (neg3 a b c) m then 1 else 0 := rfl
  have hq0 : 0 ≤ abs a * abs b / abs c := Int.ediv_nonneg hA0 h5.1
  have hbig : 9223372036854775808 < abs a * abs b / abs c → ¬ Fits (mdv a b c m) := by
    intro h hf
    have : 9223372036854775808 < mag a b c m := by rw [hmag]; split <;> omega
    by_cases hB : neg3 a b c = true
    · rw [show mdv a b c m = -mag a b c m from if_pos hB] at hf; obtain ⟨f1, f2⟩ := hf; omega
    · rw [show mdv a b c m = mag a b c m from if_neg hB] at hf; obtain ⟨f1, f2⟩ := hf; omega
  by_cases hh : abs c ≤ abs a * abs b / 18446744073709551616
  · have hn : ¬ Fits (mdv a b c m) := by
      refine hbig ?_
      have : 18446744073709551616 ≤ abs a * abs b / abs c := by
        rw [Int.le_ediv_iff_mul_le (by omega)]; omega
      omega
    rw [e1, e2, if_neg hn, if_neg hn]
    exact muldiv_wide a b c m _ _ _ _ ha hb hc hc0 hm1 hm2 rfl rfl rfl rfl hh w
  by_cases hq : 9223372036854775808 < abs a * abs b / abs c
  · have hn := hbig hq
    rw [e1, e2, if_neg hn, if_neg hn]
    exact muldiv_big a b c m _ _ _ _ _ _ ha hb hc hc0 hm1 hm2 rfl rfl rfl rfl (Int.ediv_nonneg hA0 (by decide)) (by omega) (by rw [eN]) rfl hq w
  have hmag2 : mag a b c m = if rup (abs a * abs b / abs c) (abs a * abs b % abs c) (abs c) (neg3 a b c) m then abs a * abs b / abs c + 1 else abs a * abs b / abs c := by
    rw [hmag]; split <;> omega
  have hm0 : 0 ≤ mag a b c m ∧ mag a b c m ≤ 9223372036854775809 := by rw [hmag2]; split <;> omega
  have mid := fun res hsg hres => muldiv_mid a b c m _ _ _ _ _ _ (mag a b c m) (neg3 a b c) _ res ha hb hc hc0 hm1 hm2 rfl rfl rfl rfl (Int.ediv_nonneg hA0 (by decide)) (by omega) (by rw [eN]) (by rw [eN]) (by omega) rfl rfl hmag2.symm hsg hres w
  by_cases hB : neg3 a b c = true
  · have e3 : mdv a b c m = -mag a b c m := if_pos hB
    rw [hB] at mid
    by_cases hf : Fits (mdv a b c m)
    · rw [e1, e2, if_pos hf, if_pos hf, e3]
      rw [e3] at hf
      exact mid _ (fun w => signed_neg _ hm0.1 (by have := hf.1; omega) w) ⟨_, _, rfl⟩
    · rw [e1, e2, if_neg hf, if_neg hf]
      refine mid _ (fun w => signed_nover _ ?_ (by omega) w) ⟨_, _, rfl⟩
      rw [e3] at hf; unfold Fits at hf; omega
  · have e3 : mdv a b c m = mag a b c m := if_neg hB
    rw [Bool.not_eq_true] at hB
    rw [hB] at mid
    by_cases hf : Fits (mdv a b c m)
    · rw [e1, e2, if_pos hf, if_pos hf, e3]
      rw [e3] at hf
      exact mid _ (fun w => signed_pos _ hm0.1 hf.2 w) ⟨_, _, rfl⟩
    · rw [e1, e2, if_neg hf, if_neg hf]
      refine mid _ (fun w => signed_over _ ?_ (by omega) w) ⟨_, _, rfl⟩
      rw [e3] at hf; unfold Fits at hf; omega
