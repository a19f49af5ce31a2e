import Derived.Test.YtjidnicmfdkehaaRl
namespace Go.Proofs.Ytjidnicmfdkehaa
open Go.RowKit Go.Shelf Go.Lib Ar

/-- an even part, rounded up -/
theorem part_mv {b m : Int} (h0 : 0 ≤ b) (h1 : b ≤ 10000000000000) (hm : 1 ≤ m) : ∃ lo, mv b 1 m 2 = lo ∧ me b 1 m 2 = .nilIface ∧ 0 ≤ lo ∧ lo ≤ 10000000000000 ∧ b ≤ lo * m ∧ (lo - 1) * m < b := by
  have hq0 : 0 ≤ b / m := Int.ediv_nonneg h0 (by omega)
  have hd := Int.emod_add_mul_ediv b m
  have hr0 := Int.emod_nonneg b (show m ≠ 0 by omega)
  have hr1 := Int.emod_lt_of_pos b (show 0 < m by omega)
  have hqb : b / m ≤ b := Int.ediv_le_self _ h0
  have hcomm : b / m * m = m * (b / m) := Int.mul_comm _ _
  have e : mdv b 1 m 2 = b / m + if b % m = 0 then 0 else 1 := by
    rw [mdv_nn h0 (by decide) (by omega), Int.mul_one]
    by_cases g : b % m = 0
    · rw [if_pos g]; simp [rup, g]
    · rw [if_neg g]; simp [rup, g]
  have hbad : ¬ Bad m 2 := by unfold Bad; omega
  by_cases g : b % m = 0
  · rw [if_pos g] at e
    have hf : Fits (mdv b 1 m 2) := by rw [e]; unfold Fits; omega
    refine ⟨b / m, ?_, ?_, hq0, by omega, by omega, ?_⟩
    · unfold mv; rw [if_neg hbad, if_pos hf, e, Int.add_zero]
    · unfold me; rw [if_neg hbad, if_pos hf]
    · have : (b / m - 1) * m = b / m * m - m := by rw [Int.sub_mul, Int.one_mul]
      omega
  · rw [if_neg g] at e
    have hlt : b / m < b ∨ b / m = 0 := by
      by_cases k : b / m = 0
      · exact .inr k
      · have : b / m * 1 ≤ b / m * m := Int.mul_le_mul_of_nonneg_left hm hq0
        rw [Int.mul_one] at this
        exact .inl (by omega)
    have hf : Fits (mdv b 1 m 2) := by rw [e]; unfold Fits; omega
    have e1 : (b / m + 1) * m = b / m * m + m := by rw [Int.add_mul, Int.one_mul]
    refine ⟨b / m + 1, ?_, ?_, by omega, by omega, by omega, ?_⟩
    · unfold mv; rw [if_neg hbad, if_pos hf, e]
    · unfold me; rw [if_neg hbad, if_pos hf]
    · have : (b / m + 1 - 1) * m = b / m * m := by rw [Int.add_sub_cancel]
      omega

def VArg (b r m : Int) : Prop := ¬ Rt.May b r ∨ m < 1 ∨ 480 < m
theorem level_arg (b r m : Int) (h : VArg b r m) (w : World) : Calls Try.prog 17 #[.int .i64 b, .int .i64 r, .int .i64 m] w fun e w' => e = .returned (.tuple #[.int .i64 0, .iface 30 (.int .i64 1)]) ∧ ∃ n, w' = w.drewN n := by
  by_cases hm : Rt.May b r
  · have hp : m < 1 ∨ 480 < m := by rcases h with h | h; exact absurd hm h; exact h
    have H := Lib.hid hm
    clear h hm
    rcases hp with hp | hp
    all_goals
      go_enter Try.func17, Try.ntmps17
      go_wp2_with fail
      refine (maybe_yes b r H.out _).mono ?_; rintro e w' ⟨rfl, rfl⟩
      go_wp2_with fail
      all_goals (go_ret2; exact ⟨rfl, 0, rfl⟩)
  · have H := Lib.hid hm
    clear h hm
    go_enter Try.func17, Try.ntmps17
    go_wp2_with fail
    refine (maybe_no b r H.out _).mono ?_; rintro e w' ⟨rfl, rfl⟩
    go_wp2_with fail
    go_ret2
    exact ⟨rfl, 0, rfl⟩

theorem level_is (b r m : Int) (h : Rt.May b r) (h0 : 1 ≤ m) (h1 : m ≤ 480) (w : World) : Calls Try.prog 17 #[.int .i64 b, .int .i64 r, .int .i64 m] w fun e w' => ∃ p, Rt.IsLvl b r m p ∧ p ≤ 11000000000000 ∧ e = .returned (.tuple #[.int .i64 p, .nilIface]) ∧ ∃ n, w' = w.drewN n := by
  obtain ⟨lo, e1, e2, l0, l1, l2, l3⟩ := part_mv h.1 h.2.1 h0
  obtain ⟨i0, i1⟩ := Rt.mi_bd h
  have HA := Lib.hid (show ∀ p, 0 ≤ p → Rt.Pays b r p m → lo ≤ p from fun p hp hq => Rt.pays_low h h0 hp hq l3)
  have HB := Lib.hid (show Rt.Pays b r (lo + Rt.mi b r) m from Rt.pays_high h h0 l0 l2 (Int.le_refl _))
  have H := Lib.hid h
  have HI := Lib.hid (show In b ∧ In 1 ∧ In m from ⟨by have := h.1; have := h.2.1; unfold In; omega, by unfold In; omega, by unfold In; omega⟩)
  have HE := Lib.hid (show mv b 1 m 2 = lo ∧ me b 1 m 2 = .nilIface from ⟨e1, e2⟩)
  clear l2 l3 e1 e2
  obtain ⟨i, hi⟩ : ∃ i, Rt.mi b r = i := ⟨_, rfl⟩
  rw [hi] at HB i0 i1
  have HM := Lib.hid hi; clear hi h
  go_enter Try.func17, Try.ntmps17
  go_wp2_with fail
  refine (maybe_yes b r H.out _).mono ?_; rintro e w' ⟨rfl, rfl⟩
  go_wp2_with fail
  refine (muldiv_any b 1 m 2 HI.out.1 HI.out.2.1 HI.out.2.2 _).mono ?_; rintro e w' ⟨rfl, n, rfl⟩
  rw [HE.out.1, HE.out.2]
  go_wp2_with fail
  refine (month_yes b r H.out _).mono ?_; rintro e w' ⟨rfl, n2, rfl⟩
  rw [HM.out]
  go_wp2_with fail
  go_loopw [8, 11] (fun l h wr => ∃ (L Hh : Int) (q : Nat), 0 ≤ L ∧ L ≤ Hh ∧ Hh ≤ 11000000000000 ∧ l = .int .i64 L ∧ h = .int .i64 Hh ∧ Hid ((∀ p, 0 ≤ p → Rt.Pays b r p m → L ≤ p) ∧ Rt.Pays b r Hh m) ∧ wr = w.drewN q) (fun l h _ => (RowKit.intOf h - RowKit.intOf l).toNat)
  case atStart => exact ⟨lo, lo + i, _, l0, by omega, by omega, rfl, rfl, ⟨HA.out, HB.out⟩, rfl⟩
  case round =>
    obtain ⟨L, Hh, q, L0, LH, H1, rfl, rfl, HX, rfl⟩ := hrel
    by_cases hlt : L < Hh
    · have q0 : (Hh - L).tdiv 2 = (Hh - L) / 2 := Int.tdiv_eq_ediv_of_nonneg (by omega)
      obtain ⟨M, hM⟩ : ∃ M, L + (Hh - L) / 2 = M := ⟨_, rfl⟩
      have hM1 : L ≤ M := by omega
      have hM2 : M < Hh := by omega
      by_cases hp : Rt.Pays b r M m
      · have HP := Lib.hid (show decide (Rt.Pays b r M m) = true by simpa using hp)
        have HN := Lib.hid (show (∀ p, 0 ≤ p → Rt.Pays b r p m → L ≤ p) ∧ Rt.Pays b r M m from ⟨HX.out.1, hp⟩)
        clear hp
        go_wp2_with fail
        refine (paysoff_any b r M m H.out (by omega) (by omega) (by omega) h1 _).mono ?_; rintro e w' ⟨rfl, n3, rfl⟩
        rw [HP.out]
        go_wp2_with fail
        go_roundw
        case rel => exact ⟨_, _, _, by omega, by omega, by omega, rfl, rfl, HN, rfl⟩
        case measure => simp [RowKit.intOf]; omega
      · have HP := Lib.hid (show decide (Rt.Pays b r M m) = false by simpa using hp)
        have HN := Lib.hid (show (∀ p, 0 ≤ p → Rt.Pays b r p m → M + 1 ≤ p) ∧ Rt.Pays b r Hh m from ⟨fun p p0 hq => by
          by_cases g : p ≤ M
          · exact absurd (Rt.pays_mono H.out g hq) hp
          · omega, HX.out.2⟩)
        clear hp
        go_wp2_with fail
        refine (paysoff_any b r M m H.out (by omega) (by omega) (by omega) h1 _).mono ?_; rintro e w' ⟨rfl, n3, rfl⟩
        rw [HP.out]
        go_wp2_with fail
        go_roundw
        case rel => exact ⟨_, _, _, by omega, by omega, by omega, rfl, rfl, HN, rfl⟩
        case measure => simp [RowKit.intOf]; omega
    · have e : Hh = L := by omega
      subst e
      have HL := Lib.hid (show Rt.IsLvl b r m Hh from ⟨L0, HX.out.2, fun _ hq => by have := HX.out.1 (Hh - 1) (by omega) hq; omega⟩)
      go_wp2_with fail
      go_ret2
      exact ⟨_, HL.out, H1, rfl, _, rfl⟩

theorem level_any (b r m : Int) (h : Rt.May b r) (h0 : 1 ≤ m) (h1 : m ≤ 480) (w : World) : Calls Try.prog 17 #[.int .i64 b, .int .i64 r, .int .i64 m] w fun e w' => e = .returned (.tuple #[.int .i64 (Rt.lvl b r m), .nilIface]) ∧ ∃ n, w' = w.drewN n :=
  (level_is b r m h h0 h1 w).mono fun e w' ⟨p, hp, _, he, hw⟩ => ⟨by rw [he, Rt.lvl_is h hp], hw⟩

theorem lvl_spec (b r m : Int) (h : Rt.May b r) (h0 : 1 ≤ m) : Rt.IsLvl b r m (Rt.lvl b r m) ∧ Rt.lvl b r m ≤ 11000000000000 := by
  obtain ⟨lo, e1, e2, l0, l1, l2, l3⟩ := part_mv h.1 h.2.1 h0
  obtain ⟨i0, i1⟩ := Rt.mi_bd h
  have hb : Rt.Pays b r (lo + Rt.mi b r) m := Rt.pays_high h h0 l0 l2 (Int.le_refl _)
  have key : ∀ (k : Nat) (t : Int), 0 ≤ t → t ≤ k → Rt.Pays b r t m → ∃ p, p ≤ t ∧ Rt.IsLvl b r m p := by
    intro k
    induction k with
    | zero => intro t t0 t1 ht; exact ⟨t, Int.le_refl t, t0, ht, fun g => absurd g (by omega)⟩
    | succ k ih =>
      intro t t0 t1 ht
      by_cases g : 0 < t ∧ Rt.Pays b r (t - 1) m
      · obtain ⟨p, p1, p2⟩ := ih (t - 1) (by omega) (by omega) g.2
        exact ⟨p, by omega, p2⟩
      · exact ⟨t, Int.le_refl t, t0, ht, fun g1 g2 => g ⟨g1, g2⟩⟩
  obtain ⟨p, p1, p2⟩ := key (lo + Rt.mi b r).toNat _ (by omega) (by omega) hb
  rw [Rt.lvl_is h p2]
  exact ⟨p2, by omega⟩

theorem up_any (w : World) : Calls Try.prog 9 #[] w fun e w' => e = .returned (.bool true) ∧ ∃ n, w' = w.drewN n := by
  have h1 : Rt.May 20000000 60000 := by decide
  have h2 : Rt.May 1200 0 := by decide
  have m1 : Rt.mi 20000000 60000 = 100000 := by decide
  have v1 : Rt.lvl 1200 0 12 = 100 := Rt.lvl_is h2 ⟨by decide, by decide, fun _ => by decide⟩
  have H := Lib.hid (show Rt.May 20000000 60000 ∧ Rt.May 1200 0 from ⟨h1, h2⟩)
  clear h1 h2
  go_enter Try.func9, Try.ntmps9
  go_wp2_with fail
  refine (month_yes _ _ H.out.1 _).mono ?_; rintro e w' ⟨rfl, n, rfl⟩
  go_wp2_with fail
  refine (level_any 1200 0 12 H.out.2 (by decide) (by decide) _).mono ?_; rintro e w' ⟨rfl, n2, rfl⟩
  go_wp2_with fail
  go_ret
  exact ⟨rfl, _, rfl⟩
