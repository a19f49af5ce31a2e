import Derived.Test.YtedbfkpmffehaaaQm
namespace Go.Proofs.Ytedbfkpmffehaaa
open Go.RowKit Go.Shelf Go.Lib Ar Dg
attribute [local go_sem ↓] Go.wp_at_zero Go.wp_at_succ

theorem refmul_any (a b c m : Int) (w : World) (ha : In a) (hb : In b) (hc : In c) (hc0 : c ≠ 0) (hm1 : 1 ≤ m) (hm2 : m ≤ 4) :
    Calls Try.prog 23 #[.int .i64 a, .int .i64 b, .int .i64 c, .int .i64 m] w fun e w' => e = .returned (.tuple #[.int .i64 (sv (mdv a b c m)), .bool (decide (Fits (mdv a b c m)))]) ∧ Below w.heap.size w w' := by
  have HE := Lib.hid (mdv_qv a b c m hc0 (by omega))
  have HA := Lib.hid (show abs a * abs b = abs (a * b) ∧ (0 ≤ abs a ∧ abs a ≤ 9223372036854775808) ∧ (0 ≤ abs b ∧ abs b ≤ 9223372036854775808) from ⟨abs_mul2 a b, abs_in ha, abs_in hb⟩)
  have HI := Lib.hid (show In a ∧ In b ∧ In c from ⟨ha, hb, hc⟩)
  have HP := Lib.hid (show -85070591730234615865843651857942052865 < a * b ∧ a * b < 85070591730234615865843651857942052865 from by
    obtain ⟨h1, h2, h3⟩ := HA.out
    have h : abs a * abs b ≤ 9223372036854775808 * 9223372036854775808 := Int.mul_le_mul h2.2 h3.2 h3.1 (by omega)
    rw [h1] at h
    generalize a * b = t at *
    unfold abs at h
    split at h <;> omega)
  have HC := Lib.hid (show c ≠ 0 ∧ -9223372036854775809 < c ∧ c < 9223372036854775809 from ⟨hc0, by have := hc.1; omega, by have := hc.2; omega⟩)
  have SM := Lib.hid (show Small a ∧ Small b from ⟨small_of (by have := ha.1; omega) (by have := ha.2; omega), small_of (by have := hb.1; omega) (by have := hb.2; omega)⟩)
  have HM := Lib.hid (show 1 ≤ m ∧ m ≤ 4 from ⟨hm1, hm2⟩)
  clear ha hb hc hc0 hm1 hm2 HA
  go_enter Try.func23, Try.ntmps23
  go_wp2_with fail
  refine (of_any a _ HI.out.1).mono ?_; rintro e w1 ⟨v1, rfl, hn1, hb1⟩
  have HN1 := Lib.hid hn1
  have HB1 := Lib.hid hb1
  clear hn1 hb1
  go_wp2_with fail
  refine (of_any b _ HI.out.2.1).mono ?_; rintro e w2 ⟨v2, rfl, hn2, hb2⟩
  have HN2 := Lib.hid hn2
  have HN1 := Lib.hid ((HN1.out.below hb2).more hb2.size)
  have HB2 := Lib.hid (HB1.out.trans (hb2.mono HB1.out.size))
  clear hn2 hb2 HB1
  go_wp2_with fail
  refine (mul_num _ _ a b _ HN1.out HN2.out SM.out.1 SM.out.2).mono ?_; rintro e w3 ⟨v3, rfl, hn3, hb3⟩
  have HN3 := Lib.hid hn3
  have HB3 := Lib.hid (HB2.out.trans (hb3.mono HB2.out.size))
  clear hn3 hb3 HN1 HN2 HB2
  go_wp2_with fail
  refine (of_any c _ HI.out.2.2).mono ?_; rintro e w4 ⟨v4, rfl, hn4, hb4⟩
  have HN4 := Lib.hid hn4
  have HN3 := Lib.hid ((HN3.out.below hb4).more hb4.size)
  have HB4 := Lib.hid (HB3.out.trans (hb4.mono HB3.out.size))
  clear hn4 hb4 HB3
  go_wp2_with fail
  refine (quotient_num _ _ (a * b) c m _ HN3.out HN4.out HP.out.1 HP.out.2 HC.out.1 HC.out.2.1 HC.out.2.2 HM.out.1 HM.out.2).mono ?_; rintro e w5 ⟨v5, rfl, hn5, hb5⟩
  rw [← HE.out] at hn5
  have HN5 := Lib.hid hn5
  have HB5 := Lib.hid (HB4.out.trans (hb5.mono HB4.out.size))
  clear hn5 hb5 HN3 HN4 HB4 HE HP
  obtain ⟨x, hx⟩ : ∃ x, mdv a b c m = x := ⟨_, rfl⟩
  rw [hx] at HN5
  have HXE := Lib.hid hx
  clear hx
  go_wp2_with fail
  refine (to_num _ x _ HN5.out).mono ?_; rintro e w6 ⟨t, rfl, ht, hb6⟩
  have HB6 := Lib.hid (HB5.out.trans (hb6.mono HB5.out.size))
  clear hb6 HN5 HB5
  by_cases hf : Fits x
  · have hs : sv x = t := by rw [ht hf]; exact if_pos hf
    have hd : decide (Fits x) = true := by simpa using hf
    have HS := Lib.hid (show sv x = t ∧ decide (Fits x) = true from ⟨hs, hd⟩)
    rw [hd]
    clear ht hf hs hd
    go_wp2_with fail
    exact bodyPost_ret (by simp [results, Try.results23, go_sem]; rfl) rfl ⟨by rw [HXE.out, HS.out.1, HS.out.2], HB6.out⟩
  · have hs : sv x = 0 := if_neg hf
    have hd : decide (Fits x) = false := by simpa using hf
    have HS := Lib.hid (show sv x = 0 ∧ decide (Fits x) = false from ⟨hs, hd⟩)
    rw [hd]
    clear ht hf hs hd
    go_wp2_with fail
    exact bodyPost_ret (by simp [results, Try.results23, go_sem]; rfl) rfl ⟨by rw [HXE.out, HS.out.1, HS.out.2], HB6.out⟩

theorem quo_any (a b c m : Int) (w : World) (ha : In a) (hb : In b) (hc : In c) :
    Calls Try.prog 5 #[.int .i64 a, .int .i64 b, .int .i64 c, .int .i64 m] w fun e w' => e = .returned (.bool true) ∧ Below w.heap.size w w' := by
  have H := Lib.hid (show In a ∧ In b ∧ In c from ⟨ha, hb, hc⟩)
  clear ha hb hc
  by_cases hbad : Bad c m
  · obtain ⟨s1, s2⟩ := mv_bad (a := a) (b := b) hbad
    have q11 := eq11
    have hw : (c == 0) = true ∨ ((c == 0) = false ∧ decide (m < 1) = true) ∨ ((c == 0) = false ∧ decide (m < 1) = false ∧ decide (4 < m) = true) := by
      simp only [beq_iff_eq, beq_eq_false_iff_ne, decide_eq_true_eq, decide_eq_false_iff_not]
      unfold Bad at hbad; omega
    clear hbad
    rcases hw with h1 | ⟨h1, h2⟩ | ⟨h1, h2, h3⟩
    all_goals
      go_enter Try.func5, Try.ntmps5
      go_wp2_with fail
      refine (up_any _).mono ?_; rintro e w' ⟨rfl, n, rfl⟩
      go_wp2_with fail
      refine (muldiv_any a b c m H.out.1 H.out.2.1 H.out.2.2 _).mono ?_; rintro e w' ⟨rfl, n2, rfl⟩
      go_wp2_with fail
      go_ret
      exact ⟨rfl, below_drewN _ _ _⟩
  · obtain ⟨s1, s2⟩ := mv_good (a := a) (b := b) hbad
    have e1 : (c == 0) = false := by rw [beq_eq_false_iff_ne]; exact fun h => hbad (.inl h)
    have h1 : 1 ≤ m := Int.not_lt.1 fun h => hbad (.inr (.inl h))
    have h2 : m ≤ 4 := Int.not_lt.1 fun h => hbad (.inr (.inr h))
    have HG := Lib.hid (show c ≠ 0 ∧ 1 ≤ m ∧ m ≤ 4 from ⟨fun h => hbad (.inl h), h1, h2⟩)
    have d1 : decide (m < 1) = false := by rw [decide_eq_false_iff_not]; omega
    have d2 : decide (4 < m) = false := by rw [decide_eq_false_iff_not]; omega
    clear hbad h1 h2
    by_cases hf : Fits (mdv a b c m)
    · obtain ⟨t1, t2⟩ := sv_fit hf rfl
      rw [t1] at s1
      rw [t2] at s2
      have HF := Lib.hid (show sv (mdv a b c m) = mdv a b c m ∧ decide (Fits (mdv a b c m)) = true from ⟨t1, by simpa using hf⟩)
      clear t1 t2 hf
      go_enter Try.func5, Try.ntmps5
      go_wp2_with fail
      refine (up_any _).mono ?_; rintro e w' ⟨rfl, n, rfl⟩
      go_wp2_with fail
      refine (muldiv_any a b c m H.out.1 H.out.2.1 H.out.2.2 _).mono ?_; rintro e w' ⟨rfl, n2, rfl⟩
      rw [s1, s2]
      have HB := Lib.hid ((below_drewN w.heap.size w n).trans (below_drewN _ _ n2))
      generalize (w.drewN n).drewN n2 = w0 at *
      clear s1 s2
      go_wp2_with fail
      refine (refmul_any a b c m _ H.out.1 H.out.2.1 H.out.2.2 HG.out.1 HG.out.2.1 HG.out.2.2).mono ?_; rintro e w6 ⟨rfl, hb⟩
      rw [HF.out.1, HF.out.2]
      have HB6 := Lib.hid (HB.out.trans (hb.mono HB.out.size))
      clear hb
      go_wp2_with fail
      go_ret
      exact ⟨rfl, HB6.out⟩
    · obtain ⟨t1, t2⟩ := sv_over hf
      rw [t1] at s1
      rw [t2] at s2
      have HF := Lib.hid (show sv (mdv a b c m) = 0 ∧ decide (Fits (mdv a b c m)) = false from ⟨t1, by simpa using hf⟩)
      have q33 := eq33
      clear t1 t2 hf
      go_enter Try.func5, Try.ntmps5
      go_wp2_with fail
      refine (up_any _).mono ?_; rintro e w' ⟨rfl, n, rfl⟩
      go_wp2_with fail
      refine (muldiv_any a b c m H.out.1 H.out.2.1 H.out.2.2 _).mono ?_; rintro e w' ⟨rfl, n2, rfl⟩
      rw [s1, s2]
      have HB := Lib.hid ((below_drewN w.heap.size w n).trans (below_drewN _ _ n2))
      generalize (w.drewN n).drewN n2 = w0 at *
      clear s1 s2
      go_wp2_with fail
      refine (refmul_any a b c m _ H.out.1 H.out.2.1 H.out.2.2 HG.out.1 HG.out.2.1 HG.out.2.2).mono ?_; rintro e w6 ⟨rfl, hb⟩
      rw [HF.out.1, HF.out.2]
      have HB6 := Lib.hid (HB.out.trans (hb.mono HB.out.size))
      clear hb
      go_wp2_with fail
      go_ret
      exact ⟨rfl, HB6.out⟩
end Go.Proofs.Ytedbfkpmffehaaa
