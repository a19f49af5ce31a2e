import Derived.Test.YtjidnicmfdkehaaRv
import Derived.KernelRfl
import Derived.RowKit3
namespace Go.Proofs.Ytjidnicmfdkehaa
open Go.RowKit Go.Shelf Go.Lib Ar

theorem eq11 (w : World) : (binOp .eql 24 (.iface 30 (.int .i64 1)) (.iface 30 (.int .i64 1))).run Try.prog w = .ok (.bool true) w := by kernel_rfl
theorem eq33 (w : World) : (binOp .eql 24 (.iface 30 (.int .i64 3)) (.iface 30 (.int .i64 3))).run Try.prog w = .ok (.bool true) w := by kernel_rfl
theorem in_wf {a : Int} (h : (Lit.int .i64 a).wf = true) : In a := by
  simp [Lit.wf, IntKind.min, IntKind.max, IntKind.signed, IntKind.bits] at h
  exact ⟨by omega, by omega⟩

theorem months_any (b r p : Int) (hp : In p) (w : World) : Calls Try.prog 3 #[.int .i64 b, .int .i64 r, .int .i64 p] w fun e w' => e = .returned (.bool true) ∧ ∃ n, w' = w.drewN n := by
  have q11 := eq11
  have q33 := eq33
  have hp2 := hp.2
  clear hp
  by_cases hm : Rt.May b r
  · have H := Lib.hid hm
    clear hm
    by_cases h1 : p < 0
    · go_enter Try.func3, Try.ntmps3
      go_wp2_with fail
      refine (up_any _).mono ?_; rintro e w' ⟨rfl, n, rfl⟩
      go_wp2_with fail
      refine (month_yes b r H.out _).mono ?_; rintro e w' ⟨rfl, n1, rfl⟩
      go_wp2_with fail
      refine (next_arg b r p (.inr h1) _).mono ?_; rintro e w' ⟨rfl, n2, rfl⟩
      go_wp2_with fail
      refine (may_yes b r H.out _).mono ?_; rintro e w' ⟨rfl, rfl⟩
      go_wp2_with fail
      refine (refmonth b r H.out _).mono ?_; rintro e w' ⟨rfl, rfl⟩
      go_wp2_with fail
      go_ret
      exact ⟨rfl, _, rfl⟩
    by_cases h2 : 10000000000000 < Rt.nx b r p
    · have H2 := Lib.hid h2
      clear h2
      go_enter Try.func3, Try.ntmps3
      go_wp2_with fail
      refine (up_any _).mono ?_; rintro e w' ⟨rfl, n, rfl⟩
      go_wp2_with fail
      refine (month_yes b r H.out _).mono ?_; rintro e w' ⟨rfl, n1, rfl⟩
      go_wp2_with fail
      refine (next_over b r p H.out (by omega) H2.out _).mono ?_; rintro e w' ⟨rfl, n2, rfl⟩
      go_wp2_with fail
      refine (may_yes b r H.out _).mono ?_; rintro e w' ⟨rfl, rfl⟩
      go_wp2_with fail
      refine (refmonth b r H.out _).mono ?_; rintro e w' ⟨rfl, rfl⟩
      go_wp2_with fail
      refine (refnext_over b r p H.out (by omega) H2.out _).mono ?_; rintro e w' ⟨rfl, rfl⟩
      go_wp2_with fail
      go_ret
      exact ⟨rfl, _, rfl⟩
    · have H2 := Lib.hid h2
      clear h2
      go_enter Try.func3, Try.ntmps3
      go_wp2_with fail
      refine (up_any _).mono ?_; rintro e w' ⟨rfl, n, rfl⟩
      go_wp2_with fail
      refine (month_yes b r H.out _).mono ?_; rintro e w' ⟨rfl, n1, rfl⟩
      go_wp2_with fail
      refine (next_ok b r p H.out (by omega) hp2 (by have := H2.out; omega) _).mono ?_; rintro e w' ⟨rfl, n2, rfl⟩
      go_wp2_with fail
      refine (may_yes b r H.out _).mono ?_; rintro e w' ⟨rfl, rfl⟩
      go_wp2_with fail
      refine (refmonth b r H.out _).mono ?_; rintro e w' ⟨rfl, rfl⟩
      go_wp2_with fail
      refine (refnext_ok b r p H.out (by omega) (by have := H2.out; omega) _).mono ?_; rintro e w' ⟨rfl, rfl⟩
      go_wp2_with fail
      go_ret
      exact ⟨rfl, _, rfl⟩
  · have H := Lib.hid hm
    clear hm
    go_enter Try.func3, Try.ntmps3
    go_wp2_with fail
    refine (up_any _).mono ?_; rintro e w' ⟨rfl, n, rfl⟩
    go_wp2_with fail
    refine (month_no b r H.out _).mono ?_; rintro e w' ⟨rfl, n1, rfl⟩
    go_wp2_with fail
    refine (next_arg b r p (.inl H.out) _).mono ?_; rintro e w' ⟨rfl, n2, rfl⟩
    go_wp2_with fail
    refine (may_no b r H.out _).mono ?_; rintro e w' ⟨rfl, rfl⟩
    go_wp2_with fail
    go_ret
    exact ⟨rfl, _, rfl⟩

theorem lawleft_any (b r p m : Int) (hp : In p) (w : World) : Calls Try.prog 4 #[.int .i64 b, .int .i64 r, .int .i64 p, .int .i64 m] w fun e w' => e = .returned (.bool true) ∧ ∃ n, w' = w.drewN n := by
  have q11 := eq11
  have q33 := eq33
  have hp2 := hp.2
  clear hp
  by_cases hm : Rt.May b r
  · have H := Lib.hid hm
    clear hm
    by_cases hr : p < 0 ∨ m < 0 ∨ 480 < m
    · have HR := Lib.hid (show LArg b r p m from .inr hr)
      go_enter Try.func4, Try.ntmps4
      go_wp2_with fail
      refine (up_any _).mono ?_; rintro e w' ⟨rfl, n, rfl⟩
      go_wp2_with fail
      refine (left_arg b r p m HR.out _).mono ?_; rintro e w' ⟨rfl, n1, rfl⟩
      go_wp2_with fail
      refine (may_yes b r H.out _).mono ?_; rintro e w' ⟨rfl, rfl⟩
      by_cases h1 : p < 0
      · go_wp2_with fail
        all_goals (go_ret; exact ⟨rfl, _, rfl⟩)
      by_cases h2 : m < 0
      · go_wp2_with fail
        all_goals (go_ret; exact ⟨rfl, _, rfl⟩)
      have h3 : 480 < m := by omega
      clear hr
      go_wp2_with fail
      all_goals (go_ret; exact ⟨rfl, _, rfl⟩)
    · obtain ⟨R, hR⟩ : ∃ R, Rt.lf r p m.toNat b = R := ⟨_, rfl⟩
      have HR := Lib.hid hR
      have h1 : 0 ≤ p := by omega
      have h2 : 0 ≤ m := by omega
      have h3 : m ≤ 480 := by omega
      have d1 : decide (p < 0) = false := decide_eq_false (by omega)
      have d2 : decide (m < 0) = false := decide_eq_false (by omega)
      have d3 : decide (480 < m) = false := decide_eq_false (by omega)
      clear hr hR
      cases R with
      | none =>
        go_enter Try.func4, Try.ntmps4
        go_wp2_with fail
        refine (up_any _).mono ?_; rintro e w' ⟨rfl, n, rfl⟩
        go_wp2_with fail
        refine (left_any b r p m _ H.out h1 hp2 h2 h3 HR.out _).mono ?_; rintro e w' ⟨rfl, n1, rfl⟩
        simp only [lw, le, Option.getD_none]
        go_wp2_with fail
        refine (may_yes b r H.out _).mono ?_; rintro e w' ⟨rfl, rfl⟩
        go_wp2_with fail
        refine (refleft_any b r p m _ H.out h1 h2 h3 HR.out _).mono ?_; rintro e w' ⟨rfl, rfl⟩
        simp only [lw, Option.getD_none, Option.isSome_none]
        go_wp2_with fail
        go_ret
        exact ⟨rfl, _, rfl⟩
      | some v =>
        go_enter Try.func4, Try.ntmps4
        go_wp2_with fail
        refine (up_any _).mono ?_; rintro e w' ⟨rfl, n, rfl⟩
        go_wp2_with fail
        refine (left_any b r p m _ H.out h1 hp2 h2 h3 HR.out _).mono ?_; rintro e w' ⟨rfl, n1, rfl⟩
        simp only [lw, le, Option.getD_some]
        go_wp2_with fail
        refine (may_yes b r H.out _).mono ?_; rintro e w' ⟨rfl, rfl⟩
        go_wp2_with fail
        refine (refleft_any b r p m _ H.out h1 h2 h3 HR.out _).mono ?_; rintro e w' ⟨rfl, rfl⟩
        simp only [lw, Option.getD_some, Option.isSome_some]
        go_wp2_with fail
        go_ret
        exact ⟨rfl, _, rfl⟩
  · have H := Lib.hid hm
    clear hm
    go_enter Try.func4, Try.ntmps4
    go_wp2_with fail
    refine (up_any _).mono ?_; rintro e w' ⟨rfl, n, rfl⟩
    go_wp2_with fail
    refine (left_arg b r p m (.inl H.out) _).mono ?_; rintro e w' ⟨rfl, n1, rfl⟩
    go_wp2_with fail
    refine (may_no b r H.out _).mono ?_; rintro e w' ⟨rfl, rfl⟩
    go_wp2_with fail
    all_goals (go_ret; exact ⟨rfl, _, rfl⟩)

theorem lawlevel_any (b r m : Int) (w : World) : Calls Try.prog 5 #[.int .i64 b, .int .i64 r, .int .i64 m] w fun e w' => e = .returned (.bool true) ∧ ∃ n, w' = w.drewN n := by
  have q11 := eq11
  by_cases hm : Rt.May b r
  · have H := Lib.hid hm
    by_cases hr : m < 1 ∨ 480 < m
    · have HR := Lib.hid (show VArg b r m from .inr hr)
      clear hm
      go_enter Try.func5, Try.ntmps5
      go_wp2_with fail
      refine (up_any _).mono ?_; rintro e w' ⟨rfl, n, rfl⟩
      go_wp2_with fail
      refine (level_arg b r m HR.out _).mono ?_; rintro e w' ⟨rfl, n1, rfl⟩
      go_wp2_with fail
      refine (may_yes b r H.out _).mono ?_; rintro e w' ⟨rfl, rfl⟩
      by_cases h1 : m < 1
      · go_wp2_with fail
        all_goals (go_ret; exact ⟨rfl, _, rfl⟩)
      have h3 : 480 < m := by omega
      clear hr
      go_wp2_with fail
      all_goals (go_ret; exact ⟨rfl, _, rfl⟩)
    · have h2 : 1 ≤ m := by omega
      have h3 : m ≤ 480 := by omega
      have d2 : decide (m < 1) = false := decide_eq_false (by omega)
      have d3 : decide (480 < m) = false := decide_eq_false (by omega)
      obtain ⟨⟨p0, p1, p2⟩, p3⟩ := lvl_spec b r m hm h2
      obtain ⟨p, hp⟩ : ∃ p, Rt.lvl b r m = p := ⟨_, rfl⟩
      rw [hp] at p0 p1 p2 p3
      have HP := Lib.hid hp
      have HD := Lib.hid (show decide (Rt.Pays b r p m) = true by simpa using p1)
      clear hr hm hp p1
      by_cases hz : 0 < p
      · have HN := Lib.hid (show decide (Rt.Pays b r (p - 1) m) = false by simpa using p2 hz)
        clear p2
        go_enter Try.func5, Try.ntmps5
        go_wp2_with fail
        refine (up_any _).mono ?_; rintro e w' ⟨rfl, n, rfl⟩
        go_wp2_with fail
        refine (level_any b r m H.out h2 h3 _).mono ?_; rintro e w' ⟨rfl, n1, rfl⟩
        rw [HP.out]
        go_wp2_with fail
        refine (may_yes b r H.out _).mono ?_; rintro e w' ⟨rfl, rfl⟩
        go_wp2_with fail
        refine (pays_any b r p m H.out p0 (by omega) h3 _).mono ?_; rintro e w' ⟨rfl, rfl⟩
        rw [HD.out]
        go_wp2_with fail
        refine (pays_any b r (p - 1) m H.out (by omega) (by omega) h3 _).mono ?_; rintro e w' ⟨rfl, rfl⟩
        rw [HN.out]
        go_wp2_with fail
        go_ret
        exact ⟨rfl, _, rfl⟩
      · clear p2
        go_enter Try.func5, Try.ntmps5
        go_wp2_with fail
        refine (up_any _).mono ?_; rintro e w' ⟨rfl, n, rfl⟩
        go_wp2_with fail
        refine (level_any b r m H.out h2 h3 _).mono ?_; rintro e w' ⟨rfl, n1, rfl⟩
        rw [HP.out]
        go_wp2_with fail
        refine (may_yes b r H.out _).mono ?_; rintro e w' ⟨rfl, rfl⟩
        go_wp2_with fail
        refine (pays_any b r p m H.out p0 (by omega) h3 _).mono ?_; rintro e w' ⟨rfl, rfl⟩
        rw [HD.out]
        go_wp2_with fail
        go_ret
        exact ⟨rfl, _, rfl⟩
  · have H := Lib.hid hm
    clear hm
    go_enter Try.func5, Try.ntmps5
    go_wp2_with fail
    refine (up_any _).mono ?_; rintro e w' ⟨rfl, n, rfl⟩
    go_wp2_with fail
    refine (level_arg b r m (.inl H.out) _).mono ?_; rintro e w' ⟨rfl, n1, rfl⟩
    go_wp2_with fail
    refine (may_no b r H.out _).mono ?_; rintro e w' ⟨rfl, rfl⟩
    go_wp2_with fail
    all_goals (go_ret; exact ⟨rfl, _, rfl⟩)
