import Derived.Test.YtjidnicmfdkehaaRm
namespace Go.Proofs.Ytjidnicmfdkehaa
open Go.RowKit Go.Shelf Go.Lib Ar

theorem next_arg (b r p : Int) (h : ¬ Rt.May b r ∨ p < 0) (w : World) : Calls Try.prog 11 #[.int .i64 b, .int .i64 r, .int .i64 p] w fun e w' => e = .returned (.tuple #[.int .i64 0, .int .i64 0, .iface 30 (.int .i64 1)]) ∧ ∃ n, w' = w.drewN n := by
  by_cases hm : Rt.May b r
  · have hp : p < 0 := by rcases h with h | h; exact absurd hm h; exact h
    have H := Lib.hid hm
    clear h hm
    go_enter Try.func11, Try.ntmps11
    go_wp2_with fail
    refine (maybe_yes b r H.out _).mono ?_; rintro e w' ⟨rfl, rfl⟩
    go_wp2_with fail
    go_ret3
    exact ⟨rfl, 0, rfl⟩
  · have H := Lib.hid hm
    clear h hm
    go_enter Try.func11, Try.ntmps11
    go_wp2_with fail
    refine (maybe_no b r H.out _).mono ?_; rintro e w' ⟨rfl, rfl⟩
    go_wp2_with fail
    go_ret3
    exact ⟨rfl, 0, rfl⟩

theorem next_over (b r p : Int) (h : Rt.May b r) (hp : 0 ≤ p) (ho : 10000000000000 < Rt.nx b r p) (w : World) : Calls Try.prog 11 #[.int .i64 b, .int .i64 r, .int .i64 p] w fun e w' => e = .returned (.tuple #[.int .i64 0, .int .i64 0, .iface 30 (.int .i64 3)]) ∧ ∃ n, w' = w.drewN n := by
  have H := Lib.hid h
  obtain ⟨i0, i1⟩ := Rt.mi_bd h
  obtain ⟨h1, h2, h3, h4⟩ := h
  unfold Rt.nx at ho
  obtain ⟨i, hi⟩ : ∃ i, Rt.mi b r = i := ⟨_, rfl⟩
  rw [hi] at ho i0 i1
  have HI := Lib.hid hi; clear hi
  rw [if_neg (by intro g; rw [if_pos g] at ho; omega)] at ho
  have hmin : min p (b + i) = p := by omega
  clear h3 h4
  go_enter Try.func11, Try.ntmps11
  go_wp2_with fail
  refine (maybe_yes b r H.out _).mono ?_; rintro e w' ⟨rfl, rfl⟩
  go_wp2_with fail
  refine (month_yes b r H.out _).mono ?_; rintro e w' ⟨rfl, n, rfl⟩
  rw [HI.out]
  go_wp2_with fail
  go_ret3
  exact ⟨rfl, _, rfl⟩

theorem next_ok (b r p : Int) (h : Rt.May b r) (hp : 0 ≤ p) (hq : p ≤ 9223372036854775807) (ho : ¬ 10000000000000 < Rt.nx b r p) (w : World) : Calls Try.prog 11 #[.int .i64 b, .int .i64 r, .int .i64 p] w fun e w' => e = .returned (.tuple #[.int .i64 (Rt.nx b r p), .int .i64 (Rt.mi b r), .nilIface]) ∧ ∃ n, w' = w.drewN n := by
  have H := Lib.hid h
  obtain ⟨i0, i1⟩ := Rt.mi_bd h
  obtain ⟨h1, h2, h3, h4⟩ := h
  obtain ⟨x, hx⟩ : ∃ x, Rt.nx b r p = x := ⟨_, rfl⟩
  rw [hx] at ho ⊢
  unfold Rt.nx at hx
  obtain ⟨i, hi⟩ : ∃ i, Rt.mi b r = i := ⟨_, rfl⟩
  rw [hi] at hx i0 i1 ⊢
  have HI := Lib.hid hi; clear hi
  have hmin : (b + i) - min p (b + i) = x := by rw [← hx]; split <;> omega
  clear h3 h4 hx
  go_enter Try.func11, Try.ntmps11
  go_wp2_with fail
  refine (maybe_yes b r H.out _).mono ?_; rintro e w' ⟨rfl, rfl⟩
  go_wp2_with fail
  refine (month_yes b r H.out _).mono ?_; rintro e w' ⟨rfl, n, rfl⟩
  rw [HI.out]
  go_wp2_with fail
  go_ret3
  exact ⟨rfl, _, rfl⟩

theorem refnext_over (b r p : Int) (h : Rt.May b r) (hp : 0 ≤ p) (ho : 10000000000000 < Rt.nx b r p) (w : World) : Calls Try.prog 14 #[.int .i64 b, .int .i64 r, .int .i64 p] w fun e w' => e = .returned (.tuple #[.int .i64 0, .bool false]) ∧ w = w' := by
  have H := Lib.hid h
  obtain ⟨i0, i1⟩ := Rt.mi_bd h
  obtain ⟨h1, h2, h3, h4⟩ := h
  unfold Rt.nx at ho
  obtain ⟨i, hi⟩ : ∃ i, Rt.mi b r = i := ⟨_, rfl⟩
  rw [hi] at ho i0 i1
  have HI := Lib.hid hi; clear hi
  rw [if_neg (by intro g; rw [if_pos g] at ho; omega)] at ho
  clear h3 h4
  go_enter Try.func14, Try.ntmps14
  go_wp2_with fail
  refine (refmonth b r H.out _).mono ?_; rintro e w' ⟨rfl, rfl⟩
  rw [HI.out]
  go_wp2_with fail
  go_ret2
  exact ⟨rfl, rfl⟩

theorem refnext_ok (b r p : Int) (h : Rt.May b r) (hp : 0 ≤ p) (ho : ¬ 10000000000000 < Rt.nx b r p) (w : World) : Calls Try.prog 14 #[.int .i64 b, .int .i64 r, .int .i64 p] w fun e w' => e = .returned (.tuple #[.int .i64 (Rt.nx b r p), .bool true]) ∧ w = w' := by
  have H := Lib.hid h
  obtain ⟨i0, i1⟩ := Rt.mi_bd h
  obtain ⟨h1, h2, h3, h4⟩ := h
  unfold Rt.nx at ho ⊢
  obtain ⟨i, hi⟩ : ∃ i, Rt.mi b r = i := ⟨_, rfl⟩
  rw [hi] at ho i0 i1 ⊢
  have HI := Lib.hid hi; clear hi
  clear h3 h4
  by_cases c : b + i ≤ p
  · rw [if_pos c]
    clear ho
    go_enter Try.func14, Try.ntmps14
    go_wp2_with fail
    refine (refmonth b r H.out _).mono ?_; rintro e w' ⟨rfl, rfl⟩
    rw [HI.out]
    go_wp2_with fail
    go_ret2
    exact ⟨rfl, rfl⟩
  · rw [if_neg c] at ho ⊢
    go_enter Try.func14, Try.ntmps14
    go_wp2_with fail
    refine (refmonth b r H.out _).mono ?_; rintro e w' ⟨rfl, rfl⟩
    rw [HI.out]
    go_wp2_with fail
    go_ret2
    exact ⟨rfl, rfl⟩
