import Derived.Test.YtjidnicmfdkehaaRn
namespace Go.Proofs.Ytjidnicmfdkehaa
open Go.RowKit Go.Shelf Go.Lib Ar

/-- what Left comes to, where its arguments may be -/
def lw (R : Option Int) : Int := R.getD 0
def le (R : Option Int) : Value := match R with | none => .iface 30 (.int .i64 3) | some _ => .nilIface
def LArg (b r p m : Int) : Prop := ¬ Rt.May b r ∨ p < 0 ∨ m < 0 ∨ 480 < m

theorem left_arg (b r p m : Int) (h : LArg b r p m) (w : World) : Calls Try.prog 15 #[.int .i64 b, .int .i64 r, .int .i64 p, .int .i64 m] w fun e w' => e = .returned (.tuple #[.int .i64 0, .iface 30 (.int .i64 1)]) ∧ ∃ n, w' = w.drewN n := by
  by_cases hm : Rt.May b r
  · have hp : p < 0 ∨ m < 0 ∨ 480 < m := by rcases h with h | h; exact absurd hm h; exact h
    have H := Lib.hid hm
    clear h hm
    rcases hp with hp | hp | hp
    · go_enter Try.func15, Try.ntmps15
      go_wp2_with fail
      refine (maybe_yes b r H.out _).mono ?_; rintro e w' ⟨rfl, rfl⟩
      go_wp2_with fail
      go_ret2
      exact ⟨rfl, 0, rfl⟩
    all_goals
      by_cases hq : p < 0
      all_goals
        go_enter Try.func15, Try.ntmps15
        go_wp2_with fail
        refine (maybe_yes b r H.out _).mono ?_; rintro e w' ⟨rfl, rfl⟩
        go_wp2_with fail
        all_goals (go_ret2; exact ⟨rfl, 0, rfl⟩)
  · have H := Lib.hid hm
    clear h hm
    go_enter Try.func15, Try.ntmps15
    go_wp2_with fail
    refine (maybe_no b r H.out _).mono ?_; rintro e w' ⟨rfl, rfl⟩
    go_wp2_with fail
    go_ret2
    exact ⟨rfl, 0, rfl⟩

theorem lf_step {r p x m i : Int} (h : i < m) : Rt.lf r p (m - i).toNat x = if 10000000000000 < Rt.nx x r p then none else Rt.lf r p (m - (i + 1)).toNat (Rt.nx x r p) := by
  have e : (m - i).toNat = (m - (i + 1)).toNat + 1 := by omega
  rw [e]; rfl

theorem left_any (b r p m : Int) (R : Option Int) (h : Rt.May b r) (hp : 0 ≤ p) (hp2 : p ≤ 9223372036854775807) (h0 : 0 ≤ m) (h1 : m ≤ 480) (hR : Rt.lf r p m.toNat b = R) (w : World) :
    Calls Try.prog 15 #[.int .i64 b, .int .i64 r, .int .i64 p, .int .i64 m] w fun e w' => e = .returned (.tuple #[.int .i64 (lw R), le R]) ∧ ∃ n, w' = w.drewN n := by
  have H := Lib.hid h
  have HR := Lib.hid hR
  clear h hR
  go_enter Try.func15, Try.ntmps15
  go_wp2_with fail
  refine (maybe_yes b r H.out _).mono ?_; rintro e w' ⟨rfl, rfl⟩
  go_wp2_with fail
  go_loopw [10, 33] (fun x i wr => ∃ (X I : Int) (q : Nat), 0 ≤ I ∧ I ≤ m ∧ x = .int .i64 X ∧ i = .int .i64 I ∧ Hid (Rt.May X r ∧ Rt.lf r p (m - I).toNat X = R) ∧ wr = w.drewN q) (fun _ i _ => (m - RowKit.intOf i).toNat)
  case atStart => exact ⟨b, 0, 0, by omega, h0, rfl, rfl, ⟨H.out, by rw [Int.sub_zero]; exact HR.out⟩, rfl⟩
  case round =>
    obtain ⟨X, I, q, i0, i1, rfl, rfl, HX, rfl⟩ := hrel
    by_cases hlt : I < m
    · have HS := Lib.hid (@lf_step r p X m I hlt)
      by_cases ho : 10000000000000 < Rt.nx X r p
      · have HO := Lib.hid ho
        have HN := Lib.hid (show R = none by rw [← HX.out.2, HS.out, if_pos ho])
        clear ho
        go_wp2_with fail
        refine (next_over X r p HX.out.1 hp HO.out _).mono ?_; rintro e w' ⟨rfl, n, rfl⟩
        go_wp2_with fail
        go_ret2
        exact ⟨by rw [HN.out]; rfl, _, rfl⟩
      · have HO := Lib.hid ho
        have HN := Lib.hid (show Rt.May (Rt.nx X r p) r ∧ Rt.lf r p (m - (I + 1)).toNat (Rt.nx X r p) = R from ⟨Rt.nx_may HX.out.1 ho, by rw [← HX.out.2, HS.out, if_neg ho]⟩)
        clear ho
        go_wp2_with fail
        refine (next_ok X r p HX.out.1 hp hp2 (by have := HO.out; omega) _).mono ?_; rintro e w' ⟨rfl, n, rfl⟩
        go_wp2_with fail
        go_roundw
        case rel => exact ⟨_, _, _, by omega, by omega, rfl, rfl, HN, rfl⟩
        case measure => simp [RowKit.intOf]; omega
    · have HN := Lib.hid (show R = some X by
        have e : (m - I).toNat = 0 := by omega
        rw [← HX.out.2, e]; rfl)
      go_wp2_with fail
      go_ret2
      exact ⟨by rw [HN.out]; rfl, _, rfl⟩

theorem refleft_any (b r p m : Int) (R : Option Int) (h : Rt.May b r) (hp : 0 ≤ p) (h0 : 0 ≤ m) (h1 : m ≤ 480) (hR : Rt.lf r p m.toNat b = R) (w : World) :
    Calls Try.prog 16 #[.int .i64 b, .int .i64 r, .int .i64 p, .int .i64 m] w fun e w' => e = .returned (.tuple #[.int .i64 (lw R), .bool R.isSome]) ∧ w = w' := by
  have H := Lib.hid h
  have HR := Lib.hid hR
  clear h hR
  go_enter Try.func16, Try.ntmps16
  go_wp2_with fail
  go_loopw [0, 10] (fun x i wr => ∃ (X I : Int), 0 ≤ I ∧ I ≤ m ∧ x = .int .i64 X ∧ i = .int .i64 I ∧ Hid (Rt.May X r ∧ Rt.lf r p (m - I).toNat X = R) ∧ w = wr) (fun _ i _ => (m - RowKit.intOf i).toNat)
  case atStart => exact ⟨b, 0, by omega, h0, rfl, rfl, ⟨H.out, by rw [Int.sub_zero]; exact HR.out⟩, rfl⟩
  case round =>
    obtain ⟨X, I, i0, i1, rfl, rfl, HX, rfl⟩ := hrel
    by_cases hlt : I < m
    · have HS := Lib.hid (@lf_step r p X m I hlt)
      by_cases ho : 10000000000000 < Rt.nx X r p
      · have HO := Lib.hid ho
        have HN := Lib.hid (show R = none by rw [← HX.out.2, HS.out, if_pos ho])
        clear ho
        go_wp2_with fail
        refine (refnext_over X r p HX.out.1 hp HO.out _).mono ?_; rintro e w' ⟨rfl, rfl⟩
        go_wp2_with fail
        go_ret2
        exact ⟨by rw [HN.out]; rfl, rfl⟩
      · have HO := Lib.hid ho
        have HN := Lib.hid (show Rt.May (Rt.nx X r p) r ∧ Rt.lf r p (m - (I + 1)).toNat (Rt.nx X r p) = R from ⟨Rt.nx_may HX.out.1 ho, by rw [← HX.out.2, HS.out, if_neg ho]⟩)
        clear ho
        go_wp2_with fail
        refine (refnext_ok X r p HX.out.1 hp (by have := HO.out; omega) _).mono ?_; rintro e w' ⟨rfl, rfl⟩
        go_wp2_with fail
        go_roundw
        case rel => exact ⟨_, _, by omega, by omega, rfl, rfl, HN, trivial⟩
        case measure => simp [RowKit.intOf]; omega
    · have HN := Lib.hid (show R = some X by
        have e : (m - I).toNat = 0 := by omega
        rw [← HX.out.2, e]; rfl)
      go_wp2_with fail
      go_ret2
      exact ⟨by rw [HN.out]; rfl, rfl⟩

theorem lw_zero (R : Option Int) : R = some 0 ↔ R.isSome = true ∧ lw R = 0 := by
  cases R with
  | none => simp
  | some v => simp [lw]

theorem pays_any (b r p m : Int) (h : Rt.May b r) (hp : 0 ≤ p) (h0 : 0 ≤ m) (h1 : m ≤ 480) (w : World) :
    Calls Try.prog 18 #[.int .i64 b, .int .i64 r, .int .i64 p, .int .i64 m] w fun e w' => e = .returned (.bool (decide (Rt.Pays b r p m))) ∧ w = w' := by
  have H := Lib.hid h
  obtain ⟨R, hR⟩ : ∃ R, Rt.lf r p m.toNat b = R := ⟨_, rfl⟩
  have HR := Lib.hid hR
  have e : decide (Rt.Pays b r p m) = (R.isSome && decide (lw R = 0)) := by
    rw [Bool.eq_iff_iff, decide_eq_true_iff]; unfold Rt.Pays; rw [hR]; simp [lw_zero]
  rw [e]
  clear h hR e
  cases R with
  | none =>
    go_enter Try.func18, Try.ntmps18
    go_wp2_with fail
    refine (refleft_any b r p m _ H.out hp h0 h1 HR.out _).mono ?_; rintro e w' ⟨rfl, rfl⟩
    go_wp2_with fail
    go_ret
    exact ⟨rfl, rfl⟩
  | some v =>
    go_enter Try.func18, Try.ntmps18
    go_wp2_with fail
    refine (refleft_any b r p m _ H.out hp h0 h1 HR.out _).mono ?_; rintro e w' ⟨rfl, rfl⟩
    go_wp2_with fail
    go_ret
    exact ⟨by simp only [lw, Option.getD_some]; by_cases g : v = 0 <;> simp [g], rfl⟩

theorem paysoff_any (b r p m : Int) (h : Rt.May b r) (hp : 0 ≤ p) (hp2 : p ≤ 9223372036854775807) (h0 : 0 ≤ m) (h1 : m ≤ 480) (w : World) :
    Calls Try.prog 21 #[.int .i64 b, .int .i64 r, .int .i64 p, .int .i64 m] w fun e w' => e = .returned (.bool (decide (Rt.Pays b r p m))) ∧ ∃ n, w' = w.drewN n := by
  have H := Lib.hid h
  obtain ⟨R, hR⟩ : ∃ R, Rt.lf r p m.toNat b = R := ⟨_, rfl⟩
  have HR := Lib.hid hR
  have e : decide (Rt.Pays b r p m) = (R.isSome && decide (lw R = 0)) := by
    rw [Bool.eq_iff_iff, decide_eq_true_iff]; unfold Rt.Pays; rw [hR]; simp [lw_zero]
  rw [e]
  clear h hR e
  cases R with
  | none =>
    go_enter Try.func21, Try.ntmps21
    go_wp2_with fail
    refine (left_any b r p m _ H.out hp hp2 h0 h1 HR.out _).mono ?_; rintro e w' ⟨rfl, n, rfl⟩
    simp only [le]
    go_wp2_with fail
    go_ret
    exact ⟨rfl, _, rfl⟩
  | some v =>
    go_enter Try.func21, Try.ntmps21
    go_wp2_with fail
    refine (left_any b r p m _ H.out hp hp2 h0 h1 HR.out _).mono ?_; rintro e w' ⟨rfl, n, rfl⟩
    simp only [le]
    go_wp2_with fail
    go_ret
    exact ⟨by simp only [lw, Option.getD_some]; by_cases g : v = 0 <;> simp [g], _, rfl⟩
