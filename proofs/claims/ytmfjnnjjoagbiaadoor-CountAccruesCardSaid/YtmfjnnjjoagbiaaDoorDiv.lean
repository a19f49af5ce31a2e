import Derived.Test.YtmfjnnjjoagbiaaDoorProg
import Derived.Test.YtmfjnnjjoagbiaaDoorShelf
import Derived.Test.YtmfjnnjjoagbiaaDoorAr
import Derived.WalkKit
import Derived.WalkSpells
import Derived.WalkLawsBesides
import Derived.LoopTactic
import Derived.Outline
import Derived.Lib.Hide
import Derived.Deep.QuietTactic
import Derived.BigQuiet
import Derived.IntWalk
import Derived.Deep.DeepCutAuto
import Derived.Deep.CutBlock
namespace Go.Proofs.YtmfjnnjjoagbiaaDoor
open Go.RowKit Go.Shelf Go.Lib Ar

set_option maxHeartbeats 400000 in
theorem div64_small (lo y : Int) (h0 : 0 ≤ lo) (h1 : lo < 18446744073709551616) (h2 : 1 ≤ y) (h3 : y < 18446744073709551616) (w : World) :
    Calls Tryd.prog 38 #[.int .u64 0, .int .u64 lo, .int .u64 y] w fun e w' => e = .returned (.tuple #[.int .u64 (lo / y), .int .u64 (lo % y)]) ∧ ∃ n, w' = w.drewN n := by
  have e0 : (y == 0) = false := by simp; omega
  go_enter Tryd.func38, Tryd.ntmps38
  go_wp2
  go_quiet (fail)
  go_wp2
  go_ret2
  exact ⟨rfl, _, rfl⟩

set_option maxRecDepth 100000 in
set_option maxHeartbeats 1000000 in
theorem div64_big (hi lo y s t Y H d U L y1 y0 u1 u0 r p V r2 p2 V2 : Int) (g0 : 1 ≤ hi) (g1 : hi < y) (h2 : 1 ≤ y) (h3 : y < 18446744073709551616)
    (E0 : IntKind.u64.wrap (64 - (Lib.bitLen y.toNat : Int)) = s) (E1 : IntKind.u64.wrap (y * 2 ^ s.toNat) = Y) (E2 : IntKind.u64.wrap (hi * 2 ^ s.toNat) = H)
    (E3 : IntKind.u64.wrap (64 - s) = t) (E4 : lo / 2 ^ t.toNat = d) (E5 : bits .or .u64 H d = U) (E6 : IntKind.u64.wrap (lo * 2 ^ s.toNat) = L)
    (E7 : Y / 4294967296 = y1) (E8 : bits .and .u64 Y 4294967295 = y0) (E9 : L / 4294967296 = u1) (E10 : bits .and .u64 L 4294967295 = u0)
    (by1 : 2147483648 ≤ y1) (by1' : y1 < 4294967296) (by0 : 0 ≤ y0) (by0' : y0 < 4294967296) (bu1 : 0 ≤ u1) (bu1' : u1 < 4294967296) (bu0 : 0 ≤ u0) (bu0' : u0 < 4294967296) (bU0 : 0 ≤ U) (bU : U < Y) (hs0 : 0 ≤ s) (hs : s ≤ 63) (ht0 : 0 ≤ t) (ht : t ≤ 64)
    (E12 : IntKind.u64.wrap (U / y1 * y1) = p) (E13 : IntKind.u64.wrap (U - p) = r) (bUY : U < y1 * 4294967296 + y0) (bq0 : 0 ≤ U / y1) (bq : U / y1 ≤ 4294967297) (br0 : 0 ≤ r) (br : r < 4294967296) (hrel1 : Rel U y1 y0 u1 (U / y1) r)
    (E14 : IntKind.u64.wrap (IntKind.u64.wrap (IntKind.u64.wrap (U * 4294967296) + u1) - IntKind.u64.wrap (Qt U y1 y0 u1 * Y)) = V) (bV0 : 0 ≤ V) (bVY : V < y1 * 4294967296 + y0)
    (E22 : IntKind.u64.wrap (V / y1 * y1) = p2) (E23 : IntKind.u64.wrap (V - p2) = r2) (cq0 : 0 ≤ V / y1) (cq : V / y1 ≤ 4294967297) (cr0 : 0 ≤ r2) (cr : r2 < 4294967296) (hrel2 : Rel V y1 y0 u0 (V / y1) r2)
    (E24 : IntKind.u64.wrap (IntKind.u64.wrap (IntKind.u64.wrap (V * 4294967296) + u0) - IntKind.u64.wrap (Qt V y1 y0 u0 * Y)) = V2)
    (dQ0 : 0 ≤ Qt U y1 y0 u1) (dQ : Qt U y1 y0 u1 < 4294967296) (dR0 : 0 ≤ Qt V y1 y0 u0) (dR : Qt V y1 y0 u0 < 4294967296) (w : World) :
    Calls Tryd.prog 38 #[.int .u64 hi, .int .u64 lo, .int .u64 y] w fun e w' => e = .returned (.tuple #[.int .u64 (Qt U y1 y0 u1 * 4294967296 + Qt V y1 y0 u0), .int .u64 (V2 / 2 ^ s.toNat)]) ∧ w = w' := by
  have e0 : (y == 0) = false := by simp; omega
  have e1 : (hi == 0) = false := by simp; omega
  have e2 : decide (y ≤ hi) = false := by simp; omega
  have e3 : (y1 == 0) = false := by simp; omega
  go_enter Tryd.func38, Tryd.ntmps38
  go_upto_block 0 with (go_at_call 46; refine (Tryd.bits_LeadingZeros64 y _ (by omega) (by omega)).mono ?_; rintro e w1 ⟨rfl, hw1⟩; have hw2 := hw1.symm; clear hw1; subst hw2)
  go_cut [15] (fun a W => a = .int .u64 (Qt U y1 y0 u1 : Int) ∧ W = w)
  case first =>
    go_wp2
    go_loop [15, 16] (fun a b => ∃ q r : Int, 0 ≤ q ∧ q ≤ 4294967297 ∧ 0 ≤ r ∧ r < 4294967296 ∧ a = .int .u64 q ∧ b = .int .u64 r ∧ Rel U y1 y0 u1 q r) (fun a _ => (RowKit.intOf a).toNat)
    case atStart => exact ⟨U / y1, r, bq0, bq, br0, br, rfl, rfl, hrel1⟩
    case round =>
      clear hrel1 E12 E13 bq0 bq br0 br hrel2 E14 E22 E23 E24 cq0 cq cr0 cr bV0 bVY
      obtain ⟨q, r, bq0, bq, br0, br, rfl, rfl, hR⟩ := hrel
      have HR := Lib.hid hR; clear hR
      by_cases c1 : 4294967296 ≤ q
      · have f := irel_round bu1 bu1' bU0 bUY HR.out (.inl c1)
        have g : 4294967296 ≤ r + y1 → q - 1 = Qt U y1 y0 u1 := fun h => irel_break (by omega) by0 by0' bu1 f.2 (by omega) h
        have F := Lib.hid f; clear f
        have G := Lib.hid g; clear g
        go_wp2
        · go_meet
          exact ⟨congrArg (Value.int .u64) (G.out (by assumption)), rfl⟩
        · go_round
          case rel => exact ⟨q - 1, r + y1, by omega, by omega, by omega, by assumption, rfl, rfl, F.out.2⟩
          case measure => simp [RowKit.intOf]; omega
      · have f0 := iprod bq0 (by omega) by0 by0'
        obtain ⟨f1, f2⟩ := f0
        by_cases c2 : 4294967296 * r + u1 < q * y0
        · have f := irel_round bu1 bu1' bU0 bUY HR.out (.inr c2)
          have g : 4294967296 ≤ r + y1 → q - 1 = Qt U y1 y0 u1 := fun h => irel_break (by omega) by0 by0' bu1 f.2 (by omega) h
          obtain ⟨k1, k2⟩ := f
          have F := Lib.hid k2; clear k2
          have G := Lib.hid g; clear g
          go_wp2
          · go_meet
            exact ⟨congrArg (Value.int .u64) (G.out (by assumption)), rfl⟩
          · go_round
            case rel => exact ⟨q - 1, r + y1, by omega, by omega, by omega, by assumption, rfl, rfl, F.out⟩
            case measure => simp [RowKit.intOf]; omega
        · have g := irel_end (by omega) by0 HR.out (by omega)
          have G := Lib.hid g; clear g
          go_wp2
          go_meet
          exact ⟨congrArg (Value.int .u64) G.out, rfl⟩
  case rest =>
    obtain ⟨rfl, rfl⟩ := hcut
    clear hrel1 E12 E13 bq0 bq br0 br
    go_upto_block 2 with (fail)
    go_cut [18] (fun a W => a = .int .u64 (Qt V y1 y0 u0 : Int) ∧ W = wc)
    case first =>
      go_wp2
      go_loop [18, 16] (fun a b => ∃ q r : Int, 0 ≤ q ∧ q ≤ 4294967297 ∧ 0 ≤ r ∧ r < 4294967296 ∧ a = .int .u64 q ∧ b = .int .u64 r ∧ Rel V y1 y0 u0 q r) (fun a _ => (RowKit.intOf a).toNat)
      case atStart => exact ⟨V / y1, r2, cq0, cq, cr0, cr, rfl, rfl, hrel2⟩
      case round =>
        clear hrel2 E14 E22 E23 E24 cq0 cq cr0 cr
        obtain ⟨q, r, bq0, bq, br0, br, rfl, rfl, hR⟩ := hrel
        have HR := Lib.hid hR; clear hR
        by_cases c1 : 4294967296 ≤ q
        · have f := irel_round bu0 bu0' bV0 bVY HR.out (.inl c1)
          have g : 4294967296 ≤ r + y1 → q - 1 = Qt V y1 y0 u0 := fun h => irel_break (by omega) by0 by0' bu0 f.2 (by omega) h
          have F := Lib.hid f; clear f
          have G := Lib.hid g; clear g
          go_wp2
          · go_meet
            exact ⟨congrArg (Value.int .u64) (G.out (by assumption)), rfl⟩
          · go_round
            case rel => exact ⟨q - 1, r + y1, by omega, by omega, by omega, by assumption, rfl, rfl, F.out.2⟩
            case measure => simp [RowKit.intOf]; omega
        · have f0 := iprod bq0 (by omega) by0 by0'
          obtain ⟨f1, f2⟩ := f0
          by_cases c2 : 4294967296 * r + u0 < q * y0
          · have f := irel_round bu0 bu0' bV0 bVY HR.out (.inr c2)
            have g : 4294967296 ≤ r + y1 → q - 1 = Qt V y1 y0 u0 := fun h => irel_break (by omega) by0 by0' bu0 f.2 (by omega) h
            obtain ⟨k1, k2⟩ := f
            have F := Lib.hid k2; clear k2
            have G := Lib.hid g; clear g
            go_wp2
            · go_meet
              exact ⟨congrArg (Value.int .u64) (G.out (by assumption)), rfl⟩
            · go_round
              case rel => exact ⟨q - 1, r + y1, by omega, by omega, by omega, by assumption, rfl, rfl, F.out⟩
              case measure => simp [RowKit.intOf]; omega
          · have g := irel_end (by omega) by0 HR.out (by omega)
            have G := Lib.hid g; clear g
            go_wp2
            go_meet
            exact ⟨congrArg (Value.int .u64) G.out, rfl⟩
    case rest =>
      obtain ⟨rfl, rfl⟩ := hcut
      go_wp2
      go_ret2
      exact ⟨rfl, rfl⟩

theorem wrapu {x : Int} (h0 : 0 ≤ x) (h1 : x < 18446744073709551616) : IntKind.u64.wrap x = x := by rw [IntKind.wrap_u64]; omega

/-- math/bits.Div64: the quotient and the rest. -/
theorem div64_any (hi lo y : Int) (g0 : 0 ≤ hi) (g1 : hi < y) (h0 : 0 ≤ lo) (h1 : lo < 18446744073709551616) (h3 : y < 18446744073709551616) (w : World) :
    Calls Tryd.prog 38 #[.int .u64 hi, .int .u64 lo, .int .u64 y] w fun e w' => e = .returned (.tuple #[.int .u64 ((hi * 18446744073709551616 + lo) / y), .int .u64 ((hi * 18446744073709551616 + lo) % y)]) ∧ ∃ n, w' = w.drewN n := by
  by_cases hz : hi = 0
  · subst hz
    simpa using div64_small lo y h0 h1 (by omega) h3 w
  obtain ⟨hi, rfl⟩ := Int.eq_ofNat_of_zero_le g0
  obtain ⟨lo, rfl⟩ := Int.eq_ofNat_of_zero_le h0
  obtain ⟨y, rfl⟩ := Int.eq_ofNat_of_zero_le (show 0 ≤ y by omega)
  obtain ⟨k, hk, hb, hY1, hY2⟩ := bounds64 y (by omega) (by omega)
  have hpk := Nat.two_pow_pos k
  have hH : hi * 2 ^ k + 2 ^ k ≤ y * 2 ^ k := by rw [← Nat.succ_mul]; exact Nat.mul_le_mul_right _ (by omega)
  obtain ⟨hor, hlo⟩ := or64 hi lo k hk (by omega) (by omega)
  have hd : lo / 2 ^ (64 - k) < 2 ^ k := by
    rw [Nat.div_lt_iff_lt_mul (Nat.two_pow_pos _), ← Nat.pow_add, show k + (64 - k) = 64 by omega]; omega
  obtain ⟨S, hS⟩ : ∃ S : Nat, 2 ^ k = S := ⟨_, rfl⟩
  have hSi : (2 : Int) ^ k = (S : Int) := by rw [← hS, Int.natCast_pow]; rfl
  have hTi : (2 : Int) ^ (64 - k) = ((2 ^ (64 - k) : Nat) : Int) := by rw [Int.natCast_pow]; rfl
  rw [hS] at hpk hH hor hlo hd hY1 hY2
  obtain ⟨D, hD⟩ : ∃ D : Nat, lo / 2 ^ (64 - k) = D := ⟨_, rfl⟩
  rw [hD] at hor hlo hd
  have hN : ((hi : Int) * 18446744073709551616 + (lo : Int)) * (S : Int) = (((hi * S + D : Nat) : Int) * 18446744073709551616 + ((lo * S % 18446744073709551616 : Nat) : Int)) := by
    have : (hi * 18446744073709551616 + lo) * S = (hi * S + D) * 18446744073709551616 + lo * S % 18446744073709551616 := by
      rw [Nat.add_mul]
      have : hi * 18446744073709551616 * S = hi * S * 18446744073709551616 := by grind
      omega
    generalize lo * S % 18446744073709551616 = A at *
    generalize hi * S + D = B at *
    have := congrArg (fun n : Nat => (n : Int)) this
    simp only [Int.natCast_add, Int.natCast_mul] at this
    exact this
  obtain ⟨Y, hY⟩ : ∃ Y : Nat, y * S = Y := ⟨_, rfl⟩
  obtain ⟨U, hU⟩ : ∃ U : Nat, hi * S + D = U := ⟨_, rfl⟩
  obtain ⟨L, hL⟩ : ∃ L : Nat, lo * S % 18446744073709551616 = L := ⟨_, rfl⟩
  have hLlt : L < 18446744073709551616 := by omega
  rw [hY] at hH hY1 hY2
  rw [hU] at hor hN
  rw [hL] at hN hlo
  have hUY : U < Y := by omega
  -- the digits
  have b1 : 2147483648 ≤ (Y : Int) / 4294967296 := by omega
  have b1' : (Y : Int) / 4294967296 < 4294967296 := by omega
  have eY : (Y : Int) / 4294967296 * 4294967296 + (Y : Int) % 4294967296 = Y := by omega
  have eL : (L : Int) / 4294967296 * 4294967296 + (L : Int) % 4294967296 = L := by omega
  have r1 := irel_start (u := U) (y1 := (Y : Int) / 4294967296) (y0 := (Y : Int) % 4294967296) (v := (L : Int) / 4294967296) b1 b1' (by omega) (by omega) (by omega) (by omega) (by omega) (by omega)
  have q1 := iq_lt (u := U) (y := Y) (v := (L : Int) / 4294967296) (by omega) (by omega) (by omega) (by omega)
  have t1 := irt (u := U) (y1 := (Y : Int) / 4294967296) (y0 := (Y : Int) % 4294967296) (v := (L : Int) / 4294967296) (by omega) (by omega)
  have x1 := irt_eq U ((Y : Int) / 4294967296) ((Y : Int) % 4294967296) ((L : Int) / 4294967296)
  have r2 := irel_start (u := Rt U ((Y : Int) / 4294967296) ((Y : Int) % 4294967296) ((L : Int) / 4294967296)) (y1 := (Y : Int) / 4294967296) (y0 := (Y : Int) % 4294967296) (v := (L : Int) % 4294967296) b1 b1' (by omega) (by omega) (by omega) (by omega) t1.1 t1.2
  have q2 := iq_lt (u := Rt U ((Y : Int) / 4294967296) ((Y : Int) % 4294967296) ((L : Int) / 4294967296)) (y := Y) (v := (L : Int) % 4294967296) t1.1 (by omega) (by omega) (by omega)
  have t2 := irt (u := Rt U ((Y : Int) / 4294967296) ((Y : Int) % 4294967296) ((L : Int) / 4294967296)) (y1 := (Y : Int) / 4294967296) (y0 := (Y : Int) % 4294967296) (v := (L : Int) % 4294967296) (by omega) (by omega)
  have x2 := irt_eq (Rt U ((Y : Int) / 4294967296) ((Y : Int) % 4294967296) ((L : Int) / 4294967296)) ((Y : Int) / 4294967296) ((Y : Int) % 4294967296) ((L : Int) % 4294967296)
  have sp := isplit U ((L : Int) / 4294967296) ((L : Int) % 4294967296) Y (by omega)
  have dp := idiv_pow ((hi : Int) * 18446744073709551616 + (lo : Int)) y S (by omega)
  have hYi : (y : Int) * (S : Int) = Y := by rw [← hY, Int.natCast_mul]
  rw [hN, hYi, ← eL, sp.1, sp.2] at dp
  have andY := bits_and_u64_nat Y 4294967295 hY2 (by omega)
  have andL := bits_and_u64_nat L 4294967295 hLlt (by omega)
  rw [show Y &&& 4294967295 = Y % 4294967296 from Nat.and_two_pow_sub_one_eq_mod Y 32] at andY
  rw [show L &&& 4294967295 = L % 4294967296 from Nat.and_two_pow_sub_one_eq_mod L 32] at andL
  have e64 : ((64 - (k : Int)).toNat) = 64 - k := by omega
  have qe1 : Qt U ((Y : Int) / 4294967296) ((Y : Int) % 4294967296) ((L : Int) / 4294967296) = ((U : Int) * 4294967296 + (L : Int) / 4294967296) / Y := by unfold Qt; rw [eY]
  have re1 : Rt U ((Y : Int) / 4294967296) ((Y : Int) % 4294967296) ((L : Int) / 4294967296) = ((U : Int) * 4294967296 + (L : Int) / 4294967296) % Y := by unfold Rt; rw [eY]
  have qe2 : ∀ V : Int, Qt V ((Y : Int) / 4294967296) ((Y : Int) % 4294967296) ((L : Int) % 4294967296) = (V * 4294967296 + (L : Int) % 4294967296) / Y := by intro V; unfold Qt; rw [eY]
  have re2 : ∀ V : Int, Rt V ((Y : Int) / 4294967296) ((Y : Int) % 4294967296) ((L : Int) % 4294967296) = (V * 4294967296 + (L : Int) % 4294967296) % Y := by intro V; unfold Rt; rw [eY]
  have main := div64_big hi lo y k (64 - k) Y (hi * S : Nat) D U L ((Y : Int) / 4294967296) ((Y : Int) % 4294967296) ((L : Int) / 4294967296) ((L : Int) % 4294967296)
    (U - U / ((Y : Int) / 4294967296) * ((Y : Int) / 4294967296)) (U / ((Y : Int) / 4294967296) * ((Y : Int) / 4294967296)) (Rt U ((Y : Int) / 4294967296) ((Y : Int) % 4294967296) ((L : Int) / 4294967296))
    _ _ (Rt (Rt U ((Y : Int) / 4294967296) ((Y : Int) % 4294967296) ((L : Int) / 4294967296)) ((Y : Int) / 4294967296) ((Y : Int) % 4294967296) ((L : Int) % 4294967296))
    (by omega) g1 (by omega) h3
    (by rw [Int.toNat_natCast, hb, wrapu (by omega) (by omega)]; omega)
    (by rw [Int.toNat_natCast, hSi, hYi, wrapu (by omega) (by omega)])
    (by rw [Int.toNat_natCast, hSi, wrapu (by have := Int.mul_nonneg g0 (by omega : 0 ≤ (S : Int)); omega) (by rw [← Int.natCast_mul]; omega), Int.natCast_mul])
    (by rw [wrapu (by omega) (by omega)])
    (by rw [e64, hTi, ← Int.natCast_ediv, hD])
    hor
    (by rw [Int.toNat_natCast, hSi, IntKind.wrap_u64, ← hL, ← Int.natCast_mul]; omega)
    rfl (andY.trans (by omega)) rfl (andL.trans (by omega))
    b1 b1' (by omega) (by omega) (by omega) (by omega) (by omega) (by omega) (by omega) (by omega) (by omega) (by omega) (by omega) (by omega)
    (by rw [wrapu r1.2.2.2.1 (by have := r1.2.2.2.2.1; omega)])
    (by rw [wrapu r1.2.2.2.2.2.1 (by have := r1.2.2.2.2.2.2; omega)])
    (by omega) r1.2.1 r1.2.2.1 r1.2.2.2.2.2.1 r1.2.2.2.2.2.2 r1.1
    (by rw [IntKind.wrap_u64, IntKind.wrap_u64, IntKind.wrap_u64, IntKind.wrap_u64]; refine iwrap ?_ t1.1 (by omega); rw [eY] at x1; exact x1)
    t1.1 t1.2
    (wrapu r2.2.2.2.1 (by have := r2.2.2.2.2.1; omega))
    (wrapu r2.2.2.2.2.2.1 (by have := r2.2.2.2.2.2.2; omega))
    r2.2.1 r2.2.2.1 r2.2.2.2.2.2.1 r2.2.2.2.2.2.2 r2.1
    (by rw [IntKind.wrap_u64, IntKind.wrap_u64, IntKind.wrap_u64, IntKind.wrap_u64]; refine iwrap ?_ t2.1 (by omega); rw [eY] at x2; exact x2)
    (by rw [qe1]; exact q1.1) (by rw [qe1]; exact q1.2) (by rw [qe2]; exact q2.1) (by rw [qe2]; exact q2.2) w
  rw [qe1, qe2, re2, re1, dp.1, Int.toNat_natCast, hSi, dp.2] at main
  exact main.mono fun e w' ⟨he, hw⟩ => ⟨he, 0, hw.symm⟩
