/- The program's journal: a head's length, and a length's head. -/
import Derived.Test.YtghepjppjmpihaaAw
import Derived.Test.YtghepjppjmpihaaJk
import Derived.Test.YtghepjppjmpihaaProg
import Derived.WalkSpells
import Derived.StillTactics
import Derived.Laws.Pointers
import Derived.Laws.ResultCell
import Derived.Lib.Hide
import Derived.BigGuardPart
import Derived.Laws.BitsAllLaws
namespace Go.Proofs.Ytghepjppjmpihaa
open Go.ChangeShapes Go.WideShapes Go.ChangeAt Go.RowKit Go.Lib

theorem or64 (i : Nat) (a b : Nat) (ha : a < 2 ^ i) (hb : b % 2 ^ i = 0) (hi : i < 63) (hb' : b < 9223372036854775808) : bits .or .i64 (a : Int) (b : Int) = ((a + b : Nat) : Int) := by
  have h63 : 2 ^ i < 2 ^ 63 := Nat.pow_lt_pow_right (by decide) hi
  rw [(bits_nat .i64 63 (by decide) (fun n h0 h1 => by rw [IntKind.wrap_i64]; omega) a b (by omega) (by omega)).2, Nat.or_comm, nat_join i b a hb ha, Nat.add_comm]
/-- what the first i bytes come to, the lowest first -/
def lo (l : List Int) : Nat → Nat
  | 0 => 0
  | i + 1 => lo l i + 256 ^ i * (l.getD i 0).toNat
theorem lo_lt {l : List Int} (h : Jk.By l) : ∀ i, lo l i < 256 ^ i
  | 0 => Nat.zero_lt_one
  | i + 1 => by
    have h1 := lo_lt h i
    have h2 : (l.getD i 0).toNat ≤ 255 := by have := h i; omega
    have h3 : 256 ^ i * (l.getD i 0).toNat ≤ 256 ^ i * 255 := Nat.mul_le_mul_left _ h2
    show lo l i + _ < 256 ^ (i + 1)
    rw [Nat.pow_succ]
    omega
theorem lo_or {l : List Int} (h : Jk.By l) (i : Nat) (hi : i < 4) : bits .or .i64 (lo l i : Nat) (l.getD i 0 * 2 ^ (8 * i)) = (lo l (i + 1) : Nat) := by
  have h1 := lo_lt h i
  have h2 := h i
  obtain ⟨x, hx⟩ : ∃ x, x = (l.getD i 0).toNat := ⟨_, rfl⟩
  have hx' : l.getD i 0 = (x : Int) := by omega
  have h3 : lo l (i + 1) = lo l i + 256 ^ i * x := by rw [hx]; rfl
  rw [h3, hx']
  generalize lo l i = a at *
  have h4 : x < 256 := by omega
  have e : (256 : Nat) ^ i = 2 ^ (8 * i) := by rw [show (256 : Nat) = 2 ^ 8 by decide, ← Nat.pow_mul]
  rw [e] at h1 ⊢
  have h5 : ((x : Int) * 2 ^ (8 * i)) = ((2 ^ (8 * i) * x : Nat) : Int) := by rw [Int.natCast_mul, Int.natCast_pow, Int.mul_comm]; rfl
  rw [h5]
  exact or64 (8 * i) _ _ h1 (Nat.mul_mod_right _ _) (by omega) (by obtain rfl | rfl | rfl | rfl : i = 0 ∨ i = 1 ∨ i = 2 ∨ i = 3 := by omega
                                                                   all_goals omega)
set_option maxHeartbeats 1000000 in
theorem length_any {g off c L : Nat} (l : List Int) (w : World) (hY : Jk.By l) (hc : ∀ j, j < 4 → w.cell? ⟨g, off + j, none⟩ = some (.int .u8 (l.getD j 0))) (hL : 4 ≤ L) :
    Calls Try.prog 49 #[.slice (some ⟨g, off, none⟩) L c] w fun e w' => e = .returned (.int .i64 (lo l 4 : Nat)) ∧ w = w' := by
  have HY := Lib.hid hY
  have HC := Lib.hid hc
  clear hY hc
  go_enter Try.func49, Try.ntmps49
  go_wp2_with fail
  go_loopw [3, 5] (fun sv iv wr => ∃ i : Nat, sv = .int .i64 (lo l i : Nat) ∧ iv = .int .i64 i ∧ i ≤ 4 ∧ w = wr) (fun _ iv _ => 4 - (RowKit.intOf iv).toNat)
  case atStart => exact ⟨0, rfl, rfl, by omega, rfl⟩
  case round =>
    obtain ⟨i, rfl, rfl, hi4, rfl⟩ := hrel
    by_cases hlt : i < 4
    · have hc := HC.out i hlt
      have hb := HY.out i
      have HO := Lib.hid (lo_or HY.out i hlt)
      have hs := lo_lt HY.out i
      generalize lo l i = s at *
      obtain ⟨s', hs'⟩ : ∃ s', s' = lo l (i + 1) := ⟨_, rfl⟩
      rw [← hs'] at HO
      have HS := Lib.hid hs'
      clear hs'
      generalize l.getD i 0 = x at *
      have hiL : (i : Int) < (L : Int) := by omega
      obtain rfl | rfl | rfl | rfl : i = 0 ∨ i = 1 ∨ i = 2 ∨ i = 3 := by omega
      · rw [Nat.add_zero] at hc
        go_wp2_with fail
        exact ⟨⟨1, by rw [← (show s' = lo l 1 from HS.out)]; exact congrArg (Value.int .i64) (by simpa using HO.out), rfl, by omega, trivial⟩, by simp [RowKit.intOf]⟩
      · go_wp2_with fail
        exact ⟨⟨2, by rw [← (show s' = lo l 2 from HS.out)]; exact congrArg (Value.int .i64) (by simpa using HO.out), rfl, by omega, trivial⟩, by simp [RowKit.intOf]⟩
      · go_wp2_with fail
        exact ⟨⟨3, by rw [← (show s' = lo l 3 from HS.out)]; exact congrArg (Value.int .i64) (by simpa using HO.out), rfl, by omega, trivial⟩, by simp [RowKit.intOf]⟩
      · go_wp2_with fail
        exact ⟨⟨4, by rw [← (show s' = lo l 4 from HS.out)]; exact congrArg (Value.int .i64) (by simpa using HO.out), rfl, by omega, trivial⟩, by simp [RowKit.intOf]⟩
    · obtain rfl : i = 4 := by omega
      go_wp2_with fail
      go_ret
      exact ⟨rfl, rfl⟩
/-- a head, i of its bytes being there, and as many turned -/
def hl (n i : Nat) : List Int := (Jk.hd n).take i ++ List.replicate (4 - i) 0 ++ ((Jk.hd n).drop 4).take i ++ List.replicate (4 - i) 0
theorem hl_len (n i : Nat) (h : i ≤ 4) : (hl n i).length = 8 := by simp [hl, Jk.hd]; omega
theorem hl_all (n : Nat) : hl n 4 = Jk.hd n := rfl
theorem not8 (y : Nat) (h : y < 256) : bits .xor .u8 IntKind.u8.max (y : Int) = 255 - (y : Int) := by
  show IntKind.u8.wrap ((BitVec.ofInt 8 IntKind.u8.max ^^^ BitVec.ofInt 8 (y : Int)).toNat : Int) = _
  rw [show BitVec.ofInt 8 IntKind.u8.max = BitVec.allOnes 8 by decide, BitVec.allOnes_xor, BitVec.toNat_not, ofInt_u8 y h, IntKind.wrap_u8]
  omega
theorem hl_step (n i : Nat) (hi : i < 4) : ((hl n i).set i ((n / 256 ^ i % 256 : Nat) : Int)).set (4 + i) (255 - ((n / 256 ^ i % 256 : Nat) : Int)) = hl n (i + 1) := by
  obtain rfl | rfl | rfl | rfl : i = 0 ∨ i = 1 ∨ i = 2 ∨ i = 3 := by omega
  all_goals simp [hl, Jk.hd]
theorem arr_step {wr : World} {b n i : Nat} (y : Int) (h : Arr (.int .u8) wr b (hl n i)) (hi : i < 4) (hy : y = ((n / 256 ^ i % 256 : Nat) : Int)) :
    Arr (.int .u8) ((wr.setCell ⟨b, i, none⟩ (.int .u8 y)).setCell ⟨b, 4 + i, none⟩ (.int .u8 (bits .xor .u8 (if IntKind.u8.signed = true then -1 else IntKind.u8.max) y))) b (hl n (i + 1)) := by
  have h8 := hl_len n i (by omega)
  have h1 := (h.set i (by omega) y).set (4 + i) (by rw [List.length_set]; omega) (255 - y)
  rw [hy, hl_step n i hi] at h1
  have e : bits .xor .u8 (if IntKind.u8.signed = true then -1 else IntKind.u8.max) y = 255 - y := by rw [hy]; exact not8 _ (Nat.mod_lt _ (by decide))
  rw [e, hy]
  exact h1
theorem arr_new (n : Nat) (w : World) : Arr (.int .u8) (w.alloc (.cells #[.int .u8 0, .int .u8 0, .int .u8 0, .int .u8 0, .int .u8 0, .int .u8 0, .int .u8 0, .int .u8 0] 83)) w.heap.size (hl n 0) :=
  by
  have h := Arr.made (.int .u8) w 83 8 rfl
  have e : madeCells (Value.int .u8 0).cells 8 = #[.int .u8 0, .int .u8 0, .int .u8 0, .int .u8 0, .int .u8 0, .int .u8 0, .int .u8 0, .int .u8 0] := by kernel_rfl
  rw [e] at h
  exact h
/-- a head, as a value -/
def hdV (n : Nat) : Value := .agg ((Jk.hd n).map (Value.int .u8)).toArray
set_option maxHeartbeats 1000000 in
theorem phead_any (n : Nat) (hn : n ≤ 1024) (w : World) : Calls Try.prog 44 #[.int .i64 n] w fun e w' => e = .returned (hdV n) ∧ Below w.heap.size w w' := by
  have HN := Lib.hid hn
  clear hn
  go_enter Try.func44, Try.ntmps44
  go_wp2_with fail
  go_loopw [5] (fun iv wr => ∃ i : Nat, iv = .int .i64 i ∧ i ≤ 4 ∧ Arr (.int .u8) wr (w.heap.size + 1) (hl n i) ∧ Arr (.int .u8) wr w.heap.size (hl n 0) ∧ Below w.heap.size w wr) (fun iv _ => 4 - (RowKit.intOf iv).toNat)
  case atStart =>
    have h1 := arr_new n w
    have h2 := arr_new n (w.alloc (.cells #[.int .u8 0, .int .u8 0, .int .u8 0, .int .u8 0, .int .u8 0, .int .u8 0, .int .u8 0, .int .u8 0] 83))
    rw [World.size_alloc] at h2
    exact ⟨0, rfl, by omega, h2, h1.alloc _, ((Below.refl _ w).alloc (Nat.le_refl _) _).alloc (by simp) _⟩
  case round =>
    obtain ⟨i, rfl, hi4, hA, hZ, hB⟩ := hrel
    by_cases hlt : i < 4
    · have HA := Lib.hid hA
      have HZ := Lib.hid hZ
      have HB := Lib.hid hB
      clear hA hZ hB
      obtain rfl | rfl | rfl | rfl : i = 0 ∨ i = 1 ∨ i = 2 ∨ i = 3 := by omega
      · have c0 := HA.out.c 0 (by rw [hl_len _ _ hi4]; decide)
        have z0 := HA.out.z 0 (by rw [hl_len _ _ hi4]; decide)
        have c4 := HA.out.c 4 (by rw [hl_len _ _ hi4]; decide)
        have z4 := HA.out.z 4 (by rw [hl_len _ _ hi4]; decide)
        go_wp2_with fail
        exact ⟨⟨1, rfl, by omega, arr_step (i := 0) _ HA.out (by decide) (by omega), (HZ.out.other _ (by simp) _).other _ (by simp) _, (HB.out.setCell (p := ⟨w.heap.size + 1, 0, none⟩) (by simp) _).setCell (p := ⟨w.heap.size + 1, 4, none⟩) (by simp) _⟩, by simp [RowKit.intOf]⟩
      · have c0 := HA.out.c 1 (by rw [hl_len _ _ hi4]; decide)
        have z0 := HA.out.z 1 (by rw [hl_len _ _ hi4]; decide)
        have c4 := HA.out.c 5 (by rw [hl_len _ _ hi4]; decide)
        have z4 := HA.out.z 5 (by rw [hl_len _ _ hi4]; decide)
        go_wp2_with fail
        exact ⟨⟨2, rfl, by omega, arr_step (i := 1) _ HA.out (by decide) (by omega), (HZ.out.other _ (by simp) _).other _ (by simp) _, (HB.out.setCell (p := ⟨w.heap.size + 1, 1, none⟩) (by simp) _).setCell (p := ⟨w.heap.size + 1, 5, none⟩) (by simp) _⟩, by simp [RowKit.intOf]⟩
      · have c0 := HA.out.c 2 (by rw [hl_len _ _ hi4]; decide)
        have z0 := HA.out.z 2 (by rw [hl_len _ _ hi4]; decide)
        have c4 := HA.out.c 6 (by rw [hl_len _ _ hi4]; decide)
        have z4 := HA.out.z 6 (by rw [hl_len _ _ hi4]; decide)
        go_wp2_with fail
        exact ⟨⟨3, rfl, by omega, arr_step (i := 2) _ HA.out (by decide) (by omega), (HZ.out.other _ (by simp) _).other _ (by simp) _, (HB.out.setCell (p := ⟨w.heap.size + 1, 2, none⟩) (by simp) _).setCell (p := ⟨w.heap.size + 1, 6, none⟩) (by simp) _⟩, by simp [RowKit.intOf]⟩
      · have c0 := HA.out.c 3 (by rw [hl_len _ _ hi4]; decide)
        have z0 := HA.out.z 3 (by rw [hl_len _ _ hi4]; decide)
        have c4 := HA.out.c 7 (by rw [hl_len _ _ hi4]; decide)
        have z4 := HA.out.z 7 (by rw [hl_len _ _ hi4]; decide)
        go_wp2_with fail
        exact ⟨⟨4, rfl, by omega, arr_step (i := 3) _ HA.out (by decide) (by omega), (HZ.out.other _ (by simp) _).other _ (by simp) _, (HB.out.setCell (p := ⟨w.heap.size + 1, 3, none⟩) (by simp) _).setCell (p := ⟨w.heap.size + 1, 7, none⟩) (by simp) _⟩, by simp [RowKit.intOf]⟩
    · obtain rfl : i = 4 := by omega
      have HB := Lib.hid hB
      have a0 := hA.c 0 (by rw [hl_len _ _ hi4]; decide)
      have d0 := hZ.c 0 (by rw [hl_len _ _ (by decide)]; decide)
      have z0 := hZ.z 0 (by rw [hl_len _ _ (by decide)]; decide)
      have a1 := hA.c 1 (by rw [hl_len _ _ hi4]; decide)
      have d1 := hZ.c 1 (by rw [hl_len _ _ (by decide)]; decide)
      have z1 := hZ.z 1 (by rw [hl_len _ _ (by decide)]; decide)
      have a2 := hA.c 2 (by rw [hl_len _ _ hi4]; decide)
      have d2 := hZ.c 2 (by rw [hl_len _ _ (by decide)]; decide)
      have z2 := hZ.z 2 (by rw [hl_len _ _ (by decide)]; decide)
      have a3 := hA.c 3 (by rw [hl_len _ _ hi4]; decide)
      have d3 := hZ.c 3 (by rw [hl_len _ _ (by decide)]; decide)
      have z3 := hZ.z 3 (by rw [hl_len _ _ (by decide)]; decide)
      have a4 := hA.c 4 (by rw [hl_len _ _ hi4]; decide)
      have d4 := hZ.c 4 (by rw [hl_len _ _ (by decide)]; decide)
      have z4 := hZ.z 4 (by rw [hl_len _ _ (by decide)]; decide)
      have a5 := hA.c 5 (by rw [hl_len _ _ hi4]; decide)
      have d5 := hZ.c 5 (by rw [hl_len _ _ (by decide)]; decide)
      have z5 := hZ.z 5 (by rw [hl_len _ _ (by decide)]; decide)
      have a6 := hA.c 6 (by rw [hl_len _ _ hi4]; decide)
      have d6 := hZ.c 6 (by rw [hl_len _ _ (by decide)]; decide)
      have z6 := hZ.z 6 (by rw [hl_len _ _ (by decide)]; decide)
      have a7 := hA.c 7 (by rw [hl_len _ _ hi4]; decide)
      have d7 := hZ.c 7 (by rw [hl_len _ _ (by decide)]; decide)
      have z7 := hZ.z 7 (by rw [hl_len _ _ (by decide)]; decide)
      rw [hl_all] at a0 a1 a2 a3 a4 a5 a6 a7
      have HV : Hid (hdV n = .agg #[.int .u8 ((Jk.hd n).getD 0 0), .int .u8 ((Jk.hd n).getD 1 0), .int .u8 ((Jk.hd n).getD 2 0), .int .u8 ((Jk.hd n).getD 3 0), .int .u8 ((Jk.hd n).getD 4 0), .int .u8 ((Jk.hd n).getD 5 0), .int .u8 ((Jk.hd n).getD 6 0), .int .u8 ((Jk.hd n).getD 7 0)]) := Lib.hid rfl
      generalize (Jk.hd n).getD 0 0 = x0 at *
      generalize (hl n 0).getD 0 0 = y0 at *
      generalize (Jk.hd n).getD 1 0 = x1 at *
      generalize (hl n 0).getD 1 0 = y1 at *
      generalize (Jk.hd n).getD 2 0 = x2 at *
      generalize (hl n 0).getD 2 0 = y2 at *
      generalize (Jk.hd n).getD 3 0 = x3 at *
      generalize (hl n 0).getD 3 0 = y3 at *
      generalize (Jk.hd n).getD 4 0 = x4 at *
      generalize (hl n 0).getD 4 0 = y4 at *
      generalize (Jk.hd n).getD 5 0 = x5 at *
      generalize (hl n 0).getD 5 0 = y5 at *
      generalize (Jk.hd n).getD 6 0 = x6 at *
      generalize (hl n 0).getD 6 0 = y6 at *
      generalize (Jk.hd n).getD 7 0 = x7 at *
      generalize (hl n 0).getD 7 0 = y7 at *
      clear hA hB hZ
      go_wp2_with fail
      refine bodyPost_ret (v := .agg #[.int .u8 x0, .int .u8 x1, .int .u8 x2, .int .u8 x3, .int .u8 x4, .int .u8 x5, .int .u8 x6, .int .u8 x7]) (by simp [results, Try.results44, go_sem, d0, d1, d2, d3, d4, d5, d6, d7]) rfl ⟨by rw [HV.out], ?_⟩
      exact (((((((HB.out.setCell (p := ⟨w.heap.size, 0, none⟩) (Nat.le_refl _) _).setCell (p := ⟨w.heap.size, 1, none⟩) (Nat.le_refl _) _).setCell (p := ⟨w.heap.size, 2, none⟩) (Nat.le_refl _) _).setCell (p := ⟨w.heap.size, 3, none⟩) (Nat.le_refl _) _).setCell (p := ⟨w.heap.size, 4, none⟩) (Nat.le_refl _) _).setCell (p := ⟨w.heap.size, 5, none⟩) (Nat.le_refl _) _).setCell (p := ⟨w.heap.size, 6, none⟩) (Nat.le_refl _) _).setCell (p := ⟨w.heap.size, 7, none⟩) (Nat.le_refl _) _
end Go.Proofs.Ytghepjppjmpihaa
