/- What split.Shares calls: isMoney, areMoney, sum, part. -/
import Derived.Test.YtinimjejdkcodaaSf
import Derived.Test.YtinimjejdkcodaaDiv
namespace Go.Proofs.Ytinimjejdkcodaa
open Go.RowKit Go.Shelf Go.Lib Go.Sort

def okm (z : Int) : Bool := decide (0 ≤ z ∧ z ≤ 10000000000000)
theorem isMoney_any (z : Int) (w : World) : Calls Try.prog 20 #[.int .i64 z] w fun e w' => e = .returned (.bool (okm z)) ∧ w = w' := by
  by_cases h1 : 0 ≤ z
  · have d1 : decide (z ≥ 0) = true := decide_eq_true h1
    by_cases h2 : z ≤ 10000000000000
    · have e : okm z = true := decide_eq_true ⟨h1, h2⟩
      rw [e]
      clear e
      go_enter Try.func20, Try.ntmps20
      go_wp2_with fail
      go_ret
      exact ⟨rfl, rfl⟩
    · have e : okm z = false := decide_eq_false (by omega)
      rw [e]
      clear e
      go_enter Try.func20, Try.ntmps20
      go_wp2_with fail
      go_ret
      exact ⟨rfl, rfl⟩
  · have e : okm z = false := decide_eq_false (by omega)
    rw [e]
    clear e
    go_enter Try.func20, Try.ntmps20
    go_wp2_with fail
    go_ret
    exact ⟨rfl, rfl⟩

theorem areMoney_any (A : Option Addr) (n c : Nat) (zs : List Int) (w : World) (B : Nat) (hr : RdK .i64 w B A n zs) (hn : n ≤ 1000000) :
    Calls Try.prog 21 #[.slice A n c] w fun e w' => e = .returned (.bool (zs.all okm)) ∧ w = w' := by
  have HR := Lib.hid hr
  clear hr
  go_enter Try.func21, Try.ntmps21
  go_wp2_with fail
  go_loop [7] (fun v => ∃ i : Nat, v = .int .i64 i ∧ i ≤ n ∧ Hid (∀ j, j < i → okm (zs.getD j 0) = true)) (fun v => n - (RowKit.intOf v).toNat)
  case atStart => exact ⟨0, rfl, Nat.zero_le _, fun j hj => absurd hj (Nat.not_lt_zero _)⟩
  case round =>
    obtain ⟨i, rfl, hin, H⟩ := hrel
    by_cases hlt : i < n
    · have hltz : (i : Int) < (n : Int) := by omega
      obtain ⟨b, o, rfl, _, hc⟩ := HR.out.2 i hlt
      obtain ⟨z, hz⟩ : ∃ z, zs.getD i 0 = z := ⟨_, rfl⟩
      have HZ := Lib.hid hz
      rw [hz] at hc
      clear hz
      go_wp2_with fail
      refine (isMoney_any z _).mono ?_
      rintro e w' ⟨rfl, rfl⟩
      cases hk : okm z with
      | true =>
        have HN := Lib.hid (show ∀ j, j < i + 1 → okm (zs.getD j 0) = true from fun j hj => by
          rcases Nat.lt_or_ge j i with x | x
          · exact H.out j x
          · obtain rfl : j = i := by omega
            rw [HZ.out]; exact hk)
        clear hk H
        go_wp2_with fail
        exact ⟨⟨i + 1, by go_num, by omega, HN⟩, by simp [RowKit.intOf]; omega⟩
      | false =>
        have HF := Lib.hid (show zs.all okm = false from by
          rw [List.all_eq_false]
          refine ⟨z, ?_, by rw [hk]; decide⟩
          have hl : i < zs.length := by rw [HR.out.1]; exact hlt
          rw [← HZ.out, List.getD_eq_getElem?_getD, List.getElem?_eq_getElem hl]; exact List.getElem_mem _)
        clear hk H
        go_wp2_with fail
        go_ret
        exact ⟨by rw [HF.out]; rfl, rfl⟩
    · obtain rfl : i = n := by omega
      have hltz : ¬ (i : Int) < (i : Int) := by omega
      have HT := Lib.hid (show zs.all okm = true from by
        rw [List.all_eq_true]
        intro x hx
        obtain ⟨j, hj, e⟩ := List.getElem_of_mem hx
        have := H.out j (by rw [← HR.out.1]; exact hj)
        rwa [List.getD_eq_getElem?_getD, List.getElem?_eq_getElem hj, Option.getD_some, e] at this)
      clear H
      go_wp2_with fail
      go_ret
      exact ⟨by rw [HT.out]; rfl, rfl⟩

theorem take_sum (zs : List Int) (i : Nat) (h : i < zs.length) : (zs.take (i + 1)).sum = (zs.take i).sum + zs.getD i 0 := by
  rw [List.take_add_one, List.sum_append, List.getD_eq_getElem?_getD, List.getElem?_eq_getElem h]; simp
theorem take_bd {B : Int} (hB : 0 ≤ B) {zs : List Int} (h : ∀ x ∈ zs, 0 ≤ x ∧ x ≤ B) (i : Nat) (hi : i ≤ 480) : 0 ≤ (zs.take i).sum ∧ (zs.take i).sum ≤ 480 * B := by
  have a := Sv.sum_bd (ws := zs.take i) (B := B) (fun x hx => h x (List.mem_of_mem_take hx))
  have b : (zs.take i).length ≤ 480 := by rw [List.length_take]; omega
  have := Int.mul_le_mul_of_nonneg_right (show (((zs.take i).length : Nat) : Int) ≤ 480 by omega) hB
  omega

theorem ssum_any (A : Option Addr) (n c : Nat) (zs : List Int) (w : World) (B : Nat) (hr : RdK .i64 w B A n zs) (hn : n ≤ 480) (hz : ∀ x ∈ zs, 0 ≤ x ∧ x ≤ 10000000000000) :
    Calls Try.prog 22 #[.slice A n c] w fun e w' => e = .returned (.int .i64 zs.sum) ∧ w = w' := by
  have HR := Lib.hid hr
  have HZ := Lib.hid hz
  clear hr hz
  go_enter Try.func22, Try.ntmps22
  go_wp2_with fail
  go_loop [3, 8] (fun s v => ∃ i : Nat, v = .int .i64 i ∧ i ≤ n ∧ s = .int .i64 (zs.take i).sum) (fun s v => n - (RowKit.intOf v).toNat)
  case atStart => exact ⟨0, rfl, Nat.zero_le _, rfl⟩
  case round =>
    obtain ⟨i, rfl, hin, rfl⟩ := hrel
    by_cases hlt : i < n
    · have hltz : (i : Int) < (n : Int) := by omega
      obtain ⟨b, o, rfl, _, hc⟩ := HR.out.2 i hlt
      have s1 := take_bd (by decide) HZ.out i (by omega)
      have s2 := take_bd (by decide) HZ.out (i + 1) (by omega)
      have HS := Lib.hid (take_sum zs i (by rw [HR.out.1]; exact hlt))
      rw [HS.out] at s2
      generalize zs.getD i 0 = z at *
      generalize hs : (zs.take i).sum = s at *
      have HS1 := Lib.hid hs
      clear hs
      obtain ⟨s10, s11⟩ := s1
      obtain ⟨s20, s21⟩ := s2
      go_wp2_with fail
      exact ⟨⟨i + 1, by go_num, by omega, by rw [HS.out]⟩, by simp [RowKit.intOf]; omega⟩
    · obtain rfl : i = n := by omega
      have hltz : ¬ (i : Int) < (i : Int) := by omega
      have HT := Lib.hid (show zs.take i = zs from List.take_of_length_le (by rw [HR.out.1]; exact Nat.le_refl _))
      go_wp2_with fail
      go_ret
      exact ⟨by rw [HT.out]; rfl, rfl⟩

theorem part_any (t x S : Int) (w : World) (h0 : 0 ≤ t) (h1 : t ≤ 10000000000000) (h2 : 0 ≤ x) (h3 : x ≤ S) (h4 : 0 < S) (h5 : S ≤ 4800000000000000) :
    Calls Try.prog 23 #[.int .i64 t, .int .i64 x, .int .i64 S] w fun e w' => e = .returned (.tuple #[.int .i64 (t * x / S), .int .u64 (t * x % S)]) ∧ ∃ q, w' = w.drewN q := by
  have p0 : 0 ≤ t * x := Int.mul_nonneg h0 h2
  have p1 : t * x ≤ 10000000000000 * S := Int.le_trans (Int.mul_le_mul_of_nonneg_right h1 h2) (Int.mul_le_mul_of_nonneg_left h3 (by decide))
  have p2 : t * x ≤ t * S := Int.mul_le_mul_of_nonneg_left h3 h0
  have d0 : 0 ≤ t * x / S := Int.ediv_nonneg p0 (by omega)
  have d1 : t * x / S ≤ t := Int.ediv_le_of_le_mul h4 p2
  have m := Try.bits_Mul64 t.toNat x.toNat (by omega) (by omega)
  rw [Int.toNat_of_nonneg h0, Int.toNat_of_nonneg h2] at m
  have e1 : ((t.toNat * x.toNat / 18446744073709551616 : Nat) : Int) = t * x / 18446744073709551616 := by
    rw [Int.natCast_ediv, Int.natCast_mul, Int.toNat_of_nonneg h0, Int.toNat_of_nonneg h2]; rfl
  have e2 : ((t.toNat * x.toNat % 18446744073709551616 : Nat) : Int) = t * x % 18446744073709551616 := by
    rw [Int.natCast_emod, Int.natCast_mul, Int.toNat_of_nonneg h0, Int.toNat_of_nonneg h2]; rfl
  rw [e1, e2] at m
  have M := Lib.hid m
  have D := Lib.hid (fun w => div64_any (t * x / 18446744073709551616) (t * x % 18446744073709551616) S (by omega) (by omega) (by omega) (by omega) (by omega) w)
  have E := Lib.hid (show t * x / 18446744073709551616 * 18446744073709551616 + t * x % 18446744073709551616 = t * x by omega)
  clear m e1 e2
  generalize t * x / 18446744073709551616 = hi at *
  generalize t * x % 18446744073709551616 = lo at *
  rw [E.out] at D
  generalize t * x / S = qq at *
  generalize t * x % S = rr at *
  clear p0 p1 p2
  go_enter Try.func23, Try.ntmps23
  go_wp2_with fail
  refine (M.out _).mono ?_
  rintro e w' ⟨rfl, rfl⟩
  go_wp2_with fail
  refine (D.out _).mono ?_
  rintro e w' ⟨rfl, n1, rfl⟩
  go_wp2_with fail
  go_ret2
  exact ⟨rfl, _, rfl⟩
end Go.Proofs.Ytinimjejdkcodaa
