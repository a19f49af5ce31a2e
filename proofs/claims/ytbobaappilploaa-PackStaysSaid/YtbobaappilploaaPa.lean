/- The program's writer of numbers. -/
import Derived.Test.YtbobaappilploaaPf
namespace Go.Proofs.Ytbobaappilploaa
open Go.RowKit Go.Lib Go.ChangeShapes Go.WideShapes Go.ChangeAt

set_option maxHeartbeats 1000000 in
theorem papp_any (B : Nat) (b0 : Value) (bs : List Int) (A : Option Addr) (n c : Nat) (ns : List Int) (w : World) (hB : B ≤ w.heap.size) (hr : RdK .i64 w B A n ns) (hown0 : w.ownsRow B 5 1 b0 bs.length (bs.map (Value.int .u8))) (hI : ∀ x ∈ ns, Pk.I64 x) (hn : n ≤ 1000) (hbl : bs.length ≤ 1000) :
    Calls Try.prog 13 #[b0, .slice A n c] w fun e w' => ∃ v, e = .returned v ∧ w'.ownsRow B 5 1 v (bs ++ ns.flatMap Pk.num).length ((bs ++ ns.flatMap Pk.num).map (Value.int .u8)) ∧ Below B w w' := by
  obtain ⟨i0, hi, hz0, hz1, hz2⟩ := info_parts info8
  have HI := Lib.hid hI
  have HR := Lib.hid hr
  have HL := Lib.hid hr.1
  have HS := Lib.hid hB
  have HO := Lib.hid hown0
  obtain ⟨A0, c0, rfl⟩ := own_form hown0
  clear hI hr hB hown0
  go_enter Try.func13, Try.ntmps13
  go_wp2_with fail
  go_loopw [0, 6, 7, 10] (fun o s6 s7 iv wr => ∃ i N : Nat, iv = .int .i64 i ∧ i ≤ n ∧ N ≤ 11000 ∧ Hid (N = (bs ++ (ns.take i).flatMap Pk.num).length) ∧ wr.ownsRow B 5 1 o N ((bs ++ (ns.take i).flatMap Pk.num).map (Value.int .u8)) ∧ Hid (Below B w wr)) (fun _ _ _ iv _ => n - (RowKit.intOf iv).toNat)
  case atStart => exact ⟨0, bs.length, rfl, Nat.zero_le _, by omega, Lib.hid (by simp), by simpa using HO.out, Below.refl _ _⟩
  case round =>
    obtain ⟨i, N, rfl, hin, hN9, HNL, hown, HB⟩ := hrel
    clear HO
    obtain ⟨A5, c5, rfl⟩ := own_form hown
    by_cases hlt : i < n
    · have hltz : (i : Int) < (n : Int) := by omega
      have R := Lib.hid (HR.out.below HB.out)
      obtain ⟨xb, xo, rfl, _, rx⟩ := R.out.2 i hlt
      have HX := Lib.hid (HI.out (ns.getD i 0) (by
        rw [List.getD_eq_getElem?_getD, List.getElem?_eq_getElem (by rw [HL.out]; exact hlt)]
        exact List.getElem_mem _))
      have HN := Lib.hid (flat_succ (ns := ns) (i := i) (by rw [HL.out]; exact hlt))
      have hfl : ((ns.take i).flatMap Pk.num).length ≤ 10000 := by have := flat_len (ns.take i); have := List.length_take_le i ns; omega
      generalize ns.getD i 0 = x at *
      obtain ⟨BI, hBI⟩ : ∃ X, bs ++ (ns.take i).flatMap Pk.num = X := ⟨_, rfl⟩
      rw [hBI] at hown HNL
      have hfx : N + 10 ≤ 11010 := by omega
      have HBI := Lib.hid hBI
      clear hBI
      obtain ⟨w4, e4⟩ : ∃ y, y = wr := ⟨_, rfl⟩
      subst e4
      go_wp2_with fail
      refine (fold_any x HX.out _).mono ?_; rintro e w2 ⟨rfl, rfl⟩
      have HZ := Lib.hid (Pk.zz_bd HX.out)
      have HK := Lib.hid (show Pk.zz x < 128 ^ (10 - 0) ∧ ([] : List Int).length = 0 ∧ Pk.num x = [] ++ Pk.vb (9 - 0) (Pk.zz x) from ⟨by
        have : (128 : Int) ^ (10 - 0) = 1180591620717411303424 := by decide
        have := HZ.out.2
        omega, rfl, rfl⟩)
      generalize Pk.zz x = Z at *
      go_wp2_with fail
      go_loopw [0, 7] (fun o u wr => ∃ (j : Nat) (U : Int) (pre : List Int), u = .int .u64 U ∧ 0 ≤ U ∧ U < 18446744073709551616 ∧ Hid (U < 128 ^ (10 - j)) ∧ j ≤ 9 ∧ wr.ownsRow B 5 1 o (N + j) ((BI ++ pre).map (Value.int .u8)) ∧ Hid (Below B w wr) ∧ Hid (pre.length = j ∧ Pk.num x = pre ++ Pk.vb (9 - j) U)) (fun _ u _ => (RowKit.intOf u).toNat)
      case atStart => exact ⟨0, Z, [], rfl, HZ.out.1, HZ.out.2, HK.out.1, by decide, by rw [List.append_nil]; exact hown, HB.out, HK.out.2⟩
      case round =>
        clear hown HB rx
        obtain ⟨j, U, pre, rfl, u0, u1, HU, hj, hown, HB, HP⟩ := hrel
        obtain ⟨A6, c6, rfl⟩ := own_form hown
        have HBS := Lib.hid (Nat.le_trans HS.out HB.out.size)
        by_cases hu : 127 < U
        · have HS9 := Lib.hid (num_step hj HP.out.1 HU.out HP.out.2 hu)
          have hj9 : j + 1 ≤ 9 := HS9.out.1
          go_wp2_with (at_builtin; refine wpList_append_own _ rfl _ _ 26 rfl B 5 i0 (.int .u8 0) 1 1 Try.underlying26 hi hz0 hz1 hz2 rfl (by decide) (.slice A6 (N + j) c6) (N + j) ((BI ++ pre).map (Value.int .u8)) rfl (hown.alloc _) ⟨wr.heap.size, 0, none⟩ 1 1 [.int .u8 (U % 128 + 128)] rfl rfl (news1 _ _ _) (one8 _) (by unfold maxLen; omega) (by omega) (le_alloc (Below.refl B wr) HBS.out _) ?_; intro v' w1 hown' hgrow _; have HB1 := Lib.hid ((HB.out.alloc HBS.out _).grown hgrow (le_alloc (Below.refl B wr) HBS.out _) (own_block hown)); clear hgrow)
          exact ⟨⟨j + 1, U / 128, pre ++ [U % 128 + 128], rfl, by omega, by omega, HS9.out.2.2.1, hj9, by rw [← List.append_assoc, List.map_append]; exact hown', HB1.out, HS9.out.2.1, HS9.out.2.2.2⟩, by simp [RowKit.intOf]; omega⟩
        · have HS9 := Lib.hid (num_last HP.out.2 hu)
          go_wp2_with (at_builtin; refine wpList_append_own _ rfl _ _ 26 rfl B 5 i0 (.int .u8 0) 1 1 Try.underlying26 hi hz0 hz1 hz2 rfl (by decide) (.slice A6 (N + j) c6) (N + j) ((BI ++ pre).map (Value.int .u8)) rfl (hown.alloc _) ⟨wr.heap.size, 0, none⟩ 1 1 [.int .u8 U] rfl rfl (news1 _ _ _) (one8 _) (by unfold maxLen; omega) (by omega) (le_alloc (Below.refl B wr) HBS.out _) ?_; intro v' w1 hown' hgrow _; have HB1 := Lib.hid ((HB.out.alloc HBS.out _).grown hgrow (le_alloc (Below.refl B wr) HBS.out _) (own_block hown)); clear hgrow)
          have hNB : N + j + 1 = (bs ++ (ns.take (i + 1)).flatMap Pk.num).length := by
            rw [HN.out, ← List.append_assoc, HBI.out, HS9.out, List.length_append, List.length_append, HP.out.1, ← HNL.out]; rfl
          have hNC := flat_len (ns.take (i + 1))
          have hND := List.length_take_le (i + 1) ns
          exact ⟨⟨i + 1, N + j + 1, by go_num, by omega, by rw [hNB, List.length_append]; omega, hNB, by
            rw [HN.out, ← List.append_assoc, HBI.out, HS9.out, ← List.append_assoc, List.map_append]; exact hown', HB1.out⟩, by simp [RowKit.intOf]; omega⟩
    · obtain rfl : i = n := by omega
      have e1 : (ns.take i).flatMap Pk.num = ns.flatMap Pk.num := by rw [List.take_of_length_le (by rw [HL.out]; exact Nat.le_refl _)]
      rw [e1] at hown HNL
      clear e1
      go_wp2_with fail
      go_ret
      exact ⟨_, rfl, by rw [← HNL.out]; exact hown, HB.out⟩
end Go.Proofs.Ytbobaappilploaa
