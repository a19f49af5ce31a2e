/- The program's reader of a number. -/
import Derived.Test.YtbobaappilploaaPf
namespace Go.Proofs.Ytbobaappilploaa
open Go.RowKit Go.Lib Go.ChangeShapes Go.WideShapes Go.ChangeAt

theorem take_next {bs : List Int} {j : Nat} (h : j < bs.length) : bs.take (j + 1) = bs.take j ++ [bs.getD j 0] := by
  rw [List.take_add_one, List.getElem?_eq_getElem h, List.getD_eq_getElem?_getD, List.getElem?_eq_getElem h]; rfl
theorem part_at {bs : List Int} {j : Nat} (h : j < bs.length) : bs = bs.take j ++ bs.getD j 0 :: bs.drop (j + 1) := by
  have e : bs.drop j = bs.getD j 0 :: bs.drop (j + 1) := by
    rw [List.drop_eq_getElem_cons h, List.getD_eq_getElem?_getD, List.getElem?_eq_getElem h]; rfl
  rw [← e, List.take_append_drop]
theorem or_at {V d : Int} {j : Nat} (h0 : 0 ≤ V) (h1 : V < 128 ^ j) (hj : j ≤ 9) (d0 : 0 ≤ d) (d1 : d < 256) (h9 : j = 9 → d ≤ 1) :
    bits .or .u64 V (IntKind.u64.wrap (d % 128 * 2 ^ (7 * j))) = V + 128 ^ j * (d % 128) ∧ V + 128 ^ j * (d % 128) < 18446744073709551616 := by
  have e1 : (2 : Int) ^ (7 * j) = 128 ^ j := by rw [Int.pow_mul]; rfl
  have e2 := Pk.or_digit (V := V) (d := d % 128) (i := j) h0 h1 (by omega)
  have hm : 0 ≤ d % 128 ∧ d % 128 < 128 := by omega
  have e5 : d % 128 * 128 ^ j + 128 ^ j ≤ 18446744073709551616 ∧ 0 ≤ d % 128 * 128 ^ j := by
    have : j = 0 ∨ j = 1 ∨ j = 2 ∨ j = 3 ∨ j = 4 ∨ j = 5 ∨ j = 6 ∨ j = 7 ∨ j = 8 ∨ j = 9 := by omega
    rcases this with rfl | rfl | rfl | rfl | rfl | rfl | rfl | rfl | rfl | rfl <;> simp <;> omega
  rw [e1]
  have e6 : IntKind.u64.wrap (d % 128 * 128 ^ j) = d % 128 * 128 ^ j := by
    have hp : (0 : Int) < 128 ^ j := by omega
    rw [IntKind.wrap_u64]; omega
  have e7 : d % 128 * 128 ^ j = 128 ^ j * (d % 128) := Int.mul_comm _ _
  rw [e6, u64_or _ _ h0 (by omega) e5.2 (by omega), e2]
  exact ⟨rfl, by omega⟩
set_option maxHeartbeats 1000000 in
theorem pnumber_any (A : Option Addr) (n c : Nat) (bs : List Int) (w : World) (hr : RdK .u8 w w.heap.size A n bs) (hb : ∀ x ∈ bs, 0 ≤ x ∧ x < 256) (hn : n ≤ 1100) (hnc : n ≤ c) (hcc : c ≤ 9223372036854775807) :
    Calls Try.prog 18 #[.slice A n c] w fun e w' => ((∃ (v : Int) (s : List Int), Pk.I64 v ∧ bs = Pk.num v ++ s ∧ e = .returned (.tuple #[.int .i64 v, .int .i64 ((Pk.num v).length : Nat)])) ∨ ((∀ v s, Pk.I64 v → bs ≠ Pk.num v ++ s) ∧ e = .returned (.tuple #[.int .i64 0, .int .i64 0]))) ∧ w' = w := by
  have HB := Lib.hid hb
  have HR := Lib.hid hr
  have HL := Lib.hid hr.1
  clear hb hr
  go_enter Try.func18, Try.ntmps18
  go_wp2_with fail
  go_loopw [4, 5, 6, 9] (fun F s5 s6 iv wr => ∃ (j : Nat) (V : Int), iv = .int .i64 j ∧ j ≤ n ∧ j ≤ 9 ∧ F = .int .u64 V ∧ 0 ≤ V ∧ V < 18446744073709551616 ∧ Hid (V < 128 ^ j ∧ V = Pk.val (bs.take j)) ∧ Hid (∀ x ∈ bs.take j, Pk.Far x) ∧ w = wr) (fun _ _ _ iv _ => n - (RowKit.intOf iv).toNat)
  case atStart => exact ⟨0, 0, rfl, Nat.zero_le _, by decide, rfl, by decide, by decide, ⟨by decide, rfl⟩, (fun x hx => nomatch hx), rfl⟩
  case round =>
    obtain ⟨j, V, rfl, hjn, hj9, rfl, v0, v1, HV, HF, rfl⟩ := hrel
    by_cases hlt : j < n
    · have hltz : (j : Int) < (n : Int) := by omega
      obtain ⟨xb, xo, rfl, _, rx⟩ := HR.out.2 j hlt
      have HX := Lib.hid (HB.out (bs.getD j 0) (by
        rw [List.getD_eq_getElem?_getD, List.getElem?_eq_getElem (by rw [HL.out]; exact hlt)]
        exact List.getElem_mem _))
      have HP := Lib.hid (part_at (bs := bs) (j := j) (by rw [HL.out]; exact hlt))
      have HT := Lib.hid (take_next (bs := bs) (j := j) (by rw [HL.out]; exact hlt))
      have HPL := Lib.hid (show (bs.take j).length = j by rw [List.length_take, HL.out]; omega)
      generalize bs.getD j 0 = d at *
      generalize bs.take j = P at *
      have d0 := HX.out.1
      have d1 := HX.out.2
      by_cases h9 : j = 9 ∧ 1 < d
      · obtain ⟨rfl, h1⟩ := h9
        have HNN := Lib.hid (Pk.num_no9 (r := bs.drop (9 + 1)) HF.out HPL.out h1 d1)
        go_wp2_with fail
        exact bodyPost_ret (v := .tuple #[.int .i64 0, .int .i64 0]) (by simp [results, Try.results18, go_sem]) rfl ⟨.inr ⟨by rw [HP.out]; exact HNN.out, rfl⟩, rfl⟩
      · have HO := Lib.hid (or_at (V := V) (d := d) (j := j) v0 HV.out.1 hj9 d0 d1 (by omega))
        have HVS := Lib.hid (show V + 128 ^ j * (d % 128) = Pk.val (P ++ [d]) by rw [Pk.val_snoc, HPL.out, HV.out.2])
        generalize V + 128 ^ j * (d % 128) = U at *
        have hu : 0 ≤ U ∧ U < 18446744073709551616 := ⟨by rw [HVS.out]; exact (Pk.val_bd _).1, HO.out.2⟩
        obtain ⟨u0, u1⟩ := hu
        by_cases hj : j = 9
        · have hd1 : d ≤ 1 := by omega
          have hor : bits .or .u64 V (d % 128 * 9223372036854775808) = U := by
            have h := HO.out.1
            subst hj
            have e : IntKind.u64.wrap (d % 128 * 2 ^ (7 * 9)) = d % 128 * 9223372036854775808 := by rw [IntKind.wrap_u64]; omega
            rwa [e] at h
          have hjz : (j : Int) = 9 := by omega
          have hjb : ((j : Int) == 9) = true := by simp; omega
          have hdz : decide (1 < d) = false := by simp; omega
          by_cases hz : d = 0
          · have HD := Lib.hid (show d = 0 from hz)
            have HNN := Lib.hid (Pk.num_no0 (r := bs.drop (j + 1)) HF.out (by intro e; rw [e] at HPL; have := HPL.out; simp at this; omega))
            have dz : (d == 0) = true := by simp; omega
            subst hj
            clear hz
            go_wp2_with fail
            exact bodyPost_ret (v := .tuple #[.int .i64 0, .int .i64 0]) (by simp [results, Try.results18, go_sem]) rfl ⟨.inr ⟨by rw [HP.out, HD.out]; exact HNN.out, rfl⟩, rfl⟩
          · have HY := Lib.hid (Pk.num_yes (p := P) (d := d) HF.out d0 (by omega) (fun e => by
              have h5 : 0 < j := by rw [← HPL.out]; exact List.length_pos_iff.2 e
              omega) (by rw [HPL.out]; exact hj9) (by rw [HPL.out]; intro e; omega))
            rw [← HVS.out] at HY
            have dz : (d == 0) = false := by simp; omega
            subst hj
            go_wp2_with fail
            refine (unfold_any U u0 u1 _).mono ?_; rintro e w2 ⟨rfl, rfl⟩
            go_wp2_with fail
            exact bodyPost_ret (v := .tuple #[.int .i64 (Pk.uz U), .int .i64 10]) (by simp [results, Try.results18, go_sem]) rfl ⟨.inl ⟨Pk.uz U, _, HY.out.2.2.1, by rw [HY.out.2.2.2, List.append_assoc]; exact HP.out, by rw [HY.out.2.2.2, List.length_append, HPL.out]; rfl⟩, rfl⟩
        · have hor := HO.out.1
          have hjb : ((j : Int) == 9) = false := by simp; omega
          by_cases h128 : 128 ≤ d
          · have HFN := Lib.hid (show ∀ x ∈ bs.take (j + 1), Pk.Far x from fun x hx => by
              rw [HT.out] at hx
              rcases List.mem_append.1 hx with hx | hx
              · exact HF.out x hx
              · rw [List.mem_singleton.1 hx]; exact ⟨by omega, d1⟩)
            have HUL := Lib.hid (show U < 128 ^ (j + 1) by
              have h := (Pk.val_bd (P ++ [d])).2
              rw [← HVS.out, List.length_append, HPL.out] at h; exact h)
            go_wp2_with fail
            exact ⟨⟨j + 1, U, by go_num, by omega, by omega, rfl, u0, u1, ⟨HUL.out, by rw [HT.out]; exact HVS.out⟩, HFN.out, trivial⟩, by simp [RowKit.intOf]; omega⟩
          · have h128b : d < 128 := by omega
            by_cases hz : d = 0
            · by_cases hj0 : 0 < j
              · have hj0z : 0 < (j : Int) := by omega
                have HD := Lib.hid (show d = 0 from hz)
                have HNN := Lib.hid (Pk.num_no0 (r := bs.drop (j + 1)) HF.out (by intro e; rw [e] at HPL; have := HPL.out; simp at this; omega))
                have dz : (d == 0) = true := by simp; omega
                clear hz
                go_wp2_with fail
                exact bodyPost_ret (v := .tuple #[.int .i64 0, .int .i64 0]) (by simp [results, Try.results18, go_sem]) rfl ⟨.inr ⟨by rw [HP.out, HD.out]; exact HNN.out, rfl⟩, rfl⟩
              · have HY := Lib.hid (Pk.num_yes (p := P) (d := d) HF.out d0 (by omega) (fun e => by
                  have h5 : 0 < j := by rw [← HPL.out]; exact List.length_pos_iff.2 e
                  omega) (by rw [HPL.out]; exact hj9) (by rw [HPL.out]; intro e; omega))
                rw [← HVS.out] at HY
                have hj0z : decide (0 < (j : Int)) = false := by simp; omega
                have dz : (d == 0) = true := by simp; omega
                clear hz
                go_wp2_with fail
                refine (unfold_any U u0 u1 _).mono ?_; rintro e w2 ⟨rfl, rfl⟩
                go_wp2_with fail
                exact bodyPost_ret (v := .tuple #[.int .i64 (Pk.uz U), .int .i64 ((j : Int) + 1)]) (by simp [results, Try.results18, go_sem]) rfl ⟨.inl ⟨Pk.uz U, _, HY.out.2.2.1, by rw [HY.out.2.2.2, List.append_assoc]; exact HP.out, by rw [HY.out.2.2.2, List.length_append, HPL.out]; rfl⟩, rfl⟩
            · have HY := Lib.hid (Pk.num_yes (p := P) (d := d) HF.out d0 (by omega) (fun e => by
                have h5 : 0 < j := by rw [← HPL.out]; exact List.length_pos_iff.2 e
                omega) (by rw [HPL.out]; exact hj9) (by rw [HPL.out]; intro e; omega))
              rw [← HVS.out] at HY
              have dz : (d == 0) = false := by simp; omega
              go_wp2_with fail
              refine (unfold_any U u0 u1 _).mono ?_; rintro e w2 ⟨rfl, rfl⟩
              go_wp2_with fail
              exact bodyPost_ret (v := .tuple #[.int .i64 (Pk.uz U), .int .i64 ((j : Int) + 1)]) (by simp [results, Try.results18, go_sem]) rfl ⟨.inl ⟨Pk.uz U, _, HY.out.2.2.1, by rw [HY.out.2.2.2, List.append_assoc]; exact HP.out, by rw [HY.out.2.2.2, List.length_append, HPL.out]; rfl⟩, rfl⟩
    · obtain rfl : j = n := by omega
      have hltz : ¬ (j : Int) < (j : Int) := by omega
      have HNN := Lib.hid (Pk.num_noend (p := bs) (by have h := HF.out; rwa [List.take_of_length_le (by rw [HL.out]; exact Nat.le_refl _)] at h))
      go_wp2_with fail
      exact bodyPost_ret (v := .tuple #[.int .i64 0, .int .i64 0]) (by simp [results, Try.results18, go_sem]) rfl ⟨.inr ⟨HNN.out, rfl⟩, rfl⟩
end Go.Proofs.Ytbobaappilploaa
