import Derived.Test.YtbobaappilploaaOwn
import Derived.Test.YtbobaappilploaaPk
namespace Go.Proofs.Ytbobaappilploaa
open Go.RowKit Go.Lib

/-! ### The reference's bytes: a number -/
theorem info8 : (Try.prog.info? 5).map (fun i => (i.zero, i.size, i.bytes)) = some (some (.int .u8 0), 1, 1) := by kernel_rfl
theorem one8 (z : Int) : ∀ u ∈ ([.int .u8 z] : List Value), u.oneCell' = true := fun u hu => by simp at hu; subst hu; rfl
theorem ones8 (l : List Int) : ∀ u ∈ l.map (Value.int .u8), u.oneCell' = true := fun u hu => by obtain ⟨z, _, rfl⟩ := List.mem_map.1 hu; rfl
/-- bytes of the call's own -/
def OwnB (w w' : World) (v : Value) (bs : List Int) : Prop := w'.ownsRow w.heap.size 5 1 v bs.length (bs.map (Value.int .u8)) ∧ Below w.heap.size w w'
theorem num_step {n U : Int} {j : Nat} {pre : List Int} (hj : j ≤ 9) (hl : pre.length = j) (h1 : U < 128 ^ (10 - j)) (h : Pk.num n = pre ++ Pk.vb (9 - j) U) (hu : 127 < U) :
    j + 1 ≤ 9 ∧ (pre ++ [U % 128 + 128]).length = j + 1 ∧ U / 128 < 128 ^ (10 - (j + 1)) ∧ Pk.num n = (pre ++ [U % 128 + 128]) ++ Pk.vb (9 - (j + 1)) (U / 128) := by
  have hj9 : j + 1 ≤ 9 := by
    rcases Nat.lt_or_ge j 9 with h | h
    · exact h
    · obtain rfl : j = 9 := by omega
      simp at h1; omega
  obtain ⟨k, hk⟩ : ∃ k, 9 - j = k + 1 := ⟨8 - j, by omega⟩
  have e1 : 9 - (j + 1) = k := by omega
  have e2 : 10 - j = k + 2 := by omega
  have e3 : 10 - (j + 1) = k + 1 := by omega
  rw [e2] at h1
  rw [e1, e3]
  refine ⟨hj9, by simp [hl], ?_, ?_⟩
  · have e : (128 : Int) ^ (k + 2) = 128 * 128 ^ (k + 1) := by rw [Int.pow_succ]; omega
    rw [e] at h1; omega
  · rw [h, hk]
    unfold Pk.vb
    rw [if_pos hu]
    cases k <;> simp [Pk.vb]
theorem num_last {n U : Int} {j : Nat} {pre : List Int} (h : Pk.num n = pre ++ Pk.vb (9 - j) U) (hu : ¬ 127 < U) : Pk.num n = pre ++ [U] := by
  rw [h]
  cases hk : 9 - j with
  | zero => simp [Pk.vb]
  | succ k => unfold Pk.vb; rw [if_neg hu]
set_option maxHeartbeats 1000000 in
theorem number_any (n : Int) (h : Pk.I64 n) (w : World) : Calls Try.prog 14 #[.int .i64 n] w fun e w' => ∃ v, e = .returned v ∧ OwnB w w' v (Pk.num n) := by
  obtain ⟨i0, hi, hz0, hz1, hz2⟩ := info_parts info8
  obtain ⟨h1, h2⟩ := h
  have key : ∀ U : Int, U = Pk.zz n → 0 ≤ U ∧ U < 18446744073709551616 ∧ Hid (U < 128 ^ (10 - 0)) ∧ Hid (([] : List Int).length = 0 ∧ Pk.num n = [] ++ Pk.vb (9 - 0) U) := by
    intro U hU
    have hb := Pk.zz_bd (n := n) ⟨h1, h2⟩
    rw [← hU] at hb
    refine ⟨hb.1, hb.2, Lib.hid ?_, Lib.hid ⟨rfl, ?_⟩⟩
    · have : (128 : Int) ^ (10 - 0) = 1180591620717411303424 := by decide
      omega
    · rw [hU]; rfl
  have HK := Lib.hid key
  clear key
  by_cases hn : n < 0
  · have hz : -2 * n - 1 = Pk.zz n := by unfold Pk.zz; rw [if_pos hn]
    have HZ := Lib.hid hz
    clear hz
    go_enter Try.func14, Try.ntmps14
    go_wp2_with fail
    go_loopw [3, 4] (fun u o wr => ∃ (j : Nat) (U : Int) (pre : List Int), u = .int .u64 U ∧ 0 ≤ U ∧ U < 18446744073709551616 ∧ Hid (U < 128 ^ (10 - j)) ∧ j ≤ 9 ∧ wr.ownsRow w.heap.size 5 1 o j (pre.map (Value.int .u8)) ∧ Hid (Below w.heap.size w wr) ∧ Hid (pre.length = j ∧ Pk.num n = pre ++ Pk.vb (9 - j) U)) (fun u _ _ => (RowKit.intOf u).toNat)
    case atStart =>
      have hk := HK.out (-(n + 1) * 2 + 1) (by rw [← HZ.out]; try omega)
      exact ⟨0, -(n + 1) * 2 + 1, [], by simp, hk.1, hk.2.1, hk.2.2.1, by decide, ⟨rfl, .inl ⟨rfl, rfl⟩⟩, Below.refl _ _, hk.2.2.2⟩
    case round =>
      obtain ⟨j, U, pre, rfl, u0, u1, HU, hj, hown, HB, HP⟩ := hrel
      obtain ⟨A5, c5, rfl⟩ := own_form hown
      by_cases hu : 127 < U
      · have HS := Lib.hid (num_step hj HP.out.1 HU.out HP.out.2 hu)
        have hj9 : j + 1 ≤ 9 := HS.out.1
        go_wp2_with (at_builtin; refine wpList_append_own _ rfl _ _ 26 rfl w.heap.size 5 i0 (.int .u8 0) 1 1 Try.underlying26 hi hz0 hz1 hz2 rfl (by decide) (.slice A5 j c5) j (pre.map (Value.int .u8)) rfl (hown.alloc _) ⟨wr.heap.size, 0, none⟩ 1 1 [.int .u8 (U % 128 + 128)] rfl rfl (news1 _ _ _) (one8 _) (by unfold maxLen; omega) (by omega) (le_alloc HB.out (Nat.le_refl _) _) ?_; intro v' w1 hown' hgrow _; have HB1 := Lib.hid ((HB.out.alloc HB.out.size _).grown hgrow (le_alloc HB.out (Nat.le_refl _) _) (own_block hown)); clear hgrow)
        exact ⟨⟨j + 1, U / 128, pre ++ [U % 128 + 128], rfl, by omega, by omega, HS.out.2.2.1, hj9, by rw [List.map_append]; exact hown', HB1.out, HS.out.2.1, HS.out.2.2.2⟩, by simp [RowKit.intOf]; omega⟩
      · have HS := Lib.hid (num_last HP.out.2 hu)
        go_wp2_with (at_builtin; refine wpList_append_own _ rfl _ _ 26 rfl w.heap.size 5 i0 (.int .u8 0) 1 1 Try.underlying26 hi hz0 hz1 hz2 rfl (by decide) (.slice A5 j c5) j (pre.map (Value.int .u8)) rfl (hown.alloc _) ⟨wr.heap.size, 0, none⟩ 1 1 [.int .u8 U] rfl rfl (news1 _ _ _) (one8 _) (by unfold maxLen; omega) (by omega) (le_alloc HB.out (Nat.le_refl _) _) ?_; intro v' w1 hown' hgrow _; have HB1 := Lib.hid ((HB.out.alloc HB.out.size _).grown hgrow (le_alloc HB.out (Nat.le_refl _) _) (own_block hown)); clear hgrow)
        go_ret
        exact ⟨_, rfl, by rw [HS.out, List.length_append, HP.out.1, List.map_append]; exact hown', HB1.out⟩
  · have hz : 2 * n = Pk.zz n := by unfold Pk.zz; rw [if_neg hn]
    have HZ := Lib.hid hz
    clear hz
    go_enter Try.func14, Try.ntmps14
    go_wp2_with fail
    go_loopw [3, 4] (fun u o wr => ∃ (j : Nat) (U : Int) (pre : List Int), u = .int .u64 U ∧ 0 ≤ U ∧ U < 18446744073709551616 ∧ Hid (U < 128 ^ (10 - j)) ∧ j ≤ 9 ∧ wr.ownsRow w.heap.size 5 1 o j (pre.map (Value.int .u8)) ∧ Hid (Below w.heap.size w wr) ∧ Hid (pre.length = j ∧ Pk.num n = pre ++ Pk.vb (9 - j) U)) (fun u _ _ => (RowKit.intOf u).toNat)
    case atStart =>
      have hk := HK.out (n * 2) (by rw [← HZ.out]; try omega)
      exact ⟨0, n * 2, [], by simp, hk.1, hk.2.1, hk.2.2.1, by decide, ⟨rfl, .inl ⟨rfl, rfl⟩⟩, Below.refl _ _, hk.2.2.2⟩
    case round =>
      obtain ⟨j, U, pre, rfl, u0, u1, HU, hj, hown, HB, HP⟩ := hrel
      obtain ⟨A5, c5, rfl⟩ := own_form hown
      by_cases hu : 127 < U
      · have HS := Lib.hid (num_step hj HP.out.1 HU.out HP.out.2 hu)
        have hj9 : j + 1 ≤ 9 := HS.out.1
        go_wp2_with (at_builtin; refine wpList_append_own _ rfl _ _ 26 rfl w.heap.size 5 i0 (.int .u8 0) 1 1 Try.underlying26 hi hz0 hz1 hz2 rfl (by decide) (.slice A5 j c5) j (pre.map (Value.int .u8)) rfl (hown.alloc _) ⟨wr.heap.size, 0, none⟩ 1 1 [.int .u8 (U % 128 + 128)] rfl rfl (news1 _ _ _) (one8 _) (by unfold maxLen; omega) (by omega) (le_alloc HB.out (Nat.le_refl _) _) ?_; intro v' w1 hown' hgrow _; have HB1 := Lib.hid ((HB.out.alloc HB.out.size _).grown hgrow (le_alloc HB.out (Nat.le_refl _) _) (own_block hown)); clear hgrow)
        exact ⟨⟨j + 1, U / 128, pre ++ [U % 128 + 128], rfl, by omega, by omega, HS.out.2.2.1, hj9, by rw [List.map_append]; exact hown', HB1.out, HS.out.2.1, HS.out.2.2.2⟩, by simp [RowKit.intOf]; omega⟩
      · have HS := Lib.hid (num_last HP.out.2 hu)
        go_wp2_with (at_builtin; refine wpList_append_own _ rfl _ _ 26 rfl w.heap.size 5 i0 (.int .u8 0) 1 1 Try.underlying26 hi hz0 hz1 hz2 rfl (by decide) (.slice A5 j c5) j (pre.map (Value.int .u8)) rfl (hown.alloc _) ⟨wr.heap.size, 0, none⟩ 1 1 [.int .u8 U] rfl rfl (news1 _ _ _) (one8 _) (by unfold maxLen; omega) (by omega) (le_alloc HB.out (Nat.le_refl _) _) ?_; intro v' w1 hown' hgrow _; have HB1 := Lib.hid ((HB.out.alloc HB.out.size _).grown hgrow (le_alloc HB.out (Nat.le_refl _) _) (own_block hown)); clear hgrow)
        go_ret
        exact ⟨_, rfl, by rw [HS.out, List.length_append, HP.out.1, List.map_append]; exact hown', HB1.out⟩
end Go.Proofs.Ytbobaappilploaa
