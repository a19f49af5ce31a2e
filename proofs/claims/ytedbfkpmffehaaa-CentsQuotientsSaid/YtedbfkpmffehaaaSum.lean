import Derived.Test.YtedbfkpmffehaaaUp
import Derived.Test.YtedbfkpmffehaaaSumA
import Derived.Laws.Externs
import Derived.Test.YtedbfkpmffehaaaSgn
import Derived.Test.YtedbfkpmffehaaaFr
namespace Go.Proofs.Ytedbfkpmffehaaa
open Go.RowKit Go.Shelf Go.Lib Ar

theorem add64 (x y c : Int) (hx : 0 ≤ x) (hy : 0 ≤ y) (hc0 : 0 ≤ c) (hc : c ≤ 1) (w : World) : (callFunc 29 #[.int .u64 x, .int .u64 y, .int .u64 c]).run Try.prog w =
    .ok (.value (.tuple #[.int .u64 ((x + y + c) % 18446744073709551616), .int .u64 ((x + y + c) / 18446744073709551616)])) w := by
  rw [run_callFunc_extern Try.func29 (by kernel_rfl) (by kernel_rfl) (by kernel_rfl) (e := add64Entry) (by kernel_rfl), run_add64 x y c hx hy hc0 hc]
  rfl
theorem add64_0 (x y : Int) (hx : 0 ≤ x) (hy : 0 ≤ y) (w : World) : (callFunc 29 #[.int .u64 x, .int .u64 y, .int .u64 0]).run Try.prog w =
    .ok (.value (.tuple #[.int .u64 ((x + y) % 18446744073709551616), .int .u64 ((x + y) / 18446744073709551616)])) w := by
  simpa using add64 x y 0 hx hy (Int.le_refl 0) (by decide) w

/-- what Sum comes to -/
def sv (s : Int) : Int := if Fits s then s else 0
def se (s : Int) : Value := if Fits s then .nilIface else .iface 39 (.int .i64 3)

set_option maxHeartbeats 400000 in
theorem sum_any (A : Option Addr) (n cap : Nat) (zs : List Int) (w : World) (B : Nat) (hr : RdK .i64 w B A n zs) (hin : ∀ z ∈ zs, In z) (hn : n ≤ 9223372036854775807) :
    Calls Try.prog 21 #[.slice A n cap] w fun e w' => e = .returned (.tuple #[.int .i64 (sv zs.sum), se zs.sum]) ∧ w = w' := by
  have HR := Lib.hid hr
  have HL := Lib.hid hr.1
  have HIN := Lib.hid hin
  clear hr hin
  go_enter Try.func21, Try.ntmps21
  go_wp2
  go_loop [4, 5, 12] (fun h l i => ∃ k : Nat, k ≤ n ∧ i = .int .i64 k ∧ h = .int .u64 (hi64 (zs.take k).sum) ∧ l = .int .u64 (lo64 (zs.take k).sum)) (fun _ _ i => n - (RowKit.intOf i).toNat)
  case atStart => exact ⟨0, Nat.zero_le _, rfl, rfl, rfl⟩
  case round =>
    obtain ⟨k, hk, rfl, rfl, rfl⟩ := hrel
    have hl := lo_bd (zs.take k).sum
    have hh := hi_bd (zs.take k).sum
    obtain ⟨l1, l2⟩ := hl
    obtain ⟨h1, h2⟩ := hh
    by_cases hlt : k < n
    · obtain ⟨b, off, rfl, _, hc⟩ := HR.out.2 k hlt
      have hz : In (zs.getD k 0) := by
        have : k < zs.length := by rw [HL.out]; exact hlt
        rw [List.getD_eq_getElem?_getD, List.getElem?_eq_getElem this]; exact HIN.out _ (List.getElem_mem _)
      generalize hzk : zs.getD k 0 = z at *
      have HZ := Lib.hid hzk; clear hzk
      have hlo := lo_step (zs.take k).sum z
      have hhi := hi_step (zs.take k).sum z hz
      rw [← HZ.out, ← sum_snoc zs k (by rw [HL.out]; exact hlt), HZ.out] at hlo hhi
      obtain ⟨y, hy⟩ : ∃ y, IntKind.u64.wrap z = y := ⟨_, rfl⟩
      obtain ⟨t, ht⟩ : ∃ t, IntKind.u64.wrap (z / 9223372036854775808) = t := ⟨_, rfl⟩
      have hy' := hy
      have ht' := ht
      rw [IntKind.wrap_u64] at hy' ht'
      rw [hy'] at hlo
      rw [hy', ht'] at hhi
      have y1 : 0 ≤ y := by omega
      have t1 : 0 ≤ t := by omega
      have c0 : 0 ≤ (lo64 (zs.take k).sum + y) / 18446744073709551616 := by omega
      have c1 : (lo64 (zs.take k).sum + y) / 18446744073709551616 ≤ 1 := by omega
      have HLO := Lib.hid hlo; clear hlo
      have HHI := Lib.hid hhi; clear hhi
      clear hy' ht'
      obtain ⟨z1, z2⟩ := hz
      go_wp2_with (first | simp only [add64_0 _ _ l1 y1] | simp only [add64 _ _ _ h1 t1 c0 c1])
      go_round
      case rel => exact ⟨k + 1, by omega, by go_num, congrArg (Value.int .u64) HHI.out, congrArg (Value.int .u64) HLO.out⟩
      case measure => simp [RowKit.intOf]; omega
    · have hk2 : k = n := by omega
      subst hk2
      have ht : zs.take k = zs := List.take_of_length_le (by rw [HL.out]; omega)
      obtain ⟨g, hg⟩ : ∃ g, IntKind.i64.wrap (lo64 (zs.take k).sum) = g := ⟨_, rfl⟩
      obtain ⟨t, ht2⟩ : ∃ t, IntKind.u64.wrap (g / 9223372036854775808) = t := ⟨_, rfl⟩
      have hg2 : sg zs.sum = g := by rw [← hg, IntKind.wrap_i64, ht]; rfl
      have ht3 : g / 9223372036854775808 % 18446744073709551616 = t := by rw [← ht2, IntKind.wrap_u64]
      have gi := sg_in zs.sum
      rw [hg2] at gi
      obtain ⟨g1, g2⟩ := gi
      by_cases hf : Fits zs.sum
      · obtain ⟨f1, f2⟩ := sg_fits zs.sum hf
        have e1 : sv zs.sum = zs.sum := if_pos hf
        have e2 : se zs.sum = .nilIface := if_pos hf
        have et : (hi64 (zs.take k).sum != t) = false := by rw [bne_eq_false_iff_eq, ht, f2, ← f1, hg2, ht3]
        have E : Hid (sv zs.sum = g ∧ se zs.sum = .nilIface) := ⟨by rw [e1, ← f1, hg2], e2⟩
        clear f1 f2 e1 e2 hg2 ht3 ht
        go_wp2
        go_ret2
        exact ⟨by rw [E.out.1, E.out.2]; rfl, rfl⟩
      · have hb := sum_bound zs HIN.out
        rw [HL.out] at hb
        have f2 := sg_over zs.sum hf (by omega) (by omega)
        have e1 : sv zs.sum = 0 := if_neg hf
        have e2 : se zs.sum = .iface 39 (.int .i64 3) := if_neg hf
        have et : (hi64 (zs.take k).sum != t) = true := by rw [bne_iff_ne, ht, ← ht3, ← hg2]; exact f2
        have E : Hid (sv zs.sum = 0 ∧ se zs.sum = .iface 39 (.int .i64 3)) := ⟨e1, e2⟩
        clear hb f2 e1 e2 hg2 ht3 ht
        go_wp2
        go_ret2
        exact ⟨by rw [E.out.1, E.out.2]; rfl, rfl⟩

theorem se_cases (s : Int) : se s = .nilIface ∨ se s = .iface 39 (.int .i64 3) := by
  unfold se
  by_cases h : Fits s
  · rw [if_pos h]; exact .inl rfl
  · rw [if_neg h]; exact .inr rfl

theorem sub_any (a b : Int) (ha : In a) (hb : In b) (w : World) :
    Calls Try.prog 15 #[.int .i64 a, .int .i64 b] w fun e w' => e = .returned (.tuple #[.int .i64 (sv (a - b)), se (a - b)]) ∧ w = w' := by
  obtain ⟨d, hd⟩ : ∃ d, IntKind.i64.wrap (a - b) = d := ⟨_, rfl⟩
  have hd' := hd
  rw [IntKind.wrap_i64] at hd'
  obtain ⟨h1, h2, h3⟩ := sub_sign ha hb hd'
  have hs := sign3 ha hb h1
  by_cases hf : Fits (a - b)
  · obtain ⟨h4, h5⟩ := h2 hf
    rw [h5] at hs
    have E : Hid (sv (a - b) = d ∧ se (a - b) = .nilIface) := ⟨by rw [h4]; exact if_pos hf, if_pos hf⟩
    rw [IntWalk.i64_left] at hd
    subst hd
    clear h1 h2 h3 h4 h5 hd' ha hb hf
    go_enter Try.func15, Try.ntmps15
    go_wp2_with fail
    go_ret2
    exact ⟨by rw [E.out.1, E.out.2]; rfl, rfl⟩
  · rw [h3 hf] at hs
    have E : Hid (sv (a - b) = 0 ∧ se (a - b) = .iface 39 (.int .i64 3)) := ⟨if_neg hf, if_neg hf⟩
    rw [IntWalk.i64_left] at hd
    subst hd
    clear h1 h2 h3 hd' ha hb hf
    go_enter Try.func15, Try.ntmps15
    go_wp2_with fail
    go_ret2
    exact ⟨by rw [E.out.1, E.out.2]; rfl, rfl⟩

theorem add_any (a b : Int) (ha : In a) (hb : In b) (w : World) :
    Calls Try.prog 14 #[.int .i64 a, .int .i64 b] w fun e w' => e = .returned (.tuple #[.int .i64 (sv (a + b)), se (a + b)]) ∧ Below w.heap.size w w' := by
  have H := Lib.hid (show ∀ z ∈ [a, b], In z from by intro z hz; simp at hz; rcases hz with rfl | rfl <;> assumption)
  have HS := Lib.hid (show [a, b].sum = a + b from by simp)
  clear ha hb
  go_enter Try.func14, Try.ntmps14
  go_wp2_with fail
  refine (sum_any _ 2 2 [a, b] _ (w.heap.size + 1) ⟨rfl, fun j hj => ⟨_, _, rfl, Nat.lt_succ_self _, ?_⟩⟩ H.out (by decide)).mono ?_
  · rcases (by omega : j = 0 ∨ j = 1) with rfl | rfl <;> simp [World.cell?_alloc_new]
  rintro e w' ⟨rfl, rfl⟩
  rw [HS.out]
  go_wp2_with fail
  go_ret2
  exact ⟨rfl, (Below.refl _ _).alloc (Nat.le_refl _) _⟩
