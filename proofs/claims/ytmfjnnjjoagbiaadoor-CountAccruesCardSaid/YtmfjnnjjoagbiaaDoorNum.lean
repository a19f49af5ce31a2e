import Derived.Test.YtmfjnnjjoagbiaaDoorDg
import Derived.Test.YtmfjnnjjoagbiaaDoorOw
import Derived.StillTactics
import Derived.Laws.Pointers
import Derived.Laws.ResultCell
namespace Go.Proofs.YtmfjnnjjoagbiaaDoor
open Go.RowKit Go.Shelf Go.Lib Ar Dg

/-- 'at': a digit, 0 behind the end -/
theorem at_any (A : Option Addr) (n c : Nat) (ds : List Int) (i : Nat) (w : World) (B : Nat) (hr : RdK .u64 w B A n ds) :
    Calls Tryd.prog 41 #[.slice A n c, .int .i64 (i : Int)] w fun e w' => e = .returned (.int .u64 (ds.getD i 0)) ∧ w = w' := by
  by_cases h : i < n
  · obtain ⟨b, off, rfl, _, hc⟩ := hr.2 i h
    clear hr
    generalize ds.getD i 0 = z at *
    go_enter Tryd.func41, Tryd.ntmps41
    go_wp2_with fail
    go_ret
    exact ⟨rfl, rfl⟩
  · have hz : ds.getD i 0 = 0 := by rw [List.getD_eq_getElem?_getD, List.getElem?_eq_none (by have := hr.1; omega)]; rfl
    rw [hz]
    clear hr hz
    go_enter Tryd.func41, Tryd.ntmps41
    go_wp2_with fail
    go_ret
    exact ⟨rfl, rfl⟩

/-- what norm leaves -/
def NormPost (w : World) (A : Option Addr) (c : Nat) (ds : List Int) (m : Bool) (e : Ending) (w' : World) : Prop :=
  ∃ n : Nat, n ≤ ds.length ∧ pre ds n = dv ds ∧ Top (ds.take n) ∧ e = .returned (.agg #[.slice A n c, .bool (m && decide (0 < n))]) ∧ Below w.heap.size w w'

theorem norm_any (A : Option Addr) (n c : Nat) (ds : List Int) (m : Bool) (w : World) (hr : RdK .u64 w w.heap.size A n ds) (hn : n ≤ c) (hc : c ≤ 9223372036854775807) :
    Calls Tryd.prog 26 #[.slice A n c, .bool m] w (NormPost w A c ds m) := by
  have HR := Lib.hid hr; clear hr
  go_enter Tryd.func26, Tryd.ntmps26
  go_wp2_with fail
  go_loop [0] (fun v => ∃ k : Nat, k ≤ n ∧ v = .slice A k c ∧ Hid (pre ds k = dv ds)) (fun v => match v with | .slice _ k _ => k | _ => 0)
  case atStart => exact ⟨n, Nat.le_refl _, rfl, pre_all ds n (by rw [HR.out.1]; exact Nat.le_refl _)⟩
  case round =>
    obtain ⟨k, hk, rfl, HP⟩ := hrel
    rcases Nat.eq_zero_or_pos k with h0 | h0
    · subst h0
      cases m
      all_goals
        go_wp2_with fail
        refine bodyPost_ret (v := .agg #[.slice A 0 c, .bool false]) (by simp [results, Tryd.results26, go_sem]) rfl ⟨0, Nat.zero_le _, HP.out, fun h => absurd h (by simp), rfl, (Below.refl _ _).alloc (Nat.le_refl _) _⟩
    · obtain ⟨b, off, rfl, _, hcell⟩ := HR.out.2 (k - 1) (by omega)
      have h1 : (0 : Int) < (k : Int) := by omega
      have h2 : (k : Int) ≤ (c : Int) := by omega
      by_cases hz : ds.getD (k - 1) 0 = 0
      · rw [hz] at hcell
        have hs := trim_step hz
        rw [Nat.sub_add_cancel h0] at hs
        have HS := Lib.hid hs; clear hs
        go_wp2_with fail
        exact ⟨⟨k - 1, by omega, rfl, HS.out.symm.trans HP.out⟩, by simp; omega⟩
      · have hb : (ds.getD (k - 1) 0 == 0) = false := by rw [beq_eq_false_iff_ne]; exact hz
        have HT := Lib.hid (show Top (ds.take k) from fun _ => by
          rw [List.length_take, HR.out.1, Nat.min_eq_left hk, List.getD_eq_getElem?_getD, List.getElem?_take_of_lt (by omega), ← List.getD_eq_getElem?_getD]; exact hz)
        have HL := Lib.hid (show k ≤ ds.length by rw [HR.out.1]; exact hk)
        generalize ds.getD (k - 1) 0 = z at hcell hb
        clear hz
        cases m
        · go_wp2_with fail
          exact bodyPost_ret (v := .agg #[.slice (some ⟨b, off, none⟩) k c, .bool false]) (by simp [results, Tryd.results26, go_sem]) rfl ⟨k, HL.out, HP.out, HT.out, rfl, (Below.refl _ _).alloc (Nat.le_refl _) _⟩
        · go_wp2_with fail
          exact bodyPost_ret (v := .agg #[.slice (some ⟨b, off, none⟩) k c, .bool true]) (by simp [results, Tryd.results26, go_sem]) rfl ⟨k, HL.out, HP.out, HT.out, by simp [h0], (Below.refl _ _).alloc (Nat.le_refl _) _⟩
