/- The reference's Head. -/
import Derived.Test.YtghepjppjmpihaaJl
namespace Go.Proofs.Ytghepjppjmpihaa
open Go.ChangeShapes Go.WideShapes Go.ChangeAt Go.RowKit Go.Lib

theorem infoB8 : (Try.prog.info? 5).map (fun i => (i.zero, i.size, i.bytes)) = some (some (.int .u8 0), 1, 1) := by kernel_rfl
def dv (n i : Nat) : Nat := n / 256 ^ i
theorem dv_succ (n i : Nat) : dv n (i + 1) = dv n i / 256 := by unfold dv; rw [Nat.pow_succ, Nat.div_div_eq_div_mul]
/-- a head's first bytes, as values -/
def hv (n i : Nat) : List Value := ((Jk.hd n).take i).map (Value.int .u8)
theorem hv_low (n i : Nat) (h : i < 4) : hv n (i + 1) = hv n i ++ [.int .u8 ((dv n i % 256 : Nat) : Int)] := by
  obtain rfl | rfl | rfl | rfl : i = 0 ∨ i = 1 ∨ i = 2 ∨ i = 3 := by omega
  all_goals simp [hv, Jk.hd, dv]
theorem hv_high (n i : Nat) (h : i < 4) : hv n (4 + i + 1) = hv n (4 + i) ++ [.int .u8 (255 - ((dv n i % 256 : Nat) : Int))] := by
  obtain rfl | rfl | rfl | rfl : i = 0 ∨ i = 1 ∨ i = 2 ∨ i = 3 := by omega
  all_goals simp [hv, Jk.hd, dv]
theorem hv_get (n i : Nat) (h : i < 4) : (hv n (4 + i))[i]? = some (.int .u8 ((dv n i % 256 : Nat) : Int)) := by
  obtain rfl | rfl | rfl | rfl : i = 0 ∨ i = 1 ∨ i = 2 ∨ i = 3 := by omega
  all_goals simp [hv, Jk.hd, dv]
set_option maxHeartbeats 1000000 in
theorem head_any (n : Nat) (hn : n ≤ 1024) (w : World) : Calls Try.prog 41 #[.int .i64 n] w fun e w' => ∃ g, (∃ c, e = .returned (.slice (some ⟨g, 0, none⟩) 8 c)) ∧ RdK .u8 w' w'.heap.size (some ⟨g, 0, none⟩) 8 (Jk.hd n) ∧ Below w.heap.size w w' := by
  obtain ⟨i0, hi, hz0, hz1, hz2⟩ := info_parts infoB8
  have HN := Lib.hid hn
  clear hn
  go_enter Try.func41, Try.ntmps41
  go_wp2_with fail
  go_loopw [3, 4, 5] (fun ov kv iv wr => ∃ (i : Nat) (A : Option Addr) (c : Nat), iv = .int .i64 i ∧ ov = .slice A i c ∧ kv = .int .i64 (dv n i : Nat) ∧ i ≤ 4 ∧ Hid (wr.ownsRow w.heap.size 5 1 (.slice A i c) i (hv n i) ∧ Below w.heap.size w wr)) (fun _ _ iv _ => 4 - (RowKit.intOf iv).toNat)
  case atStart => exact ⟨0, none, 0, rfl, rfl, by simp [dv], by omega, World.ownsRow_nil _ _ _ _, Below.refl _ _⟩
  case round =>
    obtain ⟨i, A, c, rfl, rfl, rfl, hi4, H⟩ := hrel
    by_cases hlt : i < 4
    · have hltz : (i : Int) < 4 := by omega
      have HS := Lib.hid (dv_succ n i)
      have HV := Lib.hid (hv_low n i hlt)
      have hk : dv n i ≤ 1024 := Nat.le_trans (Nat.div_le_self _ _) HN.out
      generalize dv n i = k at *
      obtain ⟨x, hx⟩ : ∃ x, x = k % 256 := ⟨_, rfl⟩
      have e1 : (k : Int).tmod 256 = (x : Int) := by rw [Int.tmod_eq_emod_of_nonneg (by omega)]; omega
      have e2 : (k : Int).tdiv 256 = ((k / 256 : Nat) : Int) := by rw [Int.tdiv_eq_ediv_of_nonneg (by omega)]; omega
      have e3 : IntKind.u8.wrap (x : Int) = (x : Int) := by rw [IntKind.wrap_u8]; omega
      rw [← hx] at HV
      have AL := Lib.hid (H.out.2.alloc H.out.2.size (.cells #[.int .u8 x] 5))
      have O1 := Lib.hid (H.out.1.alloc (.cells #[.int .u8 x] 5))
      have CC : (wr.alloc (.cells #[.int .u8 x] 5)).cell? ⟨wr.heap.size, 0, none⟩ = some (.int .u8 x) := by simp
      clear hx H
      go_wp2_with (at_builtin; refine wpList_push _ rfl _ _ 22 rfl w.heap.size 5 i0 (.int .u8 0) 1 Try.underlying22 hi hz0 hz1 hz2 rfl _ i _ rfl O1.out wr.heap.size (.int .u8 x) rfl CC rfl (by unfold maxLen; omega) (by omega) AL.out.size ?_; intro v' w2 hown hb; obtain ⟨A2, c2, rfl⟩ := own_form hown; have O2 := Lib.hid hown; have B2 := Lib.hid (AL.out.trans hb); clear hown hb CC)
      exact ⟨⟨i + 1, A2, c2, by go_num, rfl, by rw [HS.out]; simp, by omega, by rw [HV.out]; exact O2.out, B2.out⟩, by simp [RowKit.intOf]; omega⟩
    · obtain rfl : i = 4 := by omega
      obtain ⟨w2, e2⟩ : ∃ x, x = wr := ⟨_, rfl⟩
      subst e2
      go_wp2_with fail
      go_loopw [3, 6] (fun ov iv wr => ∃ (i : Nat), iv = .int .i64 i ∧ i ≤ 4 ∧ ∃ (A : Option Addr) (c : Nat), ov = .slice A (4 + i : Nat) c ∧ Hid (wr.ownsRow w.heap.size 5 1 (.slice A (4 + i) c) (4 + i) (hv n (4 + i)) ∧ Below w.heap.size w wr)) (fun _ iv _ => 4 - (RowKit.intOf iv).toNat)
      case atStart => exact ⟨0, rfl, by omega, A, c, rfl, H.out⟩
      case round =>
        clear H
        obtain ⟨i, rfl, hi4, A, c, rfl, H⟩ := hrel
        by_cases hlt : i < 4
        · have hltz : (i : Int) < 4 := by omega
          have HV := Lib.hid (hv_high n i hlt)
          have hg := hv_get n i hlt
          have hk : dv n i % 256 < 256 := Nat.mod_lt _ (by decide)
          generalize dv n i % 256 = x at *
          obtain ⟨q, hq⟩ : ∃ q, q = 4 + i := ⟨_, rfl⟩
          rw [← hq] at H HV hg ⊢
          obtain ⟨g, c', hA⟩ : ∃ g c', Value.slice A q c = .slice (some ⟨g, 0, none⟩) q c' := by
            obtain ⟨_, ⟨_, h0⟩ | ⟨g, cap, cur, hv, _⟩⟩ := H.out.1
            · omega
            · exact ⟨g, cap, hv⟩
          injection hA with hA _ hc; subst hA hc
          have cx := H.out.1.cells (g := g) rfl i _ hg
          rw [add_plain, Nat.zero_add] at cx
          have bq : (i : Int) < (q : Int) := by omega
          have e3 : IntKind.u8.wrap (255 - (x : Int)) = 255 - (x : Int) := by rw [IntKind.wrap_u8]; omega
          have AL := Lib.hid (H.out.2.alloc H.out.2.size (.cells #[.int .u8 (255 - (x : Int))] 5))
          have O1 := Lib.hid (H.out.1.alloc (.cells #[.int .u8 (255 - (x : Int))] 5))
          have CC : (wr.alloc (.cells #[.int .u8 (255 - (x : Int))] 5)).cell? ⟨wr.heap.size, 0, none⟩ = some (.int .u8 (255 - (x : Int))) := by simp
          clear H hg
          go_wp2_with (at_builtin; refine wpList_push _ rfl _ _ 22 rfl w.heap.size 5 i0 (.int .u8 0) 1 Try.underlying22 hi hz0 hz1 hz2 rfl _ q _ rfl O1.out wr.heap.size (.int .u8 (255 - (x : Int))) rfl CC rfl (by unfold maxLen; omega) (by omega) AL.out.size ?_; intro v' w3 hown hb; obtain ⟨A2, c2, rfl⟩ := own_form hown; have O2 := Lib.hid hown; have B2 := Lib.hid (AL.out.trans hb); clear hown hb CC)
          exact ⟨⟨i + 1, by go_num, by omega, A2, c2, (by refine ⟨rfl, ?_, rfl⟩; omega), by rw [show 4 + (i + 1) = q + 1 by omega, HV.out]; exact O2.out, B2.out⟩, by simp [RowKit.intOf]; omega⟩
        · obtain rfl : i = 4 := by omega
          obtain ⟨g, c', hA⟩ : ∃ g c', Value.slice A (4 + 4) c = .slice (some ⟨g, 0, none⟩) 8 c' := by
            obtain ⟨_, ⟨_, h0⟩ | ⟨g, cap, cur, hv, _⟩⟩ := H.out.1
            · omega
            · exact ⟨g, cap, hv⟩
          injection hA with hA _ hc; subst hA hc
          have O := Lib.hid (show RdK .u8 wr wr.heap.size (some ⟨g, 0, none⟩) 8 (Jk.hd n) from RdK.of_own (base := w.heap.size) (e := 5) (c := c) H.out.1)
          go_wp2_with fail
          go_ret
          exact ⟨g, ⟨c, rfl⟩, O.out, H.out.2⟩
end Go.Proofs.Ytghepjppjmpihaa
