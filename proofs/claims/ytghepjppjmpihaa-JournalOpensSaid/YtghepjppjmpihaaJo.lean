/- The reference's Open. -/
import Derived.Test.YtghepjppjmpihaaJn
import Derived.Test.YtghepjppjmpihaaDs
import Derived.Test.YtghepjppjmpihaaDn
namespace Go.Proofs.Ytghepjppjmpihaa
open Go.ChangeShapes Go.WideShapes Go.ChangeAt Go.RowKit Go.Lib

set_option maxHeartbeats 2000000 in
set_option maxRecDepth 1000000 in
theorem refopen_any {B sb nb db n m : Nat} {st now dr : List Int} (w : World) (h : Md w B sb nb db n m st now dr) (hY : Jk.By now) :
    Calls Try.prog 16 #[.pointer (some ⟨B, 0, none⟩)] w fun v w' => ∃ (K : Nat) (A : Option Addr) (c : Nat) (rs : List (List Int)) (e : Nat) (st' dr' : List Int), v = .returned (.pointer (some ⟨K, 0, none⟩)) ∧ Jk.J now rs e ∧
      Md w' B sb nb db n m st' (Jk.zb now e) dr' ∧ K < w'.heap.size ∧ w'.cell? ⟨K, 1, none⟩ = some (.slice A rs.length c) ∧ RdRs w' A rs.length rs ∧ But (fun k => k = sb ∨ k = nb ∨ k = db) w w' := by
  have H := Lib.hid h
  have YY := Lib.hid hY
  have MW := Lib.hid h
  have hn : n ≤ 65536 := by have := h.e; have := h.le; omega
  have HL := Lib.hid h.ln
  obtain ⟨i8, hi8, hz80, hz81, hz82⟩ := info_parts infoB8
  clear h hY
  have c1 := H.out.c1
  go_enter Try.func16, Try.ntmps16
  go_wp2_with fail
  refine (scan_any _ (by have h0 := H.out.rn.rd w.heap.size H.out.rn.1; rwa [H.out.ln] at h0) YY.out hn).mono ?_; rintro v w2 ⟨A, c, rs, e, rfl, hJ, hR, hb⟩
  have J := Lib.hid hJ
  have B0 := Lib.hid hb
  have RR := Lib.hid hR
  have H := Lib.hid (H.out.but (But.of hb (fun _ => False)) id id id id)
  have hen : e ≤ n := by have := hJ.le; rw [HL.out] at this; exact this
  clear hJ hb hR c1
  have c1 := H.out.c1
  go_wp2_with fail
  go_loopw [5, 6] (fun ov iv wr => ∃ (i : Nat) (o : Bool), iv = .int .i64 i ∧ ov = .bool o ∧ e ≤ i ∧ i ≤ n ∧ wr = w2 ∧ Hid (o = false → ∀ p, e ≤ p → p < i → now.getD p 0 = 0)) (fun _ iv _ => n - (RowKit.intOf iv).toNat)
  case atStart => exact ⟨e, false, rfl, rfl, Nat.le_refl _, hen, rfl, fun _ p h1 h2 => by omega⟩
  case round =>
    obtain ⟨i, o, rfl, rfl, hei, hin, hw, HO⟩ := hrel
    subst hw
    by_cases hlt : i < n
    · have hltz : (i : Int) < (n : Int) := by omega
      have ci := H.out.rn.c i (by rw [H.out.ln]; exact hlt)
      obtain ⟨x, hx⟩ : ∃ x, x = now.getD i 0 := ⟨_, rfl⟩
      rw [← hx] at ci
      have HX := Lib.hid hx
      clear hx
      cases o
      · by_cases hx0 : x = 0
        · subst hx0
          go_wp2_with fail
          exact ⟨⟨i + 1, false, by go_num, (by first | rfl | trivial), by omega, by omega, (by first | rfl | trivial), fun h p h1 h2 => by
            by_cases e : p = i
            · subst e; exact HX.out.symm
            · exact HO.out rfl p h1 (by omega)⟩, by simp [RowKit.intOf]; omega⟩
        · have hne : (x != 0) = true := by simpa using hx0
          have hne2 : (x == 0) = false := by simpa using hx0
          go_wp2_with fail
          exact ⟨⟨i + 1, true, by go_num, (by first | rfl | trivial), by omega, by omega, (by first | rfl | trivial), fun h => by cases h⟩, by simp [RowKit.intOf]; omega⟩
      · go_wp2_with fail
        exact ⟨⟨i + 1, true, by go_num, (by first | rfl | trivial), by omega, by omega, (by first | rfl | trivial), fun h => by cases h⟩, by simp [RowKit.intOf]; omega⟩
    · obtain rfl : n = i := by omega
      have hltz : ¬ (n : Int) < (n : Int) := by omega
      cases o
      · have HZ := Lib.hid (show Jk.zb now e = now from Jk.zb_same J.out.le (fun p hp => by
          rcases Nat.lt_or_ge p n with h | h
          · exact HO.out rfl p hp h
          · rw [List.getD_eq_getElem?_getD, List.getElem?_eq_none (by rw [HL.out]; exact h)]; rfl))
        have BA := Lib.hid (show But (fun k => k = sb ∨ k = nb ∨ k = db) w (wr.alloc (.cells #[.pointer (some ⟨B, 0, none⟩), .slice A rs.length c, .int .i64 e, .bool false] 47)) from (But.of B0.out _).trans (But.of ((Below.refl wr.heap.size wr).alloc (Nat.le_refl _) _) _))
        have MA := Lib.hid (H.out.but (But.of ((Below.refl wr.heap.size wr).alloc (Nat.le_refl _) (.cells #[.pointer (some ⟨B, 0, none⟩), .slice A rs.length c, .int .i64 e, .bool false] 47)) (fun _ => False)) id id id id)
        have RA := Lib.hid (RR.out (fun _ => False) _ (But.of ((Below.refl wr.heap.size wr).alloc (Nat.le_refl _) (.cells #[.pointer (some ⟨B, 0, none⟩), .slice A rs.length c, .int .i64 e, .bool false] 47)) (fun _ => False)) (fun _ h => h.elim))
        have hc1 : (wr.alloc (.cells #[.pointer (some ⟨B, 0, none⟩), .slice A rs.length c, .int .i64 e, .bool false] 47)).cell? ⟨wr.heap.size, 1, none⟩ = some (.slice A rs.length c) := by simp
        have hc2 : wr.heap.size < (wr.alloc (.cells #[.pointer (some ⟨B, 0, none⟩), .slice A rs.length c, .int .i64 e, .bool false] 47)).heap.size := by simp
        have HC := Lib.hid (⟨hc1, hc2⟩ : _ ∧ _)
        clear hc1 hc2
        go_wp2_with fail
        go_ret
        exact ⟨_, rfl, A, c, rs, e, J.out, ⟨st, dr, by rw [HZ.out]; exact MA.out⟩, HC.out.2, HC.out.1, RA.out, BA.out⟩
      · have k8 := fun w => run_make_eq (P := Try.prog) (t := 22) Try.underlying22 hi8 hz80 hz81 (n - e) (by rw [hz82]; omega) (by unfold maxLen; omega) w
        have A8 := Lib.hid (fun W : World => Arr.made (.int .u8) W 5 (n - e) rfl)
        generalize Obj.cells (madeCells (Value.int .u8 0).cells (n - e)) 5 = O8 at *
        have AL := Lib.hid ((Below.refl wr.heap.size wr).alloc (Nat.le_refl _) O8)
        have H := Lib.hid (H.out.but (But.of AL.out (fun _ => False)) id id id id)
        have RZ := Lib.hid (show RdK .u8 (wr.alloc O8) (wr.alloc O8).heap.size (some ⟨wr.heap.size, 0, none⟩) (n - e) (List.replicate (n - e) 0) from by
          have h0 := (A8.out wr).rd _ (A8.out wr).1
          rwa [List.length_replicate] at h0)
        have NL := Lib.hid (show nb < w.heap.size ∧ db < w.heap.size ∧ sb < w.heap.size from ⟨MW.out.rn.1, MW.out.rd.1, MW.out.rs.1⟩)
        have NB := Lib.hid (show ¬ (wr.heap.size = nb ∨ wr.heap.size = db) by have := NL.out; have := B0.out.size; omega)
        have k9 := k8 wr
        rw [show ((n - e : Nat) : Int) = (n : Int) - (e : Int) by omega] at k9
        clear k8
        go_wp2_with fail
        clear c1
        refine (refwrite_any (p := e) _ H.out RZ.out (fun _ g off h => by injection h with h; injection h with h; subst h; exact NB.out) (by omega)).mono ?_; rintro v w3 ⟨rfl, hM, hU⟩
        have HZ := Lib.hid (show Dk.wr (List.replicate (n - e) 0) now e (n - e) = Jk.zb now e from by unfold Jk.zb; rw [HL.out])
        rw [HZ.out] at hM
        have M := Lib.hid hM
        have U3 := Lib.hid ((But.of AL.out (fun k => k = sb ∨ k = nb ∨ k = db)).trans (hU.more (fun k _ hk => Or.inr hk)))
        clear hM hU
        go_wp2_with fail
        refine (refsync_any _ M.out).mono ?_; rintro v w4 ⟨rfl, hM, hU⟩
        have U4 := Lib.hid (U3.out.trans (hU.more (T := fun k => k = sb ∨ k = nb ∨ k = db) (fun k _ hk => hk)))
        have M := Lib.hid hM
        clear hM hU
        have AJ := Lib.hid (But.of ((Below.refl w4.heap.size w4).alloc (Nat.le_refl _) (.cells #[.pointer (some ⟨B, 0, none⟩), .slice A rs.length c, .int .i64 e, .bool false] 47)) (fun k => k = sb ∨ k = nb ∨ k = db))
        have MA := Lib.hid (M.out.but (But.of ((Below.refl w4.heap.size w4).alloc (Nat.le_refl _) (.cells #[.pointer (some ⟨B, 0, none⟩), .slice A rs.length c, .int .i64 e, .bool false] 47)) (fun _ => False)) id id id id)
        have RA := Lib.hid (RR.out (fun k => k = sb ∨ k = nb ∨ k = db) _ (U4.out.trans AJ.out) (fun k hk => by have := NL.out; omega))
        have BA := Lib.hid ((But.of B0.out (fun k => k = sb ∨ k = nb ∨ k = db)).trans (U4.out.trans AJ.out))
        have hc1 : (w4.alloc (.cells #[.pointer (some ⟨B, 0, none⟩), .slice A rs.length c, .int .i64 e, .bool false] 47)).cell? ⟨w4.heap.size, 1, none⟩ = some (.slice A rs.length c) := by simp
        have hc2 : w4.heap.size < (w4.alloc (.cells #[.pointer (some ⟨B, 0, none⟩), .slice A rs.length c, .int .i64 e, .bool false] 47)).heap.size := by simp
        have HC := Lib.hid (⟨hc1, hc2⟩ : _ ∧ _)
        clear hc1 hc2
        go_wp2_with fail
        go_ret
        exact ⟨_, A, c, rs, e, _, _, rfl, J.out, MA.out, HC.out.2, HC.out.1, RA.out, BA.out⟩
end Go.Proofs.Ytghepjppjmpihaa
