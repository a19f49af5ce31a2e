/- The law SplitShares: any total's shares by any weights, or that there are none. -/
import Derived.Test.YtinimjejdkcodaaSo
namespace Go.Proofs.Ytinimjejdkcodaa
open Go.RowKit Go.Shelf Go.Lib Go.Sort

set_option maxHeartbeats 4000000 in
set_option maxRecDepth 1000000 in
theorem splitShares_walk (A : Option Addr) (n c : Nat) (t : Int) (ws : List Int) (w : World) (hr : RdK .i64 w w.heap.size A n ws) :
    Calls Try.prog 3 #[.int .i64 t, .slice A n c] w fun e w' => e = .returned (.bool true) ∧ Below w.heap.size w w' := by
  have HR := Lib.hid hr
  clear hr
  by_cases h5 : n > 500
  · have h5z : (n : Int) > 500 := by omega
    go_enter Try.func3, Try.ntmps3
    go_wp2_with (go_at_call 9; refine (up_any _).mono ?_; rintro e w1 ⟨rfl, hb1⟩; have HB := Lib.hid hb1; clear hb1)
    go_ret
    exact ⟨rfl, HB.out⟩
  · have h5z : ¬ (n : Int) > 500 := by omega
    by_cases hm : Sv.May t ws
    · have HM := Lib.hid hm
      have HMT := Lib.hid (show decide (Sv.May t ws) = true from decide_eq_true hm)
      clear hm
      go_enter Try.func3, Try.ntmps3
      go_wp2_with (first | (go_at_call 9; refine (up_any _).mono ?_; rintro e w1 ⟨rfl, hb1⟩; have HB := Lib.hid hb1; clear hb1) | (go_at_call 10; refine (shares_view A n c t ws _ ((HR.out.below HB.out).more HB.out.size) HM.out).mono ?_; rintro e w2 ⟨blk, rfl, p1, p2, p3, p4⟩; have H := Lib.hid (show Below w.heap.size w w2 ∧ RdK .i64 w2 w2.heap.size (some ⟨blk, 0, none⟩) n (Sv.shares t ws) ∧ RdK .i64 w2 w2.heap.size A n ws from ⟨HB.out.trans (p4.mono HB.out.size), p3, (((HR.out.below HB.out).more HB.out.size).below p4).more p4.size⟩); clear p1 p2 p3 p4) | (go_at_call 11; refine (may_any A n c t ws _ _ H.out.2.2 (by omega)).mono ?_; rw [HMT.out]; rintro e w3 ⟨rfl, rfl⟩) | (go_at_call 13; refine (refShares_any A n c t ws _ H.out.2.2 HM.out).mono ?_; rintro e w4 ⟨A4, n4, c4, rfl, p1, p2⟩; have H4 := Lib.hid (show Below w.heap.size w w4 ∧ RdK .i64 w4 w4.heap.size (some ⟨blk, 0, none⟩) n (Sv.shares t ws) ∧ RdK .i64 w4 w4.heap.size A4 n4 (Sv.shares t ws) from ⟨H.out.1.trans (p2.mono H.out.1.size), (H.out.2.1.below p2).more p2.size, p1⟩); clear p1 p2) | (go_at_call 12; refine (same_true _ _ _ _ _ _ _ _ _ _ H4.out.2.1 H4.out.2.2 (by omega) rfl).mono ?_; rintro e w5 ⟨rfl, q, rfl⟩))
      go_ret
      exact ⟨rfl, H4.out.1.trans (below_drewN _ _ _)⟩
    · have HM := Lib.hid hm
      have HMF := Lib.hid (show decide (Sv.May t ws) = false from decide_eq_false hm)
      clear hm
      go_enter Try.func3, Try.ntmps3
      go_wp2_with (first | (go_at_call 9; refine (up_any _).mono ?_; rintro e w1 ⟨rfl, hb1⟩; have HB := Lib.hid hb1; clear hb1) | (go_at_call 10; refine (shares_none A n c t ws _ ((HR.out.below HB.out).more HB.out.size) (by omega) HM.out).mono ?_; rintro e w2 ⟨rfl, p4⟩; have H := Lib.hid (show Below w.heap.size w w2 ∧ RdK .i64 w2 w2.heap.size A n ws from ⟨HB.out.trans (p4.mono HB.out.size), (((HR.out.below HB.out).more HB.out.size).below p4).more p4.size⟩); clear p4) | (go_at_call 11; refine (may_any A n c t ws _ _ H.out.2 (by omega)).mono ?_; rw [HMF.out]; rintro e w3 ⟨rfl, rfl⟩) | simp only [errEq])
      go_ret
      exact ⟨rfl, H.out.1⟩
end Go.Proofs.Ytinimjejdkcodaa
