/- The reference's Names and Name. -/
import Derived.Test.YtnbieibbfpajeaaDoorHr
namespace Go.Proofs.YtnbieibbfpajeaaDoor
open Go.ChangeShapes Go.WideShapes Go.ChangeAt Go.RowKit Go.Lib

/-- the kinds' names, in a row -/
def NmAt (w : World) (g : Nat) : Prop := g < w.heap.size ∧ ∀ k : Nat, 1 ≤ k → k ≤ 12 → w.cell? ⟨g, k - 1, none⟩ = some (.string (strOfNums (Hp.nm k)))
theorem NmAt.below {w w' : World} {g : Nat} (h : NmAt w g) (hb : Below w.heap.size w w') : NmAt w' g := ⟨Nat.lt_of_lt_of_le h.1 hb.size, fun k h1 h2 => (hb.cell (p := ⟨g, k - 1, none⟩) h.1).trans (h.2 k h1 h2)⟩
theorem names_any (w : World) : Calls Tryd.prog 17 #[] w fun e w' => e = .returned (.slice (some ⟨w.heap.size, 0, none⟩) 12 12) ∧ NmAt w' w.heap.size ∧ Below w.heap.size w w' := by
  go_enter Tryd.func17, Tryd.ntmps17
  go_wp2_with fail
  go_ret
  refine ⟨rfl, ⟨by simp, fun k h1 h2 => ?_⟩, alloc_below _ _⟩
  rcases Hp.nm_cases h1 h2 with rfl | rfl | rfl | rfl | rfl | rfl | rfl | rfl | rfl | rfl | rfl | rfl <;> (simp; rfl)
theorem nm_max (k : Nat) : (Hp.nm k).length ≤ 9 := by unfold Hp.nm; split <;> decide
set_option maxHeartbeats 1000000 in
theorem refname_any (J o : Nat) (hj : J < 12) (h3 : o ≤ 65536) (w : World) : Calls Tryd.prog 12 #[acv ((J : Int) + 1) o] w fun e w' => e = .returned (.string (strOfNums (Hp.name (J + 1) o))) ∧ Below w.heap.size w w' := by
  have HO := Lib.hid h3
  obtain ⟨c0, c1⟩ := ac_new w 23 ((J : Int) + 1) o
  have B := Lib.hid (alloc_below w (.cells #[.int .i64 ((J : Int) + 1), .int .i64 o] 23))
  obtain ⟨w1, hw1⟩ : ∃ x, x = w.alloc (.cells #[.int .i64 ((J : Int) + 1), .int .i64 o] 23) := ⟨_, rfl⟩
  have hs : w.heap.size < w1.heap.size := by rw [hw1]; simp
  have e1 : IntKind.i64.wrap ((J : Int) + 1 - 1) = (J : Int) := by rw [IntKind.wrap_i64]; omega
  have e1b : IntKind.i64.wrap (J : Int) = (J : Int) := by rw [IntKind.wrap_i64]; omega
  have e2 : (0 : Int) ≤ (J : Int) := by omega
  have e4 : (J : Int).toNat = J := by omega
  have e3 : (J : Int) < 12 := by omega
  go_enter Tryd.func12, Tryd.ntmps12
  go_wp2_with fail
  rw [← hw1] at c0 c1 B ⊢
  have HS := Lib.hid hs
  clear hw1 hs
  go_region_with
    (first
    | (go_at_call 17; refine (names_any _).mono ?_; rintro e w3 ⟨rfl, hN, hb⟩; have hb0 := (show Below w1.heap.size w1 w3 from by first | exact (Below.refl _ _).drew.trans hb | exact hb); have B3 := Lib.hid (B.out.trans (hb0.mono B.out.size)); have d0 := (hb0.cell (p := ⟨w.heap.size, 0, none⟩) HS.out).trans c0; have d1 := (hb0.cell (p := ⟨w.heap.size, 1, none⟩) HS.out).trans c1; have d2 : w3.cell? ⟨w1.heap.size, J, none⟩ = some (.string (strOfNums (Hp.nm (J + 1)))) := hN.2 (J + 1) (by omega) (by omega); clear hN hb hb0))
  all_goals
    have hl9 := nm_max (J + 1)
    have hl5 := dg_max HO.out
    have hs1 : (strOfNums (Hp.nm (J + 1))).size = (Hp.nm (J + 1)).length := strOfNums_size _
    have hs2 : ({ data := #[46] } : ByteArray).size = 1 := rfl
    have hs3 : (strOfNums (Hp.nm (J + 1) ++ [46])).size = (Hp.nm (J + 1)).length + 1 := by rw [strOfNums_size, List.length_append]; rfl
    have hs4 : (strOfNums (Hp.dg o)).size = (Hp.dg o).length := strOfNums_size _
    have ha1 : strOfNums (Hp.nm (J + 1)) ++ { data := #[46] } = strOfNums (Hp.nm (J + 1) ++ [46]) := str_app _ [46]
    by_cases ho : 0 < o
    · have hoz : (0 : Int) < (o : Int) := by omega
      have ha2 : strOfNums (Hp.nm (J + 1) ++ [46]) ++ strOfNums (Hp.dg o) = strOfNums (Hp.name (J + 1) o) := by
        rw [str_app]; unfold Hp.name; rw [if_neg (by omega), List.append_assoc]; rfl
      go_wp2_with fail
      refine (dec_any o HO.out _).mono ?_; rintro e w4 ⟨rfl, hb⟩
      have B4 := Lib.hid (B3.out.trans (hb.mono B3.out.size))
      clear hb
      go_wp2_with fail
      go_ret
      exact ⟨by simp, B4.out⟩
    · obtain rfl : o = 0 := by omega
      go_wp2_with fail
      go_ret
      exact ⟨by simp [Hp.name], B3.out⟩
end Go.Proofs.YtnbieibbfpajeaaDoor
