/- Rows of records, and the reference's Same. -/
import Derived.Test.YtghepjppjmpihaaJq
namespace Go.Proofs.Ytghepjppjmpihaa
open Go.ChangeShapes Go.WideShapes Go.ChangeAt Go.RowKit Go.Lib

/-- records that are read, one behind the other -/
def RdRs (w : World) (A : Option Addr) (n : Nat) (rs : List (List Int)) : Prop := rs.length = n ∧ ∀ i, i < n → ∃ g off A' c, A = some ⟨g, off, none⟩ ∧ g < w.heap.size ∧ w.cell? ⟨g, off + i, none⟩ = some (.slice A' (rs.getD i []).length c) ∧ RdK .u8 w w.heap.size A' (rs.getD i []).length (rs.getD i [])
theorem RdRs.below {w w' : World} {A : Option Addr} {n : Nat} {rs : List (List Int)} (h : RdRs w A n rs) (hb : Below w.heap.size w w') : RdRs w' A n rs :=
  ⟨h.1, fun i hi => by
    obtain ⟨g, off, A', c, e, hg, hc, hr⟩ := h.2 i hi
    exact ⟨g, off, A', c, e, Nat.lt_of_lt_of_le hg hb.size, (hb.cell (p := ⟨g, off + i, none⟩) hg).trans hc, (hr.below hb).more hb.size⟩⟩
/-- a row of the call's own, of records -/
theorem rdrs_own {w : World} {base n c : Nat} {e : TypeId} {A : Option Addr} {vs : List Value} {rs : List (List Int)} (h : w.ownsRow base e 1 (.slice A n c) n vs) (hl : rs.length = n)
    (hv : ∀ i, i < n → ∃ A' c, vs[i]? = some (.slice A' (rs.getD i []).length c) ∧ RdK .u8 w w.heap.size A' (rs.getD i []).length (rs.getD i [])) : RdRs w A n rs := by
  obtain ⟨hvl, h⟩ := h
  refine ⟨hl, fun i hi => ?_⟩
  obtain ⟨A', c', e1, hr⟩ := hv i hi
  rcases h with ⟨_, h0⟩ | ⟨g, cap, cur, hv, _, hg, _, _, hs, ht⟩
  · omega
  · injection hv with hA
    have hlt : g < w.heap.size := by
      rcases Nat.lt_or_ge g w.heap.size with h1 | h1
      · exact h1
      · rw [Array.getElem?_eq_none h1] at hg; cases hg
    refine ⟨g, 0, A', c', hA, hlt, ?_, hr⟩
    have : w.cell? ⟨g, 0 + i, none⟩ = cur[0 + i]? := cell_of_row w g (0 + i) cur e (0, 0) hg
    rw [this, Nat.zero_add, ← Array.getElem?_toList]
    have h2 : cur.toList[i]? = (cur.toList.take (n * 1))[i]? := by rw [List.getElem?_take_of_lt (by omega)]
    rw [h2, ht, e1]
theorem ownsRow_below {w w' : World} {base size n : Nat} {e : TypeId} {v : Value} {xs : List Value} (h : w.ownsRow base e size v n xs) (hb : Below w.heap.size w w') : w'.ownsRow base e size v n xs := by
  obtain ⟨hl, h⟩ := h
  refine ⟨hl, ?_⟩
  rcases h with h | ⟨g, cap, cur, hv, hg, hh, h1, h2, h3, h4⟩
  · exact .inl h
  · have hlt : g < w.heap.size := by
      rcases Nat.lt_or_ge g w.heap.size with k | k
      · exact k
      · rw [Array.getElem?_eq_none k] at hh; cases hh
    exact .inr ⟨g, cap, cur, hv, hg, (hb.block g hlt).trans hh, h1, h2, h3, h4⟩
theorem RecV.rd {w0 w : World} {v : Value} {rs : List (List Int)} (h : RecV w0 w v rs) : ∃ A c, v = .slice A rs.length c ∧ RdRs w A rs.length rs := by
  obtain ⟨vs, ho, hv⟩ := h
  obtain ⟨A, c, rfl⟩ := own_form ho
  exact ⟨A, c, rfl, rdrs_own ho rfl fun i hi => by
    obtain ⟨A', c', e, _, _, _, ht, _⟩ := hv i hi
    exact ⟨A', c', e, ht.rd⟩⟩
theorem RdRs.nil (w : World) : RdRs w none 0 [] := ⟨rfl, fun _ h => absurd h (Nat.not_lt_zero _)⟩
theorem refsame_len {A A' : Option Addr} {n n' c c' : Nat} (w : World) (h : n ≠ n') : Calls Try.prog 18 #[.slice A n c, .slice A' n' c'] w fun e w' => e = .returned (.bool false) ∧ Below w.heap.size w w' := by
  have hz : ¬ (n : Int) = (n' : Int) := by omega
  have hb : ((n : Int) != (n' : Int)) = true := by simpa using hz
  go_enter Try.func18, Try.ntmps18
  go_wp2_with fail
  go_ret
  exact ⟨rfl, Below.refl _ _⟩
theorem refsame_yes {A A' : Option Addr} {n c c' : Nat} {rs : List (List Int)} (w : World) (h : RdRs w A n rs) (h' : RdRs w A' n rs) (hn : (n : Int) ≤ 9223372036854775806) : Calls Try.prog 18 #[.slice A n c, .slice A' n c'] w fun e w' => e = .returned (.bool true) ∧ Below w.heap.size w w' := by
  have R := Lib.hid h
  have R' := Lib.hid h'
  clear h h'
  go_enter Try.func18, Try.ntmps18
  go_wp2_with fail
  go_loopw [5] (fun iv wr => ∃ (i q : Nat), iv = .int .i64 i ∧ i ≤ n ∧ wr = w.drewN q) (fun iv _ => n - (RowKit.intOf iv).toNat)
  case atStart => exact ⟨0, 0, rfl, Nat.zero_le _, rfl⟩
  case round =>
    obtain ⟨i, q, rfl, hin, rfl⟩ := hrel
    by_cases hlt : i < n
    · have hltz : (i : Int) < (n : Int) := by omega
      obtain ⟨g, off, X, k, rfl, -, c1, r1⟩ := R.out.2 i hlt
      obtain ⟨g', off', X', k', rfl, -, c2, r2⟩ := R'.out.2 i hlt
      have kA := fun p => rd_str (c := k) (r1.below (below_drewN _ w p))
      have kB := fun p => rd_str (c := k') (r2.below (below_drewN _ w p))
      generalize rs.getD i [] = bs at *
      generalize bs.length = L at *
      clear r1 r2
      go_wp2_with fail
      go_quiet (fail)
      go_wp2_with fail
      exact ⟨⟨i + 1, q + nq, by go_num, by omega, rfl⟩, by simp [RowKit.intOf]; omega⟩
    · obtain rfl : i = n := by omega
      have hltz : ¬ (i : Int) < (i : Int) := by omega
      go_wp2_with fail
      go_ret
      exact ⟨rfl, below_drewN _ _ _⟩
end Go.Proofs.Ytghepjppjmpihaa
