/- The reference's dec. -/
import Derived.Test.YtnbieibbfpajeaaDoorHv
import Derived.Test.YtnbieibbfpajeaaDoorBy
namespace Go.Proofs.YtnbieibbfpajeaaDoor
open Go.ChangeShapes Go.WideShapes Go.ChangeAt Go.RowKit Go.Lib

theorem str_app (a b : List Int) : strOfNums a ++ strOfNums b = strOfNums (a ++ b) := by
  unfold strOfNums
  rw [List.map_append]
  ext1
  simp
theorem str_take (l : List Int) (n : Nat) : (strOfNums l).extract 0 n = strOfNums (l.take n) := by
  unfold strOfNums
  ext1
  simp [ByteArray.extract, ByteArray.copySlice]
theorem dg_max {n : Nat} (h : n ≤ 65536) : (Hp.dg n).length ≤ 5 := by
  by_cases k : n = 0
  · subst k; rw [Hp.dg_zero]; decide
  · exact (Hp.dg_len k (by omega)).2
theorem dec_any (n : Nat) (hn : n ≤ 65536) (w : World) : Calls Tryd.prog 18 #[.int .i64 n] w fun e w' => e = .returned (.string (strOfNums (Hp.dg n))) ∧ Below w.heap.size w w' := by
  have HN := Lib.hid hn
  clear hn
  go_enter Tryd.func18, Tryd.ntmps18
  go_wp2_with fail
  go_loopw [0, 3] (fun nv sv wr => ∃ (r : Nat) (l : List Int), nv = .int .i64 r ∧ sv = .string (strOfNums l) ∧ r ≤ 65536 ∧ Hid (Hp.dg n = Hp.dg r ++ l ∧ Below w.heap.size w wr)) (fun nv _ _ => (RowKit.intOf nv).toNat)
  case atStart => exact ⟨n, [], rfl, rfl, HN.out, by simp, Below.refl _ _⟩
  case round =>
    obtain ⟨r, l, rfl, rfl, hr, H⟩ := hrel
    by_cases h0 : 0 < r
    · have h0z : (0 : Int) < (r : Int) := by omega
      obtain ⟨x, hx⟩ : ∃ x, x = r % 10 := ⟨_, rfl⟩
      have e1 : (r : Int).tmod 10 = (x : Int) := by rw [Int.tmod_eq_emod_of_nonneg (by omega)]; omega
      have e2 : (r : Int).tdiv 10 = ((r / 10 : Nat) : Int) := by rw [Int.tdiv_eq_ediv_of_nonneg (by omega)]; omega
      have e3 : IntKind.u8.wrap (48 + (x : Int)) = 48 + (x : Int) := by rw [IntKind.wrap_u8]; omega
      have kA := rd_str (c := 1) (show RdK .u8 (wr.alloc (.cells #[.int .u8 (48 + (x : Int))] 5)) (wr.alloc (.cells #[.int .u8 (48 + (x : Int))] 5)).heap.size (some ⟨wr.heap.size, 0, none⟩) 1 [48 + (x : Int)] from ⟨rfl, fun j hj => by
        obtain rfl : j = 0 := by omega
        exact ⟨wr.heap.size, 0, rfl, by simp, by simp⟩⟩)
      have HD := Lib.hid (show Hp.dg n = Hp.dg (r / 10) ++ ([48 + (x : Int)] ++ l) from by rw [H.out.1, Hp.dg_pos (by omega), ← hx]; simp)
      have B := Lib.hid (H.out.2.alloc H.out.2.size (.cells #[.int .u8 (48 + (x : Int))] 5))
      have hx10 : x < 10 := by omega
      have e4 : (48 + (x : Int)) % 256 = 48 + (x : Int) := by omega
      have hl : l.length ≤ 5 := by have := congrArg List.length H.out.1; rw [List.length_append] at this; have := dg_max HN.out; omega
      have hs1 : (strOfNums l).size = l.length := strOfNums_size l
      have hs2 : (strOfNums [48 + (x : Int)]).size = 1 := strOfNums_size _
      have hap := str_app [48 + (x : Int)] l
      clear H hx
      go_wp2_with fail
      exact ⟨⟨r / 10, [48 + (x : Int)] ++ l, by simp, rfl, by omega, HD.out, B.out⟩, by simp [RowKit.intOf]; omega⟩
    · obtain rfl : r = 0 := by omega
      go_wp2_with fail
      go_ret
      exact ⟨by have := H.out.1; rw [Hp.dg_zero, List.nil_append] at this; simp [this], H.out.2⟩
end Go.Proofs.YtnbieibbfpajeaaDoor
