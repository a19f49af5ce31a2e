/- Law 7's head and pick. -/
import Derived.Test.YtijlhbpkpmjacaaDn
import Derived.Test.YtijlhbpkpmjacaaDc
import Derived.Test.YtijlhbpkpmjacaaDh
namespace Go.Proofs.Ytijlhbpkpmjacaa
open Go.ChangeShapes Go.WideShapes Go.ChangeAt Go.RowKit Go.Lib

theorem eqE1 (w : World) : (binOp .eql 25 (vErr 1) (vErr 1)).run Try.prog w = .ok (.bool true) w := by kernel_rfl
/-- which of n things a raw number speaks of -/
def pk (c n : Int) : Int := (if c < 0 then -(c + 1) else c) % n
theorem pk_bd (c : Int) {n : Int} (hn : 0 < n) : 0 ≤ pk c n ∧ pk c n < n := ⟨Int.emod_nonneg _ (by omega), Int.emod_lt_of_pos _ hn⟩
theorem pick_any (c n : Int) (hc : -9223372036854775808 ≤ c ∧ c ≤ 9223372036854775807) (hn : 0 < n) (w : World) : Calls Try.prog 12 #[.int .i64 c, .int .i64 n] w fun e w' => e = .returned (.int .i64 (pk c n)) ∧ w = w' := by
  obtain ⟨c1, c2⟩ := hc
  unfold pk
  by_cases h : c < 0
  · have e : (-(c + 1)).tmod n = -(c + 1) % n := Int.tmod_eq_emod_of_nonneg (by omega)
    rw [if_pos h]
    have H := Lib.hid e
    clear e
    go_enter Try.func12, Try.ntmps12
    go_wp2_with fail
    go_ret
    exact ⟨by have := H.out; simpa using this, rfl⟩
  · have e : c.tmod n = c % n := Int.tmod_eq_emod_of_nonneg (by omega)
    rw [if_neg h]
    have H := Lib.hid e
    clear e
    go_enter Try.func12, Try.ntmps12
    go_wp2_with fail
    go_ret
    exact ⟨by simp, rfl⟩
theorem up_any (w : World) : Calls Try.prog 7 #[] w fun e w' => e = .returned (.bool true) ∧ Below w.heap.size w w' := by
  go_enter Try.func7, Try.ntmps7
  go_wp2_with fail
  refine (cnew_yes 1 (by decide) (by decide) _).mono ?_; rintro e w1 ⟨b, S, rfl, hD, hB, hS⟩
  have D := Lib.hid (hD.alloc (.cells #[.int .u8 7, .int .u8 8] 5)); have B := Lib.hid (hB.alloc hB.size (.cells #[.int .u8 7, .int .u8 8] 5)); have HS := Lib.hid hS; have HN := Lib.hid hD.new_not
  have R := Lib.hid (show RdK .u8 (w1.alloc (.cells #[.int .u8 7, .int .u8 8] 5)) (w1.alloc (.cells #[.int .u8 7, .int .u8 8] 5)).heap.size (some ⟨w1.heap.size, 0, none⟩) 2 [7, 8] from lit_rd w1 5 [7, 8])
  clear hD hB hS
  go_wp2_with fail
  refine (cwrite_yes (p := 0) _ D.out R.out (not_at HN.out) (by decide) (by decide)).mono ?_; rintro e w2 ⟨rfl, hl⟩
  obtain ⟨S2, hD, hU, hb, hS, -⟩ := hl.use HS.out B.out.size
  have D := Lib.hid (hD.alloc (.cells #[.int .i64 1] 3)); have B := Lib.hid (B.out.trans hb); have HS := Lib.hid hS; have HN := Lib.hid hD.new_not
  have B := Lib.hid (B.out.alloc B.out.size (.cells #[.int .i64 1] 3))
  have R := Lib.hid (show RdK .i64 (w2.alloc (.cells #[.int .i64 1] 3)) (w2.alloc (.cells #[.int .i64 1] 3)).heap.size (some ⟨w2.heap.size, 0, none⟩) 1 [1] from lit_rd w2 3 [1])
  clear hD hU hb hS hl
  go_wp2_with fail
  refine (ccrash _ D.out R.out (not_at HN.out) (by decide) (by decide)).mono ?_; rintro e w3 ⟨rfl, hl⟩
  obtain ⟨S3, hD, hU, hb, hS, -⟩ := hl.use HS.out B.out.size
  have D := Lib.hid hD; have B := Lib.hid (B.out.trans hb)
  clear hD hU hb hS hl
  go_wp2_with fail
  refine (cread_yes (p := 0) (q := 2) _ D.out (by decide)).mono ?_; rintro e w4 ⟨A, c, rfl, -, -, hT, hb⟩
  have B := Lib.hid (B.out.trans (hb.mono B.out.size))
  have kA := rd_str (c := c) hT.rd
  rw [show ((Dk.crash (zs (64 * 1)) (Dk.wr [7, 8] (zs (64 * 1)) 0 2) (Dk.dirt (zs 1) 0 2) [1] 1).drop 0).take 2 = [7, 0] by decide] at kA
  clear hT hb
  have hs : (strOfNums [7, 0]).toList = [7, 0] := by rw [str_list]; rfl
  go_wp2_with fail
  go_ret
  exact ⟨by simp, B.out⟩
end Go.Proofs.Ytijlhbpkpmjacaa
