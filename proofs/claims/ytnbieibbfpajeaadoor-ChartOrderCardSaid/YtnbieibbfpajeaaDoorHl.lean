/- The head of stage 9's laws. -/
import Derived.Test.YtnbieibbfpajeaaDoorHc
import Derived.KernelRfl
namespace Go.Proofs.YtnbieibbfpajeaaDoor
open Go.ChangeShapes Go.WideShapes Go.ChangeAt Go.RowKit Go.Lib

theorem eqE1 (w : World) : (binOp .eql 27 (vErr 1) (vErr 1)).run Tryd.prog w = .ok (.bool true) w := by kernel_rfl
theorem eqE2 (w : World) : (binOp .eql 27 (vErr 2) (vErr 2)).run Tryd.prog w = .ok (.bool true) w := by kernel_rfl
theorem name_up : strOfNums (Hp.name 5 7) = { data := #[101, 115, 99, 114, 111, 119, 46, 55] } := by
  have e : Hp.name 5 7 = [101, 115, 99, 114, 111, 119, 46, 55] := by
    unfold Hp.name
    rw [if_neg (by decide), Hp.dg_pos (by decide)]
    have e0 : Hp.dg (7 / 10) = [] := Hp.dg_zero
    rw [e0]; rfl
  rw [e]; rfl
theorem none_nil : Hp.None [] := fun k o h => by
  have h1 := Hp.may_kind h.1
  have h2 := (Hp.nm_len h1.1 h1.2).1
  have h3 := congrArg List.length h.2
  unfold Hp.name at h3
  rw [List.length_append] at h3
  simp at h3
  omega
theorem up_any (w : World) (hL : Laid w) : Calls Tryd.prog 7 #[] w fun e w' => e = .returned (.bool true) ∧ Below w.heap.size w w' := by
  have HL := Lib.hid hL
  clear hL
  have q2 := eqE2
  have HN := Lib.hid (fun w h => cname_yes 4 7 (by decide) w h)
  rw [name_up] at HN
  have HP := Lib.hid (fun w h => cparse_any [] (fun x hx => nomatch hx) (by decide) w h)
  go_enter Tryd.func7, Tryd.ntmps7
  go_wp2_with fail
  refine (HN.out _ (by first | exact HL.out.below B.out | exact HL.out.below V.out.2.2 | exact HL.out)).mono ?_; rintro e w1 ⟨rfl, hb⟩
  have B := Lib.hid hb
  clear hb
  go_wp2_with fail
  refine (HP.out _ (by first | exact HL.out.below B.out | exact HL.out.below V.out.2.2 | exact HL.out)).mono ?_; rintro e w2 ⟨⟨k, o, hi, rfl⟩ | ⟨hno, rfl⟩, hb⟩
  · exact absurd hi (none_nil k o)
  · have B := Lib.hid (B.out.trans (hb.mono B.out.size))
    have B2 := Lib.hid (B.out.alloc B.out.size (.cells #[.int .i64 0, .int .i64 0] 23))
    clear hb hno
    go_wp2_with fail
    go_ret
    exact ⟨by simp, B2.out⟩
/-- a string is a row of bytes -/
theorem bytes_of (s : ByteArray) : ∃ bs : List Int, s = strOfNums bs ∧ ∀ x ∈ bs, 0 ≤ x ∧ x < 256 := by
  refine ⟨s.data.toList.map fun b => (b.toNat : Int), ?_, fun x hx => ?_⟩
  · unfold strOfNums
    rw [List.map_map]
    have e : (fun b : UInt8 => UInt8.ofNat ((b.toNat : Int)).toNat) = id := by
      funext b; simp
    show s = ⟨(List.map (fun b : UInt8 => UInt8.ofNat ((b.toNat : Int)).toNat) s.data.toList).toArray⟩
    rw [e]; simp
  · obtain ⟨b, _, rfl⟩ := List.mem_map.1 hx
    have := b.toNat_lt
    omega
end Go.Proofs.YtnbieibbfpajeaaDoor
