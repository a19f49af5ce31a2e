/- ChartParses. -/
import Derived.Test.YtnbieibbfpajeaaDoorHl
namespace Go.Proofs.YtnbieibbfpajeaaDoor
open Go.ChangeShapes Go.WideShapes Go.ChangeAt Go.RowKit Go.Lib

theorem parses_walk (bs : List Int) (hb : ∀ x ∈ bs, 0 ≤ x ∧ x < 256) (w : World) (hL : Laid w) : Calls Tryd.prog 4 #[.string (strOfNums bs)] w fun e w' => e = .returned (.bool true) ∧ Below w.heap.size w w' := by
  have HL := Lib.hid hL
  clear hL
  have q2 := eqE2
  obtain ⟨N, hN⟩ : ∃ N, bs.length = N := ⟨_, rfl⟩
  have hz : (strOfNums bs).size = N := by rw [strOfNums_size, hN]
  have HB := Lib.hid hb
  have HN := Lib.hid hN
  clear hb hN
  by_cases hl : 1000 < N
  · have hlz : (1000 : Int) < (N : Int) := by omega
    go_enter Tryd.func4, Tryd.ntmps4
    go_wp2_with fail
    refine (up_any _ (by first | exact HL.out.below B.out | exact HL.out.below V.out.2.2 | exact HL.out)).mono ?_; rintro e w2 ⟨rfl, hb⟩
    have B := Lib.hid hb
    clear hb
    go_wp2_with fail
    go_ret
    exact ⟨by simp, B.out⟩
  · have hlz : ¬ (1000 : Int) < (N : Int) := by omega
    have HP := Lib.hid (fun w h => cparse_any bs HB.out (by rw [HN.out]; omega) w h)
    have HR := Lib.hid (fun w => refparse_any bs HB.out (by rw [HN.out]; omega) w)
    go_enter Tryd.func4, Tryd.ntmps4
    go_wp2_with fail
    refine (up_any _ (by first | exact HL.out.below B.out | exact HL.out.below V.out.2.2 | exact HL.out)).mono ?_; rintro e w2 ⟨rfl, hb⟩
    have B := Lib.hid hb
    clear hb
    go_wp2_with fail
    refine (HP.out _ (by first | exact HL.out.below B.out | exact HL.out.below V.out.2.2 | exact HL.out)).mono ?_; rintro e w3 ⟨⟨k, o, hi, rfl⟩ | ⟨hno, rfl⟩, hb⟩
    · have B := Lib.hid (B.out.trans (hb.mono B.out.size))
      have HI := Lib.hid hi
      have V := Lib.hid (AV.new w3 23 k o)
      have al := alloc_below w3 (.cells #[.int .i64 k, .int .i64 o] 23)
      have B := Lib.hid (B.out.trans (al.mono B.out.size))
      clear hb hi al
      go_wp2_with fail
      generalize w3.alloc (.cells #[.int .i64 k, .int .i64 o] 23) = w4 at *
      refine (HR.out _).mono ?_; rintro e w5 ⟨⟨k', o', hi, rfl⟩ | ⟨hno, _⟩, hb⟩
      · obtain ⟨rfl, rfl⟩ := Hp.is_unique HI.out hi
        have V := Lib.hid (V.out.below hb)
        have B := Lib.hid (B.out.trans (hb.mono B.out.size))
        have V2 := Lib.hid (AV.new w5 23 k o)
        have al := alloc_below w5 (.cells #[.int .i64 k, .int .i64 o] 23)
        have V := Lib.hid (V.out.below al)
        have B := Lib.hid (B.out.trans (al.mono B.out.size))
        clear hb hi al
        obtain ⟨-, ⟨c0, c1⟩, -⟩ := V.out
        obtain ⟨-, ⟨d0, d1⟩, -⟩ := V2.out
        go_wp2_with fail
        go_ret
        exact ⟨by simp, B.out⟩
      · exact absurd HI.out (hno k o)
    · have B := Lib.hid (B.out.trans (hb.mono B.out.size))
      have HNO := Lib.hid hno
      have V := Lib.hid (AV.new w3 23 0 0)
      have al := alloc_below w3 (.cells #[.int .i64 0, .int .i64 0] 23)
      have B := Lib.hid (B.out.trans (al.mono B.out.size))
      clear hb hno al
      go_wp2_with fail
      generalize w3.alloc (.cells #[.int .i64 0, .int .i64 0] 23) = w4 at *
      refine (HR.out _).mono ?_; rintro e w5 ⟨⟨k', o', hi, rfl⟩ | ⟨hno, k9, o9, rfl⟩, hb⟩
      · exact absurd hi (HNO.out k' o')
      · have V := Lib.hid (V.out.below hb)
        have B := Lib.hid (B.out.trans (hb.mono B.out.size))
        have al := alloc_below w5 (.cells #[.int .i64 k9, .int .i64 o9] 23)
        have V := Lib.hid (V.out.below al)
        have B := Lib.hid (B.out.trans (al.mono B.out.size))
        clear hb al
        obtain ⟨-, ⟨c0, c1⟩, -⟩ := V.out
        go_wp2_with fail
        go_ret
        exact ⟨by simp, B.out⟩
theorem parses_str (s : ByteArray) (w : World) (hL : Laid w) : Calls Tryd.prog 4 #[.string s] w fun e w' => e = .returned (.bool true) ∧ Below w.heap.size w w' := by
  obtain ⟨bs, rfl, hb⟩ := bytes_of s
  exact parses_walk bs hb w hL
end Go.Proofs.YtnbieibbfpajeaaDoor
