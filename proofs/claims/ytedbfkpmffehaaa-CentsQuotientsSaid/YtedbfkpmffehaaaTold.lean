import Derived.Test.YtedbfkpmffehaaaTo
namespace Go.Proofs.Ytedbfkpmffehaaa
open Go.RowKit Go.Shelf Go.Lib Ar Dg

set_option maxHeartbeats 1000000 in
theorem told_true (v1 : Value) (x1 : Int) (w : World) (h1 : NumV w w.heap.size v1 x1) :
    Calls Try.prog 17 #[.int .i64 (sv x1), se x1, v1] w fun e w' => e = .returned (.bool true) ∧ Below w.heap.size w w' := by
  have h0 := h1
  obtain ⟨A1, n1, c1, d1, m1, rfl, _⟩ := h0
  obtain ⟨w1, hw1⟩ : ∃ w1, w.alloc (.cells #[.slice A1 n1 c1, .bool m1] 25) = w1 := ⟨_, rfl⟩
  have hlow : Below w.heap.size w w1 := by rw [← hw1]; exact (Below.refl _ _).alloc (Nat.le_refl _) _
  have k0 : w1.cell? ⟨w.heap.size, 0, none⟩ = some (.slice A1 n1 c1) := by rw [← hw1, World.cell?_alloc_new]; rfl
  have k1 : w1.cell? ⟨w.heap.size, 1, none⟩ = some (.bool m1) := by rw [← hw1, World.cell?_alloc_new]; rfl
  have HN := Lib.hid ((h1.below hlow).more hlow.size)
  have HL := Lib.hid hlow
  clear h1 hlow
  by_cases hf : Fits x1
  · obtain ⟨s1, s2⟩ := sv_fit hf rfl
    rw [s1, s2]
    have HD := Lib.hid (show decide (Fits x1) = true by simpa using hf)
    have HF := Lib.hid hf
    clear s1 s2 hf
    go_enter Try.func17, Try.ntmps17
    go_wp2_with fail
    refine (to_num _ x1 _ HN.out).mono ?_; rintro e w2 ⟨t, rfl, ht, hb⟩
    have HT := Lib.hid ht; clear ht
    obtain rfl : t = x1 := HT.out HF.out
    rw [HD.out]
    go_wp2_with fail
    go_ret
    exact ⟨rfl, HL.out.trans (hb.mono HL.out.size)⟩
  · obtain ⟨s1, s2⟩ := sv_over hf
    rw [s1, s2]
    have HD := Lib.hid (show decide (Fits x1) = false by simpa using hf)
    have q33 := eq33
    clear s1 s2 hf
    go_enter Try.func17, Try.ntmps17
    go_wp2_with fail
    refine (to_num _ x1 _ HN.out).mono ?_; rintro e w2 ⟨t, rfl, ht, hb⟩
    clear ht
    rw [HD.out]
    go_wp2_with fail
    go_ret
    exact ⟨rfl, HL.out.trans (hb.mono HL.out.size)⟩
