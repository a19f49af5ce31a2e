import Derived.Test.YtbobaappilploaaPl
namespace Go.Proofs.Ytbobaappilploaa
open Go.RowKit Go.Lib Go.ChangeShapes Go.WideShapes Go.ChangeAt

set_option maxHeartbeats 4000000 in
theorem gets_walk (A : Option Addr) (n c : Nat) (bs : List Int) (w : World) (hr : RdK .u8 w w.heap.size A n bs) (hb : ∀ x ∈ bs, 0 ≤ x ∧ x < 256) (hnc : n ≤ c) (hcc : c ≤ 9223372036854775807) : Calls Try.prog 4 #[.slice A n c] w fun e w' => e = .returned (.bool true) ∧ Below w.heap.size w w' := by
  have q2 := eqE2
  have R := Lib.hid hr
  have HB := Lib.hid hb
  clear hr hb
  by_cases h1 : 1000 < n
  · have h1z : (1000 : Int) < (n : Int) := by omega
    go_enter Try.func4, Try.ntmps4
    go_wp2_with fail
    refine (up_any _).mono ?_; rintro e w1 ⟨rfl, hb⟩; have B := Lib.hid hb; clear hb
    go_wp2_with fail
    go_ret
    exact ⟨rfl, B.out⟩
  · have h1z : ¬ (1000 : Int) < (n : Int) := by omega
    go_enter Try.func4, Try.ntmps4
    go_wp2_with fail
    refine (up_any _).mono ?_; rintro e w1 ⟨rfl, hb⟩; have R := Lib.hid ((R.out.below hb).more hb.size); have B := Lib.hid hb; clear hb
    go_wp2_with fail
    refine (cget_any A n c bs _ R.out HB.out (by omega) hnc hcc).mono ?_
    rintro e w2 ⟨⟨k, key, l, ns, A1, c1, hok, hn, hcb, rfl, hN, hc1, hc2⟩ | ⟨hno, rfl⟩, hb⟩
    · have HCB := Lib.hid hcb
      have HN := Lib.hid hN
      have HNN := Lib.hid hn
      have R := Lib.hid ((R.out.below hb).more hb.size)
      have B := Lib.hid (B.out.trans (hb.mono B.out.size))
      have al := (Below.refl w2.heap.size w2).alloc (Nat.le_refl _) (.cells #[.int .i64 k, .int .i64 key, .int .i64 l, .slice A1 ns.length c1] 24)
      have V := Lib.hid (CV.new w2 24 k key l A1 ns.length c1)
      have HN := Lib.hid ((HN.out.below al).more al.size)
      have R := Lib.hid ((R.out.below al).more al.size)
      have B := Lib.hid (B.out.trans (al.mono B.out.size))
      have HOK := Lib.hid hok
      clear hb al hok hcb hN hc1 hc2 hn
      obtain ⟨N, hNl⟩ : ∃ N, ns.length = N := ⟨_, rfl⟩
      have HNl := Lib.hid hNl
      rw [hNl] at V HN R B ⊢
      clear hNl
      go_wp2_with fail
      generalize w2.alloc (.cells #[.int .i64 k, .int .i64 key, .int .i64 l, .slice A1 N c1] 24) = w3 at *
      refine (refget_any A n c bs _ R.out HB.out (by omega) hnc hcc).mono ?_
      rintro e w4 ⟨⟨k2, key2, l2, ns2, A2, c2, hok2, hn2, hcb2, rfl, hN2, hd1, hd2⟩ | ⟨hno, _⟩, hb⟩
      · obtain ⟨rfl, rfl, rfl, rfl⟩ := Pk.cb_inj (HCB.out.symm.trans hcb2)
        have V := Lib.hid (V.out.below hb)
        have HN := Lib.hid ((HN.out.below hb).more hb.size)
        have HN2 := Lib.hid hN2
        have B := Lib.hid (B.out.trans (hb.mono B.out.size))
        rw [HNl.out] at HN2 ⊢
        have al := (Below.refl w4.heap.size w4).alloc (Nat.le_refl _) (.cells #[.int .i64 k, .int .i64 key, .int .i64 l, .slice A2 N c2] 24)
        have V2 := Lib.hid (CV.new w4 24 k key l A2 N c2)
        have V := Lib.hid (V.out.below al)
        have HN := Lib.hid ((HN.out.below al).more al.size)
        have HN2 := Lib.hid ((HN2.out.below al).more al.size)
        have B := Lib.hid (B.out.trans (al.mono B.out.size))
        clear hb al hok2 hcb2 hN2 hd1 hd2 hn2
        obtain ⟨-, ⟨a0, a1, a2, a3⟩, -⟩ := V.out
        obtain ⟨-, ⟨b0, b1, b2, b3⟩, -⟩ := V2.out
        go_wp2_with fail
        refine (same_yes k key l A1 A2 N c1 c2 ns _ HN.out HN2.out (by have := HNN.out; have := HNl.out; omega)).mono ?_; rintro e w5 ⟨rfl, hb⟩
        have B := Lib.hid (B.out.trans (hb.mono B.out.size))
        clear hb
        go_wp2_with fail
        go_ret
        exact ⟨by simp, B.out⟩
      · exact absurd HCB.out (hno k key l ns HOK.out HNN.out)
    · have HNO := Lib.hid hno
      have R := Lib.hid ((R.out.below hb).more hb.size)
      have B := Lib.hid (B.out.trans (hb.mono B.out.size))
      have al := (Below.refl w2.heap.size w2).alloc (Nat.le_refl _) (.cells #[.int .i64 0, .int .i64 0, .int .i64 0, .slice none 0 0] 24)
      have V := Lib.hid (CV.new w2 24 0 0 0 none 0 0)
      have R := Lib.hid ((R.out.below al).more al.size)
      have B := Lib.hid (B.out.trans (al.mono B.out.size))
      clear hb al hno
      go_wp2_with fail
      generalize w2.alloc (.cells #[.int .i64 0, .int .i64 0, .int .i64 0, .slice none 0 0] 24) = w3 at *
      refine (refget_any A n c bs _ R.out HB.out (by omega) hnc hcc).mono ?_
      rintro e w4 ⟨⟨k2, key2, l2, ns2, A2, c2, hok2, hn2, hcb2, _⟩ | ⟨_, k2, key2, l2, A2, n2, c2, rfl⟩, hb⟩
      · exact absurd hcb2 (HNO.out k2 key2 l2 ns2 hok2 hn2)
      · have V := Lib.hid (V.out.below hb)
        have B := Lib.hid (B.out.trans (hb.mono B.out.size))
        have al := (Below.refl w4.heap.size w4).alloc (Nat.le_refl _) (.cells #[.int .i64 k2, .int .i64 key2, .int .i64 l2, .slice A2 n2 c2] 24)
        have V := Lib.hid (V.out.below al)
        have B := Lib.hid (B.out.trans (al.mono B.out.size))
        clear hb al
        obtain ⟨-, ⟨a0, a1, a2, a3⟩, -⟩ := V.out
        go_wp2_with fail
        refine (same_yes 0 0 0 none none 0 0 0 [] _ ⟨rfl, fun j hj => absurd hj (Nat.not_lt_zero j)⟩ ⟨rfl, fun j hj => absurd hj (Nat.not_lt_zero j)⟩ (by decide)).mono ?_; rintro e w5 ⟨rfl, hb⟩
        have B := Lib.hid (B.out.trans (hb.mono B.out.size))
        clear hb
        go_wp2_with fail
        go_ret
        exact ⟨by simp, B.out⟩
end Go.Proofs.Ytbobaappilploaa
