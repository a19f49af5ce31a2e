/- The law DiskStays. -/
import Derived.Test.YtijlhbpkpmjacaaDa
import Derived.Test.YtijlhbpkpmjacaaCln
namespace Go.Proofs.Ytijlhbpkpmjacaa
open Go.ChangeShapes Go.WideShapes Go.ChangeAt Go.RowKit Go.Lib

theorem infoB8 : (Try.prog.info? 5).map (fun i => (i.zero, i.size, i.bytes)) = some (some (.int .u8 0), 1, 1) := by kernel_rfl
set_option maxHeartbeats 1000000 in
theorem stays_walk (p : Int) (A : Option Addr) (n c : Nat) (bs : List Int) (hp : -9223372036854775808 ≤ p ∧ p ≤ 9223372036854775807) (w : World) (hr : RdK .u8 w w.heap.size A n bs) (hA : A = none → c = 0) (hc : n ≤ c ∧ c ≤ maxLen) : Calls Try.prog 6 #[.int .i64 p, .slice A n c] w fun e w' => e = .returned (.bool true) ∧ Below w.heap.size w w' := by
  have R := Lib.hid hr
  have R0 := Lib.hid hr
  have HC := Lib.hid hc
  have HA := Lib.hid hA
  have HP := Lib.hid hp
  have HL := Lib.hid hr.1
  obtain ⟨i0, hi, hz0, hz1, hz2⟩ := info_parts infoB8
  have hc2 : (n : Int) ≤ 9223372036854775807 := by have := len64 hc.2; omega
  clear hr hc hA hp
  by_cases h1 : 500 < n
  · have h1z : (500 : Int) < (n : Int) := by omega
    go_enter Try.func6, Try.ntmps6
    go_wp2_with fail
    refine (up_any _).mono ?_; rintro e w1 ⟨rfl, hb⟩; have B := Lib.hid hb; clear hb
    go_wp2_with fail
    go_ret
    exact ⟨by simp, B.out⟩
  have h1z : ¬ (500 : Int) < (n : Int) := by omega
  go_enter Try.func6, Try.ntmps6
  go_wp2_with fail
  refine (up_any _).mono ?_; rintro e w1 ⟨rfl, hb⟩; have B := Lib.hid hb; clear hb
  go_wp2_with fail
  refine (cnew_yes 8 (by decide) (by decide) _).mono ?_; rintro e w2 ⟨b, S, rfl, hD, hB, hS⟩
  have BB := Lib.hid (B.out.trans (hB.mono B.out.size))
  have D := Lib.hid hD
  have HS := Lib.hid (show ∀ k, S k → w.heap.size ≤ k ∧ k < w2.heap.size from fun k hk => ⟨Nat.le_trans B.out.size (hS k hk), hD.lt k hk⟩)
  have E := Lib.hid (empty_row w2 5)
  have BS := Lib.hid (show w.heap.size ≤ w2.heap.size from BB.out.size)
  have AL := Lib.hid ((Below.refl w2.heap.size w2).alloc (Nat.le_refl _) (.cells #[] 5))
  have B := Lib.hid (BB.out.trans (AL.out.mono BB.out.size))
  clear hD hB hS
  go_wp2_with (at_builtin; refine wpList_append_nums _ rfl _ _ 29 rfl w2.heap.size 5 i0 .u8 1 Try.underlying29 hi hz0 hz1 hz2 _ 0 [] rfl E.out A n c bs w.heap.size rfl (R.out.below B.out) HA.out (by have := HC.out; omega) (by omega) (by simp) ?_; intro v' w3 hown hb)
  have hb2 := AL.out.trans hb
  rw [Nat.zero_add, List.nil_append] at hown
  obtain ⟨A2, c2, rfl⟩ := own_form hown
  have hcap := own_caps hown
  have W := Lib.hid (Wrt.of_own hown)
  have HC2 := Lib.hid (show n ≤ c2 ∧ c2 ≤ maxLen from ⟨hcap.1, by have := hown; obtain ⟨_, ⟨hv, h0⟩ | ⟨g, cap, cur, hv, _, _, _, h2, _⟩⟩ := this <;> injection hv <;> (first | subst_vars; assumption | (subst_vars; decide))⟩)
  have D := Lib.hid (D.out.below hb2)
  have B := Lib.hid (BB.out.trans (hb2.mono BB.out.size))
  have R := Lib.hid (R.out.below B.out)
  clear hown hb hb2 hcap E AL BB
  go_wp2_with fail
  have NS := Lib.hid (show ∀ g off, A2 = some ⟨g, off, none⟩ → ¬ S g from fun g off e hs => absurd (W.out.2 g off e) (by have := HS.out _ hs; omega))
  refine (cwrite_any _ D.out W.out.1.rd (fun _ => NS.out) HP.out HC2.out).mono ?_
  rintro e w4 ⟨v, now', dr', rfl, hl, hv⟩
  have HV := Lib.hid hv
  obtain ⟨S2, hD, hU, hb, hS, hN⟩ := hl.use (fun k hk => (HS.out k hk).1) B.out.size
  have D := Lib.hid hD
  have B := Lib.hid (B.out.trans hb)
  have W2 := Lib.hid (show Wrt .u8 w4 A2 n bs from ⟨W.out.1.rd.but hU (fun _ => NS.out), fun g off e j hj => (hU.frozen (p := ⟨g, off + j, none⟩) (W.out.1.lt (by omega) g off e) (NS.out g off e)).trans (W.out.1.free g off e j hj)⟩)
  have R := Lib.hid (R.out.below hb)
  have HS2 := Lib.hid (show (∀ k, S2 k → w.heap.size ≤ k) ∧ (0 < n → ∀ g off, A2 = some ⟨g, off, none⟩ → w.heap.size ≤ g ∧ ¬ S2 g) from ⟨hS, fun h g off e => ⟨Nat.le_trans BS.out (W.out.2 g off e), hN g (W.out.1.lt h g off e) (NS.out g off e)⟩⟩)
  clear hl hD hU hb hS hN hv W
  have kA := rd_str (c := c2) W2.out.rd
  have kB := rd_str (c := c) R.out
  go_wp2_with fail
  clear kA kB
  go_loopw [11] (fun iv wr => ∃ (i : Nat) (l : List Int), iv = .int .i64 i ∧ i ≤ n ∧ Hid (Wrt .u8 wr A2 n l ∧ Dq S2 wr b 8 (zs (64 * 8)) now' dr' ∧ Below w.heap.size w wr)) (fun iv _ => n - (RowKit.intOf iv).toNat)
  case atStart => exact ⟨0, bs, rfl, Nat.zero_le _, W2.out, D.out, B.out⟩
  case round =>
    clear W2 D B R
    obtain ⟨i, l, rfl, hin, H⟩ := hrel
    by_cases hlt : i < n
    · have hltz : (i : Int) < (n : Int) := by omega
      obtain ⟨g, off, rfl, hg, cg, fg⟩ := H.out.1.at' i hlt
      generalize l.getD i 0 = x at cg
      have HX := Lib.hid (fun v : Int => (⟨H.out.1.set i hlt v, H.out.2.1.but (T := fun k => k = g) ((But.refl (fun k => k = g) wr).setCell (p := ⟨g, off + i, none⟩) (show g = g from rfl) (.int .u8 v)) (fun k hk e => (HS2.out.2 (by omega) g off rfl).2 (e ▸ hk)), H.out.2.2.setCell (p := ⟨g, off + i, none⟩) (HS2.out.2 (by omega) g off rfl).1 _⟩ :
        Wrt .u8 (wr.setCell ⟨g, off + i, none⟩ (.int .u8 v)) (some ⟨g, off, none⟩) n (l.set i v) ∧ Dq S2 (wr.setCell ⟨g, off + i, none⟩ (.int .u8 v)) b 8 (zs (64 * 8)) now' dr' ∧ Below w.heap.size w (wr.setCell ⟨g, off + i, none⟩ (.int .u8 v))))
      clear H
      go_wp2_with fail
      exact ⟨⟨i + 1, _, by go_num, by omega, HX.out _⟩, by simp [RowKit.intOf]; omega⟩
    · obtain rfl : i = n := by omega
      have R := Lib.hid (R0.out.below H.out.2.2)
      have B := Lib.hid H.out.2.2
      have D := Lib.hid H.out.2.1
      clear H
      rcases HV.out with ⟨v1, v2, rfl, rfl, rfl⟩ | ⟨-, rfl, rfl, rfl⟩
      · obtain ⟨q, rfl⟩ : ∃ q : Nat, p = q := ⟨p.toNat, by omega⟩
        have HR := Lib.hid (wr_read bs (zs (64 * 8)) q i HL.out (by simp; omega))
        simp only [Int.toNat_natCast] at D v2
        generalize Dk.wr bs (zs (64 * 8)) q i = now at *
        go_wp2_with fail
        refine (cread_yes (p := q) (q := i) _ D.out (by omega)).mono ?_; rintro e w5 ⟨A5, c5, rfl, -, -, hT, hb⟩
        rw [HR.out] at hT
        have NW := Lib.hid (show ∀ g off, A5 = some ⟨g, off, none⟩ → w.heap.size ≤ g ∧ ¬ S2 g from fun g off e => ⟨Nat.le_trans B.out.size (hT.new g off e), fun hs => by have := hT.new g off e; have := D.out.lt _ hs; omega⟩)
        have D := Lib.hid (D.out.below hb)
        have B := Lib.hid (B.out.trans (hb.mono B.out.size))
        have W := Lib.hid (show Wrt .u8 w5 A5 i bs from ⟨hT.rd, hT.free⟩)
        clear hT hb
        have kA := rd_str (c := c5) W.out.rd
        go_wp2_with fail
        clear kA
        go_loopw [15] (fun iv wr => ∃ (j : Nat) (l : List Int), iv = .int .i64 j ∧ j ≤ i ∧ Hid (Wrt .u8 wr A5 i l ∧ Dq S2 wr b 8 (zs (64 * 8)) now (Dk.dirt (zs 8) q i) ∧ Below w.heap.size w wr)) (fun iv _ => i - (RowKit.intOf iv).toNat)
        case atStart => exact ⟨0, bs, rfl, Nat.zero_le _, W.out, D.out, B.out⟩
        case round =>
          clear W D B R
          obtain ⟨j, l, rfl, hjn, H⟩ := hrel
          by_cases hlt : j < i
          · have hltz : (j : Int) < (i : Int) := by omega
            obtain ⟨g, off, rfl, hg, cg, fg⟩ := H.out.1.at' j hlt
            generalize l.getD j 0 = x at cg
            have HX := Lib.hid (fun v : Int => (⟨H.out.1.set j hlt v, H.out.2.1.but (T := fun k => k = g) ((But.refl (fun k => k = g) wr).setCell (p := ⟨g, off + j, none⟩) (show g = g from rfl) (.int .u8 v)) (fun k hk e => (NW.out g off rfl).2 (e ▸ hk)), H.out.2.2.setCell (p := ⟨g, off + j, none⟩) (NW.out g off rfl).1 _⟩ :
              Wrt .u8 (wr.setCell ⟨g, off + j, none⟩ (.int .u8 v)) (some ⟨g, off, none⟩) i (l.set j v) ∧ Dq S2 (wr.setCell ⟨g, off + j, none⟩ (.int .u8 v)) b 8 (zs (64 * 8)) now (Dk.dirt (zs 8) q i) ∧ Below w.heap.size w (wr.setCell ⟨g, off + j, none⟩ (.int .u8 v))))
            clear H
            go_wp2_with fail
            exact ⟨⟨j + 1, _, by go_num, by omega, HX.out _⟩, by simp [RowKit.intOf]; omega⟩
          · obtain rfl : j = i := by omega
            have B := Lib.hid H.out.2.2
            have D := Lib.hid H.out.2.1
            clear H
            go_wp2_with fail
            refine (cread_yes (p := q) (q := j) _ D.out (by omega)).mono ?_; rintro e w7 ⟨A7, c7, rfl, -, -, hT, hb⟩
            rw [HR.out] at hT
            have B := Lib.hid (B.out.trans (hb.mono B.out.size))
            have R := Lib.hid (R0.out.below B.out)
            have kA := rd_str (c := c7) hT.rd
            have kB := rd_str (c := c) R.out
            clear hT hb
            go_wp2_with fail
            go_ret
            exact ⟨by simp, B.out⟩
      · go_wp2_with fail
        go_ret
        exact ⟨by simp, B.out⟩
end Go.Proofs.Ytijlhbpkpmjacaa
