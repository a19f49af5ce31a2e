/- The law JournalStays. -/
import Derived.Test.YtghepjppjmpihaaJl
import Derived.Test.YtghepjppjmpihaaDw
namespace Go.Proofs.Ytghepjppjmpihaa
open Go.ChangeShapes Go.WideShapes Go.ChangeAt Go.RowKit Go.Lib

theorem infoB8 : (Try.prog.info? 5).map (fun i => (i.zero, i.size, i.bytes)) = some (some (.int .u8 0), 1, 1) := by kernel_rfl
theorem may8 {L : Nat} (h1 : 1 ≤ L) (hL : L ≤ 200) : mayN 8 0 L = 0 := by
  unfold mayN Jk.fr
  rw [if_neg (by omega), if_neg (by split <;> omega)]
theorem own_pos {w : World} {base e size n : Nat} {v : Value} {xs : List Value} (h : w.ownsRow base e size v n xs) (hn : 0 < n) : ∃ g c, v = .slice (some ⟨g, 0, none⟩) n c := by
  obtain ⟨_, ⟨_, h0⟩ | ⟨g, cap, cur, hv, _⟩⟩ := h
  · omega
  · exact ⟨g, cap, hv⟩
/-- one record that is told -/
theorem recv_one {w0 w : World} {v : Value} {bs : List Int} (h : RecV w0 w v [bs]) (hn : 0 < bs.length) :
    ∃ g c g' o' c', v = .slice (some ⟨g, 0, none⟩) 1 c ∧ w.cell? ⟨g, 0, none⟩ = some (.slice (some ⟨g', o', none⟩) bs.length c') ∧ g < w.heap.size ∧ w0.heap.size ≤ g' ∧ Wrt .u8 w (some ⟨g', o', none⟩) bs.length bs := by
  obtain ⟨vs, ho, hv⟩ := h
  obtain ⟨g, c, rfl⟩ := own_pos ho (by simp)
  obtain ⟨A', c', e, _, _, _, ht, _⟩ := hv 0 (by simp)
  rw [show (([bs] : List (List Int)).getD 0 []) = bs from rfl] at e ht
  obtain ⟨g', o', rfl, hg', _⟩ := ht.rd.2 0 hn
  have hc := ho.cells (g := g) rfl 0 _ e
  rw [add_plain] at hc
  exact ⟨g, c, g', o', c', rfl, hc, cell_lt hc, ht.new _ _ rfl, ht.rd, ht.free⟩
set_option maxHeartbeats 2000000 in
set_option maxRecDepth 1000000 in
theorem stays_walk (A : Option Addr) (n c : Nat) (bs : List Int) (w : World) (hr : RdK .u8 w w.heap.size A n bs) (hA : A = none → c = 0) (hc : n ≤ c ∧ c ≤ maxLen) (hY : Jk.By bs) :
    Calls Try.prog 5 #[.slice A n c] w fun e w' => e = .returned (.bool true) ∧ Below w.heap.size w w' := by
  have R0 := Lib.hid hr
  have HC := Lib.hid hc
  have HA := Lib.hid hA
  have HL := Lib.hid hr.1
  have YY := Lib.hid hY
  obtain ⟨i0, hi, hz0, hz1, hz2⟩ := info_parts infoB8
  have l1 : (n : Int) ≤ 9223372036854775807 := by have := len64 hc.2; omega
  clear hr hc hA hY
  by_cases h1 : n < 1
  · have h1z : (n : Int) < 1 := by omega
    go_enter Try.func5, Try.ntmps5
    go_wp2_with fail
    refine (up_any _).mono ?_; rintro e w1 ⟨rfl, hb⟩; have B := Lib.hid hb; clear hb
    go_wp2_with fail
    go_ret
    exact ⟨by simp, B.out⟩
  have h1b : decide ((n : Int) < 1) = false := by simp; omega
  by_cases h2 : 200 < n
  · have h2z : (200 : Int) < (n : Int) := by omega
    go_enter Try.func5, Try.ntmps5
    go_wp2_with fail
    refine (up_any _).mono ?_; rintro e w1 ⟨rfl, hb⟩; have B := Lib.hid hb; clear hb
    go_wp2_with fail
    go_ret
    exact ⟨by simp, B.out⟩
  have h2b : decide ((200 : Int) < (n : Int)) = false := by simp; omega
  go_enter Try.func5, Try.ntmps5
  go_wp2_with fail
  refine (up_any _).mono ?_; rintro e w1 ⟨rfl, hb⟩; have B := Lib.hid hb; clear hb
  go_wp2_with fail
  refine (cnew_yes 8 (by decide) (by decide) _).mono ?_; rintro e w2 ⟨d, S, rfl, hD, hb, hS⟩
  have D := Lib.hid hD
  have HS := Lib.hid (show ∀ k, S k → w.heap.size ≤ k from fun k hk => Nat.le_trans B.out.size (hS k hk))
  have B := Lib.hid (B.out.trans (hb.mono B.out.size))
  clear hD hb hS
  go_wp2_with fail
  refine (copen_dj _ D.out (Jk.J_zero _) (Jk.By.zs _) HS.out B.out.size).mono ?_; rintro e w3 ⟨j, S3, T3, rfl, hD, hb, -, -⟩
  have D := Lib.hid hD
  have BB := Lib.hid (B.out.trans hb)
  have E := Lib.hid (empty_row w3 5)
  have AL := Lib.hid ((Below.refl w3.heap.size w3).alloc (Nat.le_refl _) (.cells #[] 5))
  have B := Lib.hid (BB.out.trans (AL.out.mono BB.out.size))
  clear hD hb
  go_wp2_with (at_builtin; refine wpList_append_nums _ rfl _ _ 22 rfl w3.heap.size 5 i0 .u8 1 Try.underlying22 hi hz0 hz1 hz2 _ 0 [] rfl E.out A n c bs w.heap.size rfl (R0.out.below B.out) HA.out (by have := HC.out; omega) (by omega) (by simp) ?_; intro v' w4 hown hb)
  have hb2 := AL.out.trans hb
  rw [Nat.zero_add, List.nil_append] at hown
  obtain ⟨A2, c2, rfl⟩ := own_form hown
  have W := Lib.hid (Wrt.of_own hown)
  have HC2 := Lib.hid (show n ≤ c2 ∧ c2 ≤ maxLen from by
    obtain ⟨_, ⟨hv, h0⟩ | ⟨g, cap, cur, hv, _, _, k1, k2, _⟩⟩ := hown
    · injection hv with _ _ h3; subst h3; exact ⟨by omega, by decide⟩
    · injection hv with _ _ h3; subst h3; exact ⟨k1, k2⟩)
  have LT := Lib.hid D.out.lt
  have D := Lib.hid (D.out.below hb2)
  have NS := Lib.hid (show ∀ g off, A2 = some ⟨g, off, none⟩ → ¬ S3 g ∧ ¬ T3 g from fun g off e => ⟨fun hs => by have := W.out.2 g off e; have := LT.out g (.inl hs); omega, fun hs => by have := W.out.2 g off e; have := LT.out g (.inr hs); omega⟩)
  have B := Lib.hid (BB.out.trans (hb2.mono BB.out.size))
  have R := Lib.hid (R0.out.below B.out)
  have W0 := Lib.hid (show ∀ g off, A2 = some ⟨g, off, none⟩ → w.heap.size ≤ g from fun g off e => Nat.le_trans BB.out.size (W.out.2 g off e))
  clear hown hb hb2 E AL BB
  go_wp2_with fail
  refine (cappend_yes _ D.out B.out.size W.out.1.rd (fun _ => NS.out) HC2.out YY.out (may8 (by omega) (by omega))).mono ?_; rintro e w5 ⟨rfl, S5, T5, hD, hU, hN⟩
  rw [List.nil_append] at hD
  have hb := hU.below D.out.st B.out.size
  have NU := Lib.hid (show ∀ g off, A2 = some ⟨g, off, none⟩ → ¬ (S3 g ∨ T3 g) from fun g off e h => h.elim (NS.out g off e).1 (NS.out g off e).2)
  have W2 := Lib.hid (show Wrt .u8 w5 A2 n bs from ⟨W.out.1.rd.but hU (fun _ => NU.out), fun g off e j hj => (hU.frozen (p := ⟨g, off + j, none⟩) (W.out.1.lt (by omega) g off e) (NU.out g off e)).trans (W.out.1.free g off e j hj)⟩)
  have N5 := Lib.hid (show ∀ g off, A2 = some ⟨g, off, none⟩ → ¬ (S5 g ∨ T5 g) from fun g off e h => by
    rcases hN g h with k | k | k
    · exact (NS.out g off e).1 k
    · exact (NS.out g off e).2 k
    · exact absurd (W.out.1.lt (by omega) g off e) (by omega))
  have D := Lib.hid hD
  have B := Lib.hid (B.out.trans hb)
  have R := Lib.hid (R0.out.below B.out)
  clear hD hU hN hb
  have kA := rd_str (c := c2) W2.out.rd
  have kB := rd_str (c := c) R.out
  go_wp2_with fail
  clear kA kB
  obtain ⟨now, hnow⟩ : ∃ x, x = Jk.ap bs (Jk.zb (zs (64 * 8)) 0) 0 := ⟨_, rfl⟩
  rw [← hnow] at D
  clear hnow
  go_loopw [11] (fun iv wr => ∃ (i : Nat) (l : List Int), iv = .int .i64 i ∧ i ≤ n ∧ Hid (Wrt .u8 wr A2 n l ∧ Dj w.heap.size S5 T5 wr d j 8 now [bs] (0 + 8 + n) ∧ Below w.heap.size w wr)) (fun iv _ => n - (RowKit.intOf iv).toNat)
  case atStart => exact ⟨0, bs, rfl, Nat.zero_le _, W2.out, D.out, B.out⟩
  case round =>
    clear W2 D B R
    obtain ⟨i, l, rfl, hin, H⟩ := hrel
    by_cases hlt : i < n
    · have hltz : (i : Int) < (n : Int) := by omega
      obtain ⟨g, off, rfl, hg, cg, fg⟩ := H.out.1.at' i hlt
      generalize l.getD i 0 = x at cg
      have HX := Lib.hid (fun v : Int => (⟨H.out.1.set i hlt v, H.out.2.1.but (U := fun k => k = g) ((But.refl (fun k => k = g) wr).setCell (p := ⟨g, off + i, none⟩) (show g = g from rfl) (.int .u8 v)) (fun k hk e => N5.out g off rfl (e ▸ hk)), H.out.2.2.setCell (p := ⟨g, off + i, none⟩) (W0.out g off rfl) _⟩ :
        Wrt .u8 (wr.setCell ⟨g, off + i, none⟩ (.int .u8 v)) (some ⟨g, off, none⟩) n (l.set i v) ∧ Dj w.heap.size S5 T5 (wr.setCell ⟨g, off + i, none⟩ (.int .u8 v)) d j 8 now [bs] (0 + 8 + n) ∧ Below w.heap.size w (wr.setCell ⟨g, off + i, none⟩ (.int .u8 v))))
      clear H
      go_wp2_with fail
      exact ⟨⟨i + 1, _, by go_num, by omega, HX.out _⟩, by simp [RowKit.intOf]; omega⟩
    · obtain rfl : i = n := by omega
      have B := Lib.hid H.out.2.2
      have D := Lib.hid H.out.2.1
      clear H
      go_wp2_with fail
      refine (crecords _ D.out).mono ?_; rintro e w6 ⟨u, rfl, hV, hb⟩
      obtain ⟨g1, c1, g2, o2, c3, rfl, q1, q2, q3, q4⟩ := recv_one hV (by rw [HL.out]; omega)
      rw [HL.out] at q1 q4
      have Q := Lib.hid (show w6.cell? ⟨g1, 0, none⟩ = some (.slice (some ⟨g2, o2, none⟩) i c3) ∧ Wrt .u8 w6 (some ⟨g2, o2, none⟩) i bs ∧ w.heap.size ≤ g2 ∧ ¬ (S5 g2 ∨ T5 g2) from ⟨q1, q4, Nat.le_trans B.out.size q3, fun h => by have := D.out.lt g2 h; omega⟩)
      have D := Lib.hid (D.out.below hb)
      have B := Lib.hid (B.out.trans (hb.mono B.out.size))
      have R := Lib.hid (R0.out.below B.out)
      clear hV hb q1 q2 q3 q4
      have q1 := Q.out.1
      have kA := fun n => rd_str (c := c3) (Q.out.2.1.rd.below (below_drewN _ _ n))
      have kB := fun n => rd_str (c := c) (R.out.below (below_drewN _ _ n))
      go_wp2_with fail
      go_quiet (fail)
      have D := Lib.hid (D.out.below (below_drewN _ _ nq))
      have B := Lib.hid (B.out.trans (below_drewN _ _ nq))
      have Q := Lib.hid (show (w6.drewN nq).cell? ⟨g1, 0, none⟩ = some (.slice (some ⟨g2, o2, none⟩) i c3) ∧ Wrt .u8 (w6.drewN nq) (some ⟨g2, o2, none⟩) i bs ∧ w.heap.size ≤ g2 ∧ ¬ (S5 g2 ∨ T5 g2) from ⟨Q.out.1, Q.out.2.1.grow (below_drewN _ _ nq), Q.out.2.2⟩)
      generalize w6.drewN nq = w7 at *
      clear kA kB q1
      go_wp2_with fail
      go_loopw [13] (fun iv wr => ∃ (k : Nat) (l : List Int), iv = .int .i64 k ∧ k ≤ i ∧ Hid (wr.cell? ⟨g1, 0, none⟩ = some (.slice (some ⟨g2, o2, none⟩) i c3) ∧ Wrt .u8 wr (some ⟨g2, o2, none⟩) i l ∧ Dj w.heap.size S5 T5 wr d j 8 now [bs] (0 + 8 + i) ∧ Below w.heap.size w wr)) (fun iv _ => i - (RowKit.intOf iv).toNat)
      case atStart => exact ⟨0, bs, rfl, Nat.zero_le _, Q.out.1, Q.out.2.1, D.out, B.out⟩
      case round =>
        obtain ⟨k, l, rfl, hkn, H⟩ := hrel
        have q1 := H.out.1
        have NQ := Lib.hid Q.out.2.2
        clear Q D B R
        by_cases hlt : k < i
        · have hltz : (k : Int) < (i : Int) := by omega
          obtain ⟨g, off, e, hg, cg, fg⟩ := H.out.2.1.at' k hlt
          injection e with e; injection e with e1 e2; subst e1 e2
          generalize l.getD k 0 = x at cg
          have hne : (⟨g2, o2 + k, none⟩ : Addr) ≠ ⟨g1, 0, none⟩ := fun e => by rw [e, q1] at cg; cases cg
          have HX := Lib.hid (fun v : Int => (⟨(World.cell?_setCell_other _ _ _ _ hne).trans q1, H.out.2.1.set k hlt v, H.out.2.2.1.but (U := fun k => k = g2) ((But.refl (fun k => k = g2) wr).setCell (p := ⟨g2, o2 + k, none⟩) (show g2 = g2 from rfl) (.int .u8 v)) (fun k hk e => NQ.out.2 (e ▸ hk)), H.out.2.2.2.setCell (p := ⟨g2, o2 + k, none⟩) NQ.out.1 _⟩ :
            (wr.setCell ⟨g2, o2 + k, none⟩ (.int .u8 v)).cell? ⟨g1, 0, none⟩ = some (.slice (some ⟨g2, o2, none⟩) i c3) ∧ Wrt .u8 (wr.setCell ⟨g2, o2 + k, none⟩ (.int .u8 v)) (some ⟨g2, o2, none⟩) i (l.set k v) ∧ Dj w.heap.size S5 T5 (wr.setCell ⟨g2, o2 + k, none⟩ (.int .u8 v)) d j 8 now [bs] (0 + 8 + i) ∧ Below w.heap.size w (wr.setCell ⟨g2, o2 + k, none⟩ (.int .u8 v))))
          clear H hne
          go_wp2_with fail
          go_region
          all_goals
            go_wp2_with fail
            exact ⟨⟨k + 1, _, by go_num, by omega, (HX.out _).1, (HX.out _).2.1.grow (Below.refl _ _).drew, (HX.out _).2.2.1.below (Below.refl _ _).drew, (HX.out _).2.2.2.drew⟩, by simp [RowKit.intOf]; omega⟩
        · obtain rfl : k = i := by omega
          have B := Lib.hid H.out.2.2.2
          have D := Lib.hid H.out.2.2.1
          clear H
          go_wp2_with fail
          refine (crecords _ D.out).mono ?_; rintro e w8 ⟨u, rfl, hV, hb⟩
          obtain ⟨g3, c5, g4, o4, c6, rfl, p1, p2, p3, p4⟩ := recv_one hV (by rw [HL.out]; omega)
          rw [HL.out] at p1 p4
          have B := Lib.hid (B.out.trans (hb.mono B.out.size))
          have R := Lib.hid (R0.out.below B.out)
          have P4 := Lib.hid p4
          clear hV hb p2 p3 p4 q1
          have kA := fun n => rd_str (c := c6) (P4.out.rd.below (below_drewN _ _ n))
          have kB := fun n => rd_str (c := c) (R.out.below (below_drewN _ _ n))
          go_wp2_with fail
          go_quiet (fail)
          go_wp2_with fail
          go_ret
          exact ⟨by simp, B.out.trans (below_drewN _ _ _)⟩
end Go.Proofs.Ytghepjppjmpihaa
