import Derived.Test.YtbobaappilploaaPt
/- written by wip/tools/gen_pb.py -/
namespace Go.Proofs.Ytbobaappilploaa
open Go.RowKit Go.Lib Go.ChangeShapes Go.WideShapes Go.ChangeAt

theorem empty_own8 (w : World) : (w.alloc (.cells #[] 5)).ownsRow w.heap.size 5 1 (.slice (some ⟨w.heap.size, 0, none⟩) 0 0) 0 [] :=
  ⟨rfl, .inr ⟨w.heap.size, 0, #[], rfl, Nat.le_refl _, heap_alloc_new _ _, Nat.le_refl _, by decide, rfl, rfl⟩⟩
theorem Row.cells {w1 wr w' : World} {g c : Nat} {bs : List Int} (h : Row w1 wr (.slice (some ⟨g, 0, none⟩) bs.length c) bs) (hn : 0 < bs.length) (hb : Below wr.heap.size wr w') : ∀ j u, (bs.map (Value.int .u8))[j]? = some u → w'.cell? ((⟨g, 0, none⟩ : Addr).add j) = some u := by
  have h' := (h.below hb).1
  obtain ⟨g', c', e, _, _, hcell⟩ := own_some h' hn
  injection e with e1 _ e3
  injection e1 with e1
  injection e1 with e1
  subst e1 e3
  exact hcell
/-- bytes that came in, as a string -/
theorem rd_string {w : World} {B : Nat} {A : Option Addr} {n c : Nat} {bs : List Int} (h : RdK .u8 w B A n bs) (hn : 0 < n) : (convert 26 9 (.slice A n c)).run Try.prog w = .ok (.string (strOfNums bs)) w := by
  obtain ⟨b, off, rfl, _, _⟩ := h.2 0 hn
  refine run_convert_bytes_arg (P := Try.prog) w 26 5 Try.underlying26 Try.underlying5 b off n c bs h.1 (fun i hi => ?_) 9 Try.underlying9
  obtain ⟨b2, off2, e, _, hc⟩ := h.2 i hi
  injection e with e
  injection e with e1 e2
  subst e1 e2
  exact hc
set_option maxHeartbeats 2000000 in
theorem back_walk (k key l : Int) (A : Option Addr) (N c : Nat) (ns : List Int) (Ab : Option Addr) (nb cb : Nat) (bs : List Int) (n m : Int) (w : World) (hr : RdK .i64 w w.heap.size A N ns) (hok : Pk.Ok k key l ns) (hnc : N ≤ c) (hcc : c ≤ 9223372036854775807)
    (hrb : RdK .u8 w w.heap.size Ab nb bs) (hbb : ∀ x ∈ bs, 0 ≤ x ∧ x < 256) (hnb : nb ≤ cb) (hcb2 : cb ≤ 9223372036854775807) (hn : -9223372036854775808 ≤ n ∧ n ≤ 9223372036854775807) (hm : 0 ≤ m ∧ m < 256) :
    Calls Try.prog 5 #[cmv k key l A N c, .slice Ab nb cb, .int .i64 n, .int .u8 m] w fun e w' => e = .returned (.bool true) ∧ Below w.heap.size w w' := by
  obtain ⟨i0, hi, hz0, hz1, hz2⟩ := info_parts info8
  have q2 := eqE2
  have HO := Lib.hid hok
  have HNL := Lib.hid hr.1
  have HM := Lib.hid hm
  have HBB := Lib.hid hbb
  obtain ⟨n1, n2⟩ := hn
  obtain ⟨m1, m2⟩ := hm
  have B := Lib.hid ((Below.refl w.heap.size w).alloc (Nat.le_refl _) (.cells #[.int .i64 k, .int .i64 key, .int .i64 l, .slice A N c] 24))
  have V := Lib.hid (CV.new w 24 k key l A N c)
  have R := Lib.hid ((hr.below B.out).more B.out.size)
  have RB := Lib.hid ((hrb.below B.out).more B.out.size)
  clear hok hr hrb hbb
  by_cases h1 : 16 < N
  · have h1z : (16 : Int) < (N : Int) := by omega
    go_enter Try.func5, Try.ntmps5
    go_wp2_with fail
    refine (up_any _).mono ?_; rintro e w1 ⟨rfl, hb⟩; have V := Lib.hid (V.out.below hb); have B := Lib.hid (B.out.trans (hb.mono B.out.size)); clear hb
    obtain ⟨-, ⟨c0, c1, c2, c3⟩, -⟩ := V.out
    go_wp2_with fail
    go_ret
    exact ⟨rfl, B.out⟩
  · have h1z : decide ((16 : Int) < (N : Int)) = false := by simp; omega
    by_cases h2 : 1000 < nb
    · have h2z : (1000 : Int) < (nb : Int) := by omega
      go_enter Try.func5, Try.ntmps5
      go_wp2_with fail
      refine (up_any _).mono ?_; rintro e w1 ⟨rfl, hb⟩; have V := Lib.hid (V.out.below hb); have B := Lib.hid (B.out.trans (hb.mono B.out.size)); clear hb
      obtain ⟨-, ⟨c0, c1, c2, c3⟩, -⟩ := V.out
      go_wp2_with fail
      go_ret
      exact ⟨rfl, B.out⟩
    have h2z : decide ((1000 : Int) < (nb : Int)) = false := by simp; omega
    have hps := Pk.cb_len k key l ns
    rw [HNL.out] at hps
    have HPUT := Lib.hid (fun (w : World) (hr : RdK .i64 w w.heap.size A N ns) => cput_yes k key l A N c ns w hr HO.out (by omega) hnc hcc)
    have HPB := Lib.hid (Pk.cb_bytes HO.out (by rw [HNL.out]; omega))
    obtain ⟨ps, hPS⟩ : ∃ ps, Pk.cb k key l ns = ps := ⟨_, rfl⟩
    rw [hPS] at hps HPUT HPB
    have HPS := Lib.hid hPS
    clear hPS
    have HP0 := Lib.hid (show 0 < ps.length by omega)
    have hl1 : 4 ≤ ps.length := hps.1
    have hl2 : ps.length ≤ 200 := by omega
    have HN16 := Lib.hid (show ns.length ≤ 16 by rw [HNL.out]; omega)
    clear hps
    have hL0 : ¬ (ps.length : Int) = 0 := by omega
    by_cases hneg : n < 0
    · have hn0 : 0 ≤ -(n + 1) := by omega
      obtain ⟨r, hr1⟩ : ∃ r : Nat, (r : Int) = (-(n + 1)) % (ps.length : Int) := ⟨((-(n + 1)) % (ps.length : Int)).toNat, Int.toNat_of_nonneg (Int.emod_nonneg _ hL0)⟩
      have hr2 : r < ps.length := by have := Int.emod_lt_of_pos (-(n + 1)) (show (0 : Int) < (ps.length : Int) by omega); omega
      have hmod : (-(n + 1)).tmod (ps.length : Int) = (r : Int) := by rw [hr1, Int.tmod_eq_emod_of_nonneg (by omega)]
      have hr3 : (0 : Int) ≤ (r : Int) := by omega
      clear hr1
      go_enter Try.func5, Try.ntmps5
      go_wp2_with fail
      refine (up_any _).mono ?_; rintro e w1 ⟨rfl, hb⟩
      have V := Lib.hid (V.out.below hb)
      have R := Lib.hid ((R.out.below hb).more (hb).size)
      have RB := Lib.hid ((RB.out.below hb).more (hb).size)
      have B := Lib.hid (B.out.trans ((hb).mono B.out.size))
      clear hb
      obtain ⟨-, ⟨c0, c1, c2, c3⟩, -⟩ := V.out
      go_wp2_with fail
      refine (HPUT.out _ R.out).mono ?_; rintro e w2 ⟨v, rfl, ho⟩
      have V := Lib.hid (V.out.below ho.2)
      have R := Lib.hid ((R.out.below ho.2).more (ho.2).size)
      have RB := Lib.hid ((RB.out.below ho.2).more (ho.2).size)
      have B := Lib.hid (B.out.trans ((ho.2).mono B.out.size))
      obtain ⟨g, c9, rfl, _, _, _⟩ := own_some ho.1 HP0.out
      have P := Lib.hid (show Row w1 w2 _ _ from ho)
      have hcap := own_caps ho.1
      have hcap1 := hcap.1
      have hcap2 := hcap.2
      clear ho c0 c1 c2 c3 hcap
      go_wp2_with fail
      refine (cget_any (some ⟨g, 0, none⟩) ps.length c9 ps _ (RdK.of_own P.out.1) HPB.out (by omega) hcap1 hcap2).mono ?_
      rintro e w3 ⟨⟨k2, key2, l2, ns2, A1, cA1, hok, hn, hcb, rfl, hN, hc1, hc2⟩ | ⟨hno, rfl⟩, hb⟩
      case inr => exact absurd HPS.out.symm (hno k key l ns HO.out HN16.out)
      obtain ⟨rfl, rfl, rfl, rfl⟩ := Pk.cb_inj (HPS.out.trans hcb)
      have N1 := Lib.hid hN
      rw [HNL.out] at N1 ⊢
      have V := Lib.hid (V.out.below hb)
      have R := Lib.hid ((R.out.below hb).more (hb).size)
      have RB := Lib.hid ((RB.out.below hb).more (hb).size)
      have B := Lib.hid (B.out.trans ((hb).mono B.out.size))
      have P := Lib.hid (P.out.below hb)
      clear hb hok hn hcb hN hc1 hc2
      have al := (Below.refl w3.heap.size w3).alloc (Nat.le_refl _) (.cells #[.int .i64 k, .int .i64 key, .int .i64 l, .slice A1 N cA1] 24)
      have V := Lib.hid (V.out.below al)
      have R := Lib.hid ((R.out.below al).more (al).size)
      have RB := Lib.hid ((RB.out.below al).more (al).size)
      have B := Lib.hid (B.out.trans ((al).mono B.out.size))
      have P := Lib.hid (P.out.below al)
      have N1 := Lib.hid ((N1.out.below al).more (al).size)
      clear al
      have D := Lib.hid (CV.new w3 24 k key l A1 N cA1)
      obtain ⟨-, ⟨c0, c1, c2, c3⟩, -⟩ := V.out
      obtain ⟨-, ⟨d0, d1, d2, d3⟩, -⟩ := D.out
      go_wp2_with fail
      refine (same_yes k key l A A1 N c cA1 ns _ R.out N1.out (by omega)).mono ?_; rintro e w4 ⟨rfl, hb⟩
      have V := Lib.hid (V.out.below hb)
      have R := Lib.hid ((R.out.below hb).more (hb).size)
      have RB := Lib.hid ((RB.out.below hb).more (hb).size)
      have B := Lib.hid (B.out.trans ((hb).mono B.out.size))
      have P := Lib.hid (P.out.below hb)
      have N1 := Lib.hid ((N1.out.below hb).more (hb).size)
      have D := Lib.hid (D.out.below hb)
      clear hb c0 c1 c2 c3 d0 d1 d2 d3
      go_wp2_with fail
      refine (cget_any (some ⟨g, 0, none⟩) r c9 (ps.take r) _ ((RdK.of_own P.out.1).takes (by omega)) (fun x hx => HPB.out x (List.mem_of_mem_take hx)) (by omega) (by omega) hcap2).mono ?_
      rintro e w5 ⟨⟨k2, key2, l2, ns2, A1, cA1, hok, hn, hcb, _⟩ | ⟨hno, rfl⟩, hb⟩
      case inl => exact absurd hcb (by rw [← HPS.out]; exact Pk.cb_take (by rw [HPS.out]; exact hr2))
      have V := Lib.hid (V.out.below hb)
      have R := Lib.hid ((R.out.below hb).more (hb).size)
      have RB := Lib.hid ((RB.out.below hb).more (hb).size)
      have B := Lib.hid (B.out.trans ((hb).mono B.out.size))
      have P := Lib.hid (P.out.below hb)
      clear hb hno
      have al := (Below.refl w5.heap.size w5).alloc (Nat.le_refl _) (.cells #[.int .i64 0, .int .i64 0, .int .i64 0, .slice none 0 0] 24)
      have V := Lib.hid (V.out.below al)
      have R := Lib.hid ((R.out.below al).more (al).size)
      have RB := Lib.hid ((RB.out.below al).more (al).size)
      have B := Lib.hid (B.out.trans ((al).mono B.out.size))
      have P := Lib.hid (P.out.below al)
      clear al
      have hc6 := P.out.cells HP0.out ((Below.refl (w5.alloc (.cells #[.int .i64 0, .int .i64 0, .int .i64 0, .slice none 0 0] 24)).heap.size (w5.alloc (.cells #[.int .i64 0, .int .i64 0, .int .i64 0, .slice none 0 0] 24))).alloc (Nat.le_refl _) (.cells #[] 5))
      have EMP := Lib.hid (show ((w5.alloc (.cells #[.int .i64 0, .int .i64 0, .int .i64 0, .slice none 0 0] 24)).alloc (.cells #[] 5)).ownsRow (w5.heap.size + 1) 5 1 (.slice (some ⟨w5.heap.size + 1, 0, none⟩) 0 0) 0 [] by simpa using empty_own8 (w5.alloc (.cells #[.int .i64 0, .int .i64 0, .int .i64 0, .slice none 0 0] 24)))
      go_wp2_with (first
        | (at_builtin; refine wpList_append_own _ rfl _ _ 26 rfl (w5.heap.size + 1) 5 i0 (.int .u8 0) 1 1 Try.underlying26 hi hz0 hz1 hz2 rfl (by decide) (.slice (some ⟨w5.heap.size + 1, 0, none⟩) 0 0) 0 [] rfl EMP.out ⟨g, 0, none⟩ ps.length c9 (ps.map (Value.int .u8)) rfl (by simp) hc6 (ones8 _) (by unfold maxLen; omega) (by omega) (by simp; try omega) ?_; intro v6 w6 hown6 hgrow _; have hb6 := Lib.hid (((Below.refl (w5.heap.size + 1) (w5.alloc (.cells #[.int .i64 0, .int .i64 0, .int .i64 0, .slice none 0 0] 24))).alloc (by simp) (.cells #[] 5)).grown hgrow (by simp; try omega) (own_block EMP.out)); clear hgrow hc6; rw [Nat.zero_add, List.nil_append] at hown6; obtain ⟨g6, c6, rfl, _, _, _⟩ := own_some hown6 HP0.out)
        | (at_builtin; refine wpList_append_own _ rfl _ _ 26 rfl (w5.heap.size + 1) 5 i0 (.int .u8 0) 1 1 Try.underlying26 hi hz0 hz1 hz2 rfl (by decide) (.slice (some ⟨g6, 0, none⟩) ps.length c6) ps.length (ps.map (Value.int .u8)) rfl (hown6.alloc _) ⟨w6.heap.size, 0, none⟩ 1 1 [.int .u8 m] rfl rfl (news1 _ _ _) (one8 _) (by unfold maxLen; omega) (by omega) (le_alloc hb6.out (by simp) _) ?_; intro v7 w7 hown7 hgrow _; have hb7 := Lib.hid ((hb6.out.alloc (Nat.le_trans (by simp) hb6.out.size) _).grown hgrow (le_alloc hb6.out (by simp) _) (own_block hown6)); clear hgrow; obtain ⟨g7, c7, rfl, _, _, _⟩ := own_some hown7 (by omega)))
      have hb : Below ((w5.alloc (.cells #[.int .i64 0, .int .i64 0, .int .i64 0, .slice none 0 0] 24))).heap.size ((w5.alloc (.cells #[.int .i64 0, .int .i64 0, .int .i64 0, .slice none 0 0] 24))) w7 := by simpa using hb7.out
      have V := Lib.hid (V.out.below hb)
      have R := Lib.hid ((R.out.below hb).more (hb).size)
      have RB := Lib.hid ((RB.out.below hb).more (hb).size)
      have B := Lib.hid (B.out.trans ((hb).mono B.out.size))
      have P := Lib.hid (P.out.below hb)
      clear hb
      have hown8 := hown7
      rw [show (ps.map (Value.int .u8) ++ [Value.int .u8 m]) = (ps ++ [m]).map (Value.int .u8) by simp] at hown8
      have hcap7 := own_caps hown7
      refine (cget_any (some ⟨g7, 0, none⟩) (ps.length + 1) c7 (ps ++ [m]) _ (RdK.of_own hown8) (fun x hx => by
        rcases List.mem_append.1 hx with h | h
        · exact HPB.out x h
        · rw [List.mem_singleton.1 h]; exact HM.out) (by omega) hcap7.1 hcap7.2).mono ?_
      rintro e w8 ⟨⟨k2, key2, l2, ns2, A1, cA1, hok, hn, hcb, _⟩ | ⟨hno, rfl⟩, hb⟩
      case inl => exact absurd hcb (by rw [← HPS.out]; exact Pk.cb_more)
      have V := Lib.hid (V.out.below hb)
      have R := Lib.hid ((R.out.below hb).more (hb).size)
      have RB := Lib.hid ((RB.out.below hb).more (hb).size)
      have B := Lib.hid (B.out.trans ((hb).mono B.out.size))
      have P := Lib.hid (P.out.below hb)
      clear hb hno hown7 hown8 hcap7
      have al := (Below.refl w8.heap.size w8).alloc (Nat.le_refl _) (.cells #[.int .i64 0, .int .i64 0, .int .i64 0, .slice none 0 0] 24)
      have V := Lib.hid (V.out.below al)
      have R := Lib.hid ((R.out.below al).more (al).size)
      have RB := Lib.hid ((RB.out.below al).more (al).size)
      have B := Lib.hid (B.out.trans ((al).mono B.out.size))
      have P := Lib.hid (P.out.below al)
      clear al
      go_wp2_with fail
      refine (cget_any Ab nb cb bs _ RB.out HBB.out (by omega) hnb hcb2).mono ?_
      rintro e w9 ⟨⟨k3, key3, l3, ns3, A3, cA3, hok, hn, hcb, rfl, hN, hd1, hd2⟩ | ⟨hno, rfl⟩, hb⟩
      · have N3 := Lib.hid hN
        have V := Lib.hid (V.out.below hb)
        have R := Lib.hid ((R.out.below hb).more (hb).size)
        have RB := Lib.hid ((RB.out.below hb).more (hb).size)
        have B := Lib.hid (B.out.trans ((hb).mono B.out.size))
        have P := Lib.hid (P.out.below hb)
        clear hb
        have al := (Below.refl w9.heap.size w9).alloc (Nat.le_refl _) (.cells #[.int .i64 k3, .int .i64 key3, .int .i64 l3, .slice A3 ns3.length cA3] 24)
        have V := Lib.hid (V.out.below al)
        have R := Lib.hid ((R.out.below al).more (al).size)
        have RB := Lib.hid ((RB.out.below al).more (al).size)
        have B := Lib.hid (B.out.trans ((al).mono B.out.size))
        have P := Lib.hid (P.out.below al)
        have N3 := Lib.hid ((N3.out.below al).more (al).size)
        clear al
        have D := Lib.hid (CV.new w9 24 k3 key3 l3 A3 ns3.length cA3)
        have HOK3 := Lib.hid hok
        have HCB3 := Lib.hid hcb
        have hn3 : ns3.length ≤ 16 := hn
        clear hok hcb hN hn
        obtain ⟨-, ⟨d0, d1, d2, d3⟩, -⟩ := D.out
        go_wp2_with fail
        refine (cput_yes k3 key3 l3 A3 ns3.length cA3 ns3 _ N3.out HOK3.out hn3 hd1 hd2).mono ?_; rintro e w10 ⟨v3, rfl, ho⟩
        rw [← HCB3.out] at ho
        have hl3 : 4 ≤ bs.length := by rw [HCB3.out]; exact (Pk.cb_len k3 key3 l3 ns3).1
        obtain ⟨g3, c3, rfl, _, _, _⟩ := own_some ho.1 (by omega)
        have V := Lib.hid (V.out.below ho.2)
        have R := Lib.hid ((R.out.below ho.2).more (ho.2).size)
        have RB := Lib.hid ((RB.out.below ho.2).more (ho.2).size)
        have B := Lib.hid (B.out.trans ((ho.2).mono B.out.size))
        have P := Lib.hid (P.out.below ho.2)
        have N3 := Lib.hid ((N3.out.below ho.2).more (ho.2).size)
        have kA := Row.strs ho (by omega) (Below.refl _ _)
        have kB := rd_string (c := cb) RB.out (by have := RB.out.1; omega)
        clear ho
        go_wp2_with fail
        go_ret
        exact ⟨by simp, B.out⟩
      · have V := Lib.hid (V.out.below hb)
        have R := Lib.hid ((R.out.below hb).more (hb).size)
        have RB := Lib.hid ((RB.out.below hb).more (hb).size)
        have B := Lib.hid (B.out.trans ((hb).mono B.out.size))
        have P := Lib.hid (P.out.below hb)
        clear hb
        have al := (Below.refl w9.heap.size w9).alloc (Nat.le_refl _) (.cells #[.int .i64 0, .int .i64 0, .int .i64 0, .slice none 0 0] 24)
        have V := Lib.hid (V.out.below al)
        have R := Lib.hid ((R.out.below al).more (al).size)
        have RB := Lib.hid ((RB.out.below al).more (al).size)
        have B := Lib.hid (B.out.trans ((al).mono B.out.size))
        have P := Lib.hid (P.out.below al)
        clear al
        go_wp2_with fail
        go_ret
        exact ⟨by simp, B.out⟩
    · have hnegz : decide (n < 0) = false := by simpa using hneg
      obtain ⟨r, hr1⟩ : ∃ r : Nat, (r : Int) = (n) % (ps.length : Int) := ⟨((n) % (ps.length : Int)).toNat, Int.toNat_of_nonneg (Int.emod_nonneg _ hL0)⟩
      have hr2 : r < ps.length := by have := Int.emod_lt_of_pos (n) (show (0 : Int) < (ps.length : Int) by omega); omega
      have hmod : (n).tmod (ps.length : Int) = (r : Int) := by rw [hr1, Int.tmod_eq_emod_of_nonneg (by omega)]
      have hr3 : (0 : Int) ≤ (r : Int) := by omega
      clear hr1
      go_enter Try.func5, Try.ntmps5
      go_wp2_with fail
      refine (up_any _).mono ?_; rintro e w1 ⟨rfl, hb⟩
      have V := Lib.hid (V.out.below hb)
      have R := Lib.hid ((R.out.below hb).more (hb).size)
      have RB := Lib.hid ((RB.out.below hb).more (hb).size)
      have B := Lib.hid (B.out.trans ((hb).mono B.out.size))
      clear hb
      obtain ⟨-, ⟨c0, c1, c2, c3⟩, -⟩ := V.out
      go_wp2_with fail
      refine (HPUT.out _ R.out).mono ?_; rintro e w2 ⟨v, rfl, ho⟩
      have V := Lib.hid (V.out.below ho.2)
      have R := Lib.hid ((R.out.below ho.2).more (ho.2).size)
      have RB := Lib.hid ((RB.out.below ho.2).more (ho.2).size)
      have B := Lib.hid (B.out.trans ((ho.2).mono B.out.size))
      obtain ⟨g, c9, rfl, _, _, _⟩ := own_some ho.1 HP0.out
      have P := Lib.hid (show Row w1 w2 _ _ from ho)
      have hcap := own_caps ho.1
      have hcap1 := hcap.1
      have hcap2 := hcap.2
      clear ho c0 c1 c2 c3 hcap
      go_wp2_with fail
      refine (cget_any (some ⟨g, 0, none⟩) ps.length c9 ps _ (RdK.of_own P.out.1) HPB.out (by omega) hcap1 hcap2).mono ?_
      rintro e w3 ⟨⟨k2, key2, l2, ns2, A1, cA1, hok, hn, hcb, rfl, hN, hc1, hc2⟩ | ⟨hno, rfl⟩, hb⟩
      case inr => exact absurd HPS.out.symm (hno k key l ns HO.out HN16.out)
      obtain ⟨rfl, rfl, rfl, rfl⟩ := Pk.cb_inj (HPS.out.trans hcb)
      have N1 := Lib.hid hN
      rw [HNL.out] at N1 ⊢
      have V := Lib.hid (V.out.below hb)
      have R := Lib.hid ((R.out.below hb).more (hb).size)
      have RB := Lib.hid ((RB.out.below hb).more (hb).size)
      have B := Lib.hid (B.out.trans ((hb).mono B.out.size))
      have P := Lib.hid (P.out.below hb)
      clear hb hok hn hcb hN hc1 hc2
      have al := (Below.refl w3.heap.size w3).alloc (Nat.le_refl _) (.cells #[.int .i64 k, .int .i64 key, .int .i64 l, .slice A1 N cA1] 24)
      have V := Lib.hid (V.out.below al)
      have R := Lib.hid ((R.out.below al).more (al).size)
      have RB := Lib.hid ((RB.out.below al).more (al).size)
      have B := Lib.hid (B.out.trans ((al).mono B.out.size))
      have P := Lib.hid (P.out.below al)
      have N1 := Lib.hid ((N1.out.below al).more (al).size)
      clear al
      have D := Lib.hid (CV.new w3 24 k key l A1 N cA1)
      obtain ⟨-, ⟨c0, c1, c2, c3⟩, -⟩ := V.out
      obtain ⟨-, ⟨d0, d1, d2, d3⟩, -⟩ := D.out
      go_wp2_with fail
      refine (same_yes k key l A A1 N c cA1 ns _ R.out N1.out (by omega)).mono ?_; rintro e w4 ⟨rfl, hb⟩
      have V := Lib.hid (V.out.below hb)
      have R := Lib.hid ((R.out.below hb).more (hb).size)
      have RB := Lib.hid ((RB.out.below hb).more (hb).size)
      have B := Lib.hid (B.out.trans ((hb).mono B.out.size))
      have P := Lib.hid (P.out.below hb)
      have N1 := Lib.hid ((N1.out.below hb).more (hb).size)
      have D := Lib.hid (D.out.below hb)
      clear hb c0 c1 c2 c3 d0 d1 d2 d3
      go_wp2_with fail
      refine (cget_any (some ⟨g, 0, none⟩) r c9 (ps.take r) _ ((RdK.of_own P.out.1).takes (by omega)) (fun x hx => HPB.out x (List.mem_of_mem_take hx)) (by omega) (by omega) hcap2).mono ?_
      rintro e w5 ⟨⟨k2, key2, l2, ns2, A1, cA1, hok, hn, hcb, _⟩ | ⟨hno, rfl⟩, hb⟩
      case inl => exact absurd hcb (by rw [← HPS.out]; exact Pk.cb_take (by rw [HPS.out]; exact hr2))
      have V := Lib.hid (V.out.below hb)
      have R := Lib.hid ((R.out.below hb).more (hb).size)
      have RB := Lib.hid ((RB.out.below hb).more (hb).size)
      have B := Lib.hid (B.out.trans ((hb).mono B.out.size))
      have P := Lib.hid (P.out.below hb)
      clear hb hno
      have al := (Below.refl w5.heap.size w5).alloc (Nat.le_refl _) (.cells #[.int .i64 0, .int .i64 0, .int .i64 0, .slice none 0 0] 24)
      have V := Lib.hid (V.out.below al)
      have R := Lib.hid ((R.out.below al).more (al).size)
      have RB := Lib.hid ((RB.out.below al).more (al).size)
      have B := Lib.hid (B.out.trans ((al).mono B.out.size))
      have P := Lib.hid (P.out.below al)
      clear al
      have hc6 := P.out.cells HP0.out ((Below.refl (w5.alloc (.cells #[.int .i64 0, .int .i64 0, .int .i64 0, .slice none 0 0] 24)).heap.size (w5.alloc (.cells #[.int .i64 0, .int .i64 0, .int .i64 0, .slice none 0 0] 24))).alloc (Nat.le_refl _) (.cells #[] 5))
      have EMP := Lib.hid (show ((w5.alloc (.cells #[.int .i64 0, .int .i64 0, .int .i64 0, .slice none 0 0] 24)).alloc (.cells #[] 5)).ownsRow (w5.heap.size + 1) 5 1 (.slice (some ⟨w5.heap.size + 1, 0, none⟩) 0 0) 0 [] by simpa using empty_own8 (w5.alloc (.cells #[.int .i64 0, .int .i64 0, .int .i64 0, .slice none 0 0] 24)))
      go_wp2_with (first
        | (at_builtin; refine wpList_append_own _ rfl _ _ 26 rfl (w5.heap.size + 1) 5 i0 (.int .u8 0) 1 1 Try.underlying26 hi hz0 hz1 hz2 rfl (by decide) (.slice (some ⟨w5.heap.size + 1, 0, none⟩) 0 0) 0 [] rfl EMP.out ⟨g, 0, none⟩ ps.length c9 (ps.map (Value.int .u8)) rfl (by simp) hc6 (ones8 _) (by unfold maxLen; omega) (by omega) (by simp; try omega) ?_; intro v6 w6 hown6 hgrow _; have hb6 := Lib.hid (((Below.refl (w5.heap.size + 1) (w5.alloc (.cells #[.int .i64 0, .int .i64 0, .int .i64 0, .slice none 0 0] 24))).alloc (by simp) (.cells #[] 5)).grown hgrow (by simp; try omega) (own_block EMP.out)); clear hgrow hc6; rw [Nat.zero_add, List.nil_append] at hown6; obtain ⟨g6, c6, rfl, _, _, _⟩ := own_some hown6 HP0.out)
        | (at_builtin; refine wpList_append_own _ rfl _ _ 26 rfl (w5.heap.size + 1) 5 i0 (.int .u8 0) 1 1 Try.underlying26 hi hz0 hz1 hz2 rfl (by decide) (.slice (some ⟨g6, 0, none⟩) ps.length c6) ps.length (ps.map (Value.int .u8)) rfl (hown6.alloc _) ⟨w6.heap.size, 0, none⟩ 1 1 [.int .u8 m] rfl rfl (news1 _ _ _) (one8 _) (by unfold maxLen; omega) (by omega) (le_alloc hb6.out (by simp) _) ?_; intro v7 w7 hown7 hgrow _; have hb7 := Lib.hid ((hb6.out.alloc (Nat.le_trans (by simp) hb6.out.size) _).grown hgrow (le_alloc hb6.out (by simp) _) (own_block hown6)); clear hgrow; obtain ⟨g7, c7, rfl, _, _, _⟩ := own_some hown7 (by omega)))
      have hb : Below ((w5.alloc (.cells #[.int .i64 0, .int .i64 0, .int .i64 0, .slice none 0 0] 24))).heap.size ((w5.alloc (.cells #[.int .i64 0, .int .i64 0, .int .i64 0, .slice none 0 0] 24))) w7 := by simpa using hb7.out
      have V := Lib.hid (V.out.below hb)
      have R := Lib.hid ((R.out.below hb).more (hb).size)
      have RB := Lib.hid ((RB.out.below hb).more (hb).size)
      have B := Lib.hid (B.out.trans ((hb).mono B.out.size))
      have P := Lib.hid (P.out.below hb)
      clear hb
      have hown8 := hown7
      rw [show (ps.map (Value.int .u8) ++ [Value.int .u8 m]) = (ps ++ [m]).map (Value.int .u8) by simp] at hown8
      have hcap7 := own_caps hown7
      refine (cget_any (some ⟨g7, 0, none⟩) (ps.length + 1) c7 (ps ++ [m]) _ (RdK.of_own hown8) (fun x hx => by
        rcases List.mem_append.1 hx with h | h
        · exact HPB.out x h
        · rw [List.mem_singleton.1 h]; exact HM.out) (by omega) hcap7.1 hcap7.2).mono ?_
      rintro e w8 ⟨⟨k2, key2, l2, ns2, A1, cA1, hok, hn, hcb, _⟩ | ⟨hno, rfl⟩, hb⟩
      case inl => exact absurd hcb (by rw [← HPS.out]; exact Pk.cb_more)
      have V := Lib.hid (V.out.below hb)
      have R := Lib.hid ((R.out.below hb).more (hb).size)
      have RB := Lib.hid ((RB.out.below hb).more (hb).size)
      have B := Lib.hid (B.out.trans ((hb).mono B.out.size))
      have P := Lib.hid (P.out.below hb)
      clear hb hno hown7 hown8 hcap7
      have al := (Below.refl w8.heap.size w8).alloc (Nat.le_refl _) (.cells #[.int .i64 0, .int .i64 0, .int .i64 0, .slice none 0 0] 24)
      have V := Lib.hid (V.out.below al)
      have R := Lib.hid ((R.out.below al).more (al).size)
      have RB := Lib.hid ((RB.out.below al).more (al).size)
      have B := Lib.hid (B.out.trans ((al).mono B.out.size))
      have P := Lib.hid (P.out.below al)
      clear al
      go_wp2_with fail
      refine (cget_any Ab nb cb bs _ RB.out HBB.out (by omega) hnb hcb2).mono ?_
      rintro e w9 ⟨⟨k3, key3, l3, ns3, A3, cA3, hok, hn, hcb, rfl, hN, hd1, hd2⟩ | ⟨hno, rfl⟩, hb⟩
      · have N3 := Lib.hid hN
        have V := Lib.hid (V.out.below hb)
        have R := Lib.hid ((R.out.below hb).more (hb).size)
        have RB := Lib.hid ((RB.out.below hb).more (hb).size)
        have B := Lib.hid (B.out.trans ((hb).mono B.out.size))
        have P := Lib.hid (P.out.below hb)
        clear hb
        have al := (Below.refl w9.heap.size w9).alloc (Nat.le_refl _) (.cells #[.int .i64 k3, .int .i64 key3, .int .i64 l3, .slice A3 ns3.length cA3] 24)
        have V := Lib.hid (V.out.below al)
        have R := Lib.hid ((R.out.below al).more (al).size)
        have RB := Lib.hid ((RB.out.below al).more (al).size)
        have B := Lib.hid (B.out.trans ((al).mono B.out.size))
        have P := Lib.hid (P.out.below al)
        have N3 := Lib.hid ((N3.out.below al).more (al).size)
        clear al
        have D := Lib.hid (CV.new w9 24 k3 key3 l3 A3 ns3.length cA3)
        have HOK3 := Lib.hid hok
        have HCB3 := Lib.hid hcb
        have hn3 : ns3.length ≤ 16 := hn
        clear hok hcb hN hn
        obtain ⟨-, ⟨d0, d1, d2, d3⟩, -⟩ := D.out
        go_wp2_with fail
        refine (cput_yes k3 key3 l3 A3 ns3.length cA3 ns3 _ N3.out HOK3.out hn3 hd1 hd2).mono ?_; rintro e w10 ⟨v3, rfl, ho⟩
        rw [← HCB3.out] at ho
        have hl3 : 4 ≤ bs.length := by rw [HCB3.out]; exact (Pk.cb_len k3 key3 l3 ns3).1
        obtain ⟨g3, c3, rfl, _, _, _⟩ := own_some ho.1 (by omega)
        have V := Lib.hid (V.out.below ho.2)
        have R := Lib.hid ((R.out.below ho.2).more (ho.2).size)
        have RB := Lib.hid ((RB.out.below ho.2).more (ho.2).size)
        have B := Lib.hid (B.out.trans ((ho.2).mono B.out.size))
        have P := Lib.hid (P.out.below ho.2)
        have N3 := Lib.hid ((N3.out.below ho.2).more (ho.2).size)
        have kA := Row.strs ho (by omega) (Below.refl _ _)
        have kB := rd_string (c := cb) RB.out (by have := RB.out.1; omega)
        clear ho
        go_wp2_with fail
        go_ret
        exact ⟨by simp, B.out⟩
      · have V := Lib.hid (V.out.below hb)
        have R := Lib.hid ((R.out.below hb).more (hb).size)
        have RB := Lib.hid ((RB.out.below hb).more (hb).size)
        have B := Lib.hid (B.out.trans ((hb).mono B.out.size))
        have P := Lib.hid (P.out.below hb)
        clear hb
        have al := (Below.refl w9.heap.size w9).alloc (Nat.le_refl _) (.cells #[.int .i64 0, .int .i64 0, .int .i64 0, .slice none 0 0] 24)
        have V := Lib.hid (V.out.below al)
        have R := Lib.hid ((R.out.below al).more (al).size)
        have RB := Lib.hid ((RB.out.below al).more (al).size)
        have B := Lib.hid (B.out.trans ((al).mono B.out.size))
        have P := Lib.hid (P.out.below al)
        clear al
        go_wp2_with fail
        go_ret
        exact ⟨by simp, B.out⟩
end Go.Proofs.Ytbobaappilploaa
