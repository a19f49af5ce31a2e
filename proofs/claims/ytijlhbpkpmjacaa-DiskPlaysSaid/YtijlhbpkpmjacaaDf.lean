/- The law DiskKeeps. -/
import Derived.Test.YtijlhbpkpmjacaaDb
namespace Go.Proofs.Ytijlhbpkpmjacaa.Dk
theorem zs_get (n p : Nat) : (List.replicate n (0 : Int)).getD p 0 = 0 := by rw [List.getD_eq_getElem?_getD, List.getElem?_replicate]; split <;> rfl
/-- what is there behind a crash of two writings, the first one synced -/
theorem keeps_get (aa bs picks : List Int) (q La o Lb i : Nat) (hq : q + La ≤ 512) (ho : o + Lb ≤ 512) (hi : i < La) :
    (crash (wr aa (List.replicate 512 0) q La) (wr bs (wr aa (List.replicate 512 0) q La) o Lb) (dirt (List.replicate 8 0) o Lb) picks 8).getD (q + i) 0 = aa.getD i 0 ∨
    (o ≤ q + i ∧ q + i < o + Lb ∧ (crash (wr aa (List.replicate 512 0) q La) (wr bs (wr aa (List.replicate 512 0) q La) o Lb) (dirt (List.replicate 8 0) o Lb) picks 8).getD (q + i) 0 = bs.getD (q + i - o) 0) := by
  have h1 : (wr aa (List.replicate 512 0) q La).getD (q + i) 0 = aa.getD i 0 := by
    rw [wr_get _ _ _ _ _ (by rw [List.length_replicate]; omega), if_pos (by omega)]; congr 1; omega
  rw [crash_get _ _ _ _ _ _ (by rw [wr_len, List.length_replicate]; omega)]
  split
  · rw [wr_get _ _ _ _ _ (by rw [wr_len, List.length_replicate]; omega)]
    split
    · exact .inr ⟨by omega, by omega, rfl⟩
    · exact .inl h1
  · exact .inl h1
/-- all picks of 64 keep all that was written -/
theorem keeps_all (bs X : List Int) (o Lb : Nat) (hX : X.length = 512) (hb : bs.length = Lb) (ho : o + Lb ≤ 512) :
    ((crash X (wr bs X o Lb) (dirt (List.replicate 8 0) o Lb) [64, 64, 64, 64, 64, 64, 64, 64] 8).drop o).take Lb = bs := by
  refine ext (by rw [List.length_take, List.length_drop, crash_len]; omega) fun i hi => ?_
  rw [List.length_take, List.length_drop, crash_len] at hi
  rw [List.getD_eq_getElem?_getD, List.getElem?_take_of_lt (by omega), List.getElem?_drop, ← List.getD_eq_getElem?_getD, crash_get _ _ _ _ _ _ (by omega), if_pos, wr_get _ _ _ _ _ (by omega), if_pos (by omega)]
  · congr 1; omega
  · refine ⟨by omega, ?_, ?_⟩
    · rw [dirt_get _ _ _ _ (by simp; omega), if_pos (by omega)]
    · have h1 := many_le (dirt (List.replicate 8 0) o Lb) ((o + i) / 64)
      have h2 : many (dirt (List.replicate 8 0) o Lb) ((o + i) / 64) < 8 := by omega
      have h3 : ∀ j, j < 8 → ([64, 64, 64, 64, 64, 64, 64, 64] : List Int).getD j 0 = 64 := by decide
      rw [h3 _ h2]; omega
end Go.Proofs.Ytijlhbpkpmjacaa.Dk
namespace Go.Proofs.Ytijlhbpkpmjacaa
open Go.ChangeShapes Go.WideShapes Go.ChangeAt Go.RowKit Go.Lib
set_option maxHeartbeats 4000000 in
set_option maxRecDepth 1000000 in
theorem keeps_walk (p o : Int) (A1 A2 A3 : Option Addr) (n1 c1 n2 c2 n3 c3 : Nat) (aa bs ps : List Int) (hp : -9223372036854775808 ≤ p ∧ p ≤ 9223372036854775807) (ho : -9223372036854775808 ≤ o ∧ o ≤ 9223372036854775807) (w : World)
    (r1 : RdK .u8 w w.heap.size A1 n1 aa) (r2 : RdK .u8 w w.heap.size A2 n2 bs) (r3 : RdK .i64 w w.heap.size A3 n3 ps) (hc1 : n1 ≤ c1 ∧ c1 ≤ maxLen) (hc2 : n2 ≤ c2 ∧ c2 ≤ maxLen) (hc3 : n3 ≤ c3 ∧ c3 ≤ maxLen) (hps : ∀ x ∈ ps, -9223372036854775808 ≤ x ∧ x ≤ 9223372036854775807) :
    Calls Try.prog 5 #[.int .i64 p, .slice A1 n1 c1, .int .i64 o, .slice A2 n2 c2, .slice A3 n3 c3] w fun e w' => e = .returned (.bool true) ∧ Below w.heap.size w w' := by
  have R := Lib.hid (⟨r1, r2, r3⟩ : RdK .u8 w w.heap.size A1 n1 aa ∧ RdK .u8 w w.heap.size A2 n2 bs ∧ RdK .i64 w w.heap.size A3 n3 ps)
  have HC := Lib.hid (show (n1 ≤ c1 ∧ c1 ≤ maxLen) ∧ (n2 ≤ c2 ∧ c2 ≤ maxLen) ∧ (n3 ≤ c3 ∧ c3 ≤ maxLen) from ⟨hc1, hc2, hc3⟩)
  have HP := Lib.hid hp
  have HO := Lib.hid ho
  have HS := Lib.hid hps
  have HL := Lib.hid (show aa.length = n1 ∧ bs.length = n2 from ⟨r1.1, r2.1⟩)
  have l1 : (n1 : Int) ≤ 9223372036854775807 := by have := len64 hc1.2; omega
  have l2 : (n2 : Int) ≤ 9223372036854775807 := by have := len64 hc2.2; omega
  have l3 : (n3 : Int) ≤ 9223372036854775807 := by have := len64 hc3.2; omega
  clear r1 r2 r3 hc1 hc2 hc3 hp ho hps
  by_cases h1 : 500 < n1 ∨ 500 < n2 ∨ 2000 < n3
  · have hh : (500 : Int) < (n1 : Int) ∨ (500 : Int) < (n2 : Int) ∨ (2000 : Int) < (n3 : Int) := by omega
    go_enter Try.func5, Try.ntmps5
    go_wp2_with fail
    refine (up_any _).mono ?_; rintro e w1 ⟨rfl, hb⟩; have B := Lib.hid hb; clear hb
    rcases hh with h | h | h
    · go_wp2_with fail
      go_ret
      exact ⟨by simp, B.out⟩
    · go_wp2_with fail
      all_goals (go_ret; exact ⟨by simp, B.out⟩)
    · go_wp2_with fail
      all_goals (go_ret; exact ⟨by simp, B.out⟩)
  have b1 : decide ((500 : Int) < (n1 : Int)) = false := by simp; omega
  have b2 : decide ((500 : Int) < (n2 : Int)) = false := by simp; omega
  have b3 : decide ((2000 : Int) < (n3 : Int)) = false := by simp; omega
  go_enter Try.func5, Try.ntmps5
  go_wp2_with fail
  refine (up_any _).mono ?_; rintro e w1 ⟨rfl, hb⟩; have B := Lib.hid hb; clear hb
  go_wp2_with fail
  refine (cnew_yes 8 (by decide) (by decide) _).mono ?_; rintro e w2 ⟨b, S, rfl, hD, hB, hS⟩
  have NS := Lib.hid (show ∀ k, S k → w.heap.size ≤ k from fun k hk => Nat.le_trans B.out.size (hS k hk))
  have D := Lib.hid hD
  have B := Lib.hid (B.out.trans (hB.mono B.out.size))
  clear hD hB hS
  go_wp2_with fail
  refine (cwrite_any _ D.out ((R.out.1.below B.out).more B.out.size) (R.out.1.apart NS.out) HP.out HC.out.1).mono ?_
  rintro e w3 ⟨v1, now1, dr1, rfl, hl, hv⟩
  have HV1 := Lib.hid hv
  obtain ⟨S1, hD, -, hb, hS, -⟩ := hl.use NS.out B.out.size
  have NS := Lib.hid hS
  have D2 := Lib.hid hD
  have B := Lib.hid (B.out.trans hb)
  clear hl hD hb hS hv
  go_wp2_with fail
  refine (csync _ D2.out).mono ?_; rintro e w4 ⟨rfl, hl⟩
  obtain ⟨S2, hD, -, hb, hS, -⟩ := hl.use NS.out B.out.size
  have NS := Lib.hid hS
  have D3 := Lib.hid hD
  have B := Lib.hid (B.out.trans hb)
  clear hl hD hb hS
  go_wp2_with fail
  refine (cwrite_any _ D3.out ((R.out.2.1.below B.out).more B.out.size) (R.out.2.1.apart NS.out) HO.out HC.out.2.1).mono ?_
  rintro e w5 ⟨v2, now2, dr2, rfl, hl, hv⟩
  have HV2 := Lib.hid hv
  obtain ⟨S3, hD, -, hb, hS, -⟩ := hl.use NS.out B.out.size
  have NS := Lib.hid hS
  have D4 := Lib.hid hD
  have B := Lib.hid (B.out.trans hb)
  clear hl hD hb hS hv
  go_wp2_with fail
  refine (ccrash _ D4.out ((R.out.2.2.below B.out).more B.out.size) (R.out.2.2.apart NS.out) HS.out HC.out.2.2).mono ?_; rintro e w6 ⟨rfl, hl⟩
  obtain ⟨S4, hD, -, hb, hS, -⟩ := hl.use NS.out B.out.size
  have NS := Lib.hid hS
  have D := Lib.hid hD
  have B := Lib.hid (B.out.trans hb)
  clear hl hD hb hS
  rcases HV1.out with ⟨q1, q2, rfl, rfl, rfl⟩ | ⟨-, rfl, rfl, rfl⟩
  case inr =>
    clear D2 D3 D4 D
    go_wp2_with fail
    go_ret
    exact ⟨by simp, B.out⟩
  rcases HV2.out with ⟨q3, q4, rfl, rfl, rfl⟩ | ⟨-, rfl, rfl, rfl⟩
  case inr =>
    clear D2 D3 D4 D
    go_wp2_with fail
    go_ret
    exact ⟨by simp, B.out⟩
  clear D2 D3 D4 HV1 HV2 HS
  obtain ⟨q, rfl⟩ : ∃ q : Nat, p = q := ⟨p.toNat, by omega⟩
  obtain ⟨s, rfl⟩ : ∃ s : Nat, o = s := ⟨o.toNat, by omega⟩
  simp only [Int.toNat_natCast] at D q2 q4
  have KG := Lib.hid (fun i hi => Dk.keeps_get aa bs ps q n1 s n2 i (by omega) (by omega) hi)
  have hX : (Dk.crash (Dk.wr aa (List.replicate 512 0) q n1) (Dk.wr bs (Dk.wr aa (List.replicate 512 0) q n1) s n2) (Dk.dirt (List.replicate 8 0) s n2) ps 8).length = 512 := by rw [Dk.crash_len, Dk.wr_len, List.length_replicate]
  rw [show (64 * 8) = 512 from rfl] at D
  generalize Dk.crash (Dk.wr aa (List.replicate 512 0) q n1) (Dk.wr bs (Dk.wr aa (List.replicate 512 0) q n1) s n2) (Dk.dirt (List.replicate 8 0) s n2) ps 8 = X at *
  have HX := Lib.hid hX
  clear hX
  have KA := Lib.hid (Dk.keeps_all bs X s n2 HX.out HL.out.2 (by omega))
  go_wp2_with fail
  refine (cread_yes (p := q) (q := n1) _ D.out (by omega)).mono ?_; rintro e w7 ⟨A5, c5, rfl, -, -, hT, hb⟩
  have T := Lib.hid hT.rd
  have D := Lib.hid (D.out.below hb)
  have B := Lib.hid (B.out.trans (hb.mono B.out.size))
  clear hT hb
  go_wp2_with fail
  go_loopw [18] (fun iv wr => ∃ i k : Nat, iv = .int .i64 i ∧ i ≤ n1 ∧ wr = w7.drewN k) (fun iv _ => n1 - (RowKit.intOf iv).toNat)
  case atStart => exact ⟨0, 0, rfl, Nat.zero_le _, rfl⟩
  case round =>
    obtain ⟨i, k, rfl, hin, rfl⟩ := hrel
    by_cases hlt : i < n1
    · have hltz : (i : Int) < (n1 : Int) := by omega
      obtain ⟨gc, oc, rfl, -, cc⟩ := T.out.2 i hlt
      obtain ⟨ga, oa, rfl, -, ca⟩ := (R.out.1.below B.out).2 i hlt
      have hcX : ((X.drop q).take n1).getD i 0 = X.getD (q + i) 0 := by rw [List.getD_eq_getElem?_getD, List.getElem?_take_of_lt hlt, List.getElem?_drop, ← List.getD_eq_getElem?_getD]
      have hk := KG.out i hlt
      rw [hcX] at cc
      obtain ⟨pN, hpN⟩ : ∃ x, x = q + i := ⟨_, rfl⟩
      obtain ⟨eN, heN⟩ : ∃ x, x = s + n2 := ⟨_, rfl⟩
      rw [← hpN] at cc hk
      have ra : IntKind.i64.wrap ((q : Int) + (i : Int)) = (pN : Int) := by rw [IntKind.wrap_i64]; omega
      have rb : IntKind.i64.wrap ((s : Int) + (n2 : Int)) = (eN : Int) := by rw [IntKind.wrap_i64]; omega
      generalize aa.getD i 0 = av at *
      generalize X.getD pN 0 = cv at *
      rcases Nat.lt_or_ge pN s with h1 | h1
      · obtain rfl : cv = av := by rcases hk with h | ⟨h2, _⟩; exact h; omega
        have d1 : decide ((s : Int) ≤ (pN : Int)) = false := by simp; omega
        clear hk hcX hpN heN
        go_wp2_with fail
        go_quiet (fail)
        go_wp2_with fail
        exact ⟨⟨i + 1, k + nq, by go_num, by omega, rfl⟩, by simp [RowKit.intOf]; omega⟩
      · have d1 : decide ((s : Int) ≤ (pN : Int)) = true := by simp; omega
        rcases Nat.lt_or_ge pN eN with h2 | h2
        · have d2 : decide ((pN : Int) < (eN : Int)) = true := by simp; omega
          obtain ⟨j, hj⟩ : ∃ j, pN = s + j := ⟨pN - s, by omega⟩
          obtain ⟨gb, ob, rfl, -, cb⟩ := (R.out.2.1.below B.out).2 j (by omega)
          rw [show pN - s = j by omega] at hk
          generalize bs.getD j 0 = bv at *
          by_cases hca : cv = av
          · subst hca
            clear hk hcX hpN heN hj cb
            go_wp2_with fail
            go_quiet (fail)
            go_wp2_with fail
            exact ⟨⟨i + 1, k + nq, by go_num, by omega, rfl⟩, by simp [RowKit.intOf]; omega⟩
          · have hb : cv = bv := by rcases hk with h | ⟨_, _, h⟩; exact absurd h hca; exact h
            subst hb
            have rc : IntKind.i64.wrap ((pN : Int) - (s : Int)) = (j : Int) := by rw [IntKind.wrap_i64]; omega
            have bj : (j : Int) < (n2 : Int) := by omega
            have HCA := Lib.hid hca
            have hne : (cv == av) = false := by simpa using hca
            have hne2 : (cv != av) = true := by simpa using hca
            clear hk hcX hpN heN hj hca
            go_wp2_with fail
            go_quiet (fail)
            go_wp2_with fail
            exact ⟨⟨i + 1, k + nq, by go_num, by omega, rfl⟩, by simp [RowKit.intOf]; omega⟩
        · obtain rfl : cv = av := by rcases hk with h | ⟨_, h3, _⟩; exact h; omega
          have d2 : decide (pN < eN) = false := decide_eq_false (by omega)
          clear hk hcX hpN heN
          go_wp2_with fail
          go_quiet (fail)
          go_wp2_with fail
          exact ⟨⟨i + 1, k + nq, by go_num, by omega, rfl⟩, by simp [RowKit.intOf]; omega⟩
    · obtain rfl : i = n1 := by omega
      have D := Lib.hid (D.out.below (below_drewN _ _ k))
      have B := Lib.hid (B.out.trans (below_drewN _ _ k))
      have B := Lib.hid (B.out)
      go_wp2_with fail
      refine (cwrite_yes (p := s) _ D.out ((R.out.2.1.below B.out).more B.out.size) (R.out.2.1.apart NS.out) (by omega) HC.out.2.1).mono ?_
      rintro e w8 ⟨rfl, hl⟩
      obtain ⟨S5, hD, -, hb, hS, -⟩ := hl.use NS.out B.out.size
      have NS := Lib.hid hS
      have D := Lib.hid (hD.alloc (.cells #[.int .i64 64, .int .i64 64, .int .i64 64, .int .i64 64, .int .i64 64, .int .i64 64, .int .i64 64, .int .i64 64] 3))
      have HN := Lib.hid hD.new_not
      have B := Lib.hid ((B.out.trans hb).alloc (B.out.trans hb).size (.cells #[.int .i64 64, .int .i64 64, .int .i64 64, .int .i64 64, .int .i64 64, .int .i64 64, .int .i64 64, .int .i64 64] 3))
      have RP := Lib.hid (show RdK .i64 (w8.alloc (.cells #[.int .i64 64, .int .i64 64, .int .i64 64, .int .i64 64, .int .i64 64, .int .i64 64, .int .i64 64, .int .i64 64] 3)) (w8.alloc (.cells #[.int .i64 64, .int .i64 64, .int .i64 64, .int .i64 64, .int .i64 64, .int .i64 64, .int .i64 64, .int .i64 64] 3)).heap.size (some ⟨w8.heap.size, 0, none⟩) 8 [64, 64, 64, 64, 64, 64, 64, 64] from lit_rd w8 3 [64, 64, 64, 64, 64, 64, 64, 64])
      clear hl hD hb hS
      go_wp2_with fail
      refine (ccrash _ D.out RP.out (not_at HN.out) (by decide) (by decide)).mono ?_; rintro e w9 ⟨rfl, hl⟩
      obtain ⟨S6, hD, -, hb, hS, -⟩ := hl.use NS.out B.out.size
      have D := Lib.hid hD
      have B := Lib.hid (B.out.trans hb)
      clear hl hD hb hS
      go_wp2_with fail
      refine (cread_yes (p := s) (q := n2) _ D.out (by omega)).mono ?_; rintro e w10 ⟨A6, c6, rfl, -, -, hT, hb⟩
      rw [KA.out] at hT
      have B := Lib.hid (B.out.trans (hb.mono B.out.size))
      have kA := rd_str (c := c6) hT.rd
      have kB := rd_str (c := c2) (R.out.2.1.below B.out)
      clear hT hb
      go_wp2_with fail
      go_ret
      exact ⟨by simp, B.out⟩
end Go.Proofs.Ytijlhbpkpmjacaa
