/- The law JournalKeeps: the walk. -/
import Derived.Test.YtghepjppjmpihaaJd
namespace Go.Proofs.Ytghepjppjmpihaa
open Go.ChangeShapes Go.WideShapes Go.ChangeAt Go.RowKit Go.Lib

set_option maxHeartbeats 3000000 in
set_option maxRecDepth 1000000 in
theorem keeps_walk (A : Option Addr) (n c : Nat) (A1 : Option Addr) (n1 c1 : Nat) (bs : List Int) (z : Int) (A2 : Option Addr) (n2 c2 : Nat) (ps : List Int) (A3 : Option Addr) (n3 c3 : Nat) (ms : List Int) (hz : -9223372036854775808 ≤ z ∧ z ≤ 9223372036854775807) (w : World)
    (hr : Ins w w.heap.size A n) (r1 : RdK .u8 w w.heap.size A1 n1 bs) (r2 : RdK .i64 w w.heap.size A2 n2 ps) (r3 : RdK .u8 w w.heap.size A3 n3 ms) (hc : n ≤ c ∧ c ≤ maxLen) (hc1 : n1 ≤ c1 ∧ c1 ≤ maxLen) (hc2 : n2 ≤ c2 ∧ c2 ≤ maxLen) (hc3 : n3 ≤ c3 ∧ c3 ≤ maxLen) (hps : ∀ x ∈ ps, -9223372036854775808 ≤ x ∧ x ≤ 9223372036854775807) (y1 : Jk.By bs) (y3 : Jk.By ms) :
    Calls Try.prog 4 #[.slice A n c, .slice A1 n1 c1, .int .i64 z, .slice A2 n2 c2, .slice A3 n3 c3] w fun e w' => e = .returned (.bool true) ∧ Below w.heap.size w w' := by
  have q1 := eqE1
  have R := Lib.hid hr
  have R1 := Lib.hid r1
  have R2 := Lib.hid r2
  have R3 := Lib.hid r3
  have HCS := Lib.hid (show (n1 ≤ c1 ∧ c1 ≤ maxLen) ∧ (n2 ≤ c2 ∧ c2 ≤ maxLen) ∧ (n3 ≤ c3 ∧ c3 ≤ maxLen) from ⟨hc1, hc2, hc3⟩)
  have HPS := Lib.hid hps
  have YY := Lib.hid (⟨y1, y3⟩ : Jk.By bs ∧ Jk.By ms)
  have HZ := Lib.hid hz
  have HL := Lib.hid (show bs.length = n1 ∧ ms.length = n3 from ⟨r1.1, r3.1⟩)
  have l1 : (n : Int) ≤ 9223372036854775807 := by have := len64 hc.2; omega
  have l5 : (n1 : Int) ≤ 9223372036854775807 := by have := len64 hc1.2; omega
  have l3 : (n2 : Int) ≤ 9223372036854775807 := by have := len64 hc2.2; omega
  have l4 : (n3 : Int) ≤ 9223372036854775807 := by have := len64 hc3.2; omega
  obtain ⟨i0, hi, hz0, hz1, hz2⟩ := info_parts infoR
  have hpk := pk_bd z (by decide : (0 : Int) < 3)
  obtain ⟨g, hg⟩ : ∃ g, g = 1 + pk z 3 := ⟨_, rfl⟩
  have HG := Lib.hid (show 1 ≤ g ∧ g ≤ 3 by omega)
  have ra : IntKind.i64.wrap (1 + pk z 3) = g := by rw [IntKind.wrap_i64]; omega
  obtain ⟨k, hk⟩ : ∃ k, k = pk z 3 := ⟨_, rfl⟩
  have HK := Lib.hid hk
  rw [← hk] at ra
  clear hr r1 r2 r3 hc hc1 hc2 hc3 hps hz hpk hg hk y1 y3
  by_cases h1 : 20 < n ∨ 2000 < n2
  · have hh : (20 : Int) < (n : Int) ∨ (2000 : Int) < (n2 : Int) := by omega
    go_enter Try.func4, Try.ntmps4
    go_wp2_with fail
    refine (up_any _).mono ?_; rintro e w1 ⟨rfl, hb⟩; have B := Lib.hid hb; clear hb
    rcases hh with h | h
    · go_wp2_with fail
      go_ret
      exact ⟨by simp, B.out⟩
    · go_wp2_with fail
      all_goals (go_ret; exact ⟨by simp, B.out⟩)
  have b1 : decide ((20 : Int) < (n : Int)) = false := by simp; omega
  have b2 : decide ((2000 : Int) < (n2 : Int)) = false := by simp; omega
  go_enter Try.func4, Try.ntmps4
  go_wp2_with fail
  refine (up_any _).mono ?_; rintro e w1 ⟨rfl, hb⟩; have B := Lib.hid hb; clear hb
  go_wp2_with fail
  obtain ⟨m, hm⟩ : ∃ m : Nat, m = 64 := ⟨_, rfl⟩
  have HM := Lib.hid hm
  rw [show (64 : Int) = (m : Int) by omega]
  refine (cnew_yes m (by omega) (by omega) _).mono ?_; rintro e w2 ⟨d, S, rfl, hD, hb, hS⟩
  have D := Lib.hid hD
  have HS := Lib.hid (show ∀ k, S k → w.heap.size ≤ k from fun k hk => Nat.le_trans B.out.size (hS k hk))
  have B := Lib.hid (B.out.trans (hb.mono B.out.size))
  clear hD hb hS hm
  go_wp2_with fail
  refine (copen_dj _ D.out (Jk.J_zero _) (Jk.By.zs _) HS.out B.out.size).mono ?_; rintro e w3 ⟨j, S3, T3, rfl, hD, hb, -, -⟩
  have D := Lib.hid hD
  have B := Lib.hid (B.out.trans hb)
  clear hD hb
  go_wp2_with fail
  go_loopw [16, 17] (fun vv iv wr => ∃ (i cnt : Nat) (Aw : Option Addr) (cw : Nat) (vs : List Value) (S T : Nat → Prop) (now : List Int) (rs : List (List Int)) (e : Nat), iv = .int .i64 i ∧ vv = .slice Aw cnt cw ∧ i ≤ n ∧ cnt ≤ i ∧ Hid (Tw w wr d j m (.slice Aw cnt cw) cnt vs S T now rs e)) (fun _ iv _ => n - (RowKit.intOf iv).toNat)
  case atStart => exact ⟨0, 0, none, 0, [], S3, T3, _, _, _, rfl, rfl, Nat.zero_le _, Nat.le_refl _, D.out, B.out, World.ownsRow_nil _ _ _ _, (fun k hk => by cases hk), rfl, rfl, fun k hk => absurd hk (Nat.not_lt_zero _)⟩
  case round =>
    clear D B
    obtain ⟨i, cnt, Aw, cw, vs, S, T, now, rs, e, rfl, rfl, hin, hcn, H⟩ := hrel
    by_cases hlt : i < n
    · have hltz : (i : Int) < (n : Int) := by omega
      obtain ⟨g, off, A', n', c', zs, rfl, hg, cc, hcc, hrz, hyz⟩ := (R.out.below H.out.b) i hlt
      have RZ := Lib.hid hrz
      have YZ := Lib.hid hyz
      have HC := Lib.hid hcc
      have LZ := Lib.hid hrz.1
      have R0 := Lib.hid (show RdK .u8 w w.heap.size A' n' zs from by
        obtain ⟨g1, off1, A1, n1, c1, zs1, e1, k1, k2, k3, k4, -⟩ := R.out i hlt
        injection e1 with e1; injection e1 with e2 e3; subst e2 e3
        have := (H.out.b.cell (p := ⟨g, off + i, none⟩) hg).trans k2
        rw [cc] at this
        injection this with this; injection this with t1 t2 t3
        subst t1 t2 t3
        exact ⟨LZ.out, fun q hq => by
          obtain ⟨b2, o2, e2, h2, h3⟩ := RZ.out.2 q hq
          exact ⟨b2, o2, e2, h2, (H.out.b.cell (p := ⟨b2, o2 + q, none⟩) h2).symm.trans h3⟩⟩)
      have l2 : (n' : Int) ≤ 9223372036854775807 := by have := len64 hcc.2; omega
      clear hrz hcc hyz
      by_cases h2 : 1024 < n'
      · have h2z : (1024 : Int) < (n' : Int) := by omega
        go_wp2_with fail
        go_ret
        exact ⟨by simp, H.out.b⟩
      have h2b : decide ((1024 : Int) < (n' : Int)) = false := by simp; omega
      go_wp2_with fail
      refine (append_any _ H.out.dj H.out.b.size RZ.out HC.out YZ.out).mono ?_; rintro e w4 ⟨u1, S4, T4, now4, rs4, e4, rfl, hD, ⟨hb, hU, hN⟩, hv⟩
      have D := Lib.hid hD
      have B := Lib.hid (H.out.b.trans hb)
      have O := Lib.hid (ownsRow_but H.out.o hU H.out.a)
      have OA := Lib.hid (show ∀ k, (Value.slice Aw cnt cw).ownBlock = some k → ¬ (S4 k ∨ T4 k) from fun k hk h => by
        rcases hN k h with h | h | h
        · exact H.out.a k hk (.inl h)
        · exact H.out.a k hk (.inr h)
        · have := (H.out.o.lt k hk).2; omega)
      have K := Lib.hid H.out.k
      have R4 := Lib.hid (R.out.below B.out)
      have c2 := (hb.cell (p := ⟨g, off + i, none⟩) hg).trans cc
      clear hD hb hU hN cc H
      rcases hv with ⟨-, rfl, rfl, rfl, rfl⟩ | ⟨k0, rfl, rfl, rfl, rfl⟩
      · have AL := Lib.hid ((Below.refl w4.heap.size w4).alloc (Nat.le_refl _) (.cells #[.slice A' n' c'] 22))
        have O1 := Lib.hid (O.out.alloc (.cells #[.slice A' n' c'] 22))
        have CC : (w4.alloc (.cells #[.slice A' n' c'] 22)).cell? ⟨w4.heap.size, 0, none⟩ = some (.slice A' n' c') := by simp
        have HS1 := Lib.hid (show w.heap.size ≤ (w4.alloc (.cells #[.slice A' n' c'] 22)).heap.size from Nat.le_trans B.out.size AL.out.size)
        go_wp2_with (at_builtin; refine wpList_push_at _ rfl _ _ 44 rfl w.heap.size 22 i0 (.slice none 0 0) 24 Try.underlying44 hi hz0 hz1 hz2 rfl _ cnt _ rfl O1.out w4.heap.size (.slice A' n' c') rfl CC rfl (by unfold maxLen; omega) (by omega) HS1.out ?_; intro v' w5 hown hb hwh; obtain ⟨A5, c5, rfl⟩ := own_form hown; have T5 := Lib.hid (show Tw w w5 d j m (.slice A5 (cnt + 1) c5) (cnt + 1) (vs ++ [.slice A' n' c']) S4 T4 _ (rs ++ [zs]) _ from ⟨(D.out.below AL.out).but hb (fun k hk hk2 => OA.out k hk2 hk), B.out.trans ((AL.out.mono B.out.size).trans (hb.below (fun k hk => own_block O1.out k hk) HS1.out)), hown, (fun k hk h => by rcases hwh k hk with h2 | h2; exact OA.out k h2 h; have := D.out.lt k h; have := AL.out.size; omega), by have := K.out.push (c := c') (by rw [LZ.out]; exact R0.out); rwa [LZ.out] at this⟩); clear hown hb hwh O1 CC)
        exact ⟨⟨i + 1, cnt + 1, A5, c5, _, _, _, _, _, _, by go_num, rfl, by omega, by omega, T5.out⟩, by simp [RowKit.intOf]; omega⟩
      · go_wp2_with fail
        exact ⟨⟨i + 1, cnt, Aw, cw, vs, S4, T4, _, _, _, by go_num, rfl, by omega, by omega, D.out, B.out, O.out, OA.out, K.out⟩, by simp [RowKit.intOf]; omega⟩
    · obtain rfl : i = n := by omega
      have hltz : ¬ (i : Int) < (i : Int) := by omega
      go_wp2_with fail
      refine (pick_any z 3 HZ.out (by decide) _).mono ?_; rintro v w' ⟨rfl, hw⟩; subst hw
      rw [← HK.out]
      go_wp2_with fail
      refine (start_any _ H.out.dj H.out.b.size (R1.out.below H.out.b) HCS.out.1 YY.out.1 HG.out).mono ?_; rintro v w4 ⟨u, S4, st4, now4, dr4, rfl, hD, ⟨hb, hU, hN⟩, -, hcr⟩
      obtain ⟨rsK, eK, hJK, hbK, hor⟩ := hcr ps
      have JK := Lib.hid hJK
      have YK := Lib.hid hbK
      have OR := Lib.hid hor
      have D := Lib.hid hD
      have HS := Lib.hid (show ∀ k, S4 k → w.heap.size ≤ k from fun k hk => by
        rcases hN k hk with h | h | h
        · exact H.out.dj.ss k h
        · exact H.out.dj.tt k h
        · exact Nat.le_trans H.out.b.size h)
      have O := Lib.hid (ownsRow_but H.out.o hU H.out.a)
      have OA := Lib.hid (show ∀ k, (Value.slice Aw cnt cw).ownBlock = some k → ¬ S4 k from fun k hk h => by
        rcases hN k h with h | h | h
        · exact H.out.a k hk (.inl h)
        · exact H.out.a k hk (.inr h)
        · have := (H.out.o.lt k hk).2; omega)
      have K := Lib.hid H.out.k
      have B := Lib.hid (H.out.b.trans hb)
      clear hD hb hU hN hcr hJK hbK hor H
      go_wp2_with fail
      refine (ccrash (picks := ps) _ D.out ((R2.out.below B.out).more B.out.size) (R2.out.apart HS.out) HPS.out HCS.out.2.1).mono ?_; rintro v w5 ⟨rfl, hl⟩
      obtain ⟨S5, hD, hU, hb, hS, hN⟩ := hl.use HS.out B.out.size
      obtain ⟨X, hX⟩ : ∃ X, X = Dk.crash st4 now4 dr4 ps m := ⟨_, rfl⟩
      rw [← hX] at hD JK YK
      have D := Lib.hid hD
      have HS := Lib.hid hS
      have OA := Lib.hid (show ∀ k, (Value.slice Aw cnt cw).ownBlock = some k → ¬ S5 k from fun k hk => hN k (O.out.lt k hk).2 (OA.out k hk))
      have O := Lib.hid (ownsRow_but O.out hU (by assumption))
      have B := Lib.hid (B.out.trans hb)
      clear hD hb hU hN hl hS hX
      go_wp2_with fail
      refine (copen_dj _ D.out JK.out YK.out HS.out B.out.size).mono ?_; rintro v w6 ⟨j2, S6, T6, rfl, hD, hb, hU, hN⟩
      obtain ⟨Y, hY⟩ : ∃ Y, Y = Jk.zb X eK := ⟨_, rfl⟩
      rw [← hY] at hD
      have D := Lib.hid hD
      have O := Lib.hid (ownsRow_but O.out hU OA.out)
      have B := Lib.hid (B.out.trans hb)
      have W6 := Lib.hid B.out.size
      clear hD hb hU hN hY
      go_wp2_with fail
      refine (crecords _ D.out).mono ?_; rintro v w7 ⟨ur, rfl, hV, hb⟩
      obtain ⟨Ar, cr, rfl, -⟩ := hV.rd
      obtain ⟨lr, hlr⟩ : ∃ x, x = rsK.length := ⟨_, rfl⟩
      rw [← hlr] at hV ⊢
      have LR := Lib.hid hlr
      have V := Lib.hid hV.b
      have OF := Lib.hid (show ∀ k, w6.heap.size ≤ k → k < w7.heap.size → ¬ (S6 k ∨ T6 k) from fun k h1 _ hs => by have := D.out.lt k hs; omega)
      have HAB := Lib.hid hb.size
      have D := Lib.hid (D.out.below hb)
      have O := Lib.hid (ownsRow_below O.out hb)
      have B := Lib.hid (B.out.trans (hb.mono B.out.size))
      clear hV hb hlr
      have E := Lib.hid (empty_row w7 22)
      have AL := Lib.hid ((Below.refl w7.heap.size w7).alloc (Nat.le_refl _) (.cells #[] 22))
      have O1 := Lib.hid (O.out.alloc (.cells #[] 22))
      have LC := Lib.hid (show cnt ≤ 20 by omega)
      go_wp2_with (first
        | (at_builtin; refine wpList_append_row _ rfl _ _ 44 rfl w7.heap.size 22 i0 (.slice none 0 0) 24 Try.underlying44 hi hz0 hz1 hz2 rfl _ 0 [] rfl E.out (.slice Aw cnt cw) w.heap.size cnt vs rfl O1.out K.out.ones (by have := LC.out; unfold maxLen; omega) (by have := LC.out; omega) AL.out.size ?_; intro v' w8 hown hb; rw [Nat.zero_add, List.nil_append] at hown; obtain ⟨AX, cX, rfl⟩ := own_form hown; have B8 := Lib.hid ((AL.out.trans hb).alloc (AL.out.trans hb).size (.cells #[.slice A1 n1 c1] 22)); have O8 := Lib.hid (hown.alloc (.cells #[.slice A1 n1 c1] 22)); have CC : (w8.alloc (.cells #[.slice A1 n1 c1] 22)).cell? ⟨w8.heap.size, 0, none⟩ = some (.slice A1 n1 c1) := (by simp); clear hown hb)
        | (at_builtin; refine wpList_push _ rfl _ _ 44 rfl w7.heap.size 22 i0 (.slice none 0 0) 24 Try.underlying44 hi hz0 hz1 hz2 rfl _ cnt vs rfl O8.out w8.heap.size (.slice A1 n1 c1) rfl CC rfl (by have := LC.out; unfold maxLen; omega) (by have := LC.out; omega) B8.out.size ?_; intro v' w9 hown hb; obtain ⟨AY, cY, rfl⟩ := own_form hown; have B9 := Lib.hid (B8.out.trans hb); have OY := Lib.hid hown; clear hown hb CC))
      have D := Lib.hid (D.out.below B9.out)
      have V := Lib.hid (V.out.but (But.of B9.out (fun _ => False)) (fun _ _ _ h => h))
      have O := Lib.hid (ownsRow_below O.out B9.out)
      have B := Lib.hid (B.out.trans (B9.out.mono B.out.size))
      have RI := Lib.hid (K.out.rd O.out B.out)
      have RY := Lib.hid (show RdRs w9 AY (cnt + 1) (rs ++ [bs]) from (K.out.push (c := c1) (by rw [HL.out.1]; exact R1.out)).rd (by rw [HL.out.1]; exact OY.out) B.out)
      have KL := Lib.hid K.out.1
      clear E AL O1 B8 O8 O OA OY B9 K HS JK
      have RX := Lib.hid (show RdRs w9 Ar lr rsK from by
        obtain ⟨A', c', e1, e2⟩ := V.out.rd
        injection e1 with e1 e3; subst e1; rw [LR.out]; exact e2)
      have HW := Lib.hid (show w7.heap.size ≤ w9.heap.size from by obtain ⟨_, _, _, _, h, _⟩ := V.out; exact h)
      rcases OR.out with h | ⟨h, hu, hg⟩
      · have e1 : lr = cnt := by rw [LR.out, h]; exact KL.out
        have LB := Lib.hid (show lr ≤ 21 by have := LC.out; omega)
        have RX := Lib.hid (show RdRs w9 Ar lr rs from h ▸ RX.out)
        have RI := Lib.hid (show RdRs w9 Aw lr rs from e1 ▸ RI.out)
        rw [← e1]
        clear h e1
        refine (refsame_yes _ RX.out RI.out (by have := LB.out; omega)).mono ?_; rintro v wS ⟨rfl, hb⟩
        have BS := Lib.hid hb
        clear hb
        have HW := Lib.hid (Nat.le_trans HW.out BS.out.size)
        have V := Lib.hid (V.out.but (But.of BS.out (fun _ => False)) (fun _ _ _ h => h))
        have D := Lib.hid (D.out.below BS.out)
        have B := Lib.hid (B.out.trans (BS.out.mono B.out.size))
        have JZ := Lib.hid (show Jk.J Y rsK eK ∧ Jk.Zb Y eK ∧ Jk.By Y from ⟨D.out.jj, D.out.zz, D.out.yy⟩)
        clear BS RI RY RX
        go_wp2_with fail
        refine (ccrash_nil _ D.out B.out.size).mono ?_; rintro v w11 ⟨rfl, S11, hD, hU, hb, hS, hN⟩
        have V := Lib.hid (V.out.but hU (fun k h1 h2 hs => OF.out k h1 h2 (.inl hs)))
        have OF := Lib.hid (show ∀ k, w6.heap.size ≤ k → k < w7.heap.size → ¬ S11 k from fun k h1 h2 hs => by
          rcases hN k hs with h | h; exact OF.out k h1 h2 (.inl h); have := HW.out; omega)
        have D := Lib.hid hD
        have HS := Lib.hid hS
        have B := Lib.hid (B.out.trans hb)
        have HW := Lib.hid (Nat.le_trans HW.out hU.size)
        clear hD hU hb hS hN
        go_wp2_with fail
        refine (copen_dj _ D.out JZ.out.1 JZ.out.2.2 HS.out B.out.size).mono ?_; rintro v w12 ⟨j3, S12, T12, rfl, hD, hb, hU, hN⟩
        rw [Jk.zb_same JZ.out.1.le JZ.out.2.1] at hD
        have V := Lib.hid (V.out.but hU (fun k h1 h2 hs => OF.out k h1 h2 hs))
        have OF := Lib.hid (show ∀ k, w6.heap.size ≤ k → k < w7.heap.size → ¬ (S12 k ∨ T12 k) from fun k h1 h2 hs => by
          rcases hN k hs with h | h; exact OF.out k h1 h2 h; have := HW.out; omega)
        have D := Lib.hid hD
        have B := Lib.hid (B.out.trans hb)
        have HW := Lib.hid (Nat.le_trans HW.out hU.size)
        clear hD hU hb hN HS
        go_wp2_with fail
        refine (crecords _ D.out).mono ?_; rintro v w13 ⟨u13, rfl, hV2, hb⟩
        obtain ⟨A13, c13, rfl, hR⟩ := hV2.rd
        rw [← LR.out] at hR ⊢
        have R13 := Lib.hid hR
        have V := Lib.hid (V.out.but (But.of hb (fun _ => False)) (fun _ _ _ h => h))
        have D := Lib.hid (D.out.below hb)
        have B := Lib.hid (B.out.trans (hb.mono B.out.size))
        have HW := Lib.hid (Nat.le_trans HW.out hb.size)
        clear hV2 hR hb
        have RX := Lib.hid (show RdRs w13 Ar lr rsK from by
          obtain ⟨A', c', e1, e2⟩ := V.out.rd
          injection e1 with e1 e3; subst e1; rw [LR.out]; exact e2)
        go_wp2_with fail
        refine (refsame_yes _ R13.out RX.out (by have := LB.out; omega)).mono ?_; rintro v w14 ⟨rfl, hb⟩
        have V := Lib.hid (V.out.but (But.of hb (fun _ => False)) (fun _ _ _ h => h))
        have D := Lib.hid (D.out.below hb)
        have B := Lib.hid (B.out.trans (hb.mono B.out.size))
        have HW := Lib.hid (Nat.le_trans HW.out hb.size)
        clear hb R13 RX
        go_wp2_with fail
        refine (append_any _ D.out B.out.size (R3.out.below B.out) HCS.out.2.2 YY.out.2).mono ?_; rintro v w15 ⟨u3, S15, T15, now15, rs15, e15, rfl, hD, ⟨hb, hU, hN⟩, hv⟩
        have HV := Lib.hid hv
        have V := Lib.hid (V.out.but hU OF.out)
        have OF := Lib.hid (show ∀ k, w6.heap.size ≤ k → k < w7.heap.size → ¬ (S15 k ∨ T15 k) from fun k h1 h2 hs => by
          rcases hN k hs with h | h | h; exact OF.out k h1 h2 (.inl h); exact OF.out k h1 h2 (.inr h); have := HW.out; omega)
        have D := Lib.hid hD
        have B := Lib.hid (B.out.trans hb)
        have HW := Lib.hid (Nat.le_trans HW.out hU.size)
        have JZ := Lib.hid (show Jk.J now15 rs15 e15 ∧ Jk.Zb now15 e15 ∧ Jk.By now15 from ⟨D.out.jj, D.out.zz, D.out.yy⟩)
        clear hD hU hb hN hv
        go_wp2_with fail
        refine (ccrash_nil _ D.out B.out.size).mono ?_; rintro v w16 ⟨rfl, S16, hD, hU, hb, hS, hN⟩
        have V := Lib.hid (V.out.but hU (fun k h1 h2 hs => OF.out k h1 h2 (.inl hs)))
        have OF := Lib.hid (show ∀ k, w6.heap.size ≤ k → k < w7.heap.size → ¬ S16 k from fun k h1 h2 hs => by
          rcases hN k hs with h | h; exact OF.out k h1 h2 (.inl h); have := HW.out; omega)
        have D := Lib.hid hD
        have HS := Lib.hid hS
        have B := Lib.hid (B.out.trans hb)
        have HW := Lib.hid (Nat.le_trans HW.out hU.size)
        clear hD hU hb hS hN
        go_wp2_with fail
        refine (copen_dj _ D.out JZ.out.1 JZ.out.2.2 HS.out B.out.size).mono ?_; rintro v w17 ⟨j4, S17, T17, rfl, hD, hb, hU, hN⟩
        rw [Jk.zb_same JZ.out.1.le JZ.out.2.1] at hD
        have V := Lib.hid (V.out.but hU (fun k h1 h2 hs => OF.out k h1 h2 hs))
        have OF := Lib.hid (show ∀ k, w6.heap.size ≤ k → k < w7.heap.size → ¬ (S17 k ∨ T17 k) from fun k h1 h2 hs => by
          rcases hN k hs with h | h; exact OF.out k h1 h2 h; have := HW.out; omega)
        have DQ := Lib.hid hD
        have B := Lib.hid (B.out.trans hb)
        clear hD hU hb hN HS
        rcases HV.out with ⟨-, rfl, rfl, rfl, rfl⟩ | ⟨-, rfl, x1, x2, x3⟩
        · obtain ⟨vs2, ho2, hvl, hob, hbs, hve⟩ := V.out
          have HO := Lib.hid ho2
          have AL := Lib.hid ((Below.refl w17.heap.size w17).alloc (Nat.le_refl _) (.cells #[.slice A3 n3 c3] 22))
          have O1 := Lib.hid (ho2.alloc (.cells #[.slice A3 n3 c3] 22))
          have VA := Lib.hid (V.out.but (But.of AL.out (fun _ => False)) (fun _ _ _ h => h))
          have CC : (w17.alloc (.cells #[.slice A3 n3 c3] 22)).cell? ⟨w17.heap.size, 0, none⟩ = some (.slice A3 n3 c3) := by simp
          have HBS := Lib.hid (show w6.heap.size ≤ (w17.alloc (.cells #[.slice A3 n3 c3] 22)).heap.size from Nat.le_trans HAB.out (Nat.le_trans hbs AL.out.size))
          have HOB := Lib.hid (show ∀ k, (Value.slice Ar lr cr).ownBlock = some k → w6.heap.size ≤ k ∧ k < w7.heap.size from fun k hk => ⟨own_block ho2 k hk, hob k hk⟩)
          have LB2 := Lib.hid (show rsK.length ≤ 21 by have := LB.out; have := LR.out; omega)
          clear ho2 hvl hob hbs hve
          go_wp2_with (at_builtin; refine wpList_push_at _ rfl _ _ 44 rfl w6.heap.size 22 i0 (.slice none 0 0) 24 Try.underlying44 hi hz0 hz1 hz2 rfl _ rsK.length vs2 rfl O1.out w17.heap.size (.slice A3 n3 c3) rfl CC rfl (by have := LB2.out; unfold maxLen; omega) (by have := LB2.out; omega) HBS.out ?_; intro v' w18 hown hb hwh; have DP := Lib.hid ((DQ.out.below AL.out).but hb (fun k hk hk2 => OF.out k (HOB.out k hk2).1 (HOB.out k hk2).2 hk)); have B0 := Lib.hid (hb.below (B0 := w.heap.size) (fun k hk => Nat.le_trans W6.out (HOB.out k hk).1) (Nat.le_trans B.out.size AL.out.size)); have BP := Lib.hid (B.out.trans ((AL.out.mono B.out.size).trans B0.out)); obtain ⟨AZ, cZ, rfl, hRZ⟩ := VA.out.push O1.out hown hb ((R3.out.below BP.out)) BP.out.size; have RZ := Lib.hid hRZ; clear hown hb hwh hRZ CC)
          refine (crecords _ DP.out).mono ?_; rintro v w19 ⟨u19, rfl, hV2, hb⟩
          obtain ⟨A19, c19, rfl, hR⟩ := hV2.rd
          have RZ := Lib.hid (RZ.out.below hb)
          have B := Lib.hid (BP.out.trans (hb.mono BP.out.size))
          rw [List.length_append, List.length_singleton] at hR ⊢
          have R19 := Lib.hid hR
          clear hV2 hR hb
          go_wp2_with fail
          refine (refsame_yes _ R19.out RZ.out (by have := LB2.out; omega)).mono ?_; rintro v w20 ⟨rfl, hb⟩
          have B := Lib.hid (B.out.trans (hb.mono B.out.size))
          clear hb
          go_wp2_with fail
          go_ret
          exact ⟨by simp, B.out⟩
        · have y1 := x1.symm
          have y2 := x2.symm
          have y3 := x3.symm
          subst y1 y2 y3
          clear x1 x2 x3
          go_wp2_with fail
          refine (crecords _ DQ.out).mono ?_; rintro v w19 ⟨u19, rfl, hV2, hb⟩
          obtain ⟨A19, c19, rfl, hR⟩ := hV2.rd
          rw [← LR.out] at hR ⊢
          have R19 := Lib.hid hR
          have V := Lib.hid (V.out.but (But.of hb (fun _ => False)) (fun _ _ _ h => h))
          have B := Lib.hid (B.out.trans (hb.mono B.out.size))
          have RX := Lib.hid (show RdRs w19 Ar lr rsK from by
            obtain ⟨A', c', e1, e2⟩ := V.out.rd
            injection e1 with e1 e3; subst e1; rw [LR.out]; exact e2)
          clear hV2 hR hb
          go_wp2_with fail
          refine (refsame_yes _ R19.out RX.out (by have := LB.out; omega)).mono ?_; rintro v w20 ⟨rfl, hb⟩
          have B := Lib.hid (B.out.trans (hb.mono B.out.size))
          clear hb
          go_wp2_with fail
          go_ret
          exact ⟨by simp, B.out⟩
      · have e1 : lr = cnt + 1 := by rw [LR.out, h, List.length_append, List.length_singleton, KL.out]
        have LB := Lib.hid (show lr ≤ 21 by have := LC.out; omega)
        have RX := Lib.hid (show RdRs w9 Ar lr (rs ++ [bs]) from h ▸ RX.out)
        have RY := Lib.hid (show RdRs w9 AY lr (rs ++ [bs]) from e1 ▸ RY.out)
        subst hu
        subst hg
        rw [← e1]
        refine (refsame_len (n := lr) (n' := cnt) _ (by omega)).mono ?_; rintro v wS1 ⟨rfl, hb⟩
        have RX := Lib.hid (RX.out.below hb)
        have RY := Lib.hid (RY.out.below hb)
        have B1 := Lib.hid hb
        clear h e1 hb
        go_wp2_with fail
        refine (refsame_yes _ RX.out RY.out (by have := LB.out; omega)).mono ?_; rintro v wS ⟨rfl, hb⟩
        have BS := Lib.hid (B1.out.trans (hb.mono B1.out.size))
        clear hb B1
        have HW := Lib.hid (Nat.le_trans HW.out BS.out.size)
        have V := Lib.hid (V.out.but (But.of BS.out (fun _ => False)) (fun _ _ _ h => h))
        have D := Lib.hid (D.out.below BS.out)
        have B := Lib.hid (B.out.trans (BS.out.mono B.out.size))
        have JZ := Lib.hid (show Jk.J Y rsK eK ∧ Jk.Zb Y eK ∧ Jk.By Y from ⟨D.out.jj, D.out.zz, D.out.yy⟩)
        clear BS RI RY RX
        go_wp2_with fail
        refine (ccrash_nil _ D.out B.out.size).mono ?_; rintro v w11 ⟨rfl, S11, hD, hU, hb, hS, hN⟩
        have V := Lib.hid (V.out.but hU (fun k h1 h2 hs => OF.out k h1 h2 (.inl hs)))
        have OF := Lib.hid (show ∀ k, w6.heap.size ≤ k → k < w7.heap.size → ¬ S11 k from fun k h1 h2 hs => by
          rcases hN k hs with h | h; exact OF.out k h1 h2 (.inl h); have := HW.out; omega)
        have D := Lib.hid hD
        have HS := Lib.hid hS
        have B := Lib.hid (B.out.trans hb)
        have HW := Lib.hid (Nat.le_trans HW.out hU.size)
        clear hD hU hb hS hN
        go_wp2_with fail
        refine (copen_dj _ D.out JZ.out.1 JZ.out.2.2 HS.out B.out.size).mono ?_; rintro v w12 ⟨j3, S12, T12, rfl, hD, hb, hU, hN⟩
        rw [Jk.zb_same JZ.out.1.le JZ.out.2.1] at hD
        have V := Lib.hid (V.out.but hU (fun k h1 h2 hs => OF.out k h1 h2 hs))
        have OF := Lib.hid (show ∀ k, w6.heap.size ≤ k → k < w7.heap.size → ¬ (S12 k ∨ T12 k) from fun k h1 h2 hs => by
          rcases hN k hs with h | h; exact OF.out k h1 h2 h; have := HW.out; omega)
        have D := Lib.hid hD
        have B := Lib.hid (B.out.trans hb)
        have HW := Lib.hid (Nat.le_trans HW.out hU.size)
        clear hD hU hb hN HS
        go_wp2_with fail
        refine (crecords _ D.out).mono ?_; rintro v w13 ⟨u13, rfl, hV2, hb⟩
        obtain ⟨A13, c13, rfl, hR⟩ := hV2.rd
        rw [← LR.out] at hR ⊢
        have R13 := Lib.hid hR
        have V := Lib.hid (V.out.but (But.of hb (fun _ => False)) (fun _ _ _ h => h))
        have D := Lib.hid (D.out.below hb)
        have B := Lib.hid (B.out.trans (hb.mono B.out.size))
        have HW := Lib.hid (Nat.le_trans HW.out hb.size)
        clear hV2 hR hb
        have RX := Lib.hid (show RdRs w13 Ar lr rsK from by
          obtain ⟨A', c', e1, e2⟩ := V.out.rd
          injection e1 with e1 e3; subst e1; rw [LR.out]; exact e2)
        go_wp2_with fail
        refine (refsame_yes _ R13.out RX.out (by have := LB.out; omega)).mono ?_; rintro v w14 ⟨rfl, hb⟩
        have V := Lib.hid (V.out.but (But.of hb (fun _ => False)) (fun _ _ _ h => h))
        have D := Lib.hid (D.out.below hb)
        have B := Lib.hid (B.out.trans (hb.mono B.out.size))
        have HW := Lib.hid (Nat.le_trans HW.out hb.size)
        clear hb R13 RX
        go_wp2_with fail
        refine (append_any _ D.out B.out.size (R3.out.below B.out) HCS.out.2.2 YY.out.2).mono ?_; rintro v w15 ⟨u3, S15, T15, now15, rs15, e15, rfl, hD, ⟨hb, hU, hN⟩, hv⟩
        have HV := Lib.hid hv
        have V := Lib.hid (V.out.but hU OF.out)
        have OF := Lib.hid (show ∀ k, w6.heap.size ≤ k → k < w7.heap.size → ¬ (S15 k ∨ T15 k) from fun k h1 h2 hs => by
          rcases hN k hs with h | h | h; exact OF.out k h1 h2 (.inl h); exact OF.out k h1 h2 (.inr h); have := HW.out; omega)
        have D := Lib.hid hD
        have B := Lib.hid (B.out.trans hb)
        have HW := Lib.hid (Nat.le_trans HW.out hU.size)
        have JZ := Lib.hid (show Jk.J now15 rs15 e15 ∧ Jk.Zb now15 e15 ∧ Jk.By now15 from ⟨D.out.jj, D.out.zz, D.out.yy⟩)
        clear hD hU hb hN hv
        go_wp2_with fail
        refine (ccrash_nil _ D.out B.out.size).mono ?_; rintro v w16 ⟨rfl, S16, hD, hU, hb, hS, hN⟩
        have V := Lib.hid (V.out.but hU (fun k h1 h2 hs => OF.out k h1 h2 (.inl hs)))
        have OF := Lib.hid (show ∀ k, w6.heap.size ≤ k → k < w7.heap.size → ¬ S16 k from fun k h1 h2 hs => by
          rcases hN k hs with h | h; exact OF.out k h1 h2 (.inl h); have := HW.out; omega)
        have D := Lib.hid hD
        have HS := Lib.hid hS
        have B := Lib.hid (B.out.trans hb)
        have HW := Lib.hid (Nat.le_trans HW.out hU.size)
        clear hD hU hb hS hN
        go_wp2_with fail
        refine (copen_dj _ D.out JZ.out.1 JZ.out.2.2 HS.out B.out.size).mono ?_; rintro v w17 ⟨j4, S17, T17, rfl, hD, hb, hU, hN⟩
        rw [Jk.zb_same JZ.out.1.le JZ.out.2.1] at hD
        have V := Lib.hid (V.out.but hU (fun k h1 h2 hs => OF.out k h1 h2 hs))
        have OF := Lib.hid (show ∀ k, w6.heap.size ≤ k → k < w7.heap.size → ¬ (S17 k ∨ T17 k) from fun k h1 h2 hs => by
          rcases hN k hs with h | h; exact OF.out k h1 h2 h; have := HW.out; omega)
        have DQ := Lib.hid hD
        have B := Lib.hid (B.out.trans hb)
        clear hD hU hb hN HS
        rcases HV.out with ⟨-, rfl, rfl, rfl, rfl⟩ | ⟨-, rfl, x1, x2, x3⟩
        · obtain ⟨vs2, ho2, hvl, hob, hbs, hve⟩ := V.out
          have HO := Lib.hid ho2
          have AL := Lib.hid ((Below.refl w17.heap.size w17).alloc (Nat.le_refl _) (.cells #[.slice A3 n3 c3] 22))
          have O1 := Lib.hid (ho2.alloc (.cells #[.slice A3 n3 c3] 22))
          have VA := Lib.hid (V.out.but (But.of AL.out (fun _ => False)) (fun _ _ _ h => h))
          have CC : (w17.alloc (.cells #[.slice A3 n3 c3] 22)).cell? ⟨w17.heap.size, 0, none⟩ = some (.slice A3 n3 c3) := by simp
          have HBS := Lib.hid (show w6.heap.size ≤ (w17.alloc (.cells #[.slice A3 n3 c3] 22)).heap.size from Nat.le_trans HAB.out (Nat.le_trans hbs AL.out.size))
          have HOB := Lib.hid (show ∀ k, (Value.slice Ar lr cr).ownBlock = some k → w6.heap.size ≤ k ∧ k < w7.heap.size from fun k hk => ⟨own_block ho2 k hk, hob k hk⟩)
          have LB2 := Lib.hid (show rsK.length ≤ 21 by have := LB.out; have := LR.out; omega)
          clear ho2 hvl hob hbs hve
          go_wp2_with (at_builtin; refine wpList_push_at _ rfl _ _ 44 rfl w6.heap.size 22 i0 (.slice none 0 0) 24 Try.underlying44 hi hz0 hz1 hz2 rfl _ rsK.length vs2 rfl O1.out w17.heap.size (.slice A3 n3 c3) rfl CC rfl (by have := LB2.out; unfold maxLen; omega) (by have := LB2.out; omega) HBS.out ?_; intro v' w18 hown hb hwh; have DP := Lib.hid ((DQ.out.below AL.out).but hb (fun k hk hk2 => OF.out k (HOB.out k hk2).1 (HOB.out k hk2).2 hk)); have B0 := Lib.hid (hb.below (B0 := w.heap.size) (fun k hk => Nat.le_trans W6.out (HOB.out k hk).1) (Nat.le_trans B.out.size AL.out.size)); have BP := Lib.hid (B.out.trans ((AL.out.mono B.out.size).trans B0.out)); obtain ⟨AZ, cZ, rfl, hRZ⟩ := VA.out.push O1.out hown hb ((R3.out.below BP.out)) BP.out.size; have RZ := Lib.hid hRZ; clear hown hb hwh hRZ CC)
          refine (crecords _ DP.out).mono ?_; rintro v w19 ⟨u19, rfl, hV2, hb⟩
          obtain ⟨A19, c19, rfl, hR⟩ := hV2.rd
          have RZ := Lib.hid (RZ.out.below hb)
          have B := Lib.hid (BP.out.trans (hb.mono BP.out.size))
          rw [List.length_append, List.length_singleton] at hR ⊢
          have R19 := Lib.hid hR
          clear hV2 hR hb
          go_wp2_with fail
          refine (refsame_yes _ R19.out RZ.out (by have := LB2.out; omega)).mono ?_; rintro v w20 ⟨rfl, hb⟩
          have B := Lib.hid (B.out.trans (hb.mono B.out.size))
          clear hb
          go_wp2_with fail
          go_ret
          exact ⟨by simp, B.out⟩
        · have y1 := x1.symm
          have y2 := x2.symm
          have y3 := x3.symm
          subst y1 y2 y3
          clear x1 x2 x3
          go_wp2_with fail
          refine (crecords _ DQ.out).mono ?_; rintro v w19 ⟨u19, rfl, hV2, hb⟩
          obtain ⟨A19, c19, rfl, hR⟩ := hV2.rd
          rw [← LR.out] at hR ⊢
          have R19 := Lib.hid hR
          have V := Lib.hid (V.out.but (But.of hb (fun _ => False)) (fun _ _ _ h => h))
          have B := Lib.hid (B.out.trans (hb.mono B.out.size))
          have RX := Lib.hid (show RdRs w19 Ar lr rsK from by
            obtain ⟨A', c', e1, e2⟩ := V.out.rd
            injection e1 with e1 e3; subst e1; rw [LR.out]; exact e2)
          clear hV2 hR hb
          go_wp2_with fail
          refine (refsame_yes _ R19.out RX.out (by have := LB.out; omega)).mono ?_; rintro v w20 ⟨rfl, hb⟩
          have B := Lib.hid (B.out.trans (hb.mono B.out.size))
          clear hb
          go_wp2_with fail
          go_ret
          exact ⟨by simp, B.out⟩
end Go.Proofs.Ytghepjppjmpihaa
