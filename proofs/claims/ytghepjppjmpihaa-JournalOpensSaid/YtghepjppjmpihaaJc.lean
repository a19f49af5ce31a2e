/- The law JournalTwice. -/
import Derived.Test.YtghepjppjmpihaaJp
namespace Go.Proofs.Ytghepjppjmpihaa
open Go.ChangeShapes Go.WideShapes Go.ChangeAt Go.RowKit Go.Lib

/-- records that come in -/
def Ins (w : World) (B0 : Nat) (A : Option Addr) (n : Nat) : Prop := ∀ i, i < n → ∃ g off A' n' c' zs, A = some ⟨g, off, none⟩ ∧ g < B0 ∧ w.cell? ⟨g, off + i, none⟩ = some (.slice A' n' c') ∧ (n' ≤ c' ∧ c' ≤ maxLen) ∧ RdK .u8 w B0 A' n' zs ∧ Jk.By zs
theorem Ins.below {w w' : World} {B0 : Nat} {A : Option Addr} {n : Nat} (h : Ins w B0 A n) (hb : Below B0 w w') : Ins w' B0 A n := fun i hi => by
  obtain ⟨g, off, A', n', c', zs, e, hg, hc, h1, hr, hy⟩ := h i hi
  exact ⟨g, off, A', n', c', zs, e, hg, (hb.cell (p := ⟨g, off + i, none⟩) hg).trans hc, h1, hr.below hb, hy⟩
theorem ownsRow_but {w w' : World} {base size n : Nat} {e : TypeId} {v : Value} {xs : List Value} {U : Nat → Prop} (h : w.ownsRow base e size v n xs) (hb : But U w w') (hn : ∀ k, v.ownBlock = some k → ¬ U k) : w'.ownsRow base e size v n xs := by
  obtain ⟨hl, h⟩ := h
  refine ⟨hl, ?_⟩
  rcases h with h | ⟨g, cap, cur, hv, hg, hh, h1, h2, h3, h4⟩
  · exact .inl h
  · have hlt : g < w.heap.size := by
      rcases Nat.lt_or_ge g w.heap.size with k | k
      · exact k
      · rw [Array.getElem?_eq_none k] at hh; cases hh
    exact .inr ⟨g, cap, cur, hv, hg, (hb.block g hlt (hn g (by rw [hv]; rfl))).trans hh, h1, h2, h3, h4⟩
/-- the values of records that came in, and the records -/
def Kept (w : World) (rs : List (List Int)) (cnt : Nat) (vs : List Value) : Prop := rs.length = cnt ∧ vs.length = cnt ∧ ∀ k, k < cnt → ∃ A c, vs[k]? = some (.slice A (rs.getD k []).length c) ∧ RdK .u8 w w.heap.size A (rs.getD k []).length (rs.getD k [])
theorem Kept.push {w : World} {rs : List (List Int)} {cnt c : Nat} {vs : List Value} {A : Option Addr} {zs : List Int} (h : Kept w rs cnt vs) (hr : RdK .u8 w w.heap.size A zs.length zs) : Kept w (rs ++ [zs]) (cnt + 1) (vs ++ [.slice A zs.length c]) := by
  obtain ⟨h1, h2, h3⟩ := h
  refine ⟨by simp [h1], by simp [h2], fun k hk => ?_⟩
  by_cases e : k = cnt
  · subst e
    have e1 : (rs ++ [zs]).getD k [] = zs := by rw [List.getD_eq_getElem?_getD, List.getElem?_append_right (by omega), h1]; simp
    rw [e1]
    exact ⟨A, c, by rw [List.getElem?_append_right (by omega), h2]; simp, hr⟩
  · obtain ⟨A', c', e1, e2⟩ := h3 k (by omega)
    have e3 : (rs ++ [zs]).getD k [] = rs.getD k [] := by rw [List.getD_eq_getElem?_getD, List.getElem?_append_left (by omega), ← List.getD_eq_getElem?_getD]
    rw [e3]
    exact ⟨A', c', by rw [List.getElem?_append_left (by omega)]; exact e1, e2⟩
theorem Kept.rd {w w' : World} {rs : List (List Int)} {base e cnt c : Nat} {vs : List Value} {A : Option Addr} (h : Kept w rs cnt vs) (ho : w'.ownsRow base e 1 (.slice A cnt c) cnt vs) (hb : Below w.heap.size w w') : RdRs w' A cnt rs :=
  rdrs_own ho h.1 fun i hi => by
    obtain ⟨A', c', e1, e2⟩ := h.2.2 i hi
    exact ⟨A', c', e1, (e2.below hb).more hb.size⟩
/-- one turn of the loop: what is there behind i records -/
structure Tw (w wr : World) (d j m : Nat) (vv : Value) (cnt : Nat) (vs : List Value) (S T : Nat → Prop) (now : List Int) (rs : List (List Int)) (e : Nat) : Prop where
  dj : Dj w.heap.size S T wr d j m now rs e
  b : Below w.heap.size w wr
  o : wr.ownsRow w.heap.size 22 1 vv cnt vs
  a : ∀ k, vv.ownBlock = some k → ¬ (S k ∨ T k)
  k : Kept w rs cnt vs
set_option maxHeartbeats 2000000 in
set_option maxRecDepth 1000000 in
theorem twice_walk (z : Int) (A : Option Addr) (n c : Nat) (hz : -9223372036854775808 ≤ z ∧ z ≤ 9223372036854775807) (w : World) (hr : Ins w w.heap.size A n) (hc : n ≤ c ∧ c ≤ maxLen) :
    Calls Try.prog 7 #[.int .i64 z, .slice A n c] w fun e w' => e = .returned (.bool true) ∧ Below w.heap.size w w' := by
  have R := Lib.hid hr
  have HZ := Lib.hid hz
  have l1 : (n : Int) ≤ 9223372036854775807 := by have := len64 hc.2; omega
  obtain ⟨i0, hi, hz0, hz1, hz2⟩ := info_parts infoR
  have hpk := pk_bd z (by decide : (0 : Int) < 16)
  obtain ⟨m, hm⟩ : ∃ m : Nat, (m : Int) = 1 + pk z 16 := ⟨(1 + pk z 16).toNat, by omega⟩
  have ra : IntKind.i64.wrap (1 + pk z 16) = (m : Int) := by rw [IntKind.wrap_i64]; omega
  have HM := Lib.hid (show 1 ≤ m ∧ m ≤ 16 by omega)
  obtain ⟨k, hk⟩ : ∃ k, k = pk z 16 := ⟨_, rfl⟩
  have HK := Lib.hid hk
  rw [← hk] at ra
  clear hr hz hc hpk hm hk
  go_enter Try.func7, Try.ntmps7
  go_wp2_with fail
  refine (up_any _).mono ?_; rintro e w1 ⟨rfl, hb⟩; have B := Lib.hid hb; clear hb
  go_wp2_with fail
  refine (pick_any z 16 HZ.out (by decide) _).mono ?_; rintro e w' ⟨rfl, hw⟩; subst hw
  rw [← HK.out]
  go_wp2_with fail
  refine (cnew_yes m HM.out.1 (by have := HM.out; omega) _).mono ?_; rintro e w2 ⟨d, S, rfl, hD, hb, hS⟩
  have D := Lib.hid hD
  have HS := Lib.hid (show ∀ k, S k → w.heap.size ≤ k from fun k hk => Nat.le_trans B.out.size (hS k hk))
  have B := Lib.hid (B.out.trans (hb.mono B.out.size))
  clear hD hb hS
  by_cases h60 : 60 < n
  · have h60z : (60 : Int) < (n : Int) := by omega
    go_wp2_with fail
    go_ret
    exact ⟨by simp, B.out⟩
  have h60z : decide ((60 : Int) < (n : Int)) = false := by simp; omega
  go_wp2_with fail
  refine (copen_dj _ D.out (Jk.J_zero _) (Jk.By.zs _) HS.out B.out.size).mono ?_; rintro e w3 ⟨j, S3, T3, rfl, hD, hb, -, -⟩
  have D := Lib.hid hD
  have B := Lib.hid (B.out.trans hb)
  clear hD hb
  go_wp2_with fail
  go_loopw [10, 11] (fun vv iv wr => ∃ (i cnt : Nat) (Aw : Option Addr) (cw : Nat) (vs : List Value) (S T : Nat → Prop) (now : List Int) (rs : List (List Int)) (e : Nat), iv = .int .i64 i ∧ vv = .slice Aw cnt cw ∧ i ≤ n ∧ cnt ≤ i ∧ Hid (Tw w wr d j m (.slice Aw cnt cw) cnt vs S T now rs e)) (fun _ iv _ => n - (RowKit.intOf iv).toNat)
  case atStart => exact ⟨0, 0, none, 0, [], S3, T3, _, _, _, rfl, rfl, Nat.zero_le _, Nat.le_refl _, D.out, B.out, World.ownsRow_nil _ _ _ _, (fun k hk => by cases hk), rfl, rfl, fun k hk => absurd hk (Nat.not_lt_zero _)⟩
  case round =>
    clear D B
    obtain ⟨i, cnt, Aw, cw, vs, S, T, now, rs, e, rfl, rfl, hin, hcn, H⟩ := hrel
    by_cases hlt : i < n
    · have hltz : (i : Int) < (n : Int) := by omega
      obtain ⟨g, off, A', n', c', zs, rfl, hg, cc, hcc, hrz, hyz⟩ := (R.out.below H.out.b) i hlt
      have RZ := Lib.hid hrz
      have YZ := Lib.hid hyz
      have HC := Lib.hid hcc
      have LZ := Lib.hid hrz.1
      have R0 := Lib.hid (show RdK .u8 w w.heap.size A' n' zs from by
        obtain ⟨g1, off1, A1, n1, c1, zs1, e1, k1, k2, k3, k4, -⟩ := R.out i hlt
        injection e1 with e1; injection e1 with e2 e3; subst e2 e3
        have := (H.out.b.cell (p := ⟨g, off + i, none⟩) hg).trans k2
        rw [cc] at this
        injection this with this; injection this with t1 t2 t3
        subst t1 t2 t3
        exact ⟨LZ.out, fun q hq => by
          obtain ⟨b2, o2, e2, h2, h3⟩ := RZ.out.2 q hq
          exact ⟨b2, o2, e2, h2, (H.out.b.cell (p := ⟨b2, o2 + q, none⟩) h2).symm.trans h3⟩⟩)
      have l2 : (n' : Int) ≤ 9223372036854775807 := by have := len64 hcc.2; omega
      clear hrz hcc hyz
      by_cases h2 : 2000 < n'
      · have h2z : (2000 : Int) < (n' : Int) := by omega
        go_wp2_with fail
        go_ret
        exact ⟨by simp, H.out.b⟩
      have h2b : decide ((2000 : Int) < (n' : Int)) = false := by simp; omega
      go_wp2_with fail
      refine (append_any _ H.out.dj H.out.b.size RZ.out HC.out YZ.out).mono ?_; rintro e w4 ⟨u1, S4, T4, now4, rs4, e4, rfl, hD, ⟨hb, hU, hN⟩, hv⟩
      have D := Lib.hid hD
      have B := Lib.hid (H.out.b.trans hb)
      have O := Lib.hid (ownsRow_but H.out.o hU H.out.a)
      have OA := Lib.hid (show ∀ k, (Value.slice Aw cnt cw).ownBlock = some k → ¬ (S4 k ∨ T4 k) from fun k hk h => by
        rcases hN k h with h | h | h
        · exact H.out.a k hk (.inl h)
        · exact H.out.a k hk (.inr h)
        · have := (H.out.o.lt k hk).2; omega)
      have K := Lib.hid H.out.k
      have R4 := Lib.hid (R.out.below B.out)
      have c2 := (hb.cell (p := ⟨g, off + i, none⟩) hg).trans cc
      clear hD hb hU hN cc H
      rcases hv with ⟨-, rfl, rfl, rfl, rfl⟩ | ⟨k0, rfl, rfl, rfl, rfl⟩
      · have AL := Lib.hid ((Below.refl w4.heap.size w4).alloc (Nat.le_refl _) (.cells #[.slice A' n' c'] 22))
        have O1 := Lib.hid (O.out.alloc (.cells #[.slice A' n' c'] 22))
        have CC : (w4.alloc (.cells #[.slice A' n' c'] 22)).cell? ⟨w4.heap.size, 0, none⟩ = some (.slice A' n' c') := by simp
        have HS1 := Lib.hid (show w.heap.size ≤ (w4.alloc (.cells #[.slice A' n' c'] 22)).heap.size from Nat.le_trans B.out.size AL.out.size)
        go_wp2_with (at_builtin; refine wpList_push_at _ rfl _ _ 44 rfl w.heap.size 22 i0 (.slice none 0 0) 24 Try.underlying44 hi hz0 hz1 hz2 rfl _ cnt _ rfl O1.out w4.heap.size (.slice A' n' c') rfl CC rfl (by unfold maxLen; omega) (by omega) HS1.out ?_; intro v' w5 hown hb hwh; obtain ⟨A5, c5, rfl⟩ := own_form hown; have T5 := Lib.hid (show Tw w w5 d j m (.slice A5 (cnt + 1) c5) (cnt + 1) (vs ++ [.slice A' n' c']) S4 T4 _ (rs ++ [zs]) _ from ⟨(D.out.below AL.out).but hb (fun k hk hk2 => OA.out k hk2 hk), B.out.trans ((AL.out.mono B.out.size).trans (hb.below (fun k hk => own_block O1.out k hk) HS1.out)), hown, (fun k hk h => by rcases hwh k hk with h2 | h2; exact OA.out k h2 h; have := D.out.lt k h; have := AL.out.size; omega), by have := K.out.push (c := c') (by rw [LZ.out]; exact R0.out); rwa [LZ.out] at this⟩); clear hown hb hwh O1 CC)
        exact ⟨⟨i + 1, cnt + 1, A5, c5, _, _, _, _, _, _, by go_num, rfl, by omega, by omega, T5.out⟩, by simp [RowKit.intOf]; omega⟩
      · go_wp2_with fail
        exact ⟨⟨i + 1, cnt, Aw, cw, vs, S4, T4, _, _, _, by go_num, rfl, by omega, by omega, D.out, B.out, O.out, OA.out, K.out⟩, by simp [RowKit.intOf]; omega⟩
    · obtain rfl : i = n := by omega
      have hltz : ¬ (i : Int) < (i : Int) := by omega
      go_wp2_with fail
      refine (copen_dj _ H.out.dj.dk H.out.dj.jj H.out.dj.yy H.out.dj.ss H.out.b.size).mono ?_; rintro v w4 ⟨k, S4, T4, rfl, hD, hb, hU, hN⟩
      rw [Jk.zb_same H.out.dj.jj.le H.out.dj.zz] at hD
      have D1 := Lib.hid (show Dj w.heap.size S4 T w4 d j m now rs e from ⟨hD.dk, H.out.dj.jn.but hU (fun k hk hs => H.out.dj.aa k hs hk), H.out.dj.jj, H.out.dj.zz, hD.ss, H.out.dj.tt, fun k hk ht => by
        rcases hN k (.inl hk) with h | h
        · exact H.out.dj.aa k h ht
        · have := H.out.dj.jn.lt k ht; omega, H.out.dj.yy⟩)
      have D2 := Lib.hid hD
      have O := Lib.hid (ownsRow_but H.out.o hU (fun k hk hs => H.out.a k hk (.inl hs)))
      have K := Lib.hid H.out.k
      have B := Lib.hid (H.out.b.trans hb)
      clear hD hb hU hN H
      go_wp2_with fail
      refine (cfree _ D2.out).mono ?_; rintro v w5 ⟨rfl, hb⟩
      have D1 := Lib.hid (D1.out.below hb)
      have D2 := Lib.hid (D2.out.below hb)
      have O := Lib.hid (ownsRow_below O.out hb)
      have B := Lib.hid (B.out.trans (hb.mono B.out.size))
      clear hb
      go_wp2_with fail
      refine (cfree _ D1.out).mono ?_; rintro v w6 ⟨rfl, hb⟩
      have D2 := Lib.hid (D2.out.below hb)
      have O := Lib.hid (ownsRow_below O.out hb)
      have B := Lib.hid (B.out.trans (hb.mono B.out.size))
      clear hb D1
      generalize Jk.fr (64 * m) e = F
      go_wp2_with fail
      refine (crecords _ D2.out).mono ?_; rintro v w7 ⟨u, rfl, hV, hb⟩
      obtain ⟨AV, cV, rfl, hR⟩ := hV.rd
      have RV := Lib.hid hR
      have O := Lib.hid (ownsRow_below O.out hb)
      have B := Lib.hid (B.out.trans (hb.mono B.out.size))
      have RW := Lib.hid (K.out.rd O.out B.out)
      have hrl := K.out.1
      rw [hrl] at RV ⊢
      clear hV hR hb D2 O K hrl
      go_wp2_with fail
      go_loopw [16] (fun iv wr => ∃ q r : Nat, iv = .int .i64 q ∧ q ≤ cnt ∧ wr = w7.drewN r) (fun iv _ => cnt - (RowKit.intOf iv).toNat)
      case atStart => exact ⟨0, 0, rfl, Nat.zero_le _, rfl⟩
      case round =>
        obtain ⟨q, r, rfl, hqn, rfl⟩ := hrel
        by_cases hlt : q < cnt
        · have hqz : (q : Int) < (cnt : Int) := by omega
          obtain ⟨g1, o1, X1, k1, rfl, -, p1, r1⟩ := RV.out.2 q hlt
          obtain ⟨g2, o2, X2, k2, rfl, -, p2, r2⟩ := RW.out.2 q hlt
          have kA := fun p => rd_str (c := k1) (r1.below (below_drewN _ w7 p))
          have kB := fun p => rd_str (c := k2) (r2.below (below_drewN _ w7 p))
          generalize rs.getD q [] = bs at *
          generalize bs.length = L at *
          clear r1 r2
          go_wp2_with fail
          go_quiet (fail)
          go_wp2_with fail
          exact ⟨⟨q + 1, r + nq, by go_num, by omega, rfl⟩, by simp [RowKit.intOf]; omega⟩
        · obtain rfl : q = cnt := by omega
          go_wp2_with fail
          go_ret
          exact ⟨by simp, B.out.trans (below_drewN _ _ _)⟩
end Go.Proofs.Ytghepjppjmpihaa
