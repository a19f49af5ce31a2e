/- Package chart: Name, Parse; the tables that they read. -/
import Derived.Test.YtnbieibbfpajeaaDoorHt
import Derived.Test.YtnbieibbfpajeaaDoorHq
namespace Go.Proofs.YtnbieibbfpajeaaDoor
open Go.ChangeShapes Go.WideShapes Go.ChangeAt Go.RowKit Go.Lib

abbrev vErr (k : Int) : Value := .iface 30 (.int .i64 k)
/-- all tables that the package reads -/
def Laid (w : World) : Prop := LaidK w ∧ LaidE w ∧ LaidP w
theorem Laid.below {w w' : World} (h : Laid w) (hb : Below w.heap.size w w') : Laid w' := ⟨h.1.below hb, h.2.1.below hb, h.2.2.below hb⟩
theorem kind_of (bs : List Int) (hb : ∀ x ∈ bs, 0 ≤ x ∧ x < 256) (w : World) (hL : LaidK w) : Calls Tryd.prog 21 #[.string (strOfNums bs)] w fun e w' => (∃ K : Nat, e = .returned (.int .i64 K) ∧ K ≤ 12 ∧ ∀ k, 1 ≤ k → k ≤ 12 → bs = Hp.nm k → K = k) ∧ w' = w := by
  have HL := Lib.hid hL
  have HB := Lib.hid hb
  clear hL hb
  go_enter Tryd.func21, Tryd.ntmps21
  go_wp2_with fail
  go_loopw [3, 4] (fun _ iv wr => ∃ J : Nat, iv = .int .i64 J ∧ J ≤ 13 ∧ Hid (∀ k, k < J → bs ≠ Hp.nm k) ∧ w = wr) (fun _ iv _ => 13 - (RowKit.intOf iv).toNat)
  case atStart => exact ⟨0, rfl, by decide, Lib.hid (fun k hk => absurd hk (Nat.not_lt_zero k)), rfl⟩
  case round =>
    obtain ⟨J, rfl, hJ, HN, rfl⟩ := hrel
    by_cases h13 : J < 13
    · have e0 : (J : Int) < 13 := by omega
      have e1 : (0 : Int) ≤ (J : Int) := by omega
      have e3 : (J : Int).toNat = J := by omega
      obtain ⟨k0, -, -⟩ := HL.out J h13
      by_cases he : Hp.nm J = bs
      · have hee : ((strOfNums (Hp.nm J)).toList == (strOfNums bs).toList) = true := by rw [he]; simp
        have HE := Lib.hid he
        clear he
        go_wp2_with fail
        go_ret
        refine ⟨⟨J, rfl, by omega, fun k h1 h2 h3 => ?_⟩, rfl⟩
        have h4 := HE.out
        by_cases hj0 : J = 0
        · subst hj0
          have h5 := (Hp.nm_len h1 h2).1
          rw [← h3, ← h4] at h5
          simp [Hp.nm] at h5
        · exact Hp.nm_inj ⟨by omega, by omega⟩ ⟨h1, h2⟩ (h4.trans h3)
      · have hee := str_ne (Hp.nm_bytes J) HB.out he
        have HN2 := Lib.hid (show ∀ k, k < J + 1 → bs ≠ Hp.nm k from fun k hk e => by
          rcases Nat.lt_or_ge k J with h | h
          · exact HN.out k h e
          · obtain rfl : k = J := by omega
            exact he e.symm)
        clear he
        go_wp2_with fail
        exact ⟨⟨J + 1, by go_num, by omega, HN2.out, trivial⟩, by simp [RowKit.intOf]; omega⟩
    · obtain rfl : J = 13 := by omega
      go_wp2_with fail
      go_ret
      exact ⟨⟨0, rfl, by decide, fun k h1 h2 h3 => absurd h3 (HN.out k (by omega))⟩, rfl⟩
theorem cname_no (k o : Int) (h : ¬ Hp.May k o) (w : World) (hL : Laid w) : Calls Tryd.prog 9 #[acv k o] w fun e w' => e = .returned (.tuple #[.string { data := #[] }, vErr 1]) ∧ Below w.heap.size w w' := by
  obtain ⟨c0, c1⟩ := ac_new w 23 k o
  have B := Lib.hid (alloc_below w (.cells #[.int .i64 k, .int .i64 o] 23))
  have HL := Lib.hid (hL.below B.out)
  have hm2 : decide (Hp.May k o) = false := decide_eq_false h
  clear hL h
  go_enter Tryd.func9, Tryd.ntmps9
  go_wp2_with fail
  refine (cmay _ _ _ HL.out.1).mono ?_; rintro e w2 ⟨rfl, hb⟩
  have B2 := Lib.hid (B.out.trans (hb.mono (by simp)))
  clear hb
  rw [hm2]
  go_wp2_with fail
  exact bodyPost_ret (by simp [results, Tryd.results9, go_sem]) rfl ⟨rfl, B2.out⟩
theorem cname_yes (J o : Nat) (h : Hp.May ((J : Int) + 1) o) (w : World) (hL : Laid w) : Calls Tryd.prog 9 #[acv ((J : Int) + 1) o] w fun e w' => e = .returned (.tuple #[.string (strOfNums (Hp.name (J + 1) o)), .nilIface]) ∧ Below w.heap.size w w' := by
  obtain ⟨c0, c1⟩ := ac_new w 23 ((J : Int) + 1) o
  have B := Lib.hid (alloc_below w (.cells #[.int .i64 ((J : Int) + 1), .int .i64 o] 23))
  have HL := Lib.hid (hL.below B.out)
  have hm2 : decide (Hp.May ((J : Int) + 1) o) = true := decide_eq_true h
  have hJ : J + 1 < 13 := by unfold Hp.May at h; omega
  have ho5 : o ≤ 65536 := by unfold Hp.May at h; omega
  have HM := Lib.hid h
  clear hL h
  have e0 : (0 : Int) ≤ (J : Int) + 1 := by omega
  have e1 : (J : Int) + 1 < 13 := by omega
  have e3 : ((J : Int) + 1).toNat = J + 1 := by omega
  have hk := HL.out.1.pos
  obtain ⟨k0, k1, -⟩ := HL.out.1 (J + 1) hJ
  go_enter Tryd.func9, Tryd.ntmps9
  go_wp2_with fail
  refine (cmay _ _ _ HL.out.1).mono ?_; rintro e w2 ⟨rfl, hb⟩
  have c0' := (hb.cell (p := ⟨w.heap.size, 0, none⟩) (by simp)).trans c0
  have c1' := (hb.cell (p := ⟨w.heap.size, 1, none⟩) (by simp)).trans c1
  have k0' := (hb.cell (p := ⟨0, (J + 1) * 3, none⟩) hk).trans k0
  have k1' := (hb.cell (p := ⟨0, (J + 1) * 3 + 1, none⟩) hk).trans k1
  have B2 := Lib.hid (B.out.trans (hb.mono (by simp)))
  have HL2 := Lib.hid (HL.out.below hb)
  clear hb k0 k1 c0 c1
  rw [hm2]
  have hl9 := nm_max (J + 1)
  have hl5 := dg_max ho5
  have hs1 : (strOfNums (Hp.nm (J + 1))).size = (Hp.nm (J + 1)).length := strOfNums_size _
  have hs2 : ({ data := #[46] } : ByteArray).size = 1 := rfl
  have hs4 : (strOfNums (Hp.dg o)).size = (Hp.dg o).length := strOfNums_size _
  by_cases h4 : 4 ≤ J + 1
  · rw [decide_eq_true h4] at k1'
    have ho0 : o ≠ 0 := by have := HM.out; unfold Hp.May at this; omega
    have ha1 : { data := #[46] } ++ strOfNums (Hp.dg o) = strOfNums (46 :: Hp.dg o) := str_app [46] (Hp.dg o)
    have hs3 : (strOfNums (46 :: Hp.dg o)).size = (Hp.dg o).length + 1 := by rw [strOfNums_size]; rfl
    have ha2 : strOfNums (Hp.nm (J + 1)) ++ strOfNums (46 :: Hp.dg o) = strOfNums (Hp.name (J + 1) o) := by
      rw [str_app]; unfold Hp.name; rw [if_neg ho0]
    go_wp2_with fail
    refine (citoa o ho0 ho5 _ HL2.out.2.2).mono ?_; rintro e w3 ⟨rfl, hb⟩
    have B3 := Lib.hid (B2.out.trans (hb.mono B2.out.size))
    clear hb
    go_wp2_with fail
    exact bodyPost_ret (by simp [results, Tryd.results9, go_sem]) rfl ⟨rfl, B3.out⟩
  · rw [decide_eq_false h4] at k1'
    have ho0 : o = 0 := by have := HM.out; unfold Hp.May at this; omega
    subst ho0
    have hn0 : Hp.name (J + 1) 0 = Hp.nm (J + 1) := by unfold Hp.name; simp
    go_wp2_with fail
    exact bodyPost_ret (v := .tuple #[.string (strOfNums (Hp.nm (J + 1))), .nilIface]) (by simp [results, Tryd.results9, go_sem]) rfl ⟨by rw [hn0], B2.out⟩
theorem is_front {bs : List Int} {k o : Nat} (h : Hp.Is bs k o) : bs = Hp.name k o ∧ Hp.front bs = Hp.nm k ∧ (o = 0 → Hp.back bs = []) ∧ (o ≠ 0 → Hp.back bs = Hp.dg o) := by
  obtain ⟨hm, rfl⟩ := h
  refine ⟨rfl, ?_⟩
  by_cases ho : o = 0
  · subst ho
    have e : Hp.name k 0 = Hp.nm k := by unfold Hp.name; simp
    rw [e]
    obtain ⟨e1, e2⟩ := Hp.front_none (Hp.nm_dot k)
    exact ⟨e1, fun _ => e2, fun h => absurd rfl h⟩
  · have e : Hp.name k o = Hp.nm k ++ 46 :: Hp.dg o := by unfold Hp.name; rw [if_neg ho]
    rw [e]
    obtain ⟨e1, e2⟩ := Hp.front_of (a := Hp.nm k) (x := Hp.dg o) (Hp.nm_dot k)
    exact ⟨e1, fun h => absurd h ho, fun _ => e2⟩
/-- what Parse has found at most: else it is no name -/
theorem none_of {bs : List Int} {K : Nat} {v : Int} (hK : ∀ k, 1 ≤ k → k ≤ 12 → Hp.front bs = Hp.nm k → K = k) (h0 : Hp.back bs = [] → v = 0) (hd : ∀ o : Nat, o ≠ 0 → o ≤ 65536 → Hp.back bs = Hp.dg o → v = o)
    (hn : ∀ o : Nat, v = o → Hp.May K o → bs ≠ Hp.name K o) : Hp.None bs := fun k o hi => by
  obtain ⟨e, ef, e0, e1⟩ := is_front hi
  have hk := Hp.may_kind hi.1
  have hKk := hK k hk.1 hk.2 ef
  subst hKk
  have ho : o ≤ 65536 := by have := hi.1; unfold Hp.May at this; omega
  by_cases h : o = 0
  · exact hn o (by rw [h0 (e0 h), h]; rfl) hi.1 e
  · exact hn o (hd o h ho (e1 h)) hi.1 e
set_option maxRecDepth 100000 in
theorem cparse_any (bs : List Int) (hb : ∀ x ∈ bs, 0 ≤ x ∧ x < 256) (hn : bs.length ≤ 2000) (w : World) (hL : Laid w) : Calls Tryd.prog 13 #[.string (strOfNums bs)] w (ParsePost w bs (fun v => .returned (.tuple #[v, .nilIface])) (fun e => e = .returned (.tuple #[acv 0 0, vErr 2]))) := by
  have HB := Lib.hid hb
  have V0 := Lib.hid (AV.new w 23 0 0)
  have B0 := Lib.hid (alloc_below w (.cells #[.int .i64 0, .int .i64 0] 23))
  have HL0 := Lib.hid (hL.below B0.out)
  have hbn : (Hp.back bs).length ≤ 2000 := by rw [Hp.back_drop, List.length_drop]; omega
  have HC := Lib.hid (fun w => ccut bs hb hn w)
  have HA := Lib.hid (fun w h => catoi (Hp.back bs) hbn w h)
  have HF := Lib.hid (fun w h => kind_of (Hp.front bs) (fun x hx => hb x (Hp.front_mem hx)) w h)
  clear hb hn hbn hL
  go_enter Tryd.func13, Tryd.ntmps13
  go_wp2_with fail
  generalize w.alloc (.cells #[.int .i64 0, .int .i64 0] 23) = w1 at *
  refine (HC.out _).mono ?_; rintro e w2 ⟨⟨b, rfl⟩, hb⟩
  have B2 := Lib.hid (B0.out.trans (hb.mono B0.out.size))
  have V2 := Lib.hid (V0.out.below hb)
  have HL2 := Lib.hid (HL0.out.below hb)
  clear hb V0 B0 HL0 HC
  go_wp2_with fail
  refine (HA.out _ HL2.out.2.1).mono ?_; rintro e w3 ⟨⟨v, er, rfl, hv, h0, hd⟩, hb⟩
  have B3 := Lib.hid (B2.out.trans (hb.mono B2.out.size))
  have V3 := Lib.hid (V2.out.below hb)
  have HL3 := Lib.hid (HL2.out.below hb)
  have H0 := Lib.hid h0
  have HD := Lib.hid hd
  clear hb V2 B2 HL2 HA h0 hd
  go_wp2_with fail
  refine (HF.out _ HL3.out.1).mono ?_; rintro e w4 ⟨⟨K, rfl, hK, hKn⟩, rfl⟩
  have HK := Lib.hid hKn
  have V4 := Lib.hid (V3.out.below (alloc_below w4 (.cells #[.int .i64 K, .int .i64 v] 23)))
  have A4 := Lib.hid (AV.new w4 23 K v)
  have B4 := Lib.hid (B3.out.trans ((alloc_below w4 (.cells #[.int .i64 K, .int .i64 v] 23)).mono B3.out.size))
  have HL4 := Lib.hid (HL3.out.below (alloc_below w4 (.cells #[.int .i64 K, .int .i64 v] 23)))
  clear hKn V3 B3 HL3 HF
  go_wp2_with fail
  generalize hw5 : w4.alloc (.cells #[.int .i64 K, .int .i64 v] 23) = w5 at *
  clear hw5
  by_cases hm : Hp.May K v
  · obtain ⟨J, rfl⟩ : ∃ J : Nat, K = J + 1 := ⟨K - 1, by unfold Hp.May at hm; omega⟩
    obtain ⟨o, rfl⟩ : ∃ o : Nat, v = (o : Int) := ⟨v.toNat, by unfold Hp.May at hm; omega⟩
    have hm1 : Hp.May ((J : Int) + 1) o := by push_cast at hm; exact hm
    have HM := Lib.hid hm
    refine (cname_yes J o hm1 _ HL4.out).mono ?_; rintro e w6 ⟨rfl, hb⟩
    have B6 := Lib.hid (B4.out.trans (hb.mono B4.out.size))
    have V6 := Lib.hid (V4.out.below hb)
    have A6 := Lib.hid (A4.out.below hb)
    clear hb hm hm1 V4 A4 B4 HL4
    obtain ⟨-, ⟨z0, z1⟩, y0, y1⟩ := V6.out
    obtain ⟨-, ⟨a0, a1⟩, -, -⟩ := A6.out
    by_cases he : Hp.name (J + 1) o = bs
    · have hee : ((strOfNums (Hp.name (J + 1) o)).toList == (strOfNums bs).toList) = true := by rw [he]; simp
      have HE := Lib.hid he
      clear he
      go_wp2_with fail
      exact bodyPost_ret (v := .tuple #[acv ((J : Int) + 1) o, .nilIface]) (by simp [results, Tryd.results13, go_sem, z0, z1]) rfl ⟨.inl ⟨J + 1, o, ⟨by have := HM.out; push_cast at this ⊢; exact this, HE.out.symm⟩, by simp⟩, (B6.out.setCell (Nat.le_refl _) _).setCell (Nat.le_refl _) _⟩
    · have hee := str_ne (Hp.name_bytes (J + 1) o) HB.out he
      have hno : ∀ o' : Nat, (o : Int) = o' → Hp.May (J + 1 : Nat) o' → bs ≠ Hp.name (J + 1) o' := fun o' h1 _ h3 => by
        obtain rfl : o = o' := by omega
        exact he h3.symm
      have HNN := Lib.hid (none_of HK.out H0.out HD.out hno)
      clear he hno
      go_wp2_with fail
      exact bodyPost_ret (v := .tuple #[acv 0 0, vErr 2]) (by simp [results, Tryd.results13, go_sem, z0, z1]) rfl ⟨.inr ⟨HNN.out, rfl⟩, (B6.out.setCell (Nat.le_refl _) _).setCell (Nat.le_refl _) _⟩
  · have HNN := Lib.hid (none_of HK.out H0.out HD.out (fun o' h1 h2 h3 => hm (by rw [h1]; exact h2)))
    refine (cname_no K v hm _ HL4.out).mono ?_; rintro e w6 ⟨rfl, hb⟩
    have B6 := Lib.hid (B4.out.trans (hb.mono B4.out.size))
    have V6 := Lib.hid (V4.out.below hb)
    clear hb hm V4 A4 B4 HL4
    obtain ⟨-, ⟨z0, z1⟩, y0, y1⟩ := V6.out
    go_wp2_with fail
    exact bodyPost_ret (v := .tuple #[acv 0 0, vErr 2]) (by simp [results, Tryd.results13, go_sem, z0, z1]) rfl ⟨.inr ⟨HNN.out, rfl⟩, (B6.out.setCell (Nat.le_refl _) _).setCell (Nat.le_refl _) _⟩
end Go.Proofs.YtnbieibbfpajeaaDoor
