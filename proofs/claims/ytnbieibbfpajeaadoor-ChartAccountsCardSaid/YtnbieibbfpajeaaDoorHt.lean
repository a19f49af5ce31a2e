/- The reference's Parse. -/
import Derived.Test.YtnbieibbfpajeaaDoorHn
import Derived.Test.YtnbieibbfpajeaaDoorHs
namespace Go.Proofs.YtnbieibbfpajeaaDoor
open Go.ChangeShapes Go.WideShapes Go.ChangeAt Go.RowKit Go.Lib

/-- a variable that holds an account -/
def AV (wr : World) (b : Nat) (k o : Int) : Prop := b < wr.heap.size ∧ (wr.cell? ⟨b, 0, none⟩ = some (.int .i64 k) ∧ wr.cell? ⟨b, 1, none⟩ = some (.int .i64 o)) ∧ wr.frozen? ⟨b, 0, none⟩ = false ∧ wr.frozen? ⟨b, 1, none⟩ = false
theorem AV.new (wr : World) (t : TypeId) (k o : Int) : AV (wr.alloc (.cells #[.int .i64 k, .int .i64 o] t)) wr.heap.size k o := ⟨by simp, ⟨by simp, by simp⟩, by simp, by simp⟩
theorem AV.below {wr wq : World} {b : Nat} {k o : Int} (h : AV wr b k o) (hb : Below wr.heap.size wr wq) : AV wq b k o := by
  obtain ⟨h3, ⟨c0, c1⟩, f0, f1⟩ := h
  exact ⟨Nat.lt_of_lt_of_le h3 hb.size, ⟨(hb.cell (p := ⟨b, 0, none⟩) h3).trans c0, (hb.cell (p := ⟨b, 1, none⟩) h3).trans c1⟩, (hb.frozen (p := ⟨b, 0, none⟩) h3).trans f0, (hb.frozen (p := ⟨b, 1, none⟩) h3).trans f1⟩
theorem str_get (l : List Int) (hb : ∀ x ∈ l, 0 ≤ x ∧ x < 256) (i : Nat) (h : i < (strOfNums l).size) : (((strOfNums l)[i]).toNat : Int) = l.getD i 0 := by
  have hl : i < l.length := by rw [strOfNums_size] at h; exact h
  have h2 := hb (l.getD i 0) (by rw [List.getD_eq_getElem?_getD, List.getElem?_eq_getElem hl]; exact List.getElem_mem _)
  have e : (strOfNums l)[i] = UInt8.ofNat (l.getD i 0).toNat := by
    show (strOfNums l).data[i]'h = _
    rw [List.getD_eq_getElem?_getD, List.getElem?_eq_getElem hl]
    simp [strOfNums]
  rw [e, UInt8.toNat_ofNat']
  omega
/-- what Parse tells of a name, or of what is none -/
def ParsePost (w : World) (bs : List Int) (yes : Value → Ending) (no : Ending → Prop) (e : Ending) (w' : World) : Prop :=
  ((∃ k o : Nat, Hp.Is bs k o ∧ e = yes (acv k o)) ∨ (Hp.None bs ∧ no e)) ∧ Below w.heap.size w w'
set_option maxHeartbeats 8000000 in
set_option maxRecDepth 100000 in
theorem refparse_any (bs : List Int) (hb : ∀ x ∈ bs, 0 ≤ x ∧ x < 256) (hn : bs.length ≤ 2000) (w : World) : Calls Tryd.prog 14 #[.string (strOfNums bs)] w (ParsePost w bs (fun v => .returned (.tuple #[v, .bool true])) (fun e => ∃ k o : Int, e = .returned (.tuple #[acv k o, .bool false]))) := by
  have HB := Lib.hid hb
  have HN9 := Lib.hid hn
  obtain ⟨N, hN⟩ : ∃ N, bs.length = N := ⟨_, rfl⟩
  have HN := Lib.hid hN
  have hz : (strOfNums bs).size = N := by rw [strOfNums_size, hN]
  have hN2 : N ≤ 2000 := by rw [← hN]; exact hn
  clear hb hn hN
  have V0 := Lib.hid (AV.new w 23 0 0)
  have B0 := Lib.hid (alloc_below w (.cells #[.int .i64 0, .int .i64 0] 23))
  go_enter Tryd.func14, Tryd.ntmps14
  go_wp2_with fail
  generalize w.alloc (.cells #[.int .i64 0, .int .i64 0] 23) = w1 at *
  refine (names_any _).mono ?_; rintro e w2 ⟨rfl, hg, hb⟩
  have HG := Lib.hid hg
  have B2 := Lib.hid (B0.out.trans (hb.mono B0.out.size))
  have V2 := Lib.hid (V0.out.below hb)
  clear hb hg V0 B0
  go_wp2_with fail
  go_loopw [5, 6, 7, 8, 9, 10] (fun kv s6 s7 s8 s9 s10 wr => ∃ J : Nat, kv = .int .i64 ((J : Int) + 1) ∧ J ≤ 12 ∧ Hid (Hp.Par J bs) ∧ w2 = wr) (fun kv _ _ _ _ _ _ => 13 - (RowKit.intOf kv).toNat)
  case atStart => exact ⟨0, rfl, by decide, Hp.par_zero bs, rfl⟩
  case round =>
    obtain ⟨J, rfl, hJ, HP, rfl⟩ := hrel
    by_cases hlt : J < 12
    · have hltz : (J : Int) + 1 ≤ 12 := by omega
      have hx : w2.cell? ⟨w1.heap.size, J, none⟩ = some (.string (strOfNums (Hp.nm (J + 1)))) := HG.out.2 (J + 1) (by omega) (by omega)
      have e1 : IntKind.i64.wrap ((J : Int) + 1 - 1) = (J : Int) := by rw [IntKind.wrap_i64]; omega
      have e1b : IntKind.i64.wrap (J : Int) = (J : Int) := by rw [IntKind.wrap_i64]; omega
      have e2 : (0 : Int) ≤ (J : Int) := by omega
      have e4 : (J : Int).toNat = J := by omega
      obtain ⟨L, hL⟩ : ∃ L, (Hp.nm (J + 1)).length = L := ⟨_, rfl⟩
      have hL9 : L ≤ 9 := by rw [← hL]; exact nm_max _
      have hzn : (strOfNums (Hp.nm (J + 1))).size = L := by rw [strOfNums_size, hL]
      have HL := Lib.hid hL
      clear hL
      by_cases h3 : J < 3
      · have h3z : decide ((J : Int) + 1 ≤ 3) = true := by simp; omega
        by_cases he : bs = Hp.nm (J + 1)
        · have hee : ((strOfNums bs).toList == (strOfNums (Hp.nm (J + 1))).toList) = true := by rw [he]; simp
          obtain ⟨-, ⟨z0, z1⟩, y0, y1⟩ := V2.out
          have HI := Lib.hid (show Hp.Is bs (J + 1) 0 from ⟨Hp.may_small (by omega) (by omega), by rw [Hp.name_small (by omega) (Hp.may_small (by omega) (by omega))]; exact he⟩)
          go_wp2_with fail
          exact bodyPost_ret (v := .tuple #[acv ((J : Int) + 1) 0, .bool true]) (by simp [results, Tryd.results14, go_sem, z0, z1]) rfl ⟨.inl ⟨J + 1, 0, HI.out, by simp⟩, (B2.out.setCell (Nat.le_refl _) _).setCell (Nat.le_refl _) _⟩
        · have hee := str_ne HB.out (Hp.nm_bytes (J + 1)) he
          have HPN := Lib.hid (Hp.par_next HP.out (fun o hm => by rw [Hp.name_small (by omega) hm]; exact he))
          go_wp2_with fail
          exact ⟨⟨J + 1, by go_num, by omega, HPN.out, trivial⟩, by simp [RowKit.intOf]; omega⟩
      · have h3z : decide ((J : Int) + 1 ≤ 3) = false := by simp; omega
        have g0 : (0 : Int) ≤ (L : Int) := by omega
        by_cases c1 : N ≤ L + 1
        · have HPN := Lib.hid (Hp.par_next HP.out (fun o hm e => by have h := (Hp.shape_of (by omega) hm e).1; rw [HL.out, HN.out] at h; omega))
          have f1 : decide ((N : Int) ≤ (L : Int) + 1) = true := by simp; omega
          go_wp2_with fail
          exact ⟨⟨J + 1, by go_num, by omega, HPN.out, trivial⟩, by simp [RowKit.intOf]; omega⟩
        · have f1 : decide ((N : Int) ≤ (L : Int) + 1) = false := by simp; omega
          by_cases c2 : L + 6 < N
          · have HPN := Lib.hid (Hp.par_next HP.out (fun o hm e => by have h := (Hp.shape_of (by omega) hm e).2.1; rw [HL.out, HN.out] at h; omega))
            have f2 : decide ((L : Int) + 6 < (N : Int)) = true := by simp; omega
            go_wp2_with fail
            exact ⟨⟨J + 1, by go_num, by omega, HPN.out, trivial⟩, by simp [RowKit.intOf]; omega⟩
          · have f2 : decide ((L : Int) + 6 < (N : Int)) = false := by simp; omega
            have g1 : (L : Int) ≤ (N : Int) := by omega
            have g2 : (L : Int) < (N : Int) := by omega
            have g3 : L < N := by omega
            have hex := str_take bs L
            by_cases c3 : bs.take L = Hp.nm (J + 1)
            · rw [c3] at hex
              have hid := str_get bs HB.out L (by rw [hz]; exact g3)
              by_cases c4 : bs.getD L 0 = 46
              · have HSH := Lib.hid (show Hp.Shape (J + 1) bs from ⟨by rw [HL.out, HN.out]; omega, by rw [HL.out, HN.out]; omega, by rw [HL.out]; exact c3, by rw [HL.out]; exact c4⟩)
                rw [c4] at hid
                clear c3 c4
                go_wp2_with fail
                go_loopw [7, 8] (fun nv iv wr => ∃ i v : Nat, nv = .int .i64 v ∧ iv = .int .i64 i ∧ L + 1 ≤ i ∧ i ≤ N ∧ v ≤ 99999 ∧ Hid (v < 10 ^ (i - (L + 1))) ∧ Hid (Hp.val 0 ((bs.take i).drop (L + 1)) = v) ∧ w2 = wr) (fun _ iv _ => N - (RowKit.intOf iv).toNat)
                case atStart => exact ⟨L + 1, 0, rfl, by go_num, Nat.le_refl _, by omega, by decide, Lib.hid (by simp), Lib.hid (by rw [List.drop_of_length_le (by rw [List.length_take]; omega)]; rfl), rfl⟩
                case round =>
                  obtain ⟨i, v, rfl, rfl, hLi, hiN, hv5, HV5, HV, rfl⟩ := hrel
                  by_cases hin : i < N
                  · have hinz : (i : Int) < (N : Int) := by omega
                    have hdi := str_get bs HB.out i (by rw [hz]; exact hin)
                    have i0 : (0 : Int) ≤ (i : Int) := by omega
                    by_cases hdig : bs.getD i 0 < 48 ∨ 57 < bs.getD i 0
                    · have HNN := Lib.hid (Hp.none_digit (k := J + 1) ⟨by omega, by omega⟩ HSH.out (by rw [HL.out]; exact hLi) (by rw [HN.out]; exact hin) hdig)
                      generalize bs.getD i 0 = d at *
                      obtain ⟨-, ⟨z0, z1⟩, y0, y1⟩ := V2.out
                      by_cases hd1 : d < 48
                      · have k2 : decide (d < 48) = true := by simpa using hd1
                        go_wp2_with fail
                        exact bodyPost_ret (v := .tuple #[acv 0 0, .bool false]) (by simp [results, Tryd.results14, go_sem, z0, z1]) rfl ⟨.inr ⟨HNN.out, _, _, rfl⟩, (B2.out.setCell (Nat.le_refl _) _).setCell (Nat.le_refl _) _⟩
                      · have k2 : decide (d < 48) = false := by simpa using hd1
                        have k3 : decide (57 < d) = true := by simp; omega
                        go_wp2_with fail
                        exact bodyPost_ret (v := .tuple #[acv 0 0, .bool false]) (by simp [results, Tryd.results14, go_sem, z0, z1]) rfl ⟨.inr ⟨HNN.out, _, _, rfl⟩, (B2.out.setCell (Nat.le_refl _) _).setCell (Nat.le_refl _) _⟩
                    · obtain ⟨D, hD⟩ : ∃ D : Nat, bs.getD i 0 = 48 + (D : Int) := ⟨(bs.getD i 0 - 48).toNat, by omega⟩
                      have hD9 : D ≤ 9 := by omega
                      have HVN := Lib.hid (show Hp.val 0 ((bs.take (i + 1)).drop (L + 1)) = ((v * 10 + D : Nat) : Int) by
                        rw [Hp.val_next hLi (by rw [HN.out]; exact hin), HV.out, hD]; push_cast; omega)
                      have hV5 : v * 10 + D < 10 ^ (i + 1 - (L + 1)) := by
                        have h := HV5.out
                        have e : i + 1 - (L + 1) = (i - (L + 1)) + 1 := by omega
                        rw [e, Nat.pow_succ]; omega
                      have hv6 : v * 10 + D ≤ 99999 := by
                        have h : (10 : Nat) ^ (i + 1 - (L + 1)) ≤ 10 ^ 5 := Nat.pow_le_pow_right (by decide) (by omega)
                        have h2 : (10 : Nat) ^ 5 = 100000 := by decide
                        omega
                      have HV6 := Lib.hid hV5
                      rw [hD] at hdi
                      clear hV5 hdig hD HV HV5
                      have k2 : decide (48 + (D : Int) < 48) = false := by simp; omega
                      have k3 : decide (57 < 48 + (D : Int)) = false := by simp; omega
                      have k4 : IntKind.u8.wrap (D : Int) = (D : Int) := by rw [IntKind.wrap_u8]; omega
                      have k5 : IntKind.u8.wrap (48 + (D : Int) - 48) = (D : Int) := by rw [IntKind.wrap_u8]; omega
                      go_wp2_with fail
                      exact ⟨⟨i + 1, v * 10 + D, by go_num, by go_num, by omega, by omega, hv6, HV6.out, HVN.out, trivial⟩, by simp [RowKit.intOf]; omega⟩
                  · obtain rfl : i = N := by omega
                    have HVV := Lib.hid (show Hp.val 0 (bs.drop ((Hp.nm (J + 1)).length + 1)) = (v : Nat) by
                      rw [HL.out]
                      have h := HV.out
                      rwa [List.take_of_length_le (by rw [HN.out]; exact Nat.le_refl _)] at h)
                    have HFR := Lib.hid (fun (j o : Nat) (hz : Hp.Is bs j o) => Hp.is_from (k := J + 1) (n := v) ⟨by omega, by omega⟩ HSH.out HVV.out hz)
                    have A1 := Lib.hid (AV.new w2 23 ((J : Int) + 1) v)
                    have al := alloc_below w2 (.cells #[.int .i64 ((J : Int) + 1), .int .i64 v] 23)
                    have V3 := Lib.hid (V2.out.below al)
                    have B3 := Lib.hid (B2.out.trans (al.mono B2.out.size))
                    clear al hex hid HV HV5 HVV hx
                    go_wp2_with fail
                    generalize w2.alloc (.cells #[.int .i64 ((J : Int) + 1), .int .i64 v] 23) = w3 at *
                    refine (refmay_any _ _ _).mono ?_; rintro e w4 ⟨rfl, hb⟩
                    have A1 := Lib.hid (A1.out.below hb)
                    have V3 := Lib.hid (V3.out.below hb)
                    have B3 := Lib.hid (B3.out.trans (hb.mono B3.out.size))
                    clear hb
                    obtain ⟨-, ⟨z0, z1⟩, y0, y1⟩ := V3.out
                    obtain ⟨-, ⟨x0, x1⟩, -⟩ := A1.out
                    by_cases hm : Hp.May ((J : Int) + 1) v
                    · have hmd : decide (Hp.May ((J : Int) + 1) v) = true := decide_eq_true hm
                      have hv9 : v ≤ 65536 := by unfold Hp.May at hm; omega
                      rw [hmd]
                      have HSA := Lib.hid A1.out.1
                      have hb2 := Hp.name_bytes (J + 1) v
                      by_cases hq : Hp.name (J + 1) v = bs
                      · have HI := Lib.hid (show Hp.Is bs (J + 1) v from ⟨by push_cast; exact hm, hq.symm⟩)
                        have HRN := Lib.hid (fun w => refname_any J v (by omega) hv9 w)
                        rw [hq] at HRN
                        clear hm hmd hq hb2
                        go_wp2_with fail
                        first
                        | go_region_with (first
                          | (go_at_call 12; refine (HRN.out _).mono ?_; rintro e w5 ⟨rfl, hb⟩; have hb5 := (Below.refl w4.heap.size w4).drew.trans hb; have B5 := Lib.hid (B3.out.trans (hb5.mono B3.out.size)); have V5 := V3.out.below hb5; obtain ⟨-, ⟨z0, z1⟩, y0, y1⟩ := V5; have A5 := A1.out.below hb5; obtain ⟨-, ⟨x0, x1⟩, -⟩ := A5; clear hb hb5))
                        | fail
                        all_goals
                          go_wp2_with fail
                          exact bodyPost_ret (v := .tuple #[acv ((J : Int) + 1) v, .bool true]) (by simp [results, Tryd.results14, go_sem, z0, z1]) rfl ⟨.inl ⟨J + 1, v, HI.out, by push_cast; rfl⟩, (B5.out.setCell (Nat.le_refl _) _).setCell (Nat.le_refl _) _⟩
                      · have HNN := Lib.hid (show Hp.None bs from fun j o hz => by
                          have h := HFR.out j o hz
                          obtain ⟨rfl, rfl⟩ := h
                          exact hq hz.2.symm)
                        have HRN := Lib.hid (fun w => refname_any J v (by omega) hv9 w)
                        have k0 := str_ne hb2 HB.out hq
                        clear hm hmd hq hb2
                        go_wp2_with fail
                        first
                        | go_region_with (first
                          | (go_at_call 12; refine (HRN.out _).mono ?_; rintro e w5 ⟨rfl, hb⟩; have hb5 := (Below.refl w4.heap.size w4).drew.trans hb; have B5 := Lib.hid (B3.out.trans (hb5.mono B3.out.size)); have V5 := V3.out.below hb5; obtain ⟨-, ⟨z0, z1⟩, y0, y1⟩ := V5; have A5 := A1.out.below hb5; obtain ⟨-, ⟨x0, x1⟩, -⟩ := A5; clear hb hb5))
                        | fail
                        all_goals
                          go_wp2_with fail
                          exact bodyPost_ret (v := .tuple #[acv ((J : Int) + 1) v, .bool false]) (by simp [results, Tryd.results14, go_sem, z0, z1]) rfl ⟨.inr ⟨HNN.out, _, _, rfl⟩, (B5.out.setCell (Nat.le_refl _) _).setCell (Nat.le_refl _) _⟩
                    · have HNN := Lib.hid (show Hp.None bs from fun j o hz => by
                        have h := HFR.out j o hz
                        obtain ⟨rfl, rfl⟩ := h
                        exact hm (by have := hz.1; push_cast at this; exact this))
                      have hmd : decide (Hp.May ((J : Int) + 1) v) = false := decide_eq_false hm
                      rw [hmd]
                      clear hm hmd
                      go_wp2_with fail
                      first
                      | go_region_with (first | fail)
                      | fail
                      all_goals
                        go_wp2_with fail
                        exact bodyPost_ret (v := .tuple #[acv ((J : Int) + 1) v, .bool false]) (by simp [results, Tryd.results14, go_sem, z0, z1]) rfl ⟨.inr ⟨HNN.out, _, _, rfl⟩, ((B3.out.setCell (Nat.le_refl _) _).setCell (Nat.le_refl _) _).drew⟩
              · have HPN := Lib.hid (Hp.par_next HP.out (fun o hm e => by have h := (Hp.shape_of (by omega) hm e).2.2.2; rw [HL.out] at h; exact c4 h))
                generalize bs.getD L 0 = d at *
                have k2 : (d == 46) = false := by simpa using c4
                have k3 : (d != 46) = true := by simpa using c4
                clear c3
                go_wp2_with fail
                exact ⟨⟨J + 1, by go_num, by omega, HPN.out, trivial⟩, by simp [RowKit.intOf]; omega⟩
            · have HPN := Lib.hid (Hp.par_next HP.out (fun o hm e => by have h := (Hp.shape_of (by omega) hm e).2.2.1; rw [HL.out] at h; exact c3 h))
              have k0 := str_ne (fun x hx => HB.out x (List.mem_of_mem_take hx)) (Hp.nm_bytes (J + 1)) c3
              have k1 : ¬ (strOfNums (bs.take L)).toList = (strOfNums (Hp.nm (J + 1))).toList := by simpa using k0
              clear c3
              go_wp2_with fail
              exact ⟨⟨J + 1, by go_num, by omega, HPN.out, trivial⟩, by simp [RowKit.intOf]; omega⟩
    · obtain rfl : J = 12 := by omega
      have HNN := Lib.hid (Hp.none_par HP.out)
      obtain ⟨-, ⟨z0, z1⟩, y0, y1⟩ := V2.out
      go_wp2_with fail
      exact bodyPost_ret (v := .tuple #[acv 0 0, .bool false]) (by simp [results, Tryd.results14, go_sem, z0, z1]) rfl ⟨.inr ⟨HNN.out, _, _, rfl⟩, (B2.out.setCell (Nat.le_refl _) _).setCell (Nat.le_refl _) _⟩
end Go.Proofs.YtnbieibbfpajeaaDoor
