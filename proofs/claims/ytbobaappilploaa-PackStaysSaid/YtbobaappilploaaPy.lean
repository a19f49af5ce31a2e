import Derived.Test.YtbobaappilploaaPb
/- written by wip/tools/gen_py.py -/
namespace Go.Proofs.Ytbobaappilploaa
open Go.RowKit Go.Lib Go.ChangeShapes Go.WideShapes Go.ChangeAt

/-- bytes that may be written -/
def U8 (w : World) (g L : Nat) : Prop := ∀ j, j < L → (∃ z, w.cell? ⟨g, j, none⟩ = some (.int .u8 z)) ∧ w.frozen? ⟨g, j, none⟩ = false
theorem U8.set {w : World} {g L : Nat} (h : U8 w g L) (j : Nat) (hj : j < L) (z : Int) : U8 (w.setCell ⟨g, j, none⟩ (.int .u8 z)) g L := fun i hi => by
  refine ⟨?_, by rw [World.frozen?_setCell]; exact (h i hi).2⟩
  by_cases e : i = j
  · subst e
    obtain ⟨y, hy⟩ := (h i hi).1
    exact ⟨z, World.cell?_setCell_same _ _ _ hy⟩
  · obtain ⟨y, hy⟩ := (h i hi).1
    exact ⟨y, (World.cell?_setCell_other _ _ _ _ (by intro e2; injection e2 with _ e3; exact e e3.symm)).trans hy⟩
theorem U8.of_own {w : World} {base g n cap : Nat} {bs : List Int} (h : w.ownsRow base 5 1 (.slice (some ⟨g, 0, none⟩) n cap) n (bs.map (Value.int .u8))) : U8 w g n := fun j hj => by
  refine ⟨?_, h.frozenAt j⟩
  have hl : bs.length = n := by have := h.1; simpa using this
  rw [h.cellAt j (by omega), List.getElem?_map, List.getElem?_eq_getElem (by omega)]
  exact ⟨_, rfl⟩
theorem U8.below {w w' : World} {g L : Nat} (h : U8 w g L) (hb : Below w.heap.size w w') : U8 w' g L := fun j hj => by
  obtain ⟨⟨z, hz⟩, hf⟩ := h j hj
  have hlt := cell_lt hz
  exact ⟨⟨z, (hb.cell (p := ⟨g, j, none⟩) hlt).trans hz⟩, (hb.frozen (p := ⟨g, j, none⟩) hlt).trans hf⟩
/-- a row of bytes that came of a world, if there is a byte -/
def Mn (w6 w : World) (A7 : Option Addr) (nb : Nat) : Prop := nb = 0 ∨ ∃ g7, A7 = some ⟨g7, 0, none⟩ ∧ w6.heap.size ≤ g7 ∧ U8 w g7 nb
theorem Mn.below {w6 w w' : World} {A7 : Option Addr} {nb : Nat} (h : Mn w6 w A7 nb) (hb : Below w.heap.size w w') : Mn w6 w' A7 nb := by
  rcases h with h | ⟨g7, e, h, u⟩
  · exact .inl h
  · exact .inr ⟨g7, e, h, u.below hb⟩
/-- numbers of 64 bits stay where a byte is written -/
theorem RdK.store8 {w : World} {B : Nat} {A : Option Addr} {n : Nat} {zs : List Int} (h : RdK .i64 w B A n zs) {a : Addr} {z : Int} (hc : w.cell? a = some (.int .u8 z)) (v : Value) : RdK .i64 (w.setCell a v) B A n zs :=
  ⟨h.1, fun j hj => by
    obtain ⟨b, off, e, hb, hx⟩ := h.2 j hj
    refine ⟨b, off, e, hb, (World.cell?_setCell_other _ _ _ _ ?_).trans hx⟩
    intro e2; rw [← e2, hc] at hx; cases hx⟩
theorem CV.store8 {wr : World} {b : Nat} {k key l : Int} {A : Option Addr} {n c : Nat} (h : CV wr b k key l A n c) {a : Addr} {z : Int} (hc : wr.cell? a = some (.int .u8 z)) (v : Value) : CV (wr.setCell a v) b k key l A n c := by
  obtain ⟨h3, ⟨c0, c1, c2, c3⟩, f0, f1, f2, f3⟩ := h
  have ne (i : Nat) (u : Value) (hu : wr.cell? ⟨b, i, none⟩ = some u) (h8 : u ≠ .int .u8 z) : a ≠ ⟨b, i, none⟩ := fun e => by rw [e, hu] at hc; exact h8 (Option.some.inj hc)
  exact ⟨by simpa using h3, ⟨(World.cell?_setCell_other _ _ _ _ (ne 0 _ c0 (by simp))).trans c0, (World.cell?_setCell_other _ _ _ _ (ne 1 _ c1 (by simp))).trans c1, (World.cell?_setCell_other _ _ _ _ (ne 2 _ c2 (by simp))).trans c2, (World.cell?_setCell_other _ _ _ _ (ne 3 _ c3 (by simp))).trans c3⟩, by simpa using f0, by simpa using f1, by simpa using f2, by simpa using f3⟩
theorem empty_own64 (w : World) : (w.alloc (.cells #[] 2)).ownsRow w.heap.size 2 1 (.slice (some ⟨w.heap.size, 0, none⟩) 0 0) 0 [] :=
  ⟨rfl, .inr ⟨w.heap.size, 0, #[], rfl, Nat.le_refl _, heap_alloc_new _ _, Nat.le_refl _, by decide, rfl, rfl⟩⟩
theorem ones64i (l : List Int) : ∀ u ∈ l.map (Value.int .i64), u.oneCell' = true := fun u hu => by obtain ⟨z, _, rfl⟩ := List.mem_map.1 hu; rfl
set_option maxHeartbeats 8000000 in
theorem stays_walk (k key l : Int) (A : Option Addr) (N c : Nat) (ns : List Int) (Ab : Option Addr) (nb cb : Nat) (bs : List Int) (w : World) (hr : RdK .i64 w w.heap.size A N ns) (hok : Pk.Ok k key l ns) (hnc : N ≤ c) (hcc : c ≤ 9223372036854775807) (hA : A = none → c = 0)
    (hrb : RdK .u8 w w.heap.size Ab nb bs) (hbb : ∀ x ∈ bs, 0 ≤ x ∧ x < 256) (hnb : nb ≤ cb) (hcb2 : cb ≤ 9223372036854775807) (hAb : Ab = none → cb = 0) :
    Calls Try.prog 6 #[cmv k key l A N c, .slice Ab nb cb] w fun e w' => e = .returned (.bool true) ∧ Below w.heap.size w w' := by
  obtain ⟨i0, hi, hz0, hz1, hz2⟩ := info_parts info8
  obtain ⟨j0, hj, hy0, hy1, hy2⟩ := info_parts info64
  have HO := Lib.hid hok
  have HNL := Lib.hid hr.1
  have HBB := Lib.hid hbb
  have B := Lib.hid ((Below.refl w.heap.size w).alloc (Nat.le_refl _) (.cells #[.int .i64 k, .int .i64 key, .int .i64 l, .slice A N c] 24))
  have V := Lib.hid (CV.new w 24 k key l A N c)
  have R := Lib.hid ((hr.below B.out).more B.out.size)
  have RB := Lib.hid ((hrb.below B.out).more B.out.size)
  clear hok hr hrb hbb
  by_cases h1 : 1000 < N
  · have h1z : (1000 : Int) < (N : Int) := by omega
    go_enter Try.func6, Try.ntmps6
    go_wp2_with fail
    refine (up_any _).mono ?_; rintro e w1 ⟨rfl, hb⟩; have V := Lib.hid (V.out.below hb); have B := Lib.hid (B.out.trans (hb.mono B.out.size)); clear hb
    obtain ⟨-, ⟨c0, c1, c2, c3⟩, -⟩ := V.out
    go_wp2_with fail
    go_ret
    exact ⟨rfl, B.out⟩
  have h1z : decide ((1000 : Int) < (N : Int)) = false := by simp; omega
  by_cases h2 : 1000 < nb
  · have h2z : (1000 : Int) < (nb : Int) := by omega
    go_enter Try.func6, Try.ntmps6
    go_wp2_with fail
    refine (up_any _).mono ?_; rintro e w1 ⟨rfl, hb⟩; have V := Lib.hid (V.out.below hb); have B := Lib.hid (B.out.trans (hb.mono B.out.size)); clear hb
    obtain ⟨-, ⟨c0, c1, c2, c3⟩, -⟩ := V.out
    go_wp2_with fail
    go_ret
    exact ⟨rfl, B.out⟩
  have h2z : decide ((1000 : Int) < (nb : Int)) = false := by simp; omega
  cases A with
  | none =>
    obtain ⟨rfl, rfl⟩ := R.out.none_nil
    obtain rfl : c = 0 := hA rfl
    go_enter Try.func6, Try.ntmps6
    go_wp2_with fail
    refine (up_any _).mono ?_; rintro e w1 ⟨rfl, hb⟩
    have V := Lib.hid (V.out.below hb)
    have R := Lib.hid ((R.out.below hb).more (hb).size)
    have RB := Lib.hid ((RB.out.below hb).more (hb).size)
    have B := Lib.hid (B.out.trans ((hb).mono B.out.size))
    clear hb
    obtain ⟨-, ⟨c0, c1, c2, c3⟩, cf0, cf1, cf2, cf3⟩ := V.out
    have O := Lib.hid (CV.new w1 24 k key l none 0 0)
    have hbE := ((Below.refl w1.heap.size w1).alloc (Nat.le_refl _) (.cells #[.int .i64 k, .int .i64 key, .int .i64 l, .slice none 0 0] 24)).alloc (by simp) (.cells #[] 2)
    have VE := V.out.below hbE
    obtain ⟨-, ⟨e0, e1, e2, e3⟩, -⟩ := VE
    go_wp2_with (at_builtin; refine wpList_append_own_none rfl _ _ 22 rfl (w1.heap.size + 1) 2 j0 1 Try.underlying22 hj _ 0 [] rfl (show ((w1.alloc (.cells #[.int .i64 k, .int .i64 key, .int .i64 l, .slice none 0 0] 24)).alloc (.cells #[] 2)).ownsRow (w1.heap.size + 1) 2 1 (.slice (some ⟨w1.heap.size + 1, 0, none⟩) 0 0) 0 [] by simpa using empty_own64 (w1.alloc (.cells #[.int .i64 k, .int .i64 key, .int .i64 l, .slice none 0 0] 24))) rfl ?_)
    obtain ⟨A2, hA2⟩ : ∃ x, (some ⟨w1.heap.size + 1, 0, none⟩ : Option Addr) = x := ⟨_, rfl⟩
    rw [hA2]
    clear hA2 hbE O
    have hbW : Below w1.heap.size w1 ((w1.alloc (.cells #[.int .i64 k, .int .i64 key, .int .i64 l, .slice A2 0 0] 24)).alloc (.cells #[] 2)) := ((Below.refl w1.heap.size w1).alloc (Nat.le_refl _) _).alloc (by simp) _
    have V := Lib.hid (V.out.below hbW)
    have R := Lib.hid ((R.out.below hbW).more (hbW).size)
    have RB := Lib.hid ((RB.out.below hbW).more (hbW).size)
    have B := Lib.hid (B.out.trans ((hbW).mono B.out.size))
    clear hbW
    have O := Lib.hid ((CV.new w1 24 k key l A2 0 0).below ((Below.refl _ _).alloc (Nat.le_refl _) (.cells #[] 2)))
    have RN := Lib.hid (show RdK .i64 ((w1.alloc (.cells #[.int .i64 k, .int .i64 key, .int .i64 l, .slice A2 0 0] 24)).alloc (.cells #[] 2)) ((w1.alloc (.cells #[.int .i64 k, .int .i64 key, .int .i64 l, .slice A2 0 0] 24)).alloc (.cells #[] 2)).heap.size A2 0 [] from ⟨rfl, fun j hj => absurd hj (Nat.not_lt_zero _)⟩)
    have hcA : 0 ≤ 0 ∧ 0 ≤ 9223372036854775807 := by decide
    have h16 : 0 ≤ 16 := by decide
    clear c0 c1 c2 c3 cf0 cf1 cf2 cf3 e0 e1 e2 e3
    generalize ((w1.alloc (.cells #[.int .i64 k, .int .i64 key, .int .i64 l, .slice A2 0 0] 24)).alloc (.cells #[] 2)) = w3 at *
    have hps := Pk.cb_len k key l ([] : List Int)
    rw [HNL.out] at hps
    have HPB := Lib.hid (Pk.cb_bytes HO.out (by rw [HNL.out]; omega))
    have HPUT := Lib.hid (fun (w : World) (hr : RdK .i64 w w.heap.size A2 0 ([] : List Int)) => cput_yes k key l A2 0 0 ([] : List Int) w hr HO.out h16 hcA.1 hcA.2)
    generalize Pk.cb k key l ([] : List Int) = ps at *
    have HP0 := Lib.hid (show 0 < ps.length by omega)
    have hl2 : ps.length ≤ 200 := by omega
    clear hps
    refine (HPUT.out _ RN.out).mono ?_; rintro e w4 ⟨v, rfl, ho⟩
    obtain ⟨g, c9, rfl, hg, _, hcell⟩ := own_some ho.1 HP0.out
    have kA := to_string (w := w4) (g := g) (n := ps.length) (c := c9) (bs := ps) rfl hcell
    have HU := Lib.hid (U8.of_own ho.1)
    have H4 := Lib.hid ho.2
    clear ho hcell
    go_wp2_with fail
    clear kA
    go_loopw [10] (fun iv wr => ∃ i : Nat, iv = .int .i64 i ∧ i ≤ ps.length ∧ Hid (Below w3.heap.size w3 wr) ∧ Hid (U8 wr g ps.length)) (fun iv _ => ps.length - (RowKit.intOf iv).toNat)
    case atStart => exact ⟨0, rfl, Nat.zero_le _, H4.out, HU.out⟩
    case round =>
      clear HU H4
      obtain ⟨i, rfl, hil, HB5, HU⟩ := hrel
      by_cases hlt : i < ps.length
      · have hltz : (i : Int) < (ps.length : Int) := by omega
        obtain ⟨⟨z, hz⟩, hf⟩ := HU.out i hlt
        go_wp2_with fail
        exact ⟨⟨i + 1, by go_num, by omega, HB5.out.setCell hg _, HU.out.set i hlt _⟩, by simp [RowKit.intOf]; omega⟩
      · have hltz : ¬ (i : Int) < (ps.length : Int) := by omega
        obtain ⟨w5, e5⟩ : ∃ x, x = wr := ⟨_, rfl⟩
        subst e5
        have hb := HB5.out
        have V := Lib.hid (V.out.below hb)
        have R := Lib.hid ((R.out.below hb).more (hb).size)
        have RB := Lib.hid ((RB.out.below hb).more (hb).size)
        have B := Lib.hid (B.out.trans ((hb).mono B.out.size))
        have O := Lib.hid (O.out.below hb)
        have RN := Lib.hid ((RN.out.below hb).more (hb).size)
        clear hb HU HB5 hlt hil hg
        obtain ⟨-, ⟨o0, o1, o2, o3⟩, of0, of1, of2, of3⟩ := O.out
        go_wp2_with fail
        refine (HPUT.out _ RN.out).mono ?_; rintro e w6 ⟨v, rfl, ho⟩
        obtain ⟨g6, c6, rfl, _, _, _⟩ := own_some ho.1 HP0.out
        have V := Lib.hid (V.out.below ho.2)
        have R := Lib.hid ((R.out.below ho.2).more (ho.2).size)
        have RB := Lib.hid ((RB.out.below ho.2).more (ho.2).size)
        have B := Lib.hid (B.out.trans ((ho.2).mono B.out.size))
        have O := Lib.hid (O.out.below ho.2)
        have RN := Lib.hid ((RN.out.below ho.2).more (ho.2).size)
        have Q := Lib.hid (show Row w5 w6 _ _ from ho)
        clear ho o0 o1 o2 o3 of0 of1 of2 of3
        rcases Ab with _ | ab
        · obtain ⟨rfl, rfl⟩ := RB.out.none_nil
          obtain rfl : cb = 0 := hAb rfl
          go_wp2_with (at_builtin; refine wpList_append_own_none rfl _ _ 26 rfl w6.heap.size 5 i0 1 Try.underlying26 hi _ 0 [] rfl (empty_own8 w6) rfl ?_)
          have H6 := Lib.hid ((Below.refl w6.heap.size w6).alloc (Nat.le_refl _) (.cells #[] 5))
          have RM := Lib.hid (show RdK .u8 (w6.alloc (.cells #[] 5)) (w6.alloc (.cells #[] 5)).heap.size (some ⟨w6.heap.size, 0, none⟩) 0 [] from ⟨rfl, fun j hj => absurd hj (Nat.not_lt_zero _)⟩)
          generalize hwm : (w6.alloc (.cells #[] 5)) = w7 at *
          clear hwm
          have hcM : 0 ≤ 0 ∧ 0 ≤ 9223372036854775807 := by decide
          refine (cget_any (some ⟨w6.heap.size, 0, none⟩) 0 0 [] _ RM.out HBB.out (by omega) hcM.1 hcM.2).mono ?_
          rintro e w8 ⟨⟨k3, key3, l3, ns3, A3, cX3, hok, hn, hcb, rfl, hN, hd1, hd2⟩ | ⟨hno, rfl⟩, hb⟩
          · have RX := Lib.hid hN
            have HCB := Lib.hid hcb
            have hn3 : ns3.length ≤ 16 := hn
            have HOK := Lib.hid hok
            have H6 := Lib.hid (H6.out.trans ((hb).mono H6.out.size))
            clear hb hN hcb hn hok hd1 hd2
            obtain ⟨n3, hn3e⟩ : ∃ n3, ns3.length = n3 := ⟨_, rfl⟩
            have HN3 := Lib.hid hn3e
            rw [hn3e] at RX hn3 ⊢
            clear hn3e
            have al := (Below.refl w8.heap.size w8).alloc (Nat.le_refl _) (.cells #[.int .i64 k3, .int .i64 key3, .int .i64 l3, .slice A3 n3 cX3] 24)
            have X := Lib.hid (CV.new w8 24 k3 key3 l3 A3 n3 cX3)
            have RX := Lib.hid ((RX.out.below al).more al.size)
            have H6 := Lib.hid (H6.out.trans ((al).mono H6.out.size))
            clear al
            go_wp2_with fail
            generalize w8.alloc (.cells #[.int .i64 k3, .int .i64 key3, .int .i64 l3, .slice A3 n3 cX3] 24) = w9 at *
            go_loopw [16] (fun iv wr => ∃ i : Nat, iv = .int .i64 i ∧ i ≤ 0 ∧ Hid (Below w6.heap.size w6 wr) ∧ Hid (CV wr w8.heap.size k3 key3 l3 A3 n3 cX3) ∧ Hid (RdK .i64 wr w9.heap.size A3 n3 ns3) ∧ Hid (w9.heap.size ≤ wr.heap.size)) (fun iv _ => 0 - (RowKit.intOf iv).toNat)
            case atStart => exact ⟨0, rfl, Nat.zero_le _, H6.out, X.out, RX.out, Nat.le_refl _⟩
            case round =>
              clear H6 X RX RM
              obtain ⟨i, rfl, hil, H6, X, RX, HS⟩ := hrel
              by_cases hlt : i < 0
              · exact absurd hlt (Nat.not_lt_zero _)
              · obtain rfl : i = 0 := by omega
                obtain ⟨w10, e10⟩ : ∃ x, x = wr := ⟨_, rfl⟩
                subst e10
                have hb := H6.out
                have V := Lib.hid (V.out.below hb)
                have R := Lib.hid ((R.out.below hb).more (hb).size)
                have RB := Lib.hid ((RB.out.below hb).more (hb).size)
                have B := Lib.hid (B.out.trans ((hb).mono B.out.size))
                have O := Lib.hid (O.out.below hb)
                have RN := Lib.hid ((RN.out.below hb).more (hb).size)
                have Q := Lib.hid (Q.out.below hb)
                have RX := Lib.hid (RX.out.more HS.out)
                clear hb H6 HS hlt hil
                go_wp2_with fail
                refine (cget_any none 0 0 [] _ RB.out HBB.out (by omega) hnb hcb2).mono ?_
                rintro e w11 ⟨⟨k4, key4, l4, ns4, A4, cY4, hok, hn, hcb, rfl, hN, hd1, hd2⟩ | ⟨hno, rfl⟩, hb⟩
                case inr => exact absurd HCB.out (hno k3 key3 l3 ns3 HOK.out (by rw [HN3.out]; exact hn3))
                obtain ⟨rfl, rfl, rfl, rfl⟩ := Pk.cb_inj (HCB.out.symm.trans hcb)
                have RY := Lib.hid hN
                rw [HN3.out] at RY ⊢
                clear hok hn hcb hN hd1 hd2
                have V := Lib.hid (V.out.below hb)
                have R := Lib.hid ((R.out.below hb).more (hb).size)
                have RB := Lib.hid ((RB.out.below hb).more (hb).size)
                have B := Lib.hid (B.out.trans ((hb).mono B.out.size))
                have O := Lib.hid (O.out.below hb)
                have RN := Lib.hid ((RN.out.below hb).more (hb).size)
                have Q := Lib.hid (Q.out.below hb)
                have X := Lib.hid (X.out.below hb)
                have RX := Lib.hid ((RX.out.below hb).more (hb).size)
                clear hb
                have Y := Lib.hid (CV.new w11 24 k3 key3 l3 A4 n3 cY4)
                have al := (Below.refl w11.heap.size w11).alloc (Nat.le_refl _) (.cells #[.int .i64 k3, .int .i64 key3, .int .i64 l3, .slice A4 n3 cY4] 24)
                have V := Lib.hid (V.out.below al)
                have R := Lib.hid ((R.out.below al).more (al).size)
                have RB := Lib.hid ((RB.out.below al).more (al).size)
                have B := Lib.hid (B.out.trans ((al).mono B.out.size))
                have O := Lib.hid (O.out.below al)
                have RN := Lib.hid ((RN.out.below al).more (al).size)
                have Q := Lib.hid (Q.out.below al)
                have X := Lib.hid (X.out.below al)
                have RX := Lib.hid ((RX.out.below al).more (al).size)
                have RY := Lib.hid ((RY.out.below al).more (al).size)
                clear al
                go_wp2_with fail
                generalize w11.alloc (.cells #[.int .i64 k3, .int .i64 key3, .int .i64 l3, .slice A4 n3 cY4] 24) = w12 at *
                obtain ⟨-, ⟨c0, c1, c2, c3⟩, -⟩ := V.out
                obtain ⟨-, ⟨o0, o1, o2, o3⟩, -⟩ := O.out
                obtain ⟨-, ⟨x0, x1, x2, x3⟩, -⟩ := X.out
                obtain ⟨-, ⟨y0, y1, y2, y3⟩, -⟩ := Y.out
                have kQ := Q.out.strs HP0.out (Below.refl _ _).drew
                have HW := Lib.hid (Below.refl w12.heap.size w12).drew
                go_region_held3 (fun w' => (w'.cell? ⟨w.heap.size, 0, none⟩ = some (.int .i64 k) ∧ w'.cell? ⟨w.heap.size, 1, none⟩ = some (.int .i64 key) ∧ w'.cell? ⟨w.heap.size, 2, none⟩ = some (.int .i64 l) ∧ w'.cell? ⟨w.heap.size, 3, none⟩ = some (.slice none 0 0)) ∧ (w'.cell? ⟨w1.heap.size, 0, none⟩ = some (.int .i64 k) ∧ w'.cell? ⟨w1.heap.size, 1, none⟩ = some (.int .i64 key) ∧ w'.cell? ⟨w1.heap.size, 2, none⟩ = some (.int .i64 l) ∧ w'.cell? ⟨w1.heap.size, 3, none⟩ = some (.slice A2 0 0)) ∧ (w'.cell? ⟨w8.heap.size, 0, none⟩ = some (.int .i64 k3) ∧ w'.cell? ⟨w8.heap.size, 1, none⟩ = some (.int .i64 key3) ∧ w'.cell? ⟨w8.heap.size, 2, none⟩ = some (.int .i64 l3) ∧ w'.cell? ⟨w8.heap.size, 3, none⟩ = some (.slice A3 n3 cX3)) ∧ (w'.cell? ⟨w11.heap.size, 0, none⟩ = some (.int .i64 k3) ∧ w'.cell? ⟨w11.heap.size, 1, none⟩ = some (.int .i64 key3) ∧ w'.cell? ⟨w11.heap.size, 2, none⟩ = some (.int .i64 l3) ∧ w'.cell? ⟨w11.heap.size, 3, none⟩ = some (.slice A4 n3 cY4)) ∧ (convert 26 9 (.slice (some ⟨g6, 0, none⟩) ps.length c6)).run Try.prog w' = .ok (.string (strOfNums ps)) w')
                  (refine ⟨⟨?_, ?_, ?_, ?_⟩, ⟨?_, ?_, ?_, ?_⟩, ⟨?_, ?_, ?_, ?_⟩, ⟨?_, ?_, ?_, ?_⟩, ?_⟩ <;> (first | assumption | go_keep))
                  (first
                  | (go_at_call_has 12 (Value.slice A2 0 0); refine (same_yes k key l A2 none 0 0 0 ([] : List Int) _ ((RN.out.below HW.out).more HW.out.size) ((R.out.below HW.out).more HW.out.size) (by omega)).mono ?_; rintro e w13 ⟨rfl, hb0⟩; have hb := (show Below w12.heap.size w12 _ from HW.out).trans (hb0.mono HW.out.size); have HW := Lib.hid hb; have hV := V.out.below hb; obtain ⟨-, ⟨c0, c1, c2, c3⟩, -⟩ := hV; have hO := O.out.below hb; obtain ⟨-, ⟨o0, o1, o2, o3⟩, -⟩ := hO; have hX := X.out.below hb; obtain ⟨-, ⟨x0, x1, x2, x3⟩, -⟩ := hX; have hY := Y.out.below hb; obtain ⟨-, ⟨y0, y1, y2, y3⟩, -⟩ := hY; have kQw13 := Q.out.strs HP0.out hb; clear hb hb0)
                  | (go_at_call 12; refine (same_yes k3 key3 l3 A3 A4 n3 cX3 cY4 ns3 _ ((RX.out.below HW.out).more HW.out.size) ((RY.out.below HW.out).more HW.out.size) (by omega)).mono ?_; rintro e w14 ⟨rfl, hb0⟩; have hb := (show Below w12.heap.size w12 _ from HW.out).trans (hb0.mono HW.out.size); have HW := Lib.hid hb; have hV := V.out.below hb; obtain ⟨-, ⟨c0, c1, c2, c3⟩, -⟩ := hV; have hO := O.out.below hb; obtain ⟨-, ⟨o0, o1, o2, o3⟩, -⟩ := hO; have hX := X.out.below hb; obtain ⟨-, ⟨x0, x1, x2, x3⟩, -⟩ := hX; have hY := Y.out.below hb; obtain ⟨-, ⟨y0, y1, y2, y3⟩, -⟩ := hY; have kQw14 := Q.out.strs HP0.out hb; clear hb hb0))
                all_goals
                  go_wp2_with fail
                  go_ret
                  exact ⟨by simp, B.out.trans (HW.out.mono B.out.size)⟩
          · have HNO := Lib.hid hno
            have RX := Lib.hid (show RdK .i64 w8 w8.heap.size none 0 [] from ⟨rfl, fun j hj => absurd hj (Nat.not_lt_zero _)⟩)
            have H6 := Lib.hid (H6.out.trans ((hb).mono H6.out.size))
            clear hb hno
            have al := (Below.refl w8.heap.size w8).alloc (Nat.le_refl _) (.cells #[.int .i64 0, .int .i64 0, .int .i64 0, .slice none 0 0] 24)
            have X := Lib.hid (CV.new w8 24 0 0 0 none 0 0)
            have RX := Lib.hid ((RX.out.below al).more al.size)
            have H6 := Lib.hid (H6.out.trans ((al).mono H6.out.size))
            clear al
            go_wp2_with fail
            generalize w8.alloc (.cells #[.int .i64 0, .int .i64 0, .int .i64 0, .slice none 0 0] 24) = w9 at *
            go_loopw [16] (fun iv wr => ∃ i : Nat, iv = .int .i64 i ∧ i ≤ 0 ∧ Hid (Below w6.heap.size w6 wr) ∧ Hid (CV wr w8.heap.size 0 0 0 none 0 0) ∧ Hid (RdK .i64 wr w9.heap.size none 0 ([] : List Int)) ∧ Hid (w9.heap.size ≤ wr.heap.size)) (fun iv _ => 0 - (RowKit.intOf iv).toNat)
            case atStart => exact ⟨0, rfl, Nat.zero_le _, H6.out, X.out, RX.out, Nat.le_refl _⟩
            case round =>
              clear H6 X RX RM
              obtain ⟨i, rfl, hil, H6, X, RX, HS⟩ := hrel
              by_cases hlt : i < 0
              · exact absurd hlt (Nat.not_lt_zero _)
              · obtain rfl : i = 0 := by omega
                obtain ⟨w10, e10⟩ : ∃ x, x = wr := ⟨_, rfl⟩
                subst e10
                have hb := H6.out
                have V := Lib.hid (V.out.below hb)
                have R := Lib.hid ((R.out.below hb).more (hb).size)
                have RB := Lib.hid ((RB.out.below hb).more (hb).size)
                have B := Lib.hid (B.out.trans ((hb).mono B.out.size))
                have O := Lib.hid (O.out.below hb)
                have RN := Lib.hid ((RN.out.below hb).more (hb).size)
                have Q := Lib.hid (Q.out.below hb)
                have RX := Lib.hid (RX.out.more HS.out)
                clear hb H6 HS hlt hil
                go_wp2_with fail
                refine (cget_any none 0 0 [] _ RB.out HBB.out (by omega) hnb hcb2).mono ?_
                rintro e w11 ⟨⟨k4, key4, l4, ns4, A4, cY4, hok, hn, hcb, rfl, hN, hd1, hd2⟩ | ⟨hno, rfl⟩, hb⟩
                case inl => exact absurd hcb (HNO.out k4 key4 l4 ns4 hok hn)
                have RY := Lib.hid (show RdK .i64 w11 w11.heap.size none 0 [] from ⟨rfl, fun j hj => absurd hj (Nat.not_lt_zero _)⟩)
                clear hno
                have V := Lib.hid (V.out.below hb)
                have R := Lib.hid ((R.out.below hb).more (hb).size)
                have RB := Lib.hid ((RB.out.below hb).more (hb).size)
                have B := Lib.hid (B.out.trans ((hb).mono B.out.size))
                have O := Lib.hid (O.out.below hb)
                have RN := Lib.hid ((RN.out.below hb).more (hb).size)
                have Q := Lib.hid (Q.out.below hb)
                have X := Lib.hid (X.out.below hb)
                have RX := Lib.hid ((RX.out.below hb).more (hb).size)
                clear hb
                have Y := Lib.hid (CV.new w11 24 0 0 0 none 0 0)
                have al := (Below.refl w11.heap.size w11).alloc (Nat.le_refl _) (.cells #[.int .i64 0, .int .i64 0, .int .i64 0, .slice none 0 0] 24)
                have V := Lib.hid (V.out.below al)
                have R := Lib.hid ((R.out.below al).more (al).size)
                have RB := Lib.hid ((RB.out.below al).more (al).size)
                have B := Lib.hid (B.out.trans ((al).mono B.out.size))
                have O := Lib.hid (O.out.below al)
                have RN := Lib.hid ((RN.out.below al).more (al).size)
                have Q := Lib.hid (Q.out.below al)
                have X := Lib.hid (X.out.below al)
                have RX := Lib.hid ((RX.out.below al).more (al).size)
                have RY := Lib.hid ((RY.out.below al).more (al).size)
                clear al
                go_wp2_with fail
                generalize w11.alloc (.cells #[.int .i64 0, .int .i64 0, .int .i64 0, .slice none 0 0] 24) = w12 at *
                obtain ⟨-, ⟨c0, c1, c2, c3⟩, -⟩ := V.out
                obtain ⟨-, ⟨o0, o1, o2, o3⟩, -⟩ := O.out
                obtain ⟨-, ⟨x0, x1, x2, x3⟩, -⟩ := X.out
                obtain ⟨-, ⟨y0, y1, y2, y3⟩, -⟩ := Y.out
                have kQ := Q.out.strs HP0.out (Below.refl _ _).drew
                have HW := Lib.hid (Below.refl w12.heap.size w12).drew
                go_region_held3 (fun w' => (w'.cell? ⟨w.heap.size, 0, none⟩ = some (.int .i64 k) ∧ w'.cell? ⟨w.heap.size, 1, none⟩ = some (.int .i64 key) ∧ w'.cell? ⟨w.heap.size, 2, none⟩ = some (.int .i64 l) ∧ w'.cell? ⟨w.heap.size, 3, none⟩ = some (.slice none 0 0)) ∧ (w'.cell? ⟨w1.heap.size, 0, none⟩ = some (.int .i64 k) ∧ w'.cell? ⟨w1.heap.size, 1, none⟩ = some (.int .i64 key) ∧ w'.cell? ⟨w1.heap.size, 2, none⟩ = some (.int .i64 l) ∧ w'.cell? ⟨w1.heap.size, 3, none⟩ = some (.slice A2 0 0)) ∧ (w'.cell? ⟨w8.heap.size, 0, none⟩ = some (.int .i64 0) ∧ w'.cell? ⟨w8.heap.size, 1, none⟩ = some (.int .i64 0) ∧ w'.cell? ⟨w8.heap.size, 2, none⟩ = some (.int .i64 0) ∧ w'.cell? ⟨w8.heap.size, 3, none⟩ = some (.slice none 0 0)) ∧ (w'.cell? ⟨w11.heap.size, 0, none⟩ = some (.int .i64 0) ∧ w'.cell? ⟨w11.heap.size, 1, none⟩ = some (.int .i64 0) ∧ w'.cell? ⟨w11.heap.size, 2, none⟩ = some (.int .i64 0) ∧ w'.cell? ⟨w11.heap.size, 3, none⟩ = some (.slice none 0 0)) ∧ (convert 26 9 (.slice (some ⟨g6, 0, none⟩) ps.length c6)).run Try.prog w' = .ok (.string (strOfNums ps)) w')
                  (refine ⟨⟨?_, ?_, ?_, ?_⟩, ⟨?_, ?_, ?_, ?_⟩, ⟨?_, ?_, ?_, ?_⟩, ⟨?_, ?_, ?_, ?_⟩, ?_⟩ <;> (first | assumption | go_keep))
                  (first
                  | (go_at_call_has 12 (Value.slice A2 0 0); refine (same_yes k key l A2 none 0 0 0 ([] : List Int) _ ((RN.out.below HW.out).more HW.out.size) ((R.out.below HW.out).more HW.out.size) (by omega)).mono ?_; rintro e w13 ⟨rfl, hb0⟩; have hb := (show Below w12.heap.size w12 _ from HW.out).trans (hb0.mono HW.out.size); have HW := Lib.hid hb; have hV := V.out.below hb; obtain ⟨-, ⟨c0, c1, c2, c3⟩, -⟩ := hV; have hO := O.out.below hb; obtain ⟨-, ⟨o0, o1, o2, o3⟩, -⟩ := hO; have hX := X.out.below hb; obtain ⟨-, ⟨x0, x1, x2, x3⟩, -⟩ := hX; have hY := Y.out.below hb; obtain ⟨-, ⟨y0, y1, y2, y3⟩, -⟩ := hY; have kQw13 := Q.out.strs HP0.out hb; clear hb hb0)
                  | (go_at_call 12; refine (same_yes 0 0 0 none none 0 0 0 ([] : List Int) _ ((RX.out.below HW.out).more HW.out.size) ((RY.out.below HW.out).more HW.out.size) (by omega)).mono ?_; rintro e w14 ⟨rfl, hb0⟩; have hb := (show Below w12.heap.size w12 _ from HW.out).trans (hb0.mono HW.out.size); have HW := Lib.hid hb; have hV := V.out.below hb; obtain ⟨-, ⟨c0, c1, c2, c3⟩, -⟩ := hV; have hO := O.out.below hb; obtain ⟨-, ⟨o0, o1, o2, o3⟩, -⟩ := hO; have hX := X.out.below hb; obtain ⟨-, ⟨x0, x1, x2, x3⟩, -⟩ := hX; have hY := Y.out.below hb; obtain ⟨-, ⟨y0, y1, y2, y3⟩, -⟩ := hY; have kQw14 := Q.out.strs HP0.out hb; clear hb hb0))
                all_goals
                  go_wp2_with fail
                  go_ret
                  exact ⟨by simp, B.out.trans (HW.out.mono B.out.size)⟩
        · have hc7 : ∀ j u, (bs.map (Value.int .u8))[j]? = some u → (w6.alloc (.cells #[] 5)).cell? (ab.add j) = some u := (RB.out.below ((Below.refl w6.heap.size w6).alloc (Nat.le_refl _) (.cells #[] 5))).cells
          have HBL := Lib.hid RB.out.1
          go_wp2_with (at_builtin; go_loud (refine wpList_append_own _ rfl _ _ 26 rfl w6.heap.size 5 i0 (.int .u8 0) 1 1 Try.underlying26 hi hz0 hz1 hz2 rfl (by decide) (.slice (some ⟨w6.heap.size, 0, none⟩) 0 0) 0 [] rfl (empty_own8 w6) ab nb cb (bs.map (Value.int .u8)) rfl (by first | (rw [List.length_map, HBL.out, Nat.mul_one]; done) | (rw [List.length_map, HBL.out]; done)) hc7 (ones8 _) (by unfold maxLen; omega) (by omega) (by simp) ?_; intro v7 w7 hown7 hgrow _; have hb7 := Lib.hid (((Below.refl w6.heap.size w6).alloc (Nat.le_refl _) (.cells #[] 5)).grown hgrow (by simp) (own_block (empty_own8 w6))); clear hgrow hc7; rw [Nat.zero_add, List.nil_append] at hown7; obtain ⟨A7, c7, rfl⟩ := own_form hown7))
          have H6 := hb7
          have RM := Lib.hid (RdK.of_own hown7)
          have hcM := own_caps hown7
          have HM := Lib.hid (show Mn w6 w7 A7 nb from by
            rcases Nat.eq_zero_or_pos nb with h | h
            · exact .inl h
            · obtain ⟨g7, c8, e, hg7, _, _⟩ := own_some hown7 h
              injection e with e1 _ e3
              subst e1 e3
              exact .inr ⟨g7, rfl, hg7, U8.of_own hown7⟩)
          clear hb7 hown7
          refine (cget_any A7 nb c7 bs _ RM.out HBB.out (by omega) hcM.1 hcM.2).mono ?_
          rintro e w8 ⟨⟨k3, key3, l3, ns3, A3, cX3, hok, hn, hcb, rfl, hN, hd1, hd2⟩ | ⟨hno, rfl⟩, hb⟩
          · have RX := Lib.hid hN
            have HCB := Lib.hid hcb
            have hn3 : ns3.length ≤ 16 := hn
            have HOK := Lib.hid hok
            have H6 := Lib.hid (H6.out.trans ((hb).mono H6.out.size))
            have HM := Lib.hid (HM.out.below hb)
            clear hb hN hcb hn hok hd1 hd2
            obtain ⟨n3, hn3e⟩ : ∃ n3, ns3.length = n3 := ⟨_, rfl⟩
            have HN3 := Lib.hid hn3e
            rw [hn3e] at RX hn3 ⊢
            clear hn3e
            have al := (Below.refl w8.heap.size w8).alloc (Nat.le_refl _) (.cells #[.int .i64 k3, .int .i64 key3, .int .i64 l3, .slice A3 n3 cX3] 24)
            have X := Lib.hid (CV.new w8 24 k3 key3 l3 A3 n3 cX3)
            have RX := Lib.hid ((RX.out.below al).more al.size)
            have H6 := Lib.hid (H6.out.trans ((al).mono H6.out.size))
            have HM := Lib.hid (HM.out.below al)
            clear al
            go_wp2_with fail
            generalize w8.alloc (.cells #[.int .i64 k3, .int .i64 key3, .int .i64 l3, .slice A3 n3 cX3] 24) = w9 at *
            go_loopw [16] (fun iv wr => ∃ i : Nat, iv = .int .i64 i ∧ i ≤ nb ∧ Hid (Below w6.heap.size w6 wr) ∧ Hid (CV wr w8.heap.size k3 key3 l3 A3 n3 cX3) ∧ Hid (RdK .i64 wr w9.heap.size A3 n3 ns3) ∧ Hid (w9.heap.size ≤ wr.heap.size) ∧ Hid (Mn w6 wr A7 nb)) (fun iv _ => nb - (RowKit.intOf iv).toNat)
            case atStart => exact ⟨0, rfl, Nat.zero_le _, H6.out, X.out, RX.out, Nat.le_refl _, HM.out⟩
            case round =>
              clear H6 X RX RM HM
              obtain ⟨i, rfl, hil, H6, X, RX, HS, HM⟩ := hrel
              by_cases hlt : i < nb
              · have hltz : (i : Int) < (nb : Int) := by omega
                obtain ⟨g7, hA7, hge, hU⟩ := (show _ ∨ _ from HM.out).resolve_left (by omega)
                subst hA7
                obtain ⟨⟨z, hz⟩, hf⟩ := hU i hlt
                go_wp2_with fail
                exact ⟨⟨i + 1, by go_num, by omega, H6.out.setCell hge _, X.out.store8 hz _, RX.out.store8 hz _, Lib.hid (by simpa using HS.out), Or.inr ⟨g7, rfl, hge, hU.set i hlt _⟩⟩, by simp [RowKit.intOf]; omega⟩
              · have hltz : ¬ (i : Int) < (nb : Int) := by omega
                obtain ⟨w10, e10⟩ : ∃ x, x = wr := ⟨_, rfl⟩
                subst e10
                have hb := H6.out
                have V := Lib.hid (V.out.below hb)
                have R := Lib.hid ((R.out.below hb).more (hb).size)
                have RB := Lib.hid ((RB.out.below hb).more (hb).size)
                have B := Lib.hid (B.out.trans ((hb).mono B.out.size))
                have O := Lib.hid (O.out.below hb)
                have RN := Lib.hid ((RN.out.below hb).more (hb).size)
                have Q := Lib.hid (Q.out.below hb)
                have RX := Lib.hid (RX.out.more HS.out)
                clear hb H6 HS hlt hil HM
                go_wp2_with fail
                refine (cget_any (some ab) nb cb bs _ RB.out HBB.out (by omega) hnb hcb2).mono ?_
                rintro e w11 ⟨⟨k4, key4, l4, ns4, A4, cY4, hok, hn, hcb, rfl, hN, hd1, hd2⟩ | ⟨hno, rfl⟩, hb⟩
                case inr => exact absurd HCB.out (hno k3 key3 l3 ns3 HOK.out (by rw [HN3.out]; exact hn3))
                obtain ⟨rfl, rfl, rfl, rfl⟩ := Pk.cb_inj (HCB.out.symm.trans hcb)
                have RY := Lib.hid hN
                rw [HN3.out] at RY ⊢
                clear hok hn hcb hN hd1 hd2
                have V := Lib.hid (V.out.below hb)
                have R := Lib.hid ((R.out.below hb).more (hb).size)
                have RB := Lib.hid ((RB.out.below hb).more (hb).size)
                have B := Lib.hid (B.out.trans ((hb).mono B.out.size))
                have O := Lib.hid (O.out.below hb)
                have RN := Lib.hid ((RN.out.below hb).more (hb).size)
                have Q := Lib.hid (Q.out.below hb)
                have X := Lib.hid (X.out.below hb)
                have RX := Lib.hid ((RX.out.below hb).more (hb).size)
                clear hb
                have Y := Lib.hid (CV.new w11 24 k3 key3 l3 A4 n3 cY4)
                have al := (Below.refl w11.heap.size w11).alloc (Nat.le_refl _) (.cells #[.int .i64 k3, .int .i64 key3, .int .i64 l3, .slice A4 n3 cY4] 24)
                have V := Lib.hid (V.out.below al)
                have R := Lib.hid ((R.out.below al).more (al).size)
                have RB := Lib.hid ((RB.out.below al).more (al).size)
                have B := Lib.hid (B.out.trans ((al).mono B.out.size))
                have O := Lib.hid (O.out.below al)
                have RN := Lib.hid ((RN.out.below al).more (al).size)
                have Q := Lib.hid (Q.out.below al)
                have X := Lib.hid (X.out.below al)
                have RX := Lib.hid ((RX.out.below al).more (al).size)
                have RY := Lib.hid ((RY.out.below al).more (al).size)
                clear al
                go_wp2_with fail
                generalize w11.alloc (.cells #[.int .i64 k3, .int .i64 key3, .int .i64 l3, .slice A4 n3 cY4] 24) = w12 at *
                obtain ⟨-, ⟨c0, c1, c2, c3⟩, -⟩ := V.out
                obtain ⟨-, ⟨o0, o1, o2, o3⟩, -⟩ := O.out
                obtain ⟨-, ⟨x0, x1, x2, x3⟩, -⟩ := X.out
                obtain ⟨-, ⟨y0, y1, y2, y3⟩, -⟩ := Y.out
                have kQ := Q.out.strs HP0.out (Below.refl _ _).drew
                have HW := Lib.hid (Below.refl w12.heap.size w12).drew
                go_region_held3 (fun w' => (w'.cell? ⟨w.heap.size, 0, none⟩ = some (.int .i64 k) ∧ w'.cell? ⟨w.heap.size, 1, none⟩ = some (.int .i64 key) ∧ w'.cell? ⟨w.heap.size, 2, none⟩ = some (.int .i64 l) ∧ w'.cell? ⟨w.heap.size, 3, none⟩ = some (.slice none 0 0)) ∧ (w'.cell? ⟨w1.heap.size, 0, none⟩ = some (.int .i64 k) ∧ w'.cell? ⟨w1.heap.size, 1, none⟩ = some (.int .i64 key) ∧ w'.cell? ⟨w1.heap.size, 2, none⟩ = some (.int .i64 l) ∧ w'.cell? ⟨w1.heap.size, 3, none⟩ = some (.slice A2 0 0)) ∧ (w'.cell? ⟨w8.heap.size, 0, none⟩ = some (.int .i64 k3) ∧ w'.cell? ⟨w8.heap.size, 1, none⟩ = some (.int .i64 key3) ∧ w'.cell? ⟨w8.heap.size, 2, none⟩ = some (.int .i64 l3) ∧ w'.cell? ⟨w8.heap.size, 3, none⟩ = some (.slice A3 n3 cX3)) ∧ (w'.cell? ⟨w11.heap.size, 0, none⟩ = some (.int .i64 k3) ∧ w'.cell? ⟨w11.heap.size, 1, none⟩ = some (.int .i64 key3) ∧ w'.cell? ⟨w11.heap.size, 2, none⟩ = some (.int .i64 l3) ∧ w'.cell? ⟨w11.heap.size, 3, none⟩ = some (.slice A4 n3 cY4)) ∧ (convert 26 9 (.slice (some ⟨g6, 0, none⟩) ps.length c6)).run Try.prog w' = .ok (.string (strOfNums ps)) w')
                  (refine ⟨⟨?_, ?_, ?_, ?_⟩, ⟨?_, ?_, ?_, ?_⟩, ⟨?_, ?_, ?_, ?_⟩, ⟨?_, ?_, ?_, ?_⟩, ?_⟩ <;> (first | assumption | go_keep))
                  (first
                  | (go_at_call_has 12 (Value.slice A2 0 0); refine (same_yes k key l A2 none 0 0 0 ([] : List Int) _ ((RN.out.below HW.out).more HW.out.size) ((R.out.below HW.out).more HW.out.size) (by omega)).mono ?_; rintro e w13 ⟨rfl, hb0⟩; have hb := (show Below w12.heap.size w12 _ from HW.out).trans (hb0.mono HW.out.size); have HW := Lib.hid hb; have hV := V.out.below hb; obtain ⟨-, ⟨c0, c1, c2, c3⟩, -⟩ := hV; have hO := O.out.below hb; obtain ⟨-, ⟨o0, o1, o2, o3⟩, -⟩ := hO; have hX := X.out.below hb; obtain ⟨-, ⟨x0, x1, x2, x3⟩, -⟩ := hX; have hY := Y.out.below hb; obtain ⟨-, ⟨y0, y1, y2, y3⟩, -⟩ := hY; have kQw13 := Q.out.strs HP0.out hb; clear hb hb0)
                  | (go_at_call 12; refine (same_yes k3 key3 l3 A3 A4 n3 cX3 cY4 ns3 _ ((RX.out.below HW.out).more HW.out.size) ((RY.out.below HW.out).more HW.out.size) (by omega)).mono ?_; rintro e w14 ⟨rfl, hb0⟩; have hb := (show Below w12.heap.size w12 _ from HW.out).trans (hb0.mono HW.out.size); have HW := Lib.hid hb; have hV := V.out.below hb; obtain ⟨-, ⟨c0, c1, c2, c3⟩, -⟩ := hV; have hO := O.out.below hb; obtain ⟨-, ⟨o0, o1, o2, o3⟩, -⟩ := hO; have hX := X.out.below hb; obtain ⟨-, ⟨x0, x1, x2, x3⟩, -⟩ := hX; have hY := Y.out.below hb; obtain ⟨-, ⟨y0, y1, y2, y3⟩, -⟩ := hY; have kQw14 := Q.out.strs HP0.out hb; clear hb hb0))
                all_goals
                  go_wp2_with fail
                  go_ret
                  exact ⟨by simp, B.out.trans (HW.out.mono B.out.size)⟩
          · have HNO := Lib.hid hno
            have RX := Lib.hid (show RdK .i64 w8 w8.heap.size none 0 [] from ⟨rfl, fun j hj => absurd hj (Nat.not_lt_zero _)⟩)
            have H6 := Lib.hid (H6.out.trans ((hb).mono H6.out.size))
            have HM := Lib.hid (HM.out.below hb)
            clear hb hno
            have al := (Below.refl w8.heap.size w8).alloc (Nat.le_refl _) (.cells #[.int .i64 0, .int .i64 0, .int .i64 0, .slice none 0 0] 24)
            have X := Lib.hid (CV.new w8 24 0 0 0 none 0 0)
            have RX := Lib.hid ((RX.out.below al).more al.size)
            have H6 := Lib.hid (H6.out.trans ((al).mono H6.out.size))
            have HM := Lib.hid (HM.out.below al)
            clear al
            go_wp2_with fail
            generalize w8.alloc (.cells #[.int .i64 0, .int .i64 0, .int .i64 0, .slice none 0 0] 24) = w9 at *
            go_loopw [16] (fun iv wr => ∃ i : Nat, iv = .int .i64 i ∧ i ≤ nb ∧ Hid (Below w6.heap.size w6 wr) ∧ Hid (CV wr w8.heap.size 0 0 0 none 0 0) ∧ Hid (RdK .i64 wr w9.heap.size none 0 ([] : List Int)) ∧ Hid (w9.heap.size ≤ wr.heap.size) ∧ Hid (Mn w6 wr A7 nb)) (fun iv _ => nb - (RowKit.intOf iv).toNat)
            case atStart => exact ⟨0, rfl, Nat.zero_le _, H6.out, X.out, RX.out, Nat.le_refl _, HM.out⟩
            case round =>
              clear H6 X RX RM HM
              obtain ⟨i, rfl, hil, H6, X, RX, HS, HM⟩ := hrel
              by_cases hlt : i < nb
              · have hltz : (i : Int) < (nb : Int) := by omega
                obtain ⟨g7, hA7, hge, hU⟩ := (show _ ∨ _ from HM.out).resolve_left (by omega)
                subst hA7
                obtain ⟨⟨z, hz⟩, hf⟩ := hU i hlt
                go_wp2_with fail
                exact ⟨⟨i + 1, by go_num, by omega, H6.out.setCell hge _, X.out.store8 hz _, RX.out.store8 hz _, Lib.hid (by simpa using HS.out), Or.inr ⟨g7, rfl, hge, hU.set i hlt _⟩⟩, by simp [RowKit.intOf]; omega⟩
              · have hltz : ¬ (i : Int) < (nb : Int) := by omega
                obtain ⟨w10, e10⟩ : ∃ x, x = wr := ⟨_, rfl⟩
                subst e10
                have hb := H6.out
                have V := Lib.hid (V.out.below hb)
                have R := Lib.hid ((R.out.below hb).more (hb).size)
                have RB := Lib.hid ((RB.out.below hb).more (hb).size)
                have B := Lib.hid (B.out.trans ((hb).mono B.out.size))
                have O := Lib.hid (O.out.below hb)
                have RN := Lib.hid ((RN.out.below hb).more (hb).size)
                have Q := Lib.hid (Q.out.below hb)
                have RX := Lib.hid (RX.out.more HS.out)
                clear hb H6 HS hlt hil HM
                go_wp2_with fail
                refine (cget_any (some ab) nb cb bs _ RB.out HBB.out (by omega) hnb hcb2).mono ?_
                rintro e w11 ⟨⟨k4, key4, l4, ns4, A4, cY4, hok, hn, hcb, rfl, hN, hd1, hd2⟩ | ⟨hno, rfl⟩, hb⟩
                case inl => exact absurd hcb (HNO.out k4 key4 l4 ns4 hok hn)
                have RY := Lib.hid (show RdK .i64 w11 w11.heap.size none 0 [] from ⟨rfl, fun j hj => absurd hj (Nat.not_lt_zero _)⟩)
                clear hno
                have V := Lib.hid (V.out.below hb)
                have R := Lib.hid ((R.out.below hb).more (hb).size)
                have RB := Lib.hid ((RB.out.below hb).more (hb).size)
                have B := Lib.hid (B.out.trans ((hb).mono B.out.size))
                have O := Lib.hid (O.out.below hb)
                have RN := Lib.hid ((RN.out.below hb).more (hb).size)
                have Q := Lib.hid (Q.out.below hb)
                have X := Lib.hid (X.out.below hb)
                have RX := Lib.hid ((RX.out.below hb).more (hb).size)
                clear hb
                have Y := Lib.hid (CV.new w11 24 0 0 0 none 0 0)
                have al := (Below.refl w11.heap.size w11).alloc (Nat.le_refl _) (.cells #[.int .i64 0, .int .i64 0, .int .i64 0, .slice none 0 0] 24)
                have V := Lib.hid (V.out.below al)
                have R := Lib.hid ((R.out.below al).more (al).size)
                have RB := Lib.hid ((RB.out.below al).more (al).size)
                have B := Lib.hid (B.out.trans ((al).mono B.out.size))
                have O := Lib.hid (O.out.below al)
                have RN := Lib.hid ((RN.out.below al).more (al).size)
                have Q := Lib.hid (Q.out.below al)
                have X := Lib.hid (X.out.below al)
                have RX := Lib.hid ((RX.out.below al).more (al).size)
                have RY := Lib.hid ((RY.out.below al).more (al).size)
                clear al
                go_wp2_with fail
                generalize w11.alloc (.cells #[.int .i64 0, .int .i64 0, .int .i64 0, .slice none 0 0] 24) = w12 at *
                obtain ⟨-, ⟨c0, c1, c2, c3⟩, -⟩ := V.out
                obtain ⟨-, ⟨o0, o1, o2, o3⟩, -⟩ := O.out
                obtain ⟨-, ⟨x0, x1, x2, x3⟩, -⟩ := X.out
                obtain ⟨-, ⟨y0, y1, y2, y3⟩, -⟩ := Y.out
                have kQ := Q.out.strs HP0.out (Below.refl _ _).drew
                have HW := Lib.hid (Below.refl w12.heap.size w12).drew
                go_region_held3 (fun w' => (w'.cell? ⟨w.heap.size, 0, none⟩ = some (.int .i64 k) ∧ w'.cell? ⟨w.heap.size, 1, none⟩ = some (.int .i64 key) ∧ w'.cell? ⟨w.heap.size, 2, none⟩ = some (.int .i64 l) ∧ w'.cell? ⟨w.heap.size, 3, none⟩ = some (.slice none 0 0)) ∧ (w'.cell? ⟨w1.heap.size, 0, none⟩ = some (.int .i64 k) ∧ w'.cell? ⟨w1.heap.size, 1, none⟩ = some (.int .i64 key) ∧ w'.cell? ⟨w1.heap.size, 2, none⟩ = some (.int .i64 l) ∧ w'.cell? ⟨w1.heap.size, 3, none⟩ = some (.slice A2 0 0)) ∧ (w'.cell? ⟨w8.heap.size, 0, none⟩ = some (.int .i64 0) ∧ w'.cell? ⟨w8.heap.size, 1, none⟩ = some (.int .i64 0) ∧ w'.cell? ⟨w8.heap.size, 2, none⟩ = some (.int .i64 0) ∧ w'.cell? ⟨w8.heap.size, 3, none⟩ = some (.slice none 0 0)) ∧ (w'.cell? ⟨w11.heap.size, 0, none⟩ = some (.int .i64 0) ∧ w'.cell? ⟨w11.heap.size, 1, none⟩ = some (.int .i64 0) ∧ w'.cell? ⟨w11.heap.size, 2, none⟩ = some (.int .i64 0) ∧ w'.cell? ⟨w11.heap.size, 3, none⟩ = some (.slice none 0 0)) ∧ (convert 26 9 (.slice (some ⟨g6, 0, none⟩) ps.length c6)).run Try.prog w' = .ok (.string (strOfNums ps)) w')
                  (refine ⟨⟨?_, ?_, ?_, ?_⟩, ⟨?_, ?_, ?_, ?_⟩, ⟨?_, ?_, ?_, ?_⟩, ⟨?_, ?_, ?_, ?_⟩, ?_⟩ <;> (first | assumption | go_keep))
                  (first
                  | (go_at_call_has 12 (Value.slice A2 0 0); refine (same_yes k key l A2 none 0 0 0 ([] : List Int) _ ((RN.out.below HW.out).more HW.out.size) ((R.out.below HW.out).more HW.out.size) (by omega)).mono ?_; rintro e w13 ⟨rfl, hb0⟩; have hb := (show Below w12.heap.size w12 _ from HW.out).trans (hb0.mono HW.out.size); have HW := Lib.hid hb; have hV := V.out.below hb; obtain ⟨-, ⟨c0, c1, c2, c3⟩, -⟩ := hV; have hO := O.out.below hb; obtain ⟨-, ⟨o0, o1, o2, o3⟩, -⟩ := hO; have hX := X.out.below hb; obtain ⟨-, ⟨x0, x1, x2, x3⟩, -⟩ := hX; have hY := Y.out.below hb; obtain ⟨-, ⟨y0, y1, y2, y3⟩, -⟩ := hY; have kQw13 := Q.out.strs HP0.out hb; clear hb hb0)
                  | (go_at_call 12; refine (same_yes 0 0 0 none none 0 0 0 ([] : List Int) _ ((RX.out.below HW.out).more HW.out.size) ((RY.out.below HW.out).more HW.out.size) (by omega)).mono ?_; rintro e w14 ⟨rfl, hb0⟩; have hb := (show Below w12.heap.size w12 _ from HW.out).trans (hb0.mono HW.out.size); have HW := Lib.hid hb; have hV := V.out.below hb; obtain ⟨-, ⟨c0, c1, c2, c3⟩, -⟩ := hV; have hO := O.out.below hb; obtain ⟨-, ⟨o0, o1, o2, o3⟩, -⟩ := hO; have hX := X.out.below hb; obtain ⟨-, ⟨x0, x1, x2, x3⟩, -⟩ := hX; have hY := Y.out.below hb; obtain ⟨-, ⟨y0, y1, y2, y3⟩, -⟩ := hY; have kQw14 := Q.out.strs HP0.out hb; clear hb hb0))
                all_goals
                  go_wp2_with fail
                  go_ret
                  exact ⟨by simp, B.out.trans (HW.out.mono B.out.size)⟩
  | some ad =>
    go_enter Try.func6, Try.ntmps6
    go_wp2_with fail
    refine (up_any _).mono ?_; rintro e w1 ⟨rfl, hb⟩
    have V := Lib.hid (V.out.below hb)
    have R := Lib.hid ((R.out.below hb).more (hb).size)
    have RB := Lib.hid ((RB.out.below hb).more (hb).size)
    have B := Lib.hid (B.out.trans ((hb).mono B.out.size))
    clear hb
    obtain ⟨-, ⟨c0, c1, c2, c3⟩, cf0, cf1, cf2, cf3⟩ := V.out
    have O := Lib.hid (CV.new w1 24 k key l (some ad) N c)
    have hbE := ((Below.refl w1.heap.size w1).alloc (Nat.le_refl _) (.cells #[.int .i64 k, .int .i64 key, .int .i64 l, .slice (some ad) N c] 24)).alloc (by simp) (.cells #[] 2)
    have VE := V.out.below hbE
    obtain ⟨-, ⟨e0, e1, e2, e3⟩, -⟩ := VE
    have hc6 : ∀ j u, (ns.map (Value.int .i64))[j]? = some u → ((w1.alloc (.cells #[.int .i64 k, .int .i64 key, .int .i64 l, .slice (some ad) N c] 24)).alloc (.cells #[] 2)).cell? (ad.add j) = some u := (R.out.below hbE).cells
    have EMP := Lib.hid (show ((w1.alloc (.cells #[.int .i64 k, .int .i64 key, .int .i64 l, .slice (some ad) N c] 24)).alloc (.cells #[] 2)).ownsRow (w1.heap.size + 1) 2 1 (.slice (some ⟨w1.heap.size + 1, 0, none⟩) 0 0) 0 [] by simpa using empty_own64 (w1.alloc (.cells #[.int .i64 k, .int .i64 key, .int .i64 l, .slice (some ad) N c] 24)))
    clear hbE
    go_wp2_with (at_builtin; go_loud (refine wpList_append_own _ rfl _ _ 22 rfl (w1.heap.size + 1) 2 j0 (.int .i64 0) 1 8 Try.underlying22 hj hy0 hy1 hy2 rfl (by decide) (.slice (some ⟨w1.heap.size + 1, 0, none⟩) 0 0) 0 [] rfl EMP.out ad N c (ns.map (Value.int .i64)) rfl (by first | (rw [List.length_map, HNL.out, Nat.mul_one]; done) | (rw [List.length_map, HNL.out]; done) | (simp; done)) hc6 (ones64i _) (by unfold maxLen; omega) (by omega) (by simp; try omega) ?_; intro v2 w2 hown2 hgrow _; have hb2 := Lib.hid (((Below.refl (w1.heap.size + 1) (w1.alloc (.cells #[.int .i64 k, .int .i64 key, .int .i64 l, .slice (some ad) N c] 24))).alloc (by simp) (.cells #[] 2)).grown hgrow (by simp; try omega) (own_block EMP.out)); clear hgrow hc6; rw [Nat.zero_add, List.nil_append] at hown2; obtain ⟨A2, cA2, rfl⟩ := own_form hown2; have hb2' : Below (w1.alloc (.cells #[.int .i64 k, .int .i64 key, .int .i64 l, .slice (some ad) N c] 24)).heap.size (w1.alloc (.cells #[.int .i64 k, .int .i64 key, .int .i64 l, .slice (some ad) N c] 24)) w2 := (by simpa using hb2.out); have O := Lib.hid (O.out.below hb2'); obtain ⟨-, ⟨o0, o1, o2, o3⟩, of0, of1, of2, of3⟩ := O.out))
    have hbW : Below w1.heap.size w1 (w2.setCell ⟨w1.heap.size, 3, none⟩ (.slice A2 N cA2)) := (((Below.refl w1.heap.size w1).alloc (Nat.le_refl _) (.cells #[.int .i64 k, .int .i64 key, .int .i64 l, .slice (some ad) N c] 24)).trans (hb2'.mono (by simp))).setCell (Nat.le_refl _) _
    have V := Lib.hid (V.out.below hbW)
    have R := Lib.hid ((R.out.below hbW).more (hbW).size)
    have RB := Lib.hid ((RB.out.below hbW).more (hbW).size)
    have B := Lib.hid (B.out.trans ((hbW).mono B.out.size))
    have O := Lib.hid (O.out.set3 A2 N cA2)
    have RN := Lib.hid (RdK.of_own (ownsRow_setCell_below (a := ⟨w1.heap.size, 3, none⟩) hown2 (Nat.lt_succ_self _) (.slice A2 N cA2)))
    have hcA := own_caps hown2
    clear hbW hb2' hb2 hown2 EMP o0 o1 o2 o3 of0 of1 of2 of3
    clear c0 c1 c2 c3 cf0 cf1 cf2 cf3 e0 e1 e2 e3
    generalize w2.setCell ⟨w1.heap.size, 3, none⟩ (.slice A2 N cA2) = w3 at *
    by_cases h16 : N ≤ 16
    · have hps := Pk.cb_len k key l ns
      rw [HNL.out] at hps
      have HPB := Lib.hid (Pk.cb_bytes HO.out (by rw [HNL.out]; omega))
      have HPUT := Lib.hid (fun (w : World) (hr : RdK .i64 w w.heap.size A2 N ns) => cput_yes k key l A2 N cA2 ns w hr HO.out h16 hcA.1 hcA.2)
      generalize Pk.cb k key l ns = ps at *
      have HP0 := Lib.hid (show 0 < ps.length by omega)
      have hl2 : ps.length ≤ 200 := by omega
      clear hps
      refine (HPUT.out _ RN.out).mono ?_; rintro e w4 ⟨v, rfl, ho⟩
      obtain ⟨g, c9, rfl, hg, _, hcell⟩ := own_some ho.1 HP0.out
      have kA := to_string (w := w4) (g := g) (n := ps.length) (c := c9) (bs := ps) rfl hcell
      have HU := Lib.hid (U8.of_own ho.1)
      have H4 := Lib.hid ho.2
      clear ho hcell
      go_wp2_with fail
      clear kA
      go_loopw [10] (fun iv wr => ∃ i : Nat, iv = .int .i64 i ∧ i ≤ ps.length ∧ Hid (Below w3.heap.size w3 wr) ∧ Hid (U8 wr g ps.length)) (fun iv _ => ps.length - (RowKit.intOf iv).toNat)
      case atStart => exact ⟨0, rfl, Nat.zero_le _, H4.out, HU.out⟩
      case round =>
        clear HU H4
        obtain ⟨i, rfl, hil, HB5, HU⟩ := hrel
        by_cases hlt : i < ps.length
        · have hltz : (i : Int) < (ps.length : Int) := by omega
          obtain ⟨⟨z, hz⟩, hf⟩ := HU.out i hlt
          go_wp2_with fail
          exact ⟨⟨i + 1, by go_num, by omega, HB5.out.setCell hg _, HU.out.set i hlt _⟩, by simp [RowKit.intOf]; omega⟩
        · have hltz : ¬ (i : Int) < (ps.length : Int) := by omega
          obtain ⟨w5, e5⟩ : ∃ x, x = wr := ⟨_, rfl⟩
          subst e5
          have hb := HB5.out
          have V := Lib.hid (V.out.below hb)
          have R := Lib.hid ((R.out.below hb).more (hb).size)
          have RB := Lib.hid ((RB.out.below hb).more (hb).size)
          have B := Lib.hid (B.out.trans ((hb).mono B.out.size))
          have O := Lib.hid (O.out.below hb)
          have RN := Lib.hid ((RN.out.below hb).more (hb).size)
          clear hb HU HB5 hlt hil hg
          obtain ⟨-, ⟨o0, o1, o2, o3⟩, of0, of1, of2, of3⟩ := O.out
          go_wp2_with fail
          refine (HPUT.out _ RN.out).mono ?_; rintro e w6 ⟨v, rfl, ho⟩
          obtain ⟨g6, c6, rfl, _, _, _⟩ := own_some ho.1 HP0.out
          have V := Lib.hid (V.out.below ho.2)
          have R := Lib.hid ((R.out.below ho.2).more (ho.2).size)
          have RB := Lib.hid ((RB.out.below ho.2).more (ho.2).size)
          have B := Lib.hid (B.out.trans ((ho.2).mono B.out.size))
          have O := Lib.hid (O.out.below ho.2)
          have RN := Lib.hid ((RN.out.below ho.2).more (ho.2).size)
          have Q := Lib.hid (show Row w5 w6 _ _ from ho)
          clear ho o0 o1 o2 o3 of0 of1 of2 of3
          rcases Ab with _ | ab
          · obtain ⟨rfl, rfl⟩ := RB.out.none_nil
            obtain rfl : cb = 0 := hAb rfl
            go_wp2_with (at_builtin; refine wpList_append_own_none rfl _ _ 26 rfl w6.heap.size 5 i0 1 Try.underlying26 hi _ 0 [] rfl (empty_own8 w6) rfl ?_)
            have H6 := Lib.hid ((Below.refl w6.heap.size w6).alloc (Nat.le_refl _) (.cells #[] 5))
            have RM := Lib.hid (show RdK .u8 (w6.alloc (.cells #[] 5)) (w6.alloc (.cells #[] 5)).heap.size (some ⟨w6.heap.size, 0, none⟩) 0 [] from ⟨rfl, fun j hj => absurd hj (Nat.not_lt_zero _)⟩)
            generalize hwm : (w6.alloc (.cells #[] 5)) = w7 at *
            clear hwm
            have hcM : 0 ≤ 0 ∧ 0 ≤ 9223372036854775807 := by decide
            refine (cget_any (some ⟨w6.heap.size, 0, none⟩) 0 0 [] _ RM.out HBB.out (by omega) hcM.1 hcM.2).mono ?_
            rintro e w8 ⟨⟨k3, key3, l3, ns3, A3, cX3, hok, hn, hcb, rfl, hN, hd1, hd2⟩ | ⟨hno, rfl⟩, hb⟩
            · have RX := Lib.hid hN
              have HCB := Lib.hid hcb
              have hn3 : ns3.length ≤ 16 := hn
              have HOK := Lib.hid hok
              have H6 := Lib.hid (H6.out.trans ((hb).mono H6.out.size))
              clear hb hN hcb hn hok hd1 hd2
              obtain ⟨n3, hn3e⟩ : ∃ n3, ns3.length = n3 := ⟨_, rfl⟩
              have HN3 := Lib.hid hn3e
              rw [hn3e] at RX hn3 ⊢
              clear hn3e
              have al := (Below.refl w8.heap.size w8).alloc (Nat.le_refl _) (.cells #[.int .i64 k3, .int .i64 key3, .int .i64 l3, .slice A3 n3 cX3] 24)
              have X := Lib.hid (CV.new w8 24 k3 key3 l3 A3 n3 cX3)
              have RX := Lib.hid ((RX.out.below al).more al.size)
              have H6 := Lib.hid (H6.out.trans ((al).mono H6.out.size))
              clear al
              go_wp2_with fail
              generalize w8.alloc (.cells #[.int .i64 k3, .int .i64 key3, .int .i64 l3, .slice A3 n3 cX3] 24) = w9 at *
              go_loopw [16] (fun iv wr => ∃ i : Nat, iv = .int .i64 i ∧ i ≤ 0 ∧ Hid (Below w6.heap.size w6 wr) ∧ Hid (CV wr w8.heap.size k3 key3 l3 A3 n3 cX3) ∧ Hid (RdK .i64 wr w9.heap.size A3 n3 ns3) ∧ Hid (w9.heap.size ≤ wr.heap.size)) (fun iv _ => 0 - (RowKit.intOf iv).toNat)
              case atStart => exact ⟨0, rfl, Nat.zero_le _, H6.out, X.out, RX.out, Nat.le_refl _⟩
              case round =>
                clear H6 X RX RM
                obtain ⟨i, rfl, hil, H6, X, RX, HS⟩ := hrel
                by_cases hlt : i < 0
                · exact absurd hlt (Nat.not_lt_zero _)
                · obtain rfl : i = 0 := by omega
                  obtain ⟨w10, e10⟩ : ∃ x, x = wr := ⟨_, rfl⟩
                  subst e10
                  have hb := H6.out
                  have V := Lib.hid (V.out.below hb)
                  have R := Lib.hid ((R.out.below hb).more (hb).size)
                  have RB := Lib.hid ((RB.out.below hb).more (hb).size)
                  have B := Lib.hid (B.out.trans ((hb).mono B.out.size))
                  have O := Lib.hid (O.out.below hb)
                  have RN := Lib.hid ((RN.out.below hb).more (hb).size)
                  have Q := Lib.hid (Q.out.below hb)
                  have RX := Lib.hid (RX.out.more HS.out)
                  clear hb H6 HS hlt hil
                  go_wp2_with fail
                  refine (cget_any none 0 0 [] _ RB.out HBB.out (by omega) hnb hcb2).mono ?_
                  rintro e w11 ⟨⟨k4, key4, l4, ns4, A4, cY4, hok, hn, hcb, rfl, hN, hd1, hd2⟩ | ⟨hno, rfl⟩, hb⟩
                  case inr => exact absurd HCB.out (hno k3 key3 l3 ns3 HOK.out (by rw [HN3.out]; exact hn3))
                  obtain ⟨rfl, rfl, rfl, rfl⟩ := Pk.cb_inj (HCB.out.symm.trans hcb)
                  have RY := Lib.hid hN
                  rw [HN3.out] at RY ⊢
                  clear hok hn hcb hN hd1 hd2
                  have V := Lib.hid (V.out.below hb)
                  have R := Lib.hid ((R.out.below hb).more (hb).size)
                  have RB := Lib.hid ((RB.out.below hb).more (hb).size)
                  have B := Lib.hid (B.out.trans ((hb).mono B.out.size))
                  have O := Lib.hid (O.out.below hb)
                  have RN := Lib.hid ((RN.out.below hb).more (hb).size)
                  have Q := Lib.hid (Q.out.below hb)
                  have X := Lib.hid (X.out.below hb)
                  have RX := Lib.hid ((RX.out.below hb).more (hb).size)
                  clear hb
                  have Y := Lib.hid (CV.new w11 24 k3 key3 l3 A4 n3 cY4)
                  have al := (Below.refl w11.heap.size w11).alloc (Nat.le_refl _) (.cells #[.int .i64 k3, .int .i64 key3, .int .i64 l3, .slice A4 n3 cY4] 24)
                  have V := Lib.hid (V.out.below al)
                  have R := Lib.hid ((R.out.below al).more (al).size)
                  have RB := Lib.hid ((RB.out.below al).more (al).size)
                  have B := Lib.hid (B.out.trans ((al).mono B.out.size))
                  have O := Lib.hid (O.out.below al)
                  have RN := Lib.hid ((RN.out.below al).more (al).size)
                  have Q := Lib.hid (Q.out.below al)
                  have X := Lib.hid (X.out.below al)
                  have RX := Lib.hid ((RX.out.below al).more (al).size)
                  have RY := Lib.hid ((RY.out.below al).more (al).size)
                  clear al
                  go_wp2_with fail
                  generalize w11.alloc (.cells #[.int .i64 k3, .int .i64 key3, .int .i64 l3, .slice A4 n3 cY4] 24) = w12 at *
                  obtain ⟨-, ⟨c0, c1, c2, c3⟩, -⟩ := V.out
                  obtain ⟨-, ⟨o0, o1, o2, o3⟩, -⟩ := O.out
                  obtain ⟨-, ⟨x0, x1, x2, x3⟩, -⟩ := X.out
                  obtain ⟨-, ⟨y0, y1, y2, y3⟩, -⟩ := Y.out
                  have kQ := Q.out.strs HP0.out (Below.refl _ _).drew
                  have HW := Lib.hid (Below.refl w12.heap.size w12).drew
                  go_region_held3 (fun w' => (w'.cell? ⟨w.heap.size, 0, none⟩ = some (.int .i64 k) ∧ w'.cell? ⟨w.heap.size, 1, none⟩ = some (.int .i64 key) ∧ w'.cell? ⟨w.heap.size, 2, none⟩ = some (.int .i64 l) ∧ w'.cell? ⟨w.heap.size, 3, none⟩ = some (.slice (some ad) N c)) ∧ (w'.cell? ⟨w1.heap.size, 0, none⟩ = some (.int .i64 k) ∧ w'.cell? ⟨w1.heap.size, 1, none⟩ = some (.int .i64 key) ∧ w'.cell? ⟨w1.heap.size, 2, none⟩ = some (.int .i64 l) ∧ w'.cell? ⟨w1.heap.size, 3, none⟩ = some (.slice A2 N cA2)) ∧ (w'.cell? ⟨w8.heap.size, 0, none⟩ = some (.int .i64 k3) ∧ w'.cell? ⟨w8.heap.size, 1, none⟩ = some (.int .i64 key3) ∧ w'.cell? ⟨w8.heap.size, 2, none⟩ = some (.int .i64 l3) ∧ w'.cell? ⟨w8.heap.size, 3, none⟩ = some (.slice A3 n3 cX3)) ∧ (w'.cell? ⟨w11.heap.size, 0, none⟩ = some (.int .i64 k3) ∧ w'.cell? ⟨w11.heap.size, 1, none⟩ = some (.int .i64 key3) ∧ w'.cell? ⟨w11.heap.size, 2, none⟩ = some (.int .i64 l3) ∧ w'.cell? ⟨w11.heap.size, 3, none⟩ = some (.slice A4 n3 cY4)) ∧ (convert 26 9 (.slice (some ⟨g6, 0, none⟩) ps.length c6)).run Try.prog w' = .ok (.string (strOfNums ps)) w')
                    (refine ⟨⟨?_, ?_, ?_, ?_⟩, ⟨?_, ?_, ?_, ?_⟩, ⟨?_, ?_, ?_, ?_⟩, ⟨?_, ?_, ?_, ?_⟩, ?_⟩ <;> (first | assumption | go_keep))
                    (first
                    | (go_at_call_has 12 (Value.slice A2 N cA2); refine (same_yes k key l A2 (some ad) N cA2 c ns _ ((RN.out.below HW.out).more HW.out.size) ((R.out.below HW.out).more HW.out.size) (by omega)).mono ?_; rintro e w13 ⟨rfl, hb0⟩; have hb := (show Below w12.heap.size w12 _ from HW.out).trans (hb0.mono HW.out.size); have HW := Lib.hid hb; have hV := V.out.below hb; obtain ⟨-, ⟨c0, c1, c2, c3⟩, -⟩ := hV; have hO := O.out.below hb; obtain ⟨-, ⟨o0, o1, o2, o3⟩, -⟩ := hO; have hX := X.out.below hb; obtain ⟨-, ⟨x0, x1, x2, x3⟩, -⟩ := hX; have hY := Y.out.below hb; obtain ⟨-, ⟨y0, y1, y2, y3⟩, -⟩ := hY; have kQw13 := Q.out.strs HP0.out hb; clear hb hb0)
                    | (go_at_call 12; refine (same_yes k3 key3 l3 A3 A4 n3 cX3 cY4 ns3 _ ((RX.out.below HW.out).more HW.out.size) ((RY.out.below HW.out).more HW.out.size) (by omega)).mono ?_; rintro e w14 ⟨rfl, hb0⟩; have hb := (show Below w12.heap.size w12 _ from HW.out).trans (hb0.mono HW.out.size); have HW := Lib.hid hb; have hV := V.out.below hb; obtain ⟨-, ⟨c0, c1, c2, c3⟩, -⟩ := hV; have hO := O.out.below hb; obtain ⟨-, ⟨o0, o1, o2, o3⟩, -⟩ := hO; have hX := X.out.below hb; obtain ⟨-, ⟨x0, x1, x2, x3⟩, -⟩ := hX; have hY := Y.out.below hb; obtain ⟨-, ⟨y0, y1, y2, y3⟩, -⟩ := hY; have kQw14 := Q.out.strs HP0.out hb; clear hb hb0))
                  all_goals
                    go_wp2_with fail
                    go_ret
                    exact ⟨by simp, B.out.trans (HW.out.mono B.out.size)⟩
            · have HNO := Lib.hid hno
              have RX := Lib.hid (show RdK .i64 w8 w8.heap.size none 0 [] from ⟨rfl, fun j hj => absurd hj (Nat.not_lt_zero _)⟩)
              have H6 := Lib.hid (H6.out.trans ((hb).mono H6.out.size))
              clear hb hno
              have al := (Below.refl w8.heap.size w8).alloc (Nat.le_refl _) (.cells #[.int .i64 0, .int .i64 0, .int .i64 0, .slice none 0 0] 24)
              have X := Lib.hid (CV.new w8 24 0 0 0 none 0 0)
              have RX := Lib.hid ((RX.out.below al).more al.size)
              have H6 := Lib.hid (H6.out.trans ((al).mono H6.out.size))
              clear al
              go_wp2_with fail
              generalize w8.alloc (.cells #[.int .i64 0, .int .i64 0, .int .i64 0, .slice none 0 0] 24) = w9 at *
              go_loopw [16] (fun iv wr => ∃ i : Nat, iv = .int .i64 i ∧ i ≤ 0 ∧ Hid (Below w6.heap.size w6 wr) ∧ Hid (CV wr w8.heap.size 0 0 0 none 0 0) ∧ Hid (RdK .i64 wr w9.heap.size none 0 ([] : List Int)) ∧ Hid (w9.heap.size ≤ wr.heap.size)) (fun iv _ => 0 - (RowKit.intOf iv).toNat)
              case atStart => exact ⟨0, rfl, Nat.zero_le _, H6.out, X.out, RX.out, Nat.le_refl _⟩
              case round =>
                clear H6 X RX RM
                obtain ⟨i, rfl, hil, H6, X, RX, HS⟩ := hrel
                by_cases hlt : i < 0
                · exact absurd hlt (Nat.not_lt_zero _)
                · obtain rfl : i = 0 := by omega
                  obtain ⟨w10, e10⟩ : ∃ x, x = wr := ⟨_, rfl⟩
                  subst e10
                  have hb := H6.out
                  have V := Lib.hid (V.out.below hb)
                  have R := Lib.hid ((R.out.below hb).more (hb).size)
                  have RB := Lib.hid ((RB.out.below hb).more (hb).size)
                  have B := Lib.hid (B.out.trans ((hb).mono B.out.size))
                  have O := Lib.hid (O.out.below hb)
                  have RN := Lib.hid ((RN.out.below hb).more (hb).size)
                  have Q := Lib.hid (Q.out.below hb)
                  have RX := Lib.hid (RX.out.more HS.out)
                  clear hb H6 HS hlt hil
                  go_wp2_with fail
                  refine (cget_any none 0 0 [] _ RB.out HBB.out (by omega) hnb hcb2).mono ?_
                  rintro e w11 ⟨⟨k4, key4, l4, ns4, A4, cY4, hok, hn, hcb, rfl, hN, hd1, hd2⟩ | ⟨hno, rfl⟩, hb⟩
                  case inl => exact absurd hcb (HNO.out k4 key4 l4 ns4 hok hn)
                  have RY := Lib.hid (show RdK .i64 w11 w11.heap.size none 0 [] from ⟨rfl, fun j hj => absurd hj (Nat.not_lt_zero _)⟩)
                  clear hno
                  have V := Lib.hid (V.out.below hb)
                  have R := Lib.hid ((R.out.below hb).more (hb).size)
                  have RB := Lib.hid ((RB.out.below hb).more (hb).size)
                  have B := Lib.hid (B.out.trans ((hb).mono B.out.size))
                  have O := Lib.hid (O.out.below hb)
                  have RN := Lib.hid ((RN.out.below hb).more (hb).size)
                  have Q := Lib.hid (Q.out.below hb)
                  have X := Lib.hid (X.out.below hb)
                  have RX := Lib.hid ((RX.out.below hb).more (hb).size)
                  clear hb
                  have Y := Lib.hid (CV.new w11 24 0 0 0 none 0 0)
                  have al := (Below.refl w11.heap.size w11).alloc (Nat.le_refl _) (.cells #[.int .i64 0, .int .i64 0, .int .i64 0, .slice none 0 0] 24)
                  have V := Lib.hid (V.out.below al)
                  have R := Lib.hid ((R.out.below al).more (al).size)
                  have RB := Lib.hid ((RB.out.below al).more (al).size)
                  have B := Lib.hid (B.out.trans ((al).mono B.out.size))
                  have O := Lib.hid (O.out.below al)
                  have RN := Lib.hid ((RN.out.below al).more (al).size)
                  have Q := Lib.hid (Q.out.below al)
                  have X := Lib.hid (X.out.below al)
                  have RX := Lib.hid ((RX.out.below al).more (al).size)
                  have RY := Lib.hid ((RY.out.below al).more (al).size)
                  clear al
                  go_wp2_with fail
                  generalize w11.alloc (.cells #[.int .i64 0, .int .i64 0, .int .i64 0, .slice none 0 0] 24) = w12 at *
                  obtain ⟨-, ⟨c0, c1, c2, c3⟩, -⟩ := V.out
                  obtain ⟨-, ⟨o0, o1, o2, o3⟩, -⟩ := O.out
                  obtain ⟨-, ⟨x0, x1, x2, x3⟩, -⟩ := X.out
                  obtain ⟨-, ⟨y0, y1, y2, y3⟩, -⟩ := Y.out
                  have kQ := Q.out.strs HP0.out (Below.refl _ _).drew
                  have HW := Lib.hid (Below.refl w12.heap.size w12).drew
                  go_region_held3 (fun w' => (w'.cell? ⟨w.heap.size, 0, none⟩ = some (.int .i64 k) ∧ w'.cell? ⟨w.heap.size, 1, none⟩ = some (.int .i64 key) ∧ w'.cell? ⟨w.heap.size, 2, none⟩ = some (.int .i64 l) ∧ w'.cell? ⟨w.heap.size, 3, none⟩ = some (.slice (some ad) N c)) ∧ (w'.cell? ⟨w1.heap.size, 0, none⟩ = some (.int .i64 k) ∧ w'.cell? ⟨w1.heap.size, 1, none⟩ = some (.int .i64 key) ∧ w'.cell? ⟨w1.heap.size, 2, none⟩ = some (.int .i64 l) ∧ w'.cell? ⟨w1.heap.size, 3, none⟩ = some (.slice A2 N cA2)) ∧ (w'.cell? ⟨w8.heap.size, 0, none⟩ = some (.int .i64 0) ∧ w'.cell? ⟨w8.heap.size, 1, none⟩ = some (.int .i64 0) ∧ w'.cell? ⟨w8.heap.size, 2, none⟩ = some (.int .i64 0) ∧ w'.cell? ⟨w8.heap.size, 3, none⟩ = some (.slice none 0 0)) ∧ (w'.cell? ⟨w11.heap.size, 0, none⟩ = some (.int .i64 0) ∧ w'.cell? ⟨w11.heap.size, 1, none⟩ = some (.int .i64 0) ∧ w'.cell? ⟨w11.heap.size, 2, none⟩ = some (.int .i64 0) ∧ w'.cell? ⟨w11.heap.size, 3, none⟩ = some (.slice none 0 0)) ∧ (convert 26 9 (.slice (some ⟨g6, 0, none⟩) ps.length c6)).run Try.prog w' = .ok (.string (strOfNums ps)) w')
                    (refine ⟨⟨?_, ?_, ?_, ?_⟩, ⟨?_, ?_, ?_, ?_⟩, ⟨?_, ?_, ?_, ?_⟩, ⟨?_, ?_, ?_, ?_⟩, ?_⟩ <;> (first | assumption | go_keep))
                    (first
                    | (go_at_call_has 12 (Value.slice A2 N cA2); refine (same_yes k key l A2 (some ad) N cA2 c ns _ ((RN.out.below HW.out).more HW.out.size) ((R.out.below HW.out).more HW.out.size) (by omega)).mono ?_; rintro e w13 ⟨rfl, hb0⟩; have hb := (show Below w12.heap.size w12 _ from HW.out).trans (hb0.mono HW.out.size); have HW := Lib.hid hb; have hV := V.out.below hb; obtain ⟨-, ⟨c0, c1, c2, c3⟩, -⟩ := hV; have hO := O.out.below hb; obtain ⟨-, ⟨o0, o1, o2, o3⟩, -⟩ := hO; have hX := X.out.below hb; obtain ⟨-, ⟨x0, x1, x2, x3⟩, -⟩ := hX; have hY := Y.out.below hb; obtain ⟨-, ⟨y0, y1, y2, y3⟩, -⟩ := hY; have kQw13 := Q.out.strs HP0.out hb; clear hb hb0)
                    | (go_at_call 12; refine (same_yes 0 0 0 none none 0 0 0 ([] : List Int) _ ((RX.out.below HW.out).more HW.out.size) ((RY.out.below HW.out).more HW.out.size) (by omega)).mono ?_; rintro e w14 ⟨rfl, hb0⟩; have hb := (show Below w12.heap.size w12 _ from HW.out).trans (hb0.mono HW.out.size); have HW := Lib.hid hb; have hV := V.out.below hb; obtain ⟨-, ⟨c0, c1, c2, c3⟩, -⟩ := hV; have hO := O.out.below hb; obtain ⟨-, ⟨o0, o1, o2, o3⟩, -⟩ := hO; have hX := X.out.below hb; obtain ⟨-, ⟨x0, x1, x2, x3⟩, -⟩ := hX; have hY := Y.out.below hb; obtain ⟨-, ⟨y0, y1, y2, y3⟩, -⟩ := hY; have kQw14 := Q.out.strs HP0.out hb; clear hb hb0))
                  all_goals
                    go_wp2_with fail
                    go_ret
                    exact ⟨by simp, B.out.trans (HW.out.mono B.out.size)⟩
          · have hc7 : ∀ j u, (bs.map (Value.int .u8))[j]? = some u → (w6.alloc (.cells #[] 5)).cell? (ab.add j) = some u := (RB.out.below ((Below.refl w6.heap.size w6).alloc (Nat.le_refl _) (.cells #[] 5))).cells
            have HBL := Lib.hid RB.out.1
            go_wp2_with (at_builtin; go_loud (refine wpList_append_own _ rfl _ _ 26 rfl w6.heap.size 5 i0 (.int .u8 0) 1 1 Try.underlying26 hi hz0 hz1 hz2 rfl (by decide) (.slice (some ⟨w6.heap.size, 0, none⟩) 0 0) 0 [] rfl (empty_own8 w6) ab nb cb (bs.map (Value.int .u8)) rfl (by first | (rw [List.length_map, HBL.out, Nat.mul_one]; done) | (rw [List.length_map, HBL.out]; done)) hc7 (ones8 _) (by unfold maxLen; omega) (by omega) (by simp) ?_; intro v7 w7 hown7 hgrow _; have hb7 := Lib.hid (((Below.refl w6.heap.size w6).alloc (Nat.le_refl _) (.cells #[] 5)).grown hgrow (by simp) (own_block (empty_own8 w6))); clear hgrow hc7; rw [Nat.zero_add, List.nil_append] at hown7; obtain ⟨A7, c7, rfl⟩ := own_form hown7))
            have H6 := hb7
            have RM := Lib.hid (RdK.of_own hown7)
            have hcM := own_caps hown7
            have HM := Lib.hid (show Mn w6 w7 A7 nb from by
              rcases Nat.eq_zero_or_pos nb with h | h
              · exact .inl h
              · obtain ⟨g7, c8, e, hg7, _, _⟩ := own_some hown7 h
                injection e with e1 _ e3
                subst e1 e3
                exact .inr ⟨g7, rfl, hg7, U8.of_own hown7⟩)
            clear hb7 hown7
            refine (cget_any A7 nb c7 bs _ RM.out HBB.out (by omega) hcM.1 hcM.2).mono ?_
            rintro e w8 ⟨⟨k3, key3, l3, ns3, A3, cX3, hok, hn, hcb, rfl, hN, hd1, hd2⟩ | ⟨hno, rfl⟩, hb⟩
            · have RX := Lib.hid hN
              have HCB := Lib.hid hcb
              have hn3 : ns3.length ≤ 16 := hn
              have HOK := Lib.hid hok
              have H6 := Lib.hid (H6.out.trans ((hb).mono H6.out.size))
              have HM := Lib.hid (HM.out.below hb)
              clear hb hN hcb hn hok hd1 hd2
              obtain ⟨n3, hn3e⟩ : ∃ n3, ns3.length = n3 := ⟨_, rfl⟩
              have HN3 := Lib.hid hn3e
              rw [hn3e] at RX hn3 ⊢
              clear hn3e
              have al := (Below.refl w8.heap.size w8).alloc (Nat.le_refl _) (.cells #[.int .i64 k3, .int .i64 key3, .int .i64 l3, .slice A3 n3 cX3] 24)
              have X := Lib.hid (CV.new w8 24 k3 key3 l3 A3 n3 cX3)
              have RX := Lib.hid ((RX.out.below al).more al.size)
              have H6 := Lib.hid (H6.out.trans ((al).mono H6.out.size))
              have HM := Lib.hid (HM.out.below al)
              clear al
              go_wp2_with fail
              generalize w8.alloc (.cells #[.int .i64 k3, .int .i64 key3, .int .i64 l3, .slice A3 n3 cX3] 24) = w9 at *
              go_loopw [16] (fun iv wr => ∃ i : Nat, iv = .int .i64 i ∧ i ≤ nb ∧ Hid (Below w6.heap.size w6 wr) ∧ Hid (CV wr w8.heap.size k3 key3 l3 A3 n3 cX3) ∧ Hid (RdK .i64 wr w9.heap.size A3 n3 ns3) ∧ Hid (w9.heap.size ≤ wr.heap.size) ∧ Hid (Mn w6 wr A7 nb)) (fun iv _ => nb - (RowKit.intOf iv).toNat)
              case atStart => exact ⟨0, rfl, Nat.zero_le _, H6.out, X.out, RX.out, Nat.le_refl _, HM.out⟩
              case round =>
                clear H6 X RX RM HM
                obtain ⟨i, rfl, hil, H6, X, RX, HS, HM⟩ := hrel
                by_cases hlt : i < nb
                · have hltz : (i : Int) < (nb : Int) := by omega
                  obtain ⟨g7, hA7, hge, hU⟩ := (show _ ∨ _ from HM.out).resolve_left (by omega)
                  subst hA7
                  obtain ⟨⟨z, hz⟩, hf⟩ := hU i hlt
                  go_wp2_with fail
                  exact ⟨⟨i + 1, by go_num, by omega, H6.out.setCell hge _, X.out.store8 hz _, RX.out.store8 hz _, Lib.hid (by simpa using HS.out), Or.inr ⟨g7, rfl, hge, hU.set i hlt _⟩⟩, by simp [RowKit.intOf]; omega⟩
                · have hltz : ¬ (i : Int) < (nb : Int) := by omega
                  obtain ⟨w10, e10⟩ : ∃ x, x = wr := ⟨_, rfl⟩
                  subst e10
                  have hb := H6.out
                  have V := Lib.hid (V.out.below hb)
                  have R := Lib.hid ((R.out.below hb).more (hb).size)
                  have RB := Lib.hid ((RB.out.below hb).more (hb).size)
                  have B := Lib.hid (B.out.trans ((hb).mono B.out.size))
                  have O := Lib.hid (O.out.below hb)
                  have RN := Lib.hid ((RN.out.below hb).more (hb).size)
                  have Q := Lib.hid (Q.out.below hb)
                  have RX := Lib.hid (RX.out.more HS.out)
                  clear hb H6 HS hlt hil HM
                  go_wp2_with fail
                  refine (cget_any (some ab) nb cb bs _ RB.out HBB.out (by omega) hnb hcb2).mono ?_
                  rintro e w11 ⟨⟨k4, key4, l4, ns4, A4, cY4, hok, hn, hcb, rfl, hN, hd1, hd2⟩ | ⟨hno, rfl⟩, hb⟩
                  case inr => exact absurd HCB.out (hno k3 key3 l3 ns3 HOK.out (by rw [HN3.out]; exact hn3))
                  obtain ⟨rfl, rfl, rfl, rfl⟩ := Pk.cb_inj (HCB.out.symm.trans hcb)
                  have RY := Lib.hid hN
                  rw [HN3.out] at RY ⊢
                  clear hok hn hcb hN hd1 hd2
                  have V := Lib.hid (V.out.below hb)
                  have R := Lib.hid ((R.out.below hb).more (hb).size)
                  have RB := Lib.hid ((RB.out.below hb).more (hb).size)
                  have B := Lib.hid (B.out.trans ((hb).mono B.out.size))
                  have O := Lib.hid (O.out.below hb)
                  have RN := Lib.hid ((RN.out.below hb).more (hb).size)
                  have Q := Lib.hid (Q.out.below hb)
                  have X := Lib.hid (X.out.below hb)
                  have RX := Lib.hid ((RX.out.below hb).more (hb).size)
                  clear hb
                  have Y := Lib.hid (CV.new w11 24 k3 key3 l3 A4 n3 cY4)
                  have al := (Below.refl w11.heap.size w11).alloc (Nat.le_refl _) (.cells #[.int .i64 k3, .int .i64 key3, .int .i64 l3, .slice A4 n3 cY4] 24)
                  have V := Lib.hid (V.out.below al)
                  have R := Lib.hid ((R.out.below al).more (al).size)
                  have RB := Lib.hid ((RB.out.below al).more (al).size)
                  have B := Lib.hid (B.out.trans ((al).mono B.out.size))
                  have O := Lib.hid (O.out.below al)
                  have RN := Lib.hid ((RN.out.below al).more (al).size)
                  have Q := Lib.hid (Q.out.below al)
                  have X := Lib.hid (X.out.below al)
                  have RX := Lib.hid ((RX.out.below al).more (al).size)
                  have RY := Lib.hid ((RY.out.below al).more (al).size)
                  clear al
                  go_wp2_with fail
                  generalize w11.alloc (.cells #[.int .i64 k3, .int .i64 key3, .int .i64 l3, .slice A4 n3 cY4] 24) = w12 at *
                  obtain ⟨-, ⟨c0, c1, c2, c3⟩, -⟩ := V.out
                  obtain ⟨-, ⟨o0, o1, o2, o3⟩, -⟩ := O.out
                  obtain ⟨-, ⟨x0, x1, x2, x3⟩, -⟩ := X.out
                  obtain ⟨-, ⟨y0, y1, y2, y3⟩, -⟩ := Y.out
                  have kQ := Q.out.strs HP0.out (Below.refl _ _).drew
                  have HW := Lib.hid (Below.refl w12.heap.size w12).drew
                  go_region_held3 (fun w' => (w'.cell? ⟨w.heap.size, 0, none⟩ = some (.int .i64 k) ∧ w'.cell? ⟨w.heap.size, 1, none⟩ = some (.int .i64 key) ∧ w'.cell? ⟨w.heap.size, 2, none⟩ = some (.int .i64 l) ∧ w'.cell? ⟨w.heap.size, 3, none⟩ = some (.slice (some ad) N c)) ∧ (w'.cell? ⟨w1.heap.size, 0, none⟩ = some (.int .i64 k) ∧ w'.cell? ⟨w1.heap.size, 1, none⟩ = some (.int .i64 key) ∧ w'.cell? ⟨w1.heap.size, 2, none⟩ = some (.int .i64 l) ∧ w'.cell? ⟨w1.heap.size, 3, none⟩ = some (.slice A2 N cA2)) ∧ (w'.cell? ⟨w8.heap.size, 0, none⟩ = some (.int .i64 k3) ∧ w'.cell? ⟨w8.heap.size, 1, none⟩ = some (.int .i64 key3) ∧ w'.cell? ⟨w8.heap.size, 2, none⟩ = some (.int .i64 l3) ∧ w'.cell? ⟨w8.heap.size, 3, none⟩ = some (.slice A3 n3 cX3)) ∧ (w'.cell? ⟨w11.heap.size, 0, none⟩ = some (.int .i64 k3) ∧ w'.cell? ⟨w11.heap.size, 1, none⟩ = some (.int .i64 key3) ∧ w'.cell? ⟨w11.heap.size, 2, none⟩ = some (.int .i64 l3) ∧ w'.cell? ⟨w11.heap.size, 3, none⟩ = some (.slice A4 n3 cY4)) ∧ (convert 26 9 (.slice (some ⟨g6, 0, none⟩) ps.length c6)).run Try.prog w' = .ok (.string (strOfNums ps)) w')
                    (refine ⟨⟨?_, ?_, ?_, ?_⟩, ⟨?_, ?_, ?_, ?_⟩, ⟨?_, ?_, ?_, ?_⟩, ⟨?_, ?_, ?_, ?_⟩, ?_⟩ <;> (first | assumption | go_keep))
                    (first
                    | (go_at_call_has 12 (Value.slice A2 N cA2); refine (same_yes k key l A2 (some ad) N cA2 c ns _ ((RN.out.below HW.out).more HW.out.size) ((R.out.below HW.out).more HW.out.size) (by omega)).mono ?_; rintro e w13 ⟨rfl, hb0⟩; have hb := (show Below w12.heap.size w12 _ from HW.out).trans (hb0.mono HW.out.size); have HW := Lib.hid hb; have hV := V.out.below hb; obtain ⟨-, ⟨c0, c1, c2, c3⟩, -⟩ := hV; have hO := O.out.below hb; obtain ⟨-, ⟨o0, o1, o2, o3⟩, -⟩ := hO; have hX := X.out.below hb; obtain ⟨-, ⟨x0, x1, x2, x3⟩, -⟩ := hX; have hY := Y.out.below hb; obtain ⟨-, ⟨y0, y1, y2, y3⟩, -⟩ := hY; have kQw13 := Q.out.strs HP0.out hb; clear hb hb0)
                    | (go_at_call 12; refine (same_yes k3 key3 l3 A3 A4 n3 cX3 cY4 ns3 _ ((RX.out.below HW.out).more HW.out.size) ((RY.out.below HW.out).more HW.out.size) (by omega)).mono ?_; rintro e w14 ⟨rfl, hb0⟩; have hb := (show Below w12.heap.size w12 _ from HW.out).trans (hb0.mono HW.out.size); have HW := Lib.hid hb; have hV := V.out.below hb; obtain ⟨-, ⟨c0, c1, c2, c3⟩, -⟩ := hV; have hO := O.out.below hb; obtain ⟨-, ⟨o0, o1, o2, o3⟩, -⟩ := hO; have hX := X.out.below hb; obtain ⟨-, ⟨x0, x1, x2, x3⟩, -⟩ := hX; have hY := Y.out.below hb; obtain ⟨-, ⟨y0, y1, y2, y3⟩, -⟩ := hY; have kQw14 := Q.out.strs HP0.out hb; clear hb hb0))
                  all_goals
                    go_wp2_with fail
                    go_ret
                    exact ⟨by simp, B.out.trans (HW.out.mono B.out.size)⟩
            · have HNO := Lib.hid hno
              have RX := Lib.hid (show RdK .i64 w8 w8.heap.size none 0 [] from ⟨rfl, fun j hj => absurd hj (Nat.not_lt_zero _)⟩)
              have H6 := Lib.hid (H6.out.trans ((hb).mono H6.out.size))
              have HM := Lib.hid (HM.out.below hb)
              clear hb hno
              have al := (Below.refl w8.heap.size w8).alloc (Nat.le_refl _) (.cells #[.int .i64 0, .int .i64 0, .int .i64 0, .slice none 0 0] 24)
              have X := Lib.hid (CV.new w8 24 0 0 0 none 0 0)
              have RX := Lib.hid ((RX.out.below al).more al.size)
              have H6 := Lib.hid (H6.out.trans ((al).mono H6.out.size))
              have HM := Lib.hid (HM.out.below al)
              clear al
              go_wp2_with fail
              generalize w8.alloc (.cells #[.int .i64 0, .int .i64 0, .int .i64 0, .slice none 0 0] 24) = w9 at *
              go_loopw [16] (fun iv wr => ∃ i : Nat, iv = .int .i64 i ∧ i ≤ nb ∧ Hid (Below w6.heap.size w6 wr) ∧ Hid (CV wr w8.heap.size 0 0 0 none 0 0) ∧ Hid (RdK .i64 wr w9.heap.size none 0 ([] : List Int)) ∧ Hid (w9.heap.size ≤ wr.heap.size) ∧ Hid (Mn w6 wr A7 nb)) (fun iv _ => nb - (RowKit.intOf iv).toNat)
              case atStart => exact ⟨0, rfl, Nat.zero_le _, H6.out, X.out, RX.out, Nat.le_refl _, HM.out⟩
              case round =>
                clear H6 X RX RM HM
                obtain ⟨i, rfl, hil, H6, X, RX, HS, HM⟩ := hrel
                by_cases hlt : i < nb
                · have hltz : (i : Int) < (nb : Int) := by omega
                  obtain ⟨g7, hA7, hge, hU⟩ := (show _ ∨ _ from HM.out).resolve_left (by omega)
                  subst hA7
                  obtain ⟨⟨z, hz⟩, hf⟩ := hU i hlt
                  go_wp2_with fail
                  exact ⟨⟨i + 1, by go_num, by omega, H6.out.setCell hge _, X.out.store8 hz _, RX.out.store8 hz _, Lib.hid (by simpa using HS.out), Or.inr ⟨g7, rfl, hge, hU.set i hlt _⟩⟩, by simp [RowKit.intOf]; omega⟩
                · have hltz : ¬ (i : Int) < (nb : Int) := by omega
                  obtain ⟨w10, e10⟩ : ∃ x, x = wr := ⟨_, rfl⟩
                  subst e10
                  have hb := H6.out
                  have V := Lib.hid (V.out.below hb)
                  have R := Lib.hid ((R.out.below hb).more (hb).size)
                  have RB := Lib.hid ((RB.out.below hb).more (hb).size)
                  have B := Lib.hid (B.out.trans ((hb).mono B.out.size))
                  have O := Lib.hid (O.out.below hb)
                  have RN := Lib.hid ((RN.out.below hb).more (hb).size)
                  have Q := Lib.hid (Q.out.below hb)
                  have RX := Lib.hid (RX.out.more HS.out)
                  clear hb H6 HS hlt hil HM
                  go_wp2_with fail
                  refine (cget_any (some ab) nb cb bs _ RB.out HBB.out (by omega) hnb hcb2).mono ?_
                  rintro e w11 ⟨⟨k4, key4, l4, ns4, A4, cY4, hok, hn, hcb, rfl, hN, hd1, hd2⟩ | ⟨hno, rfl⟩, hb⟩
                  case inl => exact absurd hcb (HNO.out k4 key4 l4 ns4 hok hn)
                  have RY := Lib.hid (show RdK .i64 w11 w11.heap.size none 0 [] from ⟨rfl, fun j hj => absurd hj (Nat.not_lt_zero _)⟩)
                  clear hno
                  have V := Lib.hid (V.out.below hb)
                  have R := Lib.hid ((R.out.below hb).more (hb).size)
                  have RB := Lib.hid ((RB.out.below hb).more (hb).size)
                  have B := Lib.hid (B.out.trans ((hb).mono B.out.size))
                  have O := Lib.hid (O.out.below hb)
                  have RN := Lib.hid ((RN.out.below hb).more (hb).size)
                  have Q := Lib.hid (Q.out.below hb)
                  have X := Lib.hid (X.out.below hb)
                  have RX := Lib.hid ((RX.out.below hb).more (hb).size)
                  clear hb
                  have Y := Lib.hid (CV.new w11 24 0 0 0 none 0 0)
                  have al := (Below.refl w11.heap.size w11).alloc (Nat.le_refl _) (.cells #[.int .i64 0, .int .i64 0, .int .i64 0, .slice none 0 0] 24)
                  have V := Lib.hid (V.out.below al)
                  have R := Lib.hid ((R.out.below al).more (al).size)
                  have RB := Lib.hid ((RB.out.below al).more (al).size)
                  have B := Lib.hid (B.out.trans ((al).mono B.out.size))
                  have O := Lib.hid (O.out.below al)
                  have RN := Lib.hid ((RN.out.below al).more (al).size)
                  have Q := Lib.hid (Q.out.below al)
                  have X := Lib.hid (X.out.below al)
                  have RX := Lib.hid ((RX.out.below al).more (al).size)
                  have RY := Lib.hid ((RY.out.below al).more (al).size)
                  clear al
                  go_wp2_with fail
                  generalize w11.alloc (.cells #[.int .i64 0, .int .i64 0, .int .i64 0, .slice none 0 0] 24) = w12 at *
                  obtain ⟨-, ⟨c0, c1, c2, c3⟩, -⟩ := V.out
                  obtain ⟨-, ⟨o0, o1, o2, o3⟩, -⟩ := O.out
                  obtain ⟨-, ⟨x0, x1, x2, x3⟩, -⟩ := X.out
                  obtain ⟨-, ⟨y0, y1, y2, y3⟩, -⟩ := Y.out
                  have kQ := Q.out.strs HP0.out (Below.refl _ _).drew
                  have HW := Lib.hid (Below.refl w12.heap.size w12).drew
                  go_region_held3 (fun w' => (w'.cell? ⟨w.heap.size, 0, none⟩ = some (.int .i64 k) ∧ w'.cell? ⟨w.heap.size, 1, none⟩ = some (.int .i64 key) ∧ w'.cell? ⟨w.heap.size, 2, none⟩ = some (.int .i64 l) ∧ w'.cell? ⟨w.heap.size, 3, none⟩ = some (.slice (some ad) N c)) ∧ (w'.cell? ⟨w1.heap.size, 0, none⟩ = some (.int .i64 k) ∧ w'.cell? ⟨w1.heap.size, 1, none⟩ = some (.int .i64 key) ∧ w'.cell? ⟨w1.heap.size, 2, none⟩ = some (.int .i64 l) ∧ w'.cell? ⟨w1.heap.size, 3, none⟩ = some (.slice A2 N cA2)) ∧ (w'.cell? ⟨w8.heap.size, 0, none⟩ = some (.int .i64 0) ∧ w'.cell? ⟨w8.heap.size, 1, none⟩ = some (.int .i64 0) ∧ w'.cell? ⟨w8.heap.size, 2, none⟩ = some (.int .i64 0) ∧ w'.cell? ⟨w8.heap.size, 3, none⟩ = some (.slice none 0 0)) ∧ (w'.cell? ⟨w11.heap.size, 0, none⟩ = some (.int .i64 0) ∧ w'.cell? ⟨w11.heap.size, 1, none⟩ = some (.int .i64 0) ∧ w'.cell? ⟨w11.heap.size, 2, none⟩ = some (.int .i64 0) ∧ w'.cell? ⟨w11.heap.size, 3, none⟩ = some (.slice none 0 0)) ∧ (convert 26 9 (.slice (some ⟨g6, 0, none⟩) ps.length c6)).run Try.prog w' = .ok (.string (strOfNums ps)) w')
                    (refine ⟨⟨?_, ?_, ?_, ?_⟩, ⟨?_, ?_, ?_, ?_⟩, ⟨?_, ?_, ?_, ?_⟩, ⟨?_, ?_, ?_, ?_⟩, ?_⟩ <;> (first | assumption | go_keep))
                    (first
                    | (go_at_call_has 12 (Value.slice A2 N cA2); refine (same_yes k key l A2 (some ad) N cA2 c ns _ ((RN.out.below HW.out).more HW.out.size) ((R.out.below HW.out).more HW.out.size) (by omega)).mono ?_; rintro e w13 ⟨rfl, hb0⟩; have hb := (show Below w12.heap.size w12 _ from HW.out).trans (hb0.mono HW.out.size); have HW := Lib.hid hb; have hV := V.out.below hb; obtain ⟨-, ⟨c0, c1, c2, c3⟩, -⟩ := hV; have hO := O.out.below hb; obtain ⟨-, ⟨o0, o1, o2, o3⟩, -⟩ := hO; have hX := X.out.below hb; obtain ⟨-, ⟨x0, x1, x2, x3⟩, -⟩ := hX; have hY := Y.out.below hb; obtain ⟨-, ⟨y0, y1, y2, y3⟩, -⟩ := hY; have kQw13 := Q.out.strs HP0.out hb; clear hb hb0)
                    | (go_at_call 12; refine (same_yes 0 0 0 none none 0 0 0 ([] : List Int) _ ((RX.out.below HW.out).more HW.out.size) ((RY.out.below HW.out).more HW.out.size) (by omega)).mono ?_; rintro e w14 ⟨rfl, hb0⟩; have hb := (show Below w12.heap.size w12 _ from HW.out).trans (hb0.mono HW.out.size); have HW := Lib.hid hb; have hV := V.out.below hb; obtain ⟨-, ⟨c0, c1, c2, c3⟩, -⟩ := hV; have hO := O.out.below hb; obtain ⟨-, ⟨o0, o1, o2, o3⟩, -⟩ := hO; have hX := X.out.below hb; obtain ⟨-, ⟨x0, x1, x2, x3⟩, -⟩ := hX; have hY := Y.out.below hb; obtain ⟨-, ⟨y0, y1, y2, y3⟩, -⟩ := hY; have kQw14 := Q.out.strs HP0.out hb; clear hb hb0))
                  all_goals
                    go_wp2_with fail
                    go_ret
                    exact ⟨by simp, B.out.trans (HW.out.mono B.out.size)⟩
    · have h16n : 16 < N := by omega
      have HPUT := Lib.hid (fun (w : World) (hr : RdK .i64 w w.heap.size A2 N ns) => cput_no k key l A2 N cA2 ns w hr HO.out h16n hcA.1 hcA.2)
      have kN := fun (w : World) => run_convert_bytes_nil (P := Try.prog) w 26 5 Try.underlying26 Try.underlying5 0 0 9 Try.underlying9
      refine (HPUT.out _ RN.out).mono ?_; rintro e w4 ⟨rfl, hb⟩
      have V := Lib.hid (V.out.below hb)
      have R := Lib.hid ((R.out.below hb).more (hb).size)
      have RB := Lib.hid ((RB.out.below hb).more (hb).size)
      have B := Lib.hid (B.out.trans ((hb).mono B.out.size))
      have O := Lib.hid (O.out.below hb)
      have RN := Lib.hid ((RN.out.below hb).more (hb).size)
      clear hb
      go_wp2_with fail
      go_loopw [10] (fun iv wr => iv = .int .i64 0 ∧ w4 = wr) (fun iv _ => 0)
      case atStart => exact ⟨rfl, rfl⟩
      case round =>
        obtain ⟨rfl, rfl⟩ := hrel
        obtain ⟨-, ⟨o0, o1, o2, o3⟩, of0, of1, of2, of3⟩ := O.out
        go_wp2_with fail
        refine (HPUT.out _ RN.out).mono ?_; rintro e w6 ⟨rfl, hb⟩
        have V := Lib.hid (V.out.below hb)
        have R := Lib.hid ((R.out.below hb).more (hb).size)
        have RB := Lib.hid ((RB.out.below hb).more (hb).size)
        have B := Lib.hid (B.out.trans ((hb).mono B.out.size))
        have O := Lib.hid (O.out.below hb)
        have RN := Lib.hid ((RN.out.below hb).more (hb).size)
        clear hb o0 o1 o2 o3 of0 of1 of2 of3
        rcases Ab with _ | ab
        · obtain ⟨rfl, rfl⟩ := RB.out.none_nil
          obtain rfl : cb = 0 := hAb rfl
          go_wp2_with (at_builtin; refine wpList_append_own_none rfl _ _ 26 rfl w6.heap.size 5 i0 1 Try.underlying26 hi _ 0 [] rfl (empty_own8 w6) rfl ?_)
          have H6 := Lib.hid ((Below.refl w6.heap.size w6).alloc (Nat.le_refl _) (.cells #[] 5))
          have RM := Lib.hid (show RdK .u8 (w6.alloc (.cells #[] 5)) (w6.alloc (.cells #[] 5)).heap.size (some ⟨w6.heap.size, 0, none⟩) 0 [] from ⟨rfl, fun j hj => absurd hj (Nat.not_lt_zero _)⟩)
          generalize hwm : (w6.alloc (.cells #[] 5)) = w7 at *
          clear hwm
          have hcM : 0 ≤ 0 ∧ 0 ≤ 9223372036854775807 := by decide
          refine (cget_any (some ⟨w6.heap.size, 0, none⟩) 0 0 [] _ RM.out HBB.out (by omega) hcM.1 hcM.2).mono ?_
          rintro e w8 ⟨⟨k3, key3, l3, ns3, A3, cX3, hok, hn, hcb, rfl, hN, hd1, hd2⟩ | ⟨hno, rfl⟩, hb⟩
          · have RX := Lib.hid hN
            have HCB := Lib.hid hcb
            have hn3 : ns3.length ≤ 16 := hn
            have HOK := Lib.hid hok
            have H6 := Lib.hid (H6.out.trans ((hb).mono H6.out.size))
            clear hb hN hcb hn hok hd1 hd2
            obtain ⟨n3, hn3e⟩ : ∃ n3, ns3.length = n3 := ⟨_, rfl⟩
            have HN3 := Lib.hid hn3e
            rw [hn3e] at RX hn3 ⊢
            clear hn3e
            have al := (Below.refl w8.heap.size w8).alloc (Nat.le_refl _) (.cells #[.int .i64 k3, .int .i64 key3, .int .i64 l3, .slice A3 n3 cX3] 24)
            have X := Lib.hid (CV.new w8 24 k3 key3 l3 A3 n3 cX3)
            have RX := Lib.hid ((RX.out.below al).more al.size)
            have H6 := Lib.hid (H6.out.trans ((al).mono H6.out.size))
            clear al
            go_wp2_with fail
            generalize w8.alloc (.cells #[.int .i64 k3, .int .i64 key3, .int .i64 l3, .slice A3 n3 cX3] 24) = w9 at *
            go_loopw [16] (fun iv wr => ∃ i : Nat, iv = .int .i64 i ∧ i ≤ 0 ∧ Hid (Below w6.heap.size w6 wr) ∧ Hid (CV wr w8.heap.size k3 key3 l3 A3 n3 cX3) ∧ Hid (RdK .i64 wr w9.heap.size A3 n3 ns3) ∧ Hid (w9.heap.size ≤ wr.heap.size)) (fun iv _ => 0 - (RowKit.intOf iv).toNat)
            case atStart => exact ⟨0, rfl, Nat.zero_le _, H6.out, X.out, RX.out, Nat.le_refl _⟩
            case round =>
              clear H6 X RX RM
              obtain ⟨i, rfl, hil, H6, X, RX, HS⟩ := hrel
              by_cases hlt : i < 0
              · exact absurd hlt (Nat.not_lt_zero _)
              · obtain rfl : i = 0 := by omega
                obtain ⟨w10, e10⟩ : ∃ x, x = wr := ⟨_, rfl⟩
                subst e10
                have hb := H6.out
                have V := Lib.hid (V.out.below hb)
                have R := Lib.hid ((R.out.below hb).more (hb).size)
                have RB := Lib.hid ((RB.out.below hb).more (hb).size)
                have B := Lib.hid (B.out.trans ((hb).mono B.out.size))
                have O := Lib.hid (O.out.below hb)
                have RN := Lib.hid ((RN.out.below hb).more (hb).size)
                have RX := Lib.hid (RX.out.more HS.out)
                clear hb H6 HS hlt hil
                go_wp2_with fail
                refine (cget_any none 0 0 [] _ RB.out HBB.out (by omega) hnb hcb2).mono ?_
                rintro e w11 ⟨⟨k4, key4, l4, ns4, A4, cY4, hok, hn, hcb, rfl, hN, hd1, hd2⟩ | ⟨hno, rfl⟩, hb⟩
                case inr => exact absurd HCB.out (hno k3 key3 l3 ns3 HOK.out (by rw [HN3.out]; exact hn3))
                obtain ⟨rfl, rfl, rfl, rfl⟩ := Pk.cb_inj (HCB.out.symm.trans hcb)
                have RY := Lib.hid hN
                rw [HN3.out] at RY ⊢
                clear hok hn hcb hN hd1 hd2
                have V := Lib.hid (V.out.below hb)
                have R := Lib.hid ((R.out.below hb).more (hb).size)
                have RB := Lib.hid ((RB.out.below hb).more (hb).size)
                have B := Lib.hid (B.out.trans ((hb).mono B.out.size))
                have O := Lib.hid (O.out.below hb)
                have RN := Lib.hid ((RN.out.below hb).more (hb).size)
                have X := Lib.hid (X.out.below hb)
                have RX := Lib.hid ((RX.out.below hb).more (hb).size)
                clear hb
                have Y := Lib.hid (CV.new w11 24 k3 key3 l3 A4 n3 cY4)
                have al := (Below.refl w11.heap.size w11).alloc (Nat.le_refl _) (.cells #[.int .i64 k3, .int .i64 key3, .int .i64 l3, .slice A4 n3 cY4] 24)
                have V := Lib.hid (V.out.below al)
                have R := Lib.hid ((R.out.below al).more (al).size)
                have RB := Lib.hid ((RB.out.below al).more (al).size)
                have B := Lib.hid (B.out.trans ((al).mono B.out.size))
                have O := Lib.hid (O.out.below al)
                have RN := Lib.hid ((RN.out.below al).more (al).size)
                have X := Lib.hid (X.out.below al)
                have RX := Lib.hid ((RX.out.below al).more (al).size)
                have RY := Lib.hid ((RY.out.below al).more (al).size)
                clear al
                go_wp2_with fail
                generalize w11.alloc (.cells #[.int .i64 k3, .int .i64 key3, .int .i64 l3, .slice A4 n3 cY4] 24) = w12 at *
                obtain ⟨-, ⟨c0, c1, c2, c3⟩, -⟩ := V.out
                obtain ⟨-, ⟨o0, o1, o2, o3⟩, -⟩ := O.out
                obtain ⟨-, ⟨x0, x1, x2, x3⟩, -⟩ := X.out
                obtain ⟨-, ⟨y0, y1, y2, y3⟩, -⟩ := Y.out
                have HW := Lib.hid (Below.refl w12.heap.size w12).drew
                go_region_held3 (fun w' => (w'.cell? ⟨w.heap.size, 0, none⟩ = some (.int .i64 k) ∧ w'.cell? ⟨w.heap.size, 1, none⟩ = some (.int .i64 key) ∧ w'.cell? ⟨w.heap.size, 2, none⟩ = some (.int .i64 l) ∧ w'.cell? ⟨w.heap.size, 3, none⟩ = some (.slice (some ad) N c)) ∧ (w'.cell? ⟨w1.heap.size, 0, none⟩ = some (.int .i64 k) ∧ w'.cell? ⟨w1.heap.size, 1, none⟩ = some (.int .i64 key) ∧ w'.cell? ⟨w1.heap.size, 2, none⟩ = some (.int .i64 l) ∧ w'.cell? ⟨w1.heap.size, 3, none⟩ = some (.slice A2 N cA2)) ∧ (w'.cell? ⟨w8.heap.size, 0, none⟩ = some (.int .i64 k3) ∧ w'.cell? ⟨w8.heap.size, 1, none⟩ = some (.int .i64 key3) ∧ w'.cell? ⟨w8.heap.size, 2, none⟩ = some (.int .i64 l3) ∧ w'.cell? ⟨w8.heap.size, 3, none⟩ = some (.slice A3 n3 cX3)) ∧ (w'.cell? ⟨w11.heap.size, 0, none⟩ = some (.int .i64 k3) ∧ w'.cell? ⟨w11.heap.size, 1, none⟩ = some (.int .i64 key3) ∧ w'.cell? ⟨w11.heap.size, 2, none⟩ = some (.int .i64 l3) ∧ w'.cell? ⟨w11.heap.size, 3, none⟩ = some (.slice A4 n3 cY4)))
                  (refine ⟨⟨?_, ?_, ?_, ?_⟩, ⟨?_, ?_, ?_, ?_⟩, ⟨?_, ?_, ?_, ?_⟩, ⟨?_, ?_, ?_, ?_⟩⟩ <;> (first | assumption | go_keep))
                  (first
                  | (go_at_call_has 12 (Value.slice A2 N cA2); refine (same_yes k key l A2 (some ad) N cA2 c ns _ ((RN.out.below HW.out).more HW.out.size) ((R.out.below HW.out).more HW.out.size) (by omega)).mono ?_; rintro e w13 ⟨rfl, hb0⟩; have hb := (show Below w12.heap.size w12 _ from HW.out).trans (hb0.mono HW.out.size); have HW := Lib.hid hb; have hV := V.out.below hb; obtain ⟨-, ⟨c0, c1, c2, c3⟩, -⟩ := hV; have hO := O.out.below hb; obtain ⟨-, ⟨o0, o1, o2, o3⟩, -⟩ := hO; have hX := X.out.below hb; obtain ⟨-, ⟨x0, x1, x2, x3⟩, -⟩ := hX; have hY := Y.out.below hb; obtain ⟨-, ⟨y0, y1, y2, y3⟩, -⟩ := hY; clear hb hb0)
                  | (go_at_call 12; refine (same_yes k3 key3 l3 A3 A4 n3 cX3 cY4 ns3 _ ((RX.out.below HW.out).more HW.out.size) ((RY.out.below HW.out).more HW.out.size) (by omega)).mono ?_; rintro e w14 ⟨rfl, hb0⟩; have hb := (show Below w12.heap.size w12 _ from HW.out).trans (hb0.mono HW.out.size); have HW := Lib.hid hb; have hV := V.out.below hb; obtain ⟨-, ⟨c0, c1, c2, c3⟩, -⟩ := hV; have hO := O.out.below hb; obtain ⟨-, ⟨o0, o1, o2, o3⟩, -⟩ := hO; have hX := X.out.below hb; obtain ⟨-, ⟨x0, x1, x2, x3⟩, -⟩ := hX; have hY := Y.out.below hb; obtain ⟨-, ⟨y0, y1, y2, y3⟩, -⟩ := hY; clear hb hb0))
                all_goals
                  go_wp2_with fail
                  go_ret
                  exact ⟨by simp, B.out.trans (HW.out.mono B.out.size)⟩
          · have HNO := Lib.hid hno
            have RX := Lib.hid (show RdK .i64 w8 w8.heap.size none 0 [] from ⟨rfl, fun j hj => absurd hj (Nat.not_lt_zero _)⟩)
            have H6 := Lib.hid (H6.out.trans ((hb).mono H6.out.size))
            clear hb hno
            have al := (Below.refl w8.heap.size w8).alloc (Nat.le_refl _) (.cells #[.int .i64 0, .int .i64 0, .int .i64 0, .slice none 0 0] 24)
            have X := Lib.hid (CV.new w8 24 0 0 0 none 0 0)
            have RX := Lib.hid ((RX.out.below al).more al.size)
            have H6 := Lib.hid (H6.out.trans ((al).mono H6.out.size))
            clear al
            go_wp2_with fail
            generalize w8.alloc (.cells #[.int .i64 0, .int .i64 0, .int .i64 0, .slice none 0 0] 24) = w9 at *
            go_loopw [16] (fun iv wr => ∃ i : Nat, iv = .int .i64 i ∧ i ≤ 0 ∧ Hid (Below w6.heap.size w6 wr) ∧ Hid (CV wr w8.heap.size 0 0 0 none 0 0) ∧ Hid (RdK .i64 wr w9.heap.size none 0 ([] : List Int)) ∧ Hid (w9.heap.size ≤ wr.heap.size)) (fun iv _ => 0 - (RowKit.intOf iv).toNat)
            case atStart => exact ⟨0, rfl, Nat.zero_le _, H6.out, X.out, RX.out, Nat.le_refl _⟩
            case round =>
              clear H6 X RX RM
              obtain ⟨i, rfl, hil, H6, X, RX, HS⟩ := hrel
              by_cases hlt : i < 0
              · exact absurd hlt (Nat.not_lt_zero _)
              · obtain rfl : i = 0 := by omega
                obtain ⟨w10, e10⟩ : ∃ x, x = wr := ⟨_, rfl⟩
                subst e10
                have hb := H6.out
                have V := Lib.hid (V.out.below hb)
                have R := Lib.hid ((R.out.below hb).more (hb).size)
                have RB := Lib.hid ((RB.out.below hb).more (hb).size)
                have B := Lib.hid (B.out.trans ((hb).mono B.out.size))
                have O := Lib.hid (O.out.below hb)
                have RN := Lib.hid ((RN.out.below hb).more (hb).size)
                have RX := Lib.hid (RX.out.more HS.out)
                clear hb H6 HS hlt hil
                go_wp2_with fail
                refine (cget_any none 0 0 [] _ RB.out HBB.out (by omega) hnb hcb2).mono ?_
                rintro e w11 ⟨⟨k4, key4, l4, ns4, A4, cY4, hok, hn, hcb, rfl, hN, hd1, hd2⟩ | ⟨hno, rfl⟩, hb⟩
                case inl => exact absurd hcb (HNO.out k4 key4 l4 ns4 hok hn)
                have RY := Lib.hid (show RdK .i64 w11 w11.heap.size none 0 [] from ⟨rfl, fun j hj => absurd hj (Nat.not_lt_zero _)⟩)
                clear hno
                have V := Lib.hid (V.out.below hb)
                have R := Lib.hid ((R.out.below hb).more (hb).size)
                have RB := Lib.hid ((RB.out.below hb).more (hb).size)
                have B := Lib.hid (B.out.trans ((hb).mono B.out.size))
                have O := Lib.hid (O.out.below hb)
                have RN := Lib.hid ((RN.out.below hb).more (hb).size)
                have X := Lib.hid (X.out.below hb)
                have RX := Lib.hid ((RX.out.below hb).more (hb).size)
                clear hb
                have Y := Lib.hid (CV.new w11 24 0 0 0 none 0 0)
                have al := (Below.refl w11.heap.size w11).alloc (Nat.le_refl _) (.cells #[.int .i64 0, .int .i64 0, .int .i64 0, .slice none 0 0] 24)
                have V := Lib.hid (V.out.below al)
                have R := Lib.hid ((R.out.below al).more (al).size)
                have RB := Lib.hid ((RB.out.below al).more (al).size)
                have B := Lib.hid (B.out.trans ((al).mono B.out.size))
                have O := Lib.hid (O.out.below al)
                have RN := Lib.hid ((RN.out.below al).more (al).size)
                have X := Lib.hid (X.out.below al)
                have RX := Lib.hid ((RX.out.below al).more (al).size)
                have RY := Lib.hid ((RY.out.below al).more (al).size)
                clear al
                go_wp2_with fail
                generalize w11.alloc (.cells #[.int .i64 0, .int .i64 0, .int .i64 0, .slice none 0 0] 24) = w12 at *
                obtain ⟨-, ⟨c0, c1, c2, c3⟩, -⟩ := V.out
                obtain ⟨-, ⟨o0, o1, o2, o3⟩, -⟩ := O.out
                obtain ⟨-, ⟨x0, x1, x2, x3⟩, -⟩ := X.out
                obtain ⟨-, ⟨y0, y1, y2, y3⟩, -⟩ := Y.out
                have HW := Lib.hid (Below.refl w12.heap.size w12).drew
                go_region_held3 (fun w' => (w'.cell? ⟨w.heap.size, 0, none⟩ = some (.int .i64 k) ∧ w'.cell? ⟨w.heap.size, 1, none⟩ = some (.int .i64 key) ∧ w'.cell? ⟨w.heap.size, 2, none⟩ = some (.int .i64 l) ∧ w'.cell? ⟨w.heap.size, 3, none⟩ = some (.slice (some ad) N c)) ∧ (w'.cell? ⟨w1.heap.size, 0, none⟩ = some (.int .i64 k) ∧ w'.cell? ⟨w1.heap.size, 1, none⟩ = some (.int .i64 key) ∧ w'.cell? ⟨w1.heap.size, 2, none⟩ = some (.int .i64 l) ∧ w'.cell? ⟨w1.heap.size, 3, none⟩ = some (.slice A2 N cA2)) ∧ (w'.cell? ⟨w8.heap.size, 0, none⟩ = some (.int .i64 0) ∧ w'.cell? ⟨w8.heap.size, 1, none⟩ = some (.int .i64 0) ∧ w'.cell? ⟨w8.heap.size, 2, none⟩ = some (.int .i64 0) ∧ w'.cell? ⟨w8.heap.size, 3, none⟩ = some (.slice none 0 0)) ∧ (w'.cell? ⟨w11.heap.size, 0, none⟩ = some (.int .i64 0) ∧ w'.cell? ⟨w11.heap.size, 1, none⟩ = some (.int .i64 0) ∧ w'.cell? ⟨w11.heap.size, 2, none⟩ = some (.int .i64 0) ∧ w'.cell? ⟨w11.heap.size, 3, none⟩ = some (.slice none 0 0)))
                  (refine ⟨⟨?_, ?_, ?_, ?_⟩, ⟨?_, ?_, ?_, ?_⟩, ⟨?_, ?_, ?_, ?_⟩, ⟨?_, ?_, ?_, ?_⟩⟩ <;> (first | assumption | go_keep))
                  (first
                  | (go_at_call_has 12 (Value.slice A2 N cA2); refine (same_yes k key l A2 (some ad) N cA2 c ns _ ((RN.out.below HW.out).more HW.out.size) ((R.out.below HW.out).more HW.out.size) (by omega)).mono ?_; rintro e w13 ⟨rfl, hb0⟩; have hb := (show Below w12.heap.size w12 _ from HW.out).trans (hb0.mono HW.out.size); have HW := Lib.hid hb; have hV := V.out.below hb; obtain ⟨-, ⟨c0, c1, c2, c3⟩, -⟩ := hV; have hO := O.out.below hb; obtain ⟨-, ⟨o0, o1, o2, o3⟩, -⟩ := hO; have hX := X.out.below hb; obtain ⟨-, ⟨x0, x1, x2, x3⟩, -⟩ := hX; have hY := Y.out.below hb; obtain ⟨-, ⟨y0, y1, y2, y3⟩, -⟩ := hY; clear hb hb0)
                  | (go_at_call 12; refine (same_yes 0 0 0 none none 0 0 0 ([] : List Int) _ ((RX.out.below HW.out).more HW.out.size) ((RY.out.below HW.out).more HW.out.size) (by omega)).mono ?_; rintro e w14 ⟨rfl, hb0⟩; have hb := (show Below w12.heap.size w12 _ from HW.out).trans (hb0.mono HW.out.size); have HW := Lib.hid hb; have hV := V.out.below hb; obtain ⟨-, ⟨c0, c1, c2, c3⟩, -⟩ := hV; have hO := O.out.below hb; obtain ⟨-, ⟨o0, o1, o2, o3⟩, -⟩ := hO; have hX := X.out.below hb; obtain ⟨-, ⟨x0, x1, x2, x3⟩, -⟩ := hX; have hY := Y.out.below hb; obtain ⟨-, ⟨y0, y1, y2, y3⟩, -⟩ := hY; clear hb hb0))
                all_goals
                  go_wp2_with fail
                  go_ret
                  exact ⟨by simp, B.out.trans (HW.out.mono B.out.size)⟩
        · have hc7 : ∀ j u, (bs.map (Value.int .u8))[j]? = some u → (w6.alloc (.cells #[] 5)).cell? (ab.add j) = some u := (RB.out.below ((Below.refl w6.heap.size w6).alloc (Nat.le_refl _) (.cells #[] 5))).cells
          have HBL := Lib.hid RB.out.1
          go_wp2_with (at_builtin; go_loud (refine wpList_append_own _ rfl _ _ 26 rfl w6.heap.size 5 i0 (.int .u8 0) 1 1 Try.underlying26 hi hz0 hz1 hz2 rfl (by decide) (.slice (some ⟨w6.heap.size, 0, none⟩) 0 0) 0 [] rfl (empty_own8 w6) ab nb cb (bs.map (Value.int .u8)) rfl (by first | (rw [List.length_map, HBL.out, Nat.mul_one]; done) | (rw [List.length_map, HBL.out]; done)) hc7 (ones8 _) (by unfold maxLen; omega) (by omega) (by simp) ?_; intro v7 w7 hown7 hgrow _; have hb7 := Lib.hid (((Below.refl w6.heap.size w6).alloc (Nat.le_refl _) (.cells #[] 5)).grown hgrow (by simp) (own_block (empty_own8 w6))); clear hgrow hc7; rw [Nat.zero_add, List.nil_append] at hown7; obtain ⟨A7, c7, rfl⟩ := own_form hown7))
          have H6 := hb7
          have RM := Lib.hid (RdK.of_own hown7)
          have hcM := own_caps hown7
          have HM := Lib.hid (show Mn w6 w7 A7 nb from by
            rcases Nat.eq_zero_or_pos nb with h | h
            · exact .inl h
            · obtain ⟨g7, c8, e, hg7, _, _⟩ := own_some hown7 h
              injection e with e1 _ e3
              subst e1 e3
              exact .inr ⟨g7, rfl, hg7, U8.of_own hown7⟩)
          clear hb7 hown7
          refine (cget_any A7 nb c7 bs _ RM.out HBB.out (by omega) hcM.1 hcM.2).mono ?_
          rintro e w8 ⟨⟨k3, key3, l3, ns3, A3, cX3, hok, hn, hcb, rfl, hN, hd1, hd2⟩ | ⟨hno, rfl⟩, hb⟩
          · have RX := Lib.hid hN
            have HCB := Lib.hid hcb
            have hn3 : ns3.length ≤ 16 := hn
            have HOK := Lib.hid hok
            have H6 := Lib.hid (H6.out.trans ((hb).mono H6.out.size))
            have HM := Lib.hid (HM.out.below hb)
            clear hb hN hcb hn hok hd1 hd2
            obtain ⟨n3, hn3e⟩ : ∃ n3, ns3.length = n3 := ⟨_, rfl⟩
            have HN3 := Lib.hid hn3e
            rw [hn3e] at RX hn3 ⊢
            clear hn3e
            have al := (Below.refl w8.heap.size w8).alloc (Nat.le_refl _) (.cells #[.int .i64 k3, .int .i64 key3, .int .i64 l3, .slice A3 n3 cX3] 24)
            have X := Lib.hid (CV.new w8 24 k3 key3 l3 A3 n3 cX3)
            have RX := Lib.hid ((RX.out.below al).more al.size)
            have H6 := Lib.hid (H6.out.trans ((al).mono H6.out.size))
            have HM := Lib.hid (HM.out.below al)
            clear al
            go_wp2_with fail
            generalize w8.alloc (.cells #[.int .i64 k3, .int .i64 key3, .int .i64 l3, .slice A3 n3 cX3] 24) = w9 at *
            go_loopw [16] (fun iv wr => ∃ i : Nat, iv = .int .i64 i ∧ i ≤ nb ∧ Hid (Below w6.heap.size w6 wr) ∧ Hid (CV wr w8.heap.size k3 key3 l3 A3 n3 cX3) ∧ Hid (RdK .i64 wr w9.heap.size A3 n3 ns3) ∧ Hid (w9.heap.size ≤ wr.heap.size) ∧ Hid (Mn w6 wr A7 nb)) (fun iv _ => nb - (RowKit.intOf iv).toNat)
            case atStart => exact ⟨0, rfl, Nat.zero_le _, H6.out, X.out, RX.out, Nat.le_refl _, HM.out⟩
            case round =>
              clear H6 X RX RM HM
              obtain ⟨i, rfl, hil, H6, X, RX, HS, HM⟩ := hrel
              by_cases hlt : i < nb
              · have hltz : (i : Int) < (nb : Int) := by omega
                obtain ⟨g7, hA7, hge, hU⟩ := (show _ ∨ _ from HM.out).resolve_left (by omega)
                subst hA7
                obtain ⟨⟨z, hz⟩, hf⟩ := hU i hlt
                go_wp2_with fail
                exact ⟨⟨i + 1, by go_num, by omega, H6.out.setCell hge _, X.out.store8 hz _, RX.out.store8 hz _, Lib.hid (by simpa using HS.out), Or.inr ⟨g7, rfl, hge, hU.set i hlt _⟩⟩, by simp [RowKit.intOf]; omega⟩
              · have hltz : ¬ (i : Int) < (nb : Int) := by omega
                obtain ⟨w10, e10⟩ : ∃ x, x = wr := ⟨_, rfl⟩
                subst e10
                have hb := H6.out
                have V := Lib.hid (V.out.below hb)
                have R := Lib.hid ((R.out.below hb).more (hb).size)
                have RB := Lib.hid ((RB.out.below hb).more (hb).size)
                have B := Lib.hid (B.out.trans ((hb).mono B.out.size))
                have O := Lib.hid (O.out.below hb)
                have RN := Lib.hid ((RN.out.below hb).more (hb).size)
                have RX := Lib.hid (RX.out.more HS.out)
                clear hb H6 HS hlt hil HM
                go_wp2_with fail
                refine (cget_any (some ab) nb cb bs _ RB.out HBB.out (by omega) hnb hcb2).mono ?_
                rintro e w11 ⟨⟨k4, key4, l4, ns4, A4, cY4, hok, hn, hcb, rfl, hN, hd1, hd2⟩ | ⟨hno, rfl⟩, hb⟩
                case inr => exact absurd HCB.out (hno k3 key3 l3 ns3 HOK.out (by rw [HN3.out]; exact hn3))
                obtain ⟨rfl, rfl, rfl, rfl⟩ := Pk.cb_inj (HCB.out.symm.trans hcb)
                have RY := Lib.hid hN
                rw [HN3.out] at RY ⊢
                clear hok hn hcb hN hd1 hd2
                have V := Lib.hid (V.out.below hb)
                have R := Lib.hid ((R.out.below hb).more (hb).size)
                have RB := Lib.hid ((RB.out.below hb).more (hb).size)
                have B := Lib.hid (B.out.trans ((hb).mono B.out.size))
                have O := Lib.hid (O.out.below hb)
                have RN := Lib.hid ((RN.out.below hb).more (hb).size)
                have X := Lib.hid (X.out.below hb)
                have RX := Lib.hid ((RX.out.below hb).more (hb).size)
                clear hb
                have Y := Lib.hid (CV.new w11 24 k3 key3 l3 A4 n3 cY4)
                have al := (Below.refl w11.heap.size w11).alloc (Nat.le_refl _) (.cells #[.int .i64 k3, .int .i64 key3, .int .i64 l3, .slice A4 n3 cY4] 24)
                have V := Lib.hid (V.out.below al)
                have R := Lib.hid ((R.out.below al).more (al).size)
                have RB := Lib.hid ((RB.out.below al).more (al).size)
                have B := Lib.hid (B.out.trans ((al).mono B.out.size))
                have O := Lib.hid (O.out.below al)
                have RN := Lib.hid ((RN.out.below al).more (al).size)
                have X := Lib.hid (X.out.below al)
                have RX := Lib.hid ((RX.out.below al).more (al).size)
                have RY := Lib.hid ((RY.out.below al).more (al).size)
                clear al
                go_wp2_with fail
                generalize w11.alloc (.cells #[.int .i64 k3, .int .i64 key3, .int .i64 l3, .slice A4 n3 cY4] 24) = w12 at *
                obtain ⟨-, ⟨c0, c1, c2, c3⟩, -⟩ := V.out
                obtain ⟨-, ⟨o0, o1, o2, o3⟩, -⟩ := O.out
                obtain ⟨-, ⟨x0, x1, x2, x3⟩, -⟩ := X.out
                obtain ⟨-, ⟨y0, y1, y2, y3⟩, -⟩ := Y.out
                have HW := Lib.hid (Below.refl w12.heap.size w12).drew
                go_region_held3 (fun w' => (w'.cell? ⟨w.heap.size, 0, none⟩ = some (.int .i64 k) ∧ w'.cell? ⟨w.heap.size, 1, none⟩ = some (.int .i64 key) ∧ w'.cell? ⟨w.heap.size, 2, none⟩ = some (.int .i64 l) ∧ w'.cell? ⟨w.heap.size, 3, none⟩ = some (.slice (some ad) N c)) ∧ (w'.cell? ⟨w1.heap.size, 0, none⟩ = some (.int .i64 k) ∧ w'.cell? ⟨w1.heap.size, 1, none⟩ = some (.int .i64 key) ∧ w'.cell? ⟨w1.heap.size, 2, none⟩ = some (.int .i64 l) ∧ w'.cell? ⟨w1.heap.size, 3, none⟩ = some (.slice A2 N cA2)) ∧ (w'.cell? ⟨w8.heap.size, 0, none⟩ = some (.int .i64 k3) ∧ w'.cell? ⟨w8.heap.size, 1, none⟩ = some (.int .i64 key3) ∧ w'.cell? ⟨w8.heap.size, 2, none⟩ = some (.int .i64 l3) ∧ w'.cell? ⟨w8.heap.size, 3, none⟩ = some (.slice A3 n3 cX3)) ∧ (w'.cell? ⟨w11.heap.size, 0, none⟩ = some (.int .i64 k3) ∧ w'.cell? ⟨w11.heap.size, 1, none⟩ = some (.int .i64 key3) ∧ w'.cell? ⟨w11.heap.size, 2, none⟩ = some (.int .i64 l3) ∧ w'.cell? ⟨w11.heap.size, 3, none⟩ = some (.slice A4 n3 cY4)))
                  (refine ⟨⟨?_, ?_, ?_, ?_⟩, ⟨?_, ?_, ?_, ?_⟩, ⟨?_, ?_, ?_, ?_⟩, ⟨?_, ?_, ?_, ?_⟩⟩ <;> (first | assumption | go_keep))
                  (first
                  | (go_at_call_has 12 (Value.slice A2 N cA2); refine (same_yes k key l A2 (some ad) N cA2 c ns _ ((RN.out.below HW.out).more HW.out.size) ((R.out.below HW.out).more HW.out.size) (by omega)).mono ?_; rintro e w13 ⟨rfl, hb0⟩; have hb := (show Below w12.heap.size w12 _ from HW.out).trans (hb0.mono HW.out.size); have HW := Lib.hid hb; have hV := V.out.below hb; obtain ⟨-, ⟨c0, c1, c2, c3⟩, -⟩ := hV; have hO := O.out.below hb; obtain ⟨-, ⟨o0, o1, o2, o3⟩, -⟩ := hO; have hX := X.out.below hb; obtain ⟨-, ⟨x0, x1, x2, x3⟩, -⟩ := hX; have hY := Y.out.below hb; obtain ⟨-, ⟨y0, y1, y2, y3⟩, -⟩ := hY; clear hb hb0)
                  | (go_at_call 12; refine (same_yes k3 key3 l3 A3 A4 n3 cX3 cY4 ns3 _ ((RX.out.below HW.out).more HW.out.size) ((RY.out.below HW.out).more HW.out.size) (by omega)).mono ?_; rintro e w14 ⟨rfl, hb0⟩; have hb := (show Below w12.heap.size w12 _ from HW.out).trans (hb0.mono HW.out.size); have HW := Lib.hid hb; have hV := V.out.below hb; obtain ⟨-, ⟨c0, c1, c2, c3⟩, -⟩ := hV; have hO := O.out.below hb; obtain ⟨-, ⟨o0, o1, o2, o3⟩, -⟩ := hO; have hX := X.out.below hb; obtain ⟨-, ⟨x0, x1, x2, x3⟩, -⟩ := hX; have hY := Y.out.below hb; obtain ⟨-, ⟨y0, y1, y2, y3⟩, -⟩ := hY; clear hb hb0))
                all_goals
                  go_wp2_with fail
                  go_ret
                  exact ⟨by simp, B.out.trans (HW.out.mono B.out.size)⟩
          · have HNO := Lib.hid hno
            have RX := Lib.hid (show RdK .i64 w8 w8.heap.size none 0 [] from ⟨rfl, fun j hj => absurd hj (Nat.not_lt_zero _)⟩)
            have H6 := Lib.hid (H6.out.trans ((hb).mono H6.out.size))
            have HM := Lib.hid (HM.out.below hb)
            clear hb hno
            have al := (Below.refl w8.heap.size w8).alloc (Nat.le_refl _) (.cells #[.int .i64 0, .int .i64 0, .int .i64 0, .slice none 0 0] 24)
            have X := Lib.hid (CV.new w8 24 0 0 0 none 0 0)
            have RX := Lib.hid ((RX.out.below al).more al.size)
            have H6 := Lib.hid (H6.out.trans ((al).mono H6.out.size))
            have HM := Lib.hid (HM.out.below al)
            clear al
            go_wp2_with fail
            generalize w8.alloc (.cells #[.int .i64 0, .int .i64 0, .int .i64 0, .slice none 0 0] 24) = w9 at *
            go_loopw [16] (fun iv wr => ∃ i : Nat, iv = .int .i64 i ∧ i ≤ nb ∧ Hid (Below w6.heap.size w6 wr) ∧ Hid (CV wr w8.heap.size 0 0 0 none 0 0) ∧ Hid (RdK .i64 wr w9.heap.size none 0 ([] : List Int)) ∧ Hid (w9.heap.size ≤ wr.heap.size) ∧ Hid (Mn w6 wr A7 nb)) (fun iv _ => nb - (RowKit.intOf iv).toNat)
            case atStart => exact ⟨0, rfl, Nat.zero_le _, H6.out, X.out, RX.out, Nat.le_refl _, HM.out⟩
            case round =>
              clear H6 X RX RM HM
              obtain ⟨i, rfl, hil, H6, X, RX, HS, HM⟩ := hrel
              by_cases hlt : i < nb
              · have hltz : (i : Int) < (nb : Int) := by omega
                obtain ⟨g7, hA7, hge, hU⟩ := (show _ ∨ _ from HM.out).resolve_left (by omega)
                subst hA7
                obtain ⟨⟨z, hz⟩, hf⟩ := hU i hlt
                go_wp2_with fail
                exact ⟨⟨i + 1, by go_num, by omega, H6.out.setCell hge _, X.out.store8 hz _, RX.out.store8 hz _, Lib.hid (by simpa using HS.out), Or.inr ⟨g7, rfl, hge, hU.set i hlt _⟩⟩, by simp [RowKit.intOf]; omega⟩
              · have hltz : ¬ (i : Int) < (nb : Int) := by omega
                obtain ⟨w10, e10⟩ : ∃ x, x = wr := ⟨_, rfl⟩
                subst e10
                have hb := H6.out
                have V := Lib.hid (V.out.below hb)
                have R := Lib.hid ((R.out.below hb).more (hb).size)
                have RB := Lib.hid ((RB.out.below hb).more (hb).size)
                have B := Lib.hid (B.out.trans ((hb).mono B.out.size))
                have O := Lib.hid (O.out.below hb)
                have RN := Lib.hid ((RN.out.below hb).more (hb).size)
                have RX := Lib.hid (RX.out.more HS.out)
                clear hb H6 HS hlt hil HM
                go_wp2_with fail
                refine (cget_any (some ab) nb cb bs _ RB.out HBB.out (by omega) hnb hcb2).mono ?_
                rintro e w11 ⟨⟨k4, key4, l4, ns4, A4, cY4, hok, hn, hcb, rfl, hN, hd1, hd2⟩ | ⟨hno, rfl⟩, hb⟩
                case inl => exact absurd hcb (HNO.out k4 key4 l4 ns4 hok hn)
                have RY := Lib.hid (show RdK .i64 w11 w11.heap.size none 0 [] from ⟨rfl, fun j hj => absurd hj (Nat.not_lt_zero _)⟩)
                clear hno
                have V := Lib.hid (V.out.below hb)
                have R := Lib.hid ((R.out.below hb).more (hb).size)
                have RB := Lib.hid ((RB.out.below hb).more (hb).size)
                have B := Lib.hid (B.out.trans ((hb).mono B.out.size))
                have O := Lib.hid (O.out.below hb)
                have RN := Lib.hid ((RN.out.below hb).more (hb).size)
                have X := Lib.hid (X.out.below hb)
                have RX := Lib.hid ((RX.out.below hb).more (hb).size)
                clear hb
                have Y := Lib.hid (CV.new w11 24 0 0 0 none 0 0)
                have al := (Below.refl w11.heap.size w11).alloc (Nat.le_refl _) (.cells #[.int .i64 0, .int .i64 0, .int .i64 0, .slice none 0 0] 24)
                have V := Lib.hid (V.out.below al)
                have R := Lib.hid ((R.out.below al).more (al).size)
                have RB := Lib.hid ((RB.out.below al).more (al).size)
                have B := Lib.hid (B.out.trans ((al).mono B.out.size))
                have O := Lib.hid (O.out.below al)
                have RN := Lib.hid ((RN.out.below al).more (al).size)
                have X := Lib.hid (X.out.below al)
                have RX := Lib.hid ((RX.out.below al).more (al).size)
                have RY := Lib.hid ((RY.out.below al).more (al).size)
                clear al
                go_wp2_with fail
                generalize w11.alloc (.cells #[.int .i64 0, .int .i64 0, .int .i64 0, .slice none 0 0] 24) = w12 at *
                obtain ⟨-, ⟨c0, c1, c2, c3⟩, -⟩ := V.out
                obtain ⟨-, ⟨o0, o1, o2, o3⟩, -⟩ := O.out
                obtain ⟨-, ⟨x0, x1, x2, x3⟩, -⟩ := X.out
                obtain ⟨-, ⟨y0, y1, y2, y3⟩, -⟩ := Y.out
                have HW := Lib.hid (Below.refl w12.heap.size w12).drew
                go_region_held3 (fun w' => (w'.cell? ⟨w.heap.size, 0, none⟩ = some (.int .i64 k) ∧ w'.cell? ⟨w.heap.size, 1, none⟩ = some (.int .i64 key) ∧ w'.cell? ⟨w.heap.size, 2, none⟩ = some (.int .i64 l) ∧ w'.cell? ⟨w.heap.size, 3, none⟩ = some (.slice (some ad) N c)) ∧ (w'.cell? ⟨w1.heap.size, 0, none⟩ = some (.int .i64 k) ∧ w'.cell? ⟨w1.heap.size, 1, none⟩ = some (.int .i64 key) ∧ w'.cell? ⟨w1.heap.size, 2, none⟩ = some (.int .i64 l) ∧ w'.cell? ⟨w1.heap.size, 3, none⟩ = some (.slice A2 N cA2)) ∧ (w'.cell? ⟨w8.heap.size, 0, none⟩ = some (.int .i64 0) ∧ w'.cell? ⟨w8.heap.size, 1, none⟩ = some (.int .i64 0) ∧ w'.cell? ⟨w8.heap.size, 2, none⟩ = some (.int .i64 0) ∧ w'.cell? ⟨w8.heap.size, 3, none⟩ = some (.slice none 0 0)) ∧ (w'.cell? ⟨w11.heap.size, 0, none⟩ = some (.int .i64 0) ∧ w'.cell? ⟨w11.heap.size, 1, none⟩ = some (.int .i64 0) ∧ w'.cell? ⟨w11.heap.size, 2, none⟩ = some (.int .i64 0) ∧ w'.cell? ⟨w11.heap.size, 3, none⟩ = some (.slice none 0 0)))
                  (refine ⟨⟨?_, ?_, ?_, ?_⟩, ⟨?_, ?_, ?_, ?_⟩, ⟨?_, ?_, ?_, ?_⟩, ⟨?_, ?_, ?_, ?_⟩⟩ <;> (first | assumption | go_keep))
                  (first
                  | (go_at_call_has 12 (Value.slice A2 N cA2); refine (same_yes k key l A2 (some ad) N cA2 c ns _ ((RN.out.below HW.out).more HW.out.size) ((R.out.below HW.out).more HW.out.size) (by omega)).mono ?_; rintro e w13 ⟨rfl, hb0⟩; have hb := (show Below w12.heap.size w12 _ from HW.out).trans (hb0.mono HW.out.size); have HW := Lib.hid hb; have hV := V.out.below hb; obtain ⟨-, ⟨c0, c1, c2, c3⟩, -⟩ := hV; have hO := O.out.below hb; obtain ⟨-, ⟨o0, o1, o2, o3⟩, -⟩ := hO; have hX := X.out.below hb; obtain ⟨-, ⟨x0, x1, x2, x3⟩, -⟩ := hX; have hY := Y.out.below hb; obtain ⟨-, ⟨y0, y1, y2, y3⟩, -⟩ := hY; clear hb hb0)
                  | (go_at_call 12; refine (same_yes 0 0 0 none none 0 0 0 ([] : List Int) _ ((RX.out.below HW.out).more HW.out.size) ((RY.out.below HW.out).more HW.out.size) (by omega)).mono ?_; rintro e w14 ⟨rfl, hb0⟩; have hb := (show Below w12.heap.size w12 _ from HW.out).trans (hb0.mono HW.out.size); have HW := Lib.hid hb; have hV := V.out.below hb; obtain ⟨-, ⟨c0, c1, c2, c3⟩, -⟩ := hV; have hO := O.out.below hb; obtain ⟨-, ⟨o0, o1, o2, o3⟩, -⟩ := hO; have hX := X.out.below hb; obtain ⟨-, ⟨x0, x1, x2, x3⟩, -⟩ := hX; have hY := Y.out.below hb; obtain ⟨-, ⟨y0, y1, y2, y3⟩, -⟩ := hY; clear hb hb0))
                all_goals
                  go_wp2_with fail
                  go_ret
                  exact ⟨by simp, B.out.trans (HW.out.mono B.out.size)⟩
end Go.Proofs.Ytbobaappilploaa
