import Derived.Test.YtbobaappilploaaPc
import Derived.KernelRfl
namespace Go.Proofs.Ytbobaappilploaa
open Go.RowKit Go.Lib Go.ChangeShapes Go.WideShapes Go.ChangeAt

/-- a slice of numbers as a part of a struct -/
theorem open_nums_part {H : Type} {enc : TypeId × Value → H} {P : Program} {W : World} {t e : TypeId} {k : IntKind} {fuel : Nat} {v : Value} {y : DataW H × List MemPlace} (ht : P.underlying t = some (.slice e)) (he : P.underlying e = some (.int k)) (hc : P.cellsOf e = 1)
    (h : DataW.trod enc P W 0 (fun _ => true) true fuel t [v] = some y) :
    ∃ A n cap zs, v = .slice A n cap ∧ n ≤ cap ∧ cap ≤ maxLen ∧ (A = none → cap = 0) ∧ RdK k W W.heap.size A n zs ∧ ∀ z ∈ zs, (Lit.int k z).wf = true := by
  rcases open_ints ht he hc h with ⟨hcs, _⟩ | ⟨a, len', cap', zs, hcs, _, hl, hm, hz, _, hcell, hwz⟩
  · obtain rfl : v = .slice none 0 0 := by simpa using hcs
    exact ⟨none, 0, 0, [], rfl, Nat.le_refl _, Nat.zero_le _, fun _ => rfl, ⟨rfl, fun j hj => absurd hj (Nat.not_lt_zero _)⟩, fun z hz => nomatch hz⟩
  · obtain rfl : v = .slice (some a) len' cap' := by simpa using hcs
    simp only [if_true] at hz
    refine ⟨some a, len', cap', zs.take len', rfl, hl, hm, (fun h => nomatch h), ⟨by rw [List.length_take]; omega, fun j hj => ?_⟩, fun z hz => hwz z (List.mem_of_mem_take hz)⟩
    obtain ⟨b, off, spot⟩ := a
    have hc0 := hcell j (by omega)
    have hspot : spot = none := by simpa [Addr.add] using World.cell?_spot (hcell 0 (by omega))
    subst hspot
    rw [add_plain] at hc0
    refine ⟨b, off, rfl, cell_lt hc0, ?_⟩
    rw [hc0, List.getD_eq_getElem?_getD, List.getD_eq_getElem?_getD, List.getElem?_take_of_lt hj]
theorem i64_of {a : Int} (h : (Lit.int .i64 a).wf = true) : Pk.I64 a := by
  simp [Lit.wf, IntKind.min, IntKind.max, IntKind.signed, IntKind.bits] at h
  unfold Pk.I64; omega
theorem in64 {a : Int} (h : (Lit.int .i64 a).wf = true) : -9223372036854775808 ≤ a ∧ a ≤ 9223372036854775807 := i64_of h
theorem u8_of {a : Int} (h : (Lit.int .u8 a).wf = true) : 0 ≤ a ∧ a < 256 := by
  simp [Lit.wf, IntKind.min, IntKind.max, IntKind.signed, IntKind.bits] at h
  omega
theorem len64 {c : Nat} (h : c ≤ maxLen) : c ≤ 9223372036854775807 := by unfold maxLen at h; omega
theorem eqE1 (w : World) : (binOp .eql 28 (vErr 1) (vErr 1)).run Try.prog w = .ok (.bool true) w := by kernel_rfl
theorem eqE2 (w : World) : (binOp .eql 28 (vErr 2) (vErr 2)).run Try.prog w = .ok (.bool true) w := by kernel_rfl
/-- bytes as a string, in any world in which they are read -/
theorem to_string {w : World} {g n c : Nat} {bs : List Int} (hl : bs.length = n) (h : ∀ j u, (bs.map (Value.int .u8))[j]? = some u → w.cell? ((⟨g, 0, none⟩ : Addr).add j) = some u) : (convert 26 9 (.slice (some ⟨g, 0, none⟩) n c)).run Try.prog w = .ok (.string (strOfNums bs)) w :=
  run_convert_bytes_arg (P := Try.prog) w 26 5 Try.underlying26 Try.underlying5 g 0 n c bs hl (fun i hi => row_cells h i (by rw [hl]; exact hi)) 9 Try.underlying9
theorem not_cmd_short {bs : List Int} (h : bs.length < 4) : ∀ k key l ns, Pk.Ok k key l ns → ns.length ≤ 16 → bs ≠ Pk.cb k key l ns := fun k key l ns _ _ e => by
  have := (Pk.cb_len k key l ns).1
  rw [← e] at this; omega
theorem up_any (w : World) : Calls Try.prog 7 #[] w fun e w' => e = .returned (.bool true) ∧ Below w.heap.size w w' := by
  have q2 := eqE2
  have hok : Pk.Ok 2 (-1) 64 [3] := ⟨by decide, by decide, by decide, by decide⟩
  have hcb : Pk.cb 2 (-1) 64 [3] = [4, 1, 128, 1, 2, 6] := by decide
  have hR : RdK .i64 (w.alloc (.cells #[.int .i64 3] 2)) (w.alloc (.cells #[.int .i64 3] 2)).heap.size (some ⟨w.heap.size, 0, none⟩) 1 [3] := ⟨rfl, fun j hj => by
    obtain rfl : j = 0 := by omega
    exact ⟨w.heap.size, 0, rfl, by simp, by simp⟩⟩
  have HR := Lib.hid hR
  have HO := Lib.hid hok
  have HC := Lib.hid hcb
  clear hR hok hcb
  go_enter Try.func7, Try.ntmps7
  go_wp2_with fail
  have B := Lib.hid ((Below.refl w.heap.size w).alloc (Nat.le_refl _) (.cells #[.int .i64 3] 2))
  refine (cput_yes 2 (-1) 64 _ 1 1 [3] _ HR.out HO.out (by decide) (by decide) (by decide)).mono ?_; rintro e w2 ⟨v, rfl, ho⟩
  rw [HC.out] at ho
  obtain ⟨g, c9, rfl, hg1, hg2, hcell⟩ := own_some ho.1 (by decide)
  have HCL := Lib.hid hcell
  have B := Lib.hid (B.out.trans (ho.2.mono B.out.size))
  clear ho hcell
  go_wp2_with fail
  refine (cget_any none 0 0 [] _ ⟨rfl, fun j hj => absurd hj (Nat.not_lt_zero j)⟩ (fun x hx => nomatch hx) (by decide) (by decide) (by decide)).mono ?_
  rintro e w3 ⟨⟨k, key, l, ns, A, c, hok, hn, hcb, _⟩ | ⟨_, rfl⟩, hb⟩
  · exact absurd hcb (not_cmd_short (by decide) k key l ns hok hn)
  · have B := Lib.hid ((B.out.trans (hb.mono B.out.size)).alloc (B.out.trans (hb.mono B.out.size)).size (.cells #[.int .i64 0, .int .i64 0, .int .i64 0, .slice none 0 0] 24))
    have kA := to_string (w := w3.alloc (.cells #[.int .i64 0, .int .i64 0, .int .i64 0, .slice none 0 0] 24)) (g := g) (n := 6) (c := c9) (bs := [4, 1, 128, 1, 2, 6]) rfl (fun j u hu => by
      have h2 := HCL.out j u hu
      have hlt : ((⟨g, 0, none⟩ : Addr).add j).block < w2.heap.size := by rw [add_plain]; exact hg2
      rw [((hb.alloc hb.size (.cells #[.int .i64 0, .int .i64 0, .int .i64 0, .slice none 0 0] 24))).cell hlt]; exact h2)
    clear hb
    have hs : (strOfNums [4, 1, 128, 1, 2, 6]).toList = [4, 1, 128, 1, 2, 6] := by rw [str_list]; rfl
    go_wp2_with fail
    go_ret
    exact ⟨by simp, B.out⟩
/-- bytes, told from a row in front of a world -/
theorem Row.strs {w1 wr w' : World} {g c : Nat} {bs : List Int} (h : Row w1 wr (.slice (some ⟨g, 0, none⟩) bs.length c) bs) (hn : 0 < bs.length) (hb : Below wr.heap.size wr w') : (convert 26 9 (.slice (some ⟨g, 0, none⟩) bs.length c)).run Try.prog w' = .ok (.string (strOfNums bs)) w' := by
  have h' := (h.below hb).1
  obtain ⟨g', c', e, _, _, hcell⟩ := own_some h' hn
  injection e with e1 _ e3
  injection e1 with e1
  injection e1 with e1
  subst e1 e3
  exact to_string rfl hcell
set_option maxHeartbeats 4000000 in
theorem puts_walk (k key l : Int) (A : Option Addr) (n c : Nat) (ns : List Int) (w : World) (hr : RdK .i64 w w.heap.size A n ns) (hok : Pk.Ok k key l ns) (hnc : n ≤ c) (hcc : c ≤ 9223372036854775807) : Calls Try.prog 3 #[cmv k key l A n c] w fun e w' => e = .returned (.bool true) ∧ Below w.heap.size w w' := by
  have q1 := eqE1
  have HO := Lib.hid hok
  have HL := Lib.hid hr.1
  have B := Lib.hid ((Below.refl w.heap.size w).alloc (Nat.le_refl _) (.cells #[.int .i64 k, .int .i64 key, .int .i64 l, .slice A n c] 24))
  have V := Lib.hid (CV.new w 24 k key l A n c)
  have R := Lib.hid ((hr.below B.out).more B.out.size)
  clear hok hr
  by_cases h1 : 1000 < n
  · have h1z : (1000 : Int) < (n : Int) := by omega
    go_enter Try.func3, Try.ntmps3
    go_wp2_with fail
    refine (up_any _).mono ?_; rintro e w1 ⟨rfl, hb⟩; have V := Lib.hid (V.out.below hb); have B := Lib.hid (B.out.trans (hb.mono B.out.size)); clear hb
    obtain ⟨-, ⟨c0, c1, c2, c3⟩, -⟩ := V.out
    go_wp2_with fail
    go_ret
    exact ⟨rfl, B.out⟩
  · have h1z : ¬ (1000 : Int) < (n : Int) := by omega
    by_cases h2 : 16 < n
    · have h2z : (16 : Int) < (n : Int) := by omega
      go_enter Try.func3, Try.ntmps3
      go_wp2_with fail
      refine (up_any _).mono ?_; rintro e w1 ⟨rfl, hb⟩; have V := Lib.hid (V.out.below hb); have R := Lib.hid ((R.out.below hb).more hb.size); have B := Lib.hid (B.out.trans (hb.mono B.out.size)); clear hb
      obtain ⟨-, ⟨c0, c1, c2, c3⟩, -⟩ := V.out
      go_wp2_with fail
      refine (cput_no k key l A n c ns _ R.out HO.out h2 hnc hcc).mono ?_; rintro e w2 ⟨rfl, hb⟩; have V := Lib.hid (V.out.below hb); have B := Lib.hid (B.out.trans (hb.mono B.out.size)); clear hb
      clear c0 c1 c2 c3
      obtain ⟨-, ⟨c0, c1, c2, c3⟩, -⟩ := V.out
      go_wp2_with fail
      go_ret
      exact ⟨by simp, B.out⟩
    · have h2z : ¬ (16 : Int) < (n : Int) := by omega
      go_enter Try.func3, Try.ntmps3
      go_wp2_with fail
      refine (up_any _).mono ?_; rintro e w1 ⟨rfl, hb⟩; have V := Lib.hid (V.out.below hb); have R := Lib.hid ((R.out.below hb).more hb.size); have B := Lib.hid (B.out.trans (hb.mono B.out.size)); clear hb
      obtain ⟨-, ⟨c0, c1, c2, c3⟩, -⟩ := V.out
      go_wp2_with fail
      refine (cput_yes k key l A n c ns _ R.out HO.out (by omega) hnc hcc).mono ?_; rintro e w2 ⟨v, rfl, ho⟩
      have V := Lib.hid (V.out.below ho.2)
      have R := Lib.hid ((R.out.below ho.2).more ho.2.size)
      have B := Lib.hid (B.out.trans (ho.2.mono B.out.size))
      have hl4 := (Pk.cb_len k key l ns).1
      obtain ⟨g, c9, rfl, _, _, _⟩ := own_some ho.1 (by omega)
      have P := Lib.hid (show Row w1 w2 _ _ from ho)
      have HP := Lib.hid (fun (w : World) (hr : RdK .i64 w w.heap.size A n ns) => refput_any k key l A n c ns w hr HO.out (by omega))
      clear ho c0 c1 c2 c3
      obtain ⟨-, ⟨c0, c1, c2, c3⟩, -⟩ := V.out
      generalize Pk.cb k key l ns = bs at *
      have HL4 := Lib.hid (show 0 < bs.length by omega)
      go_wp2_with fail
      have kA := P.out.strs HL4.out (Below.refl _ _).drew
      have B2 := Lib.hid (Below.refl w2.heap.size w2)
      go_region_with
        (first
        | (go_at_call 9; refine (HP.out _ (by first | exact R.out | exact ((R.out.below (Below.refl _ _).drew).more (Below.refl w2.heap.size w2).drew.size))).mono ?_; rintro e w3 ⟨v3, rfl, ho⟩; obtain ⟨g3, c3', rfl, _, _, _⟩ := own_some ho.1 HL4.out; have hb3 := (Below.refl w2.heap.size w2).drew.trans ho.2; have V := Lib.hid (V.out.below hb3); have B := Lib.hid (B.out.trans (hb3.mono B.out.size)); obtain ⟨-, ⟨c0, c1, c2, c3⟩, -⟩ := V.out; have kA3 := P.out.strs HL4.out hb3; have kB3 := Row.strs (w1 := w2.drew) (wr := w3) ho HL4.out (Below.refl _ _); clear ho))
      all_goals
        go_wp2_with fail
        go_ret
        exact ⟨by simp [Act.put], B.out⟩
end Go.Proofs.Ytbobaappilploaa
