/- The contracts of package pack's functions. -/
import Derived.Test.YtbobaappilploaaPs
import Derived.Test.YtbobaappilploaaPa
import Derived.Test.YtbobaappilploaaPm
namespace Go.Proofs.Ytbobaappilploaa
open Go.RowKit Go.Lib Go.ChangeShapes Go.WideShapes Go.ChangeAt
abbrev vErr (k : Int) : Value := .iface 31 (.int .i64 k)
theorem rd_four (w : World) (t : TypeId) (a b c d : Int) : RdK .i64 (w.alloc (.cells #[.int .i64 a, .int .i64 b, .int .i64 c, .int .i64 d] t)) (w.alloc (.cells #[.int .i64 a, .int .i64 b, .int .i64 c, .int .i64 d] t)).heap.size (some ⟨w.heap.size, 0, none⟩) 4 [a, b, c, d] := by
  refine ⟨rfl, fun j hj => ⟨w.heap.size, 0, rfl, by simp, ?_⟩⟩
  have : j = 0 ∨ j = 1 ∨ j = 2 ∨ j = 3 := by omega
  rcases this with rfl | rfl | rfl | rfl <;> simp
theorem cput_yes (k key l : Int) (A : Option Addr) (n c : Nat) (ns : List Int) (w : World) (hr : RdK .i64 w w.heap.size A n ns) (hok : Pk.Ok k key l ns) (hn : n ≤ 16) (_ : n ≤ c) (_ : c ≤ 9223372036854775807) : Calls Try.prog 8 #[cmv k key l A n c] w fun e w' => ∃ v, e = .returned (.tuple #[v, .nilIface]) ∧ OwnB w w' v (Pk.cb k key l ns) := by
  have HO := Lib.hid hok
  have HL := Lib.hid hr.1
  have B0 := Lib.hid ((Below.refl w.heap.size w).alloc (Nat.le_refl _) (.cells #[.int .i64 k, .int .i64 key, .int .i64 l, .slice A n c] 24))
  have V1 := Lib.hid (CV.new w 24 k key l A n c)
  have R1 := Lib.hid ((hr.below B0.out).more B0.out.size)
  have h16 : decide (16 < (n : Int)) = false := by simp; omega
  clear hok hr
  go_enter Try.func8, Try.ntmps8
  go_wp2_with fail
  have HSZ := Lib.hid (show (w.alloc (.cells #[.int .i64 k, .int .i64 key, .int .i64 l, .slice A n c] 24)).heap.size = w.heap.size + 1 by simp)
  generalize w.alloc (.cells #[.int .i64 k, .int .i64 key, .int .i64 l, .slice A n c] 24) = w1 at *
  have R4 := Lib.hid (show RdK .i64 _ _ (some ⟨w.heap.size + 1, 0, none⟩) 4 [k, key, l, (n : Int)] by rw [← HSZ.out]; exact rd_four w1 2 k key l n)
  have B4 := Lib.hid ((Below.refl w1.heap.size w1).alloc (Nat.le_refl _) (.cells #[.int .i64 k, .int .i64 key, .int .i64 l, .int .i64 n] 2))
  generalize w1.alloc (.cells #[.int .i64 k, .int .i64 key, .int .i64 l, .int .i64 n] 2) = w2 at *
  have h4 : ∀ x ∈ [k, key, l, (n : Int)], Pk.I64 x := by
    intro x hx
    simp only [List.mem_cons, List.not_mem_nil, or_false] at hx
    rcases hx with rfl | rfl | rfl | rfl
    · exact HO.out.1
    · exact HO.out.2.1
    · exact HO.out.2.2.1
    · unfold Pk.I64; omega
  have hd1 : (4 : Nat) ≤ 1000 := by omega
  have hd2 : ([] : List Int).length ≤ 1000 := Nat.zero_le _
  have HC := papp_any w2.heap.size (.slice none 0 0) [] (some ⟨w.heap.size + 1, 0, none⟩) 4 4 [k, key, l, (n : Int)] w2 (Nat.le_refl _) R4.out (World.ownsRow_nil _ _ _ _) h4 hd1 hd2
  refine HC.mono ?_
  rintro e w3 ⟨v, rfl, hown, hb⟩
  have HW := Lib.hid hown
  have H3 := Lib.hid hb
  have H13 := Lib.hid (B4.out.trans (hb.mono B4.out.size))
  clear hown hb
  obtain ⟨-, ⟨c0, c1, c2, c3⟩, -⟩ := V1.out.below H13.out
  go_wp2_with fail
  refine (papp_any w2.heap.size v _ A n c ns w3 H3.out.size ((R1.out.below H13.out).more B4.out.size) HW.out HO.out.2.2.2 (by omega) (by
    have h := flat_len [k, key, l, (n : Int)]
    simp only [List.nil_append] at *
    simp only [List.length_cons, List.length_nil] at h
    omega)).mono ?_
  rintro e w4 ⟨v4, rfl, hown4, hb4⟩
  have HW4 := Lib.hid hown4
  have H14 := Lib.hid (H13.out.trans (hb4.mono B4.out.size))
  clear hown4 hb4
  go_wp2_with fail
  have e : ([] ++ [k, key, l, (n : Int)].flatMap Pk.num) ++ ns.flatMap Pk.num = Pk.cb k key l ns := by rw [Pk.cb_flat, HL.out]; rfl
  rw [e] at HW4
  exact bodyPost_ret (v := .tuple #[v4, .nilIface]) (by simp [results, Try.results8, go_sem]) rfl ⟨v4, rfl, own_lower HW4.out (Nat.le_trans B0.out.size B4.out.size), B0.out.trans (H14.out.mono B0.out.size)⟩
theorem cput_no (k key l : Int) (A : Option Addr) (n c : Nat) (ns : List Int) (w : World) (_ : RdK .i64 w w.heap.size A n ns) (_ : Pk.Ok k key l ns) (hn : 16 < n) (_ : n ≤ c) (_ : c ≤ 9223372036854775807) : Calls Try.prog 8 #[cmv k key l A n c] w fun e w' => e = .returned (.tuple #[.slice none 0 0, vErr 1]) ∧ Below w.heap.size w w' := by
  have B0 := Lib.hid ((Below.refl w.heap.size w).alloc (Nat.le_refl _) (.cells #[.int .i64 k, .int .i64 key, .int .i64 l, .slice A n c] 24))
  have V1 := Lib.hid (CV.new w 24 k key l A n c)
  have h16 : decide (16 < (n : Int)) = true := by simp; omega
  go_enter Try.func8, Try.ntmps8
  go_wp2_with fail
  exact bodyPost_ret (v := .tuple #[.slice none 0 0, vErr 1]) (by simp [results, Try.results8, go_sem]) rfl ⟨rfl, B0.out⟩
/-- the first four numbers, and then the others -/
theorem tk_two {bs vs xs : List Int} {p q : Nat} (h : Tk bs vs p) (h2 : Tk (bs.drop p) xs q) : bs = (vs ++ xs).flatMap Pk.num ++ bs.drop (p + q) := by
  have h3 := h2.2.2
  rw [List.drop_drop] at h3
  rw [List.flatMap_append, List.append_assoc, ← h3]; exact h.2.2
set_option maxHeartbeats 1000000 in
theorem cget_any (A : Option Addr) (n c : Nat) (bs : List Int) (w : World) (hr : RdK .u8 w w.heap.size A n bs) (hb : ∀ x ∈ bs, 0 ≤ x ∧ x < 256) (hn : n ≤ 1100) (hnc : n ≤ c) (hcc : c ≤ 9223372036854775807) : Calls Try.prog 10 #[.slice A n c] w (GetPost w bs (fun v => .returned (.tuple #[v, .nilIface])) (fun e => e = .returned (.tuple #[cmv 0 0 0 none 0 0, vErr 2]))) := by
  have HB := Lib.hid hb
  have HL := Lib.hid hr.1
  have V0 := Lib.hid (CV.new w 24 0 0 0 none 0 0)
  have B0 := Lib.hid ((Below.refl w.heap.size w).alloc (Nat.le_refl _) (.cells #[.int .i64 0, .int .i64 0, .int .i64 0, .slice none 0 0] 24))
  have R1 := Lib.hid ((hr.below B0.out).more B0.out.size)
  clear hb hr
  go_enter Try.func10, Try.ntmps10
  go_wp2_with fail
  generalize w.alloc (.cells #[.int .i64 0, .int .i64 0, .int .i64 0, .slice none 0 0] 24) = w1 at *
  have HT := ptake_any A n c bs 4 w1 R1.out HB.out hn hnc hcc (by decide)
  refine HT.mono ?_
  clear HT
  rintro e w2 ⟨⟨vs, p, A', h4, hpn, htk, rfl, harr, hrd⟩ | ⟨vs, p, h4, htk, hno, rfl⟩, hbl⟩
  · have HTK := Lib.hid htk
    have HRD := Lib.hid hrd
    have H12 := Lib.hid hbl
    have HBw := Lib.hid (B0.out.trans (hbl.mono B0.out.size))
    obtain ⟨ka, kb, kc, m, rfl⟩ : ∃ a b c m, vs = [a, b, c, m] := by
      match vs, h4 with
      | [a, b, c, m], _ => exact ⟨a, b, c, m, rfl⟩
    have HA := Lib.hid harr
    have x0 : w2.cell? ⟨w1.heap.size, 0, none⟩ = some (.int .i64 ka) := harr.c 0 (by simp)
    have x1 : w2.cell? ⟨w1.heap.size, 1, none⟩ = some (.int .i64 kb) := harr.c 1 (by simp)
    have x2 : w2.cell? ⟨w1.heap.size, 2, none⟩ = some (.int .i64 kc) := harr.c 2 (by simp)
    have x3 : w2.cell? ⟨w1.heap.size, 3, none⟩ = some (.int .i64 m) := harr.c 3 (by simp)
    have HG := Lib.hid (show w1.heap.size < w2.heap.size from harr.1)
    clear htk hrd hbl harr h4
    go_wp2_with fail
    go_quiet (fail)
    have hd := below_drewN w2.heap.size w2 nq
    have HRD := Lib.hid (HRD.out.below (hd.mono H12.out.size))
    have H12 := Lib.hid (H12.out.trans (hd.mono H12.out.size))
    have HBw := Lib.hid (HBw.out.trans (hd.mono HBw.out.size))
    have HG := Lib.hid (Nat.lt_of_lt_of_le HG.out hd.size)
    clear hd HA
    obtain ⟨x0, x1, x2, x3⟩ : (w2.drewN nq).cell? ⟨w1.heap.size, 0, none⟩ = some (.int .i64 ka) ∧ (w2.drewN nq).cell? ⟨w1.heap.size, 1, none⟩ = some (.int .i64 kb) ∧ (w2.drewN nq).cell? ⟨w1.heap.size, 2, none⟩ = some (.int .i64 kc) ∧ (w2.drewN nq).cell? ⟨w1.heap.size, 3, none⟩ = some (.int .i64 m) := ⟨x0, x1, x2, x3⟩
    generalize w2.drewN nq = w3 at *
    obtain ⟨-, ⟨z0, z1, z2, z3⟩, y0, y1, y2, y3⟩ := V0.out.below H12.out
    have f0 : (ka != ka) = false := by simp
    have f2 : (kc != kc) = false := by simp
    by_cases hm : m < 0 ∨ 16 < m
    · have HNN := Lib.hid (Pk.no_many HTK.out.2.2 hm)
      by_cases hm1 : m < 0
      · go_wp2_with fail
        exact bodyPost_ret (v := .tuple #[cmv 0 0 0 none 0 0, vErr 2]) (by simp [results, Try.results10, go_sem, z0, z1, z2, z3]) rfl ⟨.inr ⟨HNN.out, rfl⟩, (((HBw.out.setCell (Nat.le_refl _) _).setCell (Nat.le_refl _) _).setCell (Nat.le_refl _) _).setCell (Nat.le_refl _) _⟩
      · have hm2 : 16 < m := by omega
        have hm3 : decide (m < 0) = false := by simpa using hm1
        go_wp2_with fail
        exact bodyPost_ret (v := .tuple #[cmv 0 0 0 none 0 0, vErr 2]) (by simp [results, Try.results10, go_sem, z0, z1, z2, z3]) rfl ⟨.inr ⟨HNN.out, rfl⟩, (((HBw.out.setCell (Nat.le_refl _) _).setCell (Nat.le_refl _) _).setCell (Nat.le_refl _) _).setCell (Nat.le_refl _) _⟩
    · obtain ⟨M, rfl⟩ : ∃ M : Nat, m = M := ⟨m.toNat, by omega⟩
      have hM : M ≤ 16 := by omega
      have hm3 : decide ((M : Int) < 0) = false := by simp
      have hm4 : decide (16 < (M : Int)) = false := by simp; omega
      have HT2 := Lib.hid (ptake_any A' (n - p) (c - p) (bs.drop p) M w3 (HRD.out.more H12.out.size) (fun x hx => HB.out x (List.mem_of_mem_drop hx)) (by omega) (by omega) (by omega) hM)
      go_wp2_with fail
      refine HT2.out.mono ?_
      clear HT2
      rintro e w4 ⟨⟨xs, q, A2, hxl, hqn, htk, rfl, harr, hrd⟩ | ⟨xs, q, hxl, htk, hno, rfl⟩, hbl⟩
      · have HTW := Lib.hid (tk_two HTK.out htk)
        have HXI := Lib.hid htk.1
        have HA2 := Lib.hid harr
        have HXL := Lib.hid hxl
        have H14 := Lib.hid (H12.out.trans (hbl.mono H12.out.size))
        have HBw := Lib.hid (HBw.out.trans (hbl.mono HBw.out.size))
        have HLT := Lib.hid (show w.heap.size < w3.heap.size from Nat.lt_of_lt_of_le V0.out.1 H12.out.size)
        have k1 : w4.cell? ⟨w1.heap.size, 1, none⟩ = some (.int .i64 kb) := (hbl.cell (p := ⟨w1.heap.size, 1, none⟩) HG.out).trans x1
        obtain ⟨-, ⟨z0, z1, z2, z3⟩, y0, y1, y2, y3⟩ := V0.out.below H14.out
        have HDL := Lib.hid (show (bs.drop (p + q)).length = n - p - q by rw [List.length_drop, HL.out, Nat.sub_sub])
        clear htk hrd hbl harr x0 x1 x2 x3 hxl
        obtain ⟨r, hr⟩ : ∃ r, n - p - q = r := ⟨_, rfl⟩
        rw [hr] at HDL ⊢
        have HR9 := Lib.hid hr
        clear hr
        by_cases hpq : r = 0
        · subst hpq
          have HE := Lib.hid (Pk.yes_end (a := ka) (b := kb) (c := kc) (m := M) (bs := bs) (xs := xs) (by
            have h := HTW.out
            rw [List.length_eq_zero_iff.1 HDL.out] at h; exact h) (by rw [HXL.out]))
          have HOK := Lib.hid (show Pk.Ok ka kb kc xs from ⟨HTK.out.1 _ (by simp), HTK.out.1 _ (by simp), HTK.out.1 _ (by simp), HXI.out⟩)
          have HAO := Lib.hid (fun (W : World) (hW : Arr (.int .i64) W w3.heap.size xs) (o : Nat) (v : Value) => hW.other ⟨w.heap.size, o, none⟩ (by show w.heap.size ≠ w3.heap.size; have := HLT.out; omega) v)
          go_wp2_with fail
          have HAF := Lib.hid (HAO.out _ (HAO.out _ (HAO.out _ (HAO.out _ HA2.out 0 (.int .i64 ka)) 1 (.int .i64 kb)) 2 (.int .i64 kc)) 3 (.slice (some ⟨w3.heap.size, 0, none⟩) M M))
          exact bodyPost_ret (v := .tuple #[cmv ka kb kc (some ⟨w3.heap.size, 0, none⟩) M M, .nilIface]) (by simp [results, Try.results10, go_sem, z0, z1, z2, z3]) rfl ⟨.inl ⟨ka, kb, kc, xs, some ⟨w3.heap.size, 0, none⟩, M, HOK.out, by rw [HXL.out]; exact hM, HE.out, by rw [HXL.out], HAF.out.rd _ HAF.out.1, by rw [HXL.out]; exact Nat.le_refl _, by omega⟩, (((HBw.out.setCell (Nat.le_refl _) _).setCell (Nat.le_refl _) _).setCell (Nat.le_refl _) _).setCell (Nat.le_refl _) _⟩
        · have HNN := Lib.hid (Pk.no_end (a := ka) (b := kb) (c := kc) (m := M) HTW.out (by rw [HXL.out]) (fun e => by
            have h := HDL.out
            rw [e] at h
            exact hpq h.symm))
          have hr1 : ((r : Int) == 0) = false := by simp; omega
          have hr2 : ((r : Int) != 0) = true := by simp; omega
          go_wp2_with fail
          exact bodyPost_ret (v := .tuple #[cmv 0 0 0 none 0 0, vErr 2]) (by simp [results, Try.results10, go_sem, z0, z1, z2, z3]) rfl ⟨.inr ⟨HNN.out, rfl⟩, (((HBw.out.setCell (Nat.le_refl _) _).setCell (Nat.le_refl _) _).setCell (Nat.le_refl _) _).setCell (Nat.le_refl _) _⟩
      · have HNN := Lib.hid (Pk.no_tail (xs := xs) (tk_two HTK.out htk) (by omega) (by rw [← List.drop_drop]; exact hno))
        have HBw := Lib.hid (HBw.out.trans (hbl.mono HBw.out.size))
        obtain ⟨-, ⟨z0, z1, z2, z3⟩, y0, y1, y2, y3⟩ := V0.out.below (H12.out.trans (hbl.mono H12.out.size))
        clear htk hno hbl x0 x1 x2 x3
        go_wp2_with fail
        exact bodyPost_ret (v := .tuple #[cmv 0 0 0 none 0 0, vErr 2]) (by simp [results, Try.results10, go_sem, z0, z1, z2, z3]) rfl ⟨.inr ⟨HNN.out, rfl⟩, (((HBw.out.setCell (Nat.le_refl _) _).setCell (Nat.le_refl _) _).setCell (Nat.le_refl _) _).setCell (Nat.le_refl _) _⟩
  · have HNN := Lib.hid (Pk.no_next htk.2.2 h4 hno)
    have HBw := Lib.hid (B0.out.trans (hbl.mono B0.out.size))
    obtain ⟨-, ⟨z0, z1, z2, z3⟩, y0, y1, y2, y3⟩ := V0.out.below hbl
    clear htk hno hbl h4
    go_wp2_with fail
    exact bodyPost_ret (v := .tuple #[cmv 0 0 0 none 0 0, vErr 2]) (by simp [results, Try.results10, go_sem, z0, z1, z2, z3]) rfl ⟨.inr ⟨HNN.out, rfl⟩, (((HBw.out.setCell (Nat.le_refl _) _).setCell (Nat.le_refl _) _).setCell (Nat.le_refl _) _).setCell (Nat.le_refl _) _⟩
end Go.Proofs.Ytbobaappilploaa
