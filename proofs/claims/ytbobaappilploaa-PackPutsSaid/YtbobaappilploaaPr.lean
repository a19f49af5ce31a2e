import Derived.Test.YtbobaappilploaaPp
import Derived.Laws.BytesArg
namespace Go.Proofs.Ytbobaappilploaa.Pk
theorem getD_drop (l : List Int) (a i : Nat) : (l.drop a).getD i 0 = l.getD (a + i) 0 := by simp [List.getD_eq_getElem?_getD]
theorem byte_inj {x y : Int} (hx : 0 ≤ x ∧ x < 256) (hy : 0 ≤ y ∧ y < 256) (h : UInt8.ofNat x.toNat = UInt8.ofNat y.toNat) : x = y := by
  have := congrArg UInt8.toNat h
  simp only [UInt8.toNat_ofNat'] at this
  omega
theorem bytes_inj : ∀ {l m : List Int}, (∀ x ∈ l, 0 ≤ x ∧ x < 256) → (∀ x ∈ m, 0 ≤ x ∧ x < 256) → (l.map fun n => UInt8.ofNat n.toNat) = (m.map fun n => UInt8.ofNat n.toNat) → l = m
  | [], [], _, _, _ => rfl
  | [], _ :: _, _, _, h => by simp at h
  | _ :: _, [], _, _, h => by simp at h
  | x :: l, y :: m, hl, hm, h => by
    simp only [List.map_cons, List.cons.injEq] at h
    rw [byte_inj (hl x List.mem_cons_self) (hm y List.mem_cons_self) h.1, bytes_inj (fun z hz => hl z (List.mem_cons_of_mem _ hz)) (fun z hz => hm z (List.mem_cons_of_mem _ hz)) h.2]
end Go.Proofs.Ytbobaappilploaa.Pk
namespace Go.Proofs.Ytbobaappilploaa
open Go.RowKit Go.Lib Go.ChangeShapes Go.WideShapes Go.ChangeAt

/-! ### strings of bytes, told apart -/
theorem bytes_loop (bs : ByteArray) : ∀ (k i : Nat) (r : List UInt8), bs.size - i = k → ByteArray.toList.loop bs i r = r.reverse ++ bs.data.toList.drop i := by
  intro k
  induction k with
  | zero =>
    intro i r h
    unfold ByteArray.toList.loop
    have hs : bs.data.toList.length = bs.size := Array.length_toList
    rw [if_neg (by omega), List.drop_of_length_le (by omega), List.append_nil]
  | succ k ih =>
    intro i r h
    have hi : i < bs.size := by omega
    unfold ByteArray.toList.loop
    rw [if_pos hi, ih (i + 1) _ (by omega)]
    have hs : bs.data.toList.length = bs.size := Array.length_toList
    have h2 : i < bs.data.toList.length := by omega
    rw [List.drop_eq_getElem_cons h2]
    have e : bs.get! i = bs.data.toList[i] := by
      cases bs with | mk d =>
      simp [ByteArray.get!]
      have h3 : i < d.size := by simpa [ByteArray.size] using hi
      simp [getElem!_pos, h3]
    rw [e]; simp
theorem bytes_toList (bs : ByteArray) : bs.toList = bs.data.toList := by
  unfold ByteArray.toList
  rw [bytes_loop bs _ 0 [] rfl]; simp
theorem str_inj {l m : List Int} (hl : ∀ x ∈ l, 0 ≤ x ∧ x < 256) (hm : ∀ x ∈ m, 0 ≤ x ∧ x < 256) (h : strOfNums l = strOfNums m) : l = m := by
  have := congrArg (fun b : ByteArray => b.data.toList) h
  simp only [strOfNums_data] at this
  exact Pk.bytes_inj hl hm this

theorem str_list (l : List Int) : (strOfNums l).toList = l.map fun n => UInt8.ofNat n.toNat := by rw [bytes_toList, strOfNums_data]
theorem str_ne {l m : List Int} (hl : ∀ x ∈ l, 0 ≤ x ∧ x < 256) (hm : ∀ x ∈ m, 0 ≤ x ∧ x < 256) (h : l ≠ m) : ((strOfNums l).toList == (strOfNums m).toList) = false := by
  rw [beq_eq_false_iff_ne, str_list, str_list]
  exact fun e => h (Pk.bytes_inj hl hm e)
theorem row_cells {w : World} {g : Nat} {bs : List Int} (h : ∀ j u, (bs.map (Value.int .u8))[j]? = some u → w.cell? ((⟨g, 0, none⟩ : Addr).add j) = some u) : ∀ i, i < bs.length → w.cell? ⟨g, 0 + i, none⟩ = some (.int .u8 (bs.getD i 0)) := fun i hi => by
  have := h i (.int .u8 (bs.getD i 0)) (by rw [List.getElem?_map, List.getElem?_eq_getElem hi, List.getD_eq_getElem?_getD, List.getElem?_eq_getElem hi]; rfl)
  rwa [add_plain] at this
/-- the scan's end -/
theorem scan_end {at' j : Nat} {bs : List Int} (hj : j ≤ 10) (hl : at' + j ≤ bs.length) (hg : ∀ i, i < j → 127 < bs.getD (at' + i) 0) (he : j = 10 ∨ at' + j = bs.length ∨ ¬ 127 < bs.getD (at' + j) 0) : Pk.run 10 (bs.drop at') = j :=
  Pk.run_end hj (by rw [List.length_drop]; omega) (fun i hi => by rw [Pk.getD_drop]; exact hg i hi) (by rw [List.length_drop, Pk.getD_drop]; omega)
set_option maxHeartbeats 8000000 in
theorem refread_any (A : Option Addr) (n c : Nat) (bs : List Int) (at' : Nat) (w : World) (hr : RdK .u8 w w.heap.size A n bs) (hb : ∀ x ∈ bs, 0 ≤ x ∧ x < 256) (hn : n ≤ 1000) (hnc : n ≤ c) (hcc : c ≤ 9223372036854775807) (hat : at' ≤ n) :
    Calls Try.prog 16 #[.slice A n c, .int .i64 at'] w fun e w' => ((∃ (v : Int) (s : List Int), Pk.I64 v ∧ bs.drop at' = Pk.num v ++ s ∧ e = .returned (.tuple #[.int .i64 v, .int .i64 ((at' + (Pk.num v).length : Nat) : Int)])) ∨ ((∀ v s, Pk.I64 v → bs.drop at' ≠ Pk.num v ++ s) ∧ e = .returned (.tuple #[.int .i64 0, .int .i64 (-1)]))) ∧ Below w.heap.size w w' := by
  have HB := Lib.hid hb
  have HR := Lib.hid hr
  have HL := Lib.hid hr.1
  clear hb hr
  go_enter Try.func16, Try.ntmps16
  go_wp2_with fail
  go_loopw [6] (fun v wr => ∃ j : Nat, v = .int .i64 j ∧ j ≤ 10 ∧ at' + j ≤ n ∧ Hid (∀ i, i < j → 127 < bs.getD (at' + i) 0) ∧ w = wr) (fun v _ => 10 - (RowKit.intOf v).toNat)
  case atStart => exact ⟨0, rfl, by decide, by omega, fun i hi => absurd hi (Nat.not_lt_zero i), rfl⟩
  case round =>
    obtain ⟨j, rfl, hj, hjn, HG, rfl⟩ := hrel
    by_cases c1 : at' + j < n
    · have c1z : ((at' : Int) + (j : Int)) < (n : Int) := by omega
      by_cases c2 : j < 10
      · have c2z : (j : Int) < 10 := by omega
        obtain ⟨xb, xo, rfl, _, rx⟩ := HR.out.2 (at' + j) c1
        obtain ⟨x, hx⟩ : ∃ x, bs.getD (at' + j) 0 = x := ⟨_, rfl⟩
        rw [hx] at rx
        by_cases c3 : 127 < x
        · have HG2 := Lib.hid (show ∀ i, i < j + 1 → 127 < bs.getD (at' + i) 0 from fun i hi => by
            rcases Nat.lt_or_ge i j with h | h
            · exact HG.out i h
            · obtain rfl : i = j := by omega
              rw [hx]; exact c3)
          have HX := Lib.hid hx
          clear hx
          go_wp2_with fail
          exact ⟨⟨j + 1, by go_num, by omega, by omega, HG2, trivial⟩, by simp [RowKit.intOf]; omega⟩
        · have HX := Lib.hid hx
          have HRU := Lib.hid (scan_end (at' := at') (j := j) (bs := bs) (by omega) (by rw [HL.out]; omega) HG.out (.inr (.inr (by rw [HX.out]; exact c3))))
          have hx0 := HB.out x (by
            rw [← HX.out, List.getD_eq_getElem?_getD, List.getElem?_eq_getElem (by rw [HL.out]; exact c1)]
            exact List.getElem_mem _)
          obtain ⟨hx0, hx1⟩ := hx0
          have HLL := Lib.hid (show ((bs.drop at').take (j + 1)).length = j + 1 by rw [List.length_take, List.length_drop, HL.out]; omega)
          have HLB := Lib.hid (show ∀ z ∈ (bs.drop at').take (j + 1), 0 ≤ z ∧ z < 256 from fun z hz => HB.out z (List.mem_of_mem_drop (List.mem_of_mem_take hz)))
          have HLG := Lib.hid (show ∀ k, k < j + 1 → ((bs.drop at').take (j + 1)).getD k 0 = bs.getD (at' + k) 0 from fun k hk => by
            rw [← Pk.getD_drop, List.getD_eq_getElem?_getD, List.getD_eq_getElem?_getD, List.getElem?_take_of_lt hk])
          have HDR := Lib.hid (show bs.drop at' = (bs.drop at').take (j + 1) ++ (bs.drop at').drop (j + 1) from (List.take_append_drop _ _).symm)
          have HNO := Lib.hid (show ∀ v s, Pk.I64 v → bs.drop at' = Pk.num v ++ s → (bs.drop at').take (j + 1) = Pk.num v from fun v s hv e => by
            have hrn := Pk.run_num (n := v) (s := s) hv
            rw [← e, HRU.out] at hrn
            rw [hrn, e, List.take_left])
          generalize (bs.drop at').take (j + 1) = L at *
          clear hx
          go_wp2_with fail
          go_loopw [7, 8] (fun u iv wr => ∃ k : Nat, iv = .int .i64 ((k : Int) - 1) ∧ k ≤ j + 1 ∧ Hid (u = .int .u64 (Pk.val (L.drop k) % 18446744073709551616)) ∧ w = wr) (fun _ iv _ => (RowKit.intOf iv + 1).toNat)
          case atStart => exact ⟨j + 1, by go_num, Nat.le_refl _, by rw [List.drop_of_length_le (by rw [HLL.out]; exact Nat.le_refl _)]; rfl, rfl⟩
          case round =>
            obtain ⟨k, rfl, hk, HU, rfl⟩ := hrel
            obtain ⟨V, hV⟩ : ∃ V, Pk.val (L.drop k) = V := ⟨_, rfl⟩
            rw [hV] at HU
            have hu := HU.out
            subst hu
            have HV := Lib.hid hV
            clear hV
            obtain ⟨U, hU⟩ : ∃ U, V % 18446744073709551616 = U := ⟨_, rfl⟩
            have u0 : 0 ≤ U ∧ U < 18446744073709551616 := by omega
            obtain ⟨u0, u1⟩ := u0
            rw [hU]
            have HUU := Lib.hid hU
            clear hU HU
            by_cases hk0 : 0 < k
            · obtain ⟨i, rfl⟩ : ∃ i, k = i + 1 := ⟨k - 1, by omega⟩
              have hi : i ≤ j := by omega
              obtain ⟨xb2, xo2, e2, _, ry⟩ := HR.out.2 (at' + i) (by omega)
              injection e2 with e2
              injection e2 with e3 e4
              subst e3 e4
              have HY := Lib.hid (HLG.out i (by omega))
              have hyb := HB.out (bs.getD (at' + i) 0) (by
                rw [List.getD_eq_getElem?_getD, List.getElem?_eq_getElem (by rw [HL.out]; omega)]
                exact List.getElem_mem _)
              have HSU := Lib.hid (show Pk.val (L.drop i) = bs.getD (at' + i) 0 % 128 + 128 * V by
                rw [← HV.out, ← HY.out, List.drop_eq_getElem_cons (by rw [HLL.out]; omega), List.getD_eq_getElem?_getD, List.getElem?_eq_getElem (by rw [HLL.out]; omega)]; rfl)
              generalize bs.getD (at' + i) 0 = y at *
              obtain ⟨y0, y1⟩ := hyb
              have ez : (((i + 1 : Nat) : Int)) - 1 = (i : Int) := by omega
              rw [ez]
              clear ez
              go_wp2_with fail
              exact ⟨⟨i, by go_num, by omega, Lib.hid (by rw [HSU.out]; congr 1; simp only [IntKind.wrap_u64]; have := HUU.out; omega), trivial⟩, by simp [RowKit.intOf]; try omega⟩
            · obtain rfl : k = 0 := by omega
              rw [List.drop_zero] at HV
              have HM := Lib.hid (show ∀ v s, Pk.I64 v → bs.drop at' = Pk.num v ++ s → v = Pk.uz U ∧ L = Pk.num v from fun v s hv e => by
                have e1 := HNO.out v s hv e
                have e2 : V = Pk.zz v := by rw [← HV.out, e1, Pk.val_num hv]
                have := Pk.zz_bd hv
                have e3 : U = Pk.zz v := by rw [← HUU.out, e2]; omega
                exact ⟨by rw [e3, Pk.uz_zz], e1⟩)
              have HIN := Lib.hid (Pk.uz_in u0 u1)
              by_cases hodd : U % 2 = 1
              · have HZ := Lib.hid (show -(U / 2) - 1 = Pk.uz U by unfold Pk.uz; rw [if_pos hodd])
                have KA := Lib.hid (fun (w' : World) (hb : Below w.heap.size w w') => run_convert_bytes_arg (P := Try.prog) w' 26 5 Try.underlying26 Try.underlying5 xb (xo + at') (((at' : Int) + (j : Int) + 1).toNat - at') (c - at') L (by rw [HLL.out]; omega) (fun i hi => by
                  obtain ⟨xb3, xo3, e5, hlt, rz⟩ := HR.out.2 (at' + i) (by omega)
                  injection e5 with e5
                  injection e5 with e6 e7
                  subst e6 e7
                  rw [hb.cell (p := ⟨xb, xo + at' + i, none⟩) hlt, HLG.out i (by omega), Nat.add_assoc]; exact rz) 9 Try.underlying9)
                have KB := Lib.hid (fun (w' : World) (g c9 : Nat) (h : ∀ j u, ((Pk.num (-(U / 2) - 1)).map (Value.int .u8))[j]? = some u → w'.cell? ((⟨g, 0, none⟩ : Addr).add j) = some u) => run_convert_bytes_arg (P := Try.prog) w' 26 5 Try.underlying26 Try.underlying5 g 0 (Pk.num (-(U / 2) - 1)).length c9 (Pk.num (-(U / 2) - 1)) rfl (row_cells h) 9 Try.underlying9)
                have HNL := Lib.hid (Pk.num_len (-(U / 2) - 1))
                have HNV := Lib.hid (show ∀ w : World, Calls Try.prog 14 #[.int .i64 (-(U / 2) - 1)] w fun e w' => ∃ v, e = .returned v ∧ OwnB w w' v (Pk.num (-(U / 2) - 1)) from fun w => number_any (-(U / 2) - 1) (by rw [HZ.out]; exact HIN.out) w)
                have HNB := Lib.hid (show ∀ z ∈ Pk.num (-(U / 2) - 1), 0 ≤ z ∧ z < 256 from Pk.num_bytes (by rw [HZ.out]; exact HIN.out))
                have HEQ := Lib.hid (show Pk.num (-(U / 2) - 1) = Pk.num (Pk.uz U) by rw [HZ.out])
                have s1 : IntKind.i64.wrap ((at' : Int) + (j : Int)) = (at' : Int) + (j : Int) := by rw [IntKind.wrap_i64]; omega
                have s2 : IntKind.i64.wrap ((at' : Int) + (j : Int) + 1) = (at' : Int) + (j : Int) + 1 := by rw [IntKind.wrap_i64]; omega
                have s3 : (0 : Int) ≤ (at' : Int) := by omega
                have s4 : (at' : Int) ≤ (at' : Int) + (j : Int) + 1 := by omega
                have s5 : (at' : Int) + (j : Int) + 1 ≤ (c : Int) := by omega
                generalize Pk.num (-(U / 2) - 1) = NB at *
                by_cases hsame : NB = L
                · subst hsame
                  go_wp2_with fail
                  have kA1 := KA.out w.drew (Below.refl _ _).drew
                  have B := Lib.hid (Below.refl w.heap.size w)
                  go_region_with
                    (first
                    | (go_at_call 14; refine (HNV.out _).mono ?_; rintro e w2 ⟨y2, rfl, ho⟩; obtain ⟨g, c9, rfl, _, _, hcell⟩ := own_some ho.1 (by have := HNL.out; omega); have B := Lib.hid ((B.out.trans (by first | exact Below.refl _ _ | exact (Below.refl _ _).drew)).trans ho.2); have kA2 := KA.out w2 B.out; have kB2 := KB.out w2 g c9 hcell))
                  all_goals
                    go_wp2_with fail
                    exact bodyPost_ret (v := .tuple #[.int .i64 (-(U / 2) - 1), .int .i64 ((at' : Int) + (j : Int) + 1)]) (by simp [results, Try.results16, go_sem]) rfl ⟨.inl ⟨-(U / 2) - 1, _, by rw [HZ.out]; exact HIN.out, by rw [HZ.out, ← HEQ.out]; exact HDR.out, by rw [HZ.out, ← HEQ.out, HLL.out]; congr 3; (try simp); (try omega)⟩, B.out⟩
                · have hne := str_ne HNB.out HLB.out hsame
                  have HNN := Lib.hid (show ∀ v s, Pk.I64 v → bs.drop at' ≠ Pk.num v ++ s from fun v s hv e => hsame (by
                    have := HM.out v s hv e
                    rw [HEQ.out, ← this.1, this.2]))
                  clear hsame
                  go_wp2_with fail
                  have kA1 := KA.out w.drew (Below.refl _ _).drew
                  have B := Lib.hid (Below.refl w.heap.size w)
                  go_region_with
                    (first
                    | (go_at_call 14; refine (HNV.out _).mono ?_; rintro e w2 ⟨y2, rfl, ho⟩; obtain ⟨g, c9, rfl, _, _, hcell⟩ := own_some ho.1 (by have := HNL.out; omega); have B := Lib.hid ((B.out.trans (by first | exact Below.refl _ _ | exact (Below.refl _ _).drew)).trans ho.2); have kA2 := KA.out w2 B.out; have kB2 := KB.out w2 g c9 hcell))
                  all_goals
                    go_wp2_with fail
                    exact bodyPost_ret (v := .tuple #[.int .i64 0, .int .i64 (-1)]) (by simp [results, Try.results16, go_sem]) rfl ⟨.inr ⟨HNN.out, rfl⟩, B.out⟩
              · have HZ := Lib.hid (show U / 2 = Pk.uz U by unfold Pk.uz; rw [if_neg hodd])
                have KA := Lib.hid (fun (w' : World) (hb : Below w.heap.size w w') => run_convert_bytes_arg (P := Try.prog) w' 26 5 Try.underlying26 Try.underlying5 xb (xo + at') (((at' : Int) + (j : Int) + 1).toNat - at') (c - at') L (by rw [HLL.out]; omega) (fun i hi => by
                  obtain ⟨xb3, xo3, e5, hlt, rz⟩ := HR.out.2 (at' + i) (by omega)
                  injection e5 with e5
                  injection e5 with e6 e7
                  subst e6 e7
                  rw [hb.cell (p := ⟨xb, xo + at' + i, none⟩) hlt, HLG.out i (by omega), Nat.add_assoc]; exact rz) 9 Try.underlying9)
                have KB := Lib.hid (fun (w' : World) (g c9 : Nat) (h : ∀ j u, ((Pk.num (U / 2)).map (Value.int .u8))[j]? = some u → w'.cell? ((⟨g, 0, none⟩ : Addr).add j) = some u) => run_convert_bytes_arg (P := Try.prog) w' 26 5 Try.underlying26 Try.underlying5 g 0 (Pk.num (U / 2)).length c9 (Pk.num (U / 2)) rfl (row_cells h) 9 Try.underlying9)
                have HNL := Lib.hid (Pk.num_len (U / 2))
                have HNV := Lib.hid (show ∀ w : World, Calls Try.prog 14 #[.int .i64 (U / 2)] w fun e w' => ∃ v, e = .returned v ∧ OwnB w w' v (Pk.num (U / 2)) from fun w => number_any (U / 2) (by rw [HZ.out]; exact HIN.out) w)
                have HNB := Lib.hid (show ∀ z ∈ Pk.num (U / 2), 0 ≤ z ∧ z < 256 from Pk.num_bytes (by rw [HZ.out]; exact HIN.out))
                have HEQ := Lib.hid (show Pk.num (U / 2) = Pk.num (Pk.uz U) by rw [HZ.out])
                have s1 : IntKind.i64.wrap ((at' : Int) + (j : Int)) = (at' : Int) + (j : Int) := by rw [IntKind.wrap_i64]; omega
                have s2 : IntKind.i64.wrap ((at' : Int) + (j : Int) + 1) = (at' : Int) + (j : Int) + 1 := by rw [IntKind.wrap_i64]; omega
                have s3 : (0 : Int) ≤ (at' : Int) := by omega
                have s4 : (at' : Int) ≤ (at' : Int) + (j : Int) + 1 := by omega
                have s5 : (at' : Int) + (j : Int) + 1 ≤ (c : Int) := by omega
                generalize Pk.num (U / 2) = NB at *
                by_cases hsame : NB = L
                · subst hsame
                  go_wp2_with fail
                  have kA1 := KA.out w.drew (Below.refl _ _).drew
                  have B := Lib.hid (Below.refl w.heap.size w)
                  go_region_with
                    (first
                    | (go_at_call 14; refine (HNV.out _).mono ?_; rintro e w2 ⟨y2, rfl, ho⟩; obtain ⟨g, c9, rfl, _, _, hcell⟩ := own_some ho.1 (by have := HNL.out; omega); have B := Lib.hid ((B.out.trans (by first | exact Below.refl _ _ | exact (Below.refl _ _).drew)).trans ho.2); have kA2 := KA.out w2 B.out; have kB2 := KB.out w2 g c9 hcell))
                  all_goals
                    go_wp2_with fail
                    exact bodyPost_ret (v := .tuple #[.int .i64 (U / 2), .int .i64 ((at' : Int) + (j : Int) + 1)]) (by simp [results, Try.results16, go_sem]) rfl ⟨.inl ⟨U / 2, _, by rw [HZ.out]; exact HIN.out, by rw [HZ.out, ← HEQ.out]; exact HDR.out, by rw [HZ.out, ← HEQ.out, HLL.out]; congr 3; (try simp); (try omega)⟩, B.out⟩
                · have hne := str_ne HNB.out HLB.out hsame
                  have HNN := Lib.hid (show ∀ v s, Pk.I64 v → bs.drop at' ≠ Pk.num v ++ s from fun v s hv e => hsame (by
                    have := HM.out v s hv e
                    rw [HEQ.out, ← this.1, this.2]))
                  clear hsame
                  go_wp2_with fail
                  have kA1 := KA.out w.drew (Below.refl _ _).drew
                  have B := Lib.hid (Below.refl w.heap.size w)
                  go_region_with
                    (first
                    | (go_at_call 14; refine (HNV.out _).mono ?_; rintro e w2 ⟨y2, rfl, ho⟩; obtain ⟨g, c9, rfl, _, _, hcell⟩ := own_some ho.1 (by have := HNL.out; omega); have B := Lib.hid ((B.out.trans (by first | exact Below.refl _ _ | exact (Below.refl _ _).drew)).trans ho.2); have kA2 := KA.out w2 B.out; have kB2 := KB.out w2 g c9 hcell))
                  all_goals
                    go_wp2_with fail
                    exact bodyPost_ret (v := .tuple #[.int .i64 0, .int .i64 (-1)]) (by simp [results, Try.results16, go_sem]) rfl ⟨.inr ⟨HNN.out, rfl⟩, B.out⟩
      · have hj10 : j = 10 := by omega
        subst hj10
        have HRU := Lib.hid (scan_end (at' := at') (j := 10) (bs := bs) (by omega) (by rw [HL.out]; omega) HG.out (.inl rfl))
        have HNN := Lib.hid (show ∀ v s, Pk.I64 v → bs.drop at' ≠ Pk.num v ++ s from fun v s hv e => by
          have hrn := Pk.run_num (n := v) (s := s) hv
          have hl := congrArg List.length e
          rw [List.length_drop, List.length_append, HL.out] at hl
          have := Pk.num_len v
          rw [← e, HRU.out] at hrn
          omega)
        go_wp2_with fail
        exact bodyPost_ret (v := .tuple #[.int .i64 0, .int .i64 (-1)]) (by simp [results, Try.results16, go_sem]) rfl ⟨.inr ⟨HNN.out, rfl⟩, Below.refl _ _⟩
    · have hjn2 : at' + j = n := by omega
      have c1z : ¬ ((at' : Int) + (j : Int)) < (n : Int) := by omega
      have HRU := Lib.hid (scan_end (at' := at') (j := j) (bs := bs) (by omega) (by rw [HL.out]; omega) HG.out (.inr (.inl (by rw [HL.out]; exact hjn2))))
      have HNN := Lib.hid (show ∀ v s, Pk.I64 v → bs.drop at' ≠ Pk.num v ++ s from fun v s hv e => by
        have hrn := Pk.run_num (n := v) (s := s) hv
        have hl := congrArg List.length e
        rw [List.length_drop, List.length_append, HL.out] at hl
        have := Pk.num_len v
        rw [← e, HRU.out] at hrn
        omega)
      go_wp2_with fail
      exact bodyPost_ret (v := .tuple #[.int .i64 0, .int .i64 (-1)]) (by simp [results, Try.results16, go_sem]) rfl ⟨.inr ⟨HNN.out, rfl⟩, Below.refl _ _⟩
end Go.Proofs.Ytbobaappilploaa
