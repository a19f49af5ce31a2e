import Derived.Test.YtbobaappilploaaPn
namespace Go.Proofs.Ytbobaappilploaa
open Go.RowKit Go.Lib

theorem own_below {w w' : World} {base : Nat} {e : TypeId} {size : Nat} {v : Value} {n : Nat} {xs : List Value} (h : w.ownsRow base e size v n xs) (hb : Below w.heap.size w w') : w'.ownsRow base e size v n xs := by
  refine ⟨h.1, ?_⟩
  rcases h.2 with hn | ⟨g, cap, cur, rfl, h1, hh, rest⟩
  · exact .inl hn
  · exact .inr ⟨g, cap, cur, rfl, h1, (hb.block g (Array.getElem?_eq_some_iff.1 hh).1).trans hh, rest⟩
theorem own_lower {w : World} {base base' : Nat} {e : TypeId} {size : Nat} {v : Value} {n : Nat} {xs : List Value} (h : w.ownsRow base e size v n xs) (hb : base' ≤ base) : w.ownsRow base' e size v n xs := by
  refine ⟨h.1, ?_⟩
  rcases h.2 with hn | ⟨g, cap, cur, rfl, h1, rest⟩
  · exact .inl hn
  · exact .inr ⟨g, cap, cur, rfl, by omega, rest⟩
theorem own_some {w : World} {base : Nat} {e : TypeId} {size : Nat} {v : Value} {n : Nat} {xs : List Value} (h : w.ownsRow base e size v n xs) (hn : 0 < n) : ∃ g c, v = .slice (some ⟨g, 0, none⟩) n c ∧ base ≤ g ∧ g < w.heap.size ∧ ∀ j u, xs[j]? = some u → w.cell? ((⟨g, 0, none⟩ : Addr).add j) = some u := by
  have h' := h
  rcases h'.2 with ⟨_, h0⟩ | ⟨g, cap, cur, rfl, h1, hh, _⟩
  · omega
  · exact ⟨g, cap, rfl, h1, (Array.getElem?_eq_some_iff.1 hh).1, fun j u hu => h.cells (g := g) (by simp [Value.ownBlock]) j u hu⟩
/-- a command as a value -/
abbrev cmv (k key l : Int) (A : Option Addr) (n c : Nat) : Value := .agg #[.int .i64 k, .int .i64 key, .int .i64 l, .slice A n c]
/-- a variable that holds a command -/
def CV (wr : World) (b : Nat) (k key l : Int) (A : Option Addr) (n c : Nat) : Prop :=
  b < wr.heap.size ∧ (wr.cell? ⟨b, 0, none⟩ = some (.int .i64 k) ∧ wr.cell? ⟨b, 1, none⟩ = some (.int .i64 key) ∧ wr.cell? ⟨b, 2, none⟩ = some (.int .i64 l) ∧ wr.cell? ⟨b, 3, none⟩ = some (.slice A n c)) ∧
  wr.frozen? ⟨b, 0, none⟩ = false ∧ wr.frozen? ⟨b, 1, none⟩ = false ∧ wr.frozen? ⟨b, 2, none⟩ = false ∧ wr.frozen? ⟨b, 3, none⟩ = false
theorem CV.new (wr : World) (t : TypeId) (k key l : Int) (A : Option Addr) (n c : Nat) : CV (wr.alloc (.cells #[.int .i64 k, .int .i64 key, .int .i64 l, .slice A n c] t)) wr.heap.size k key l A n c :=
  ⟨by simp, ⟨by simp, by simp, by simp, by simp⟩, by simp, by simp, by simp, by simp⟩
theorem CV.below {wr wq : World} {b : Nat} {k key l : Int} {A : Option Addr} {n c : Nat} (h : CV wr b k key l A n c) (hb : Below wr.heap.size wr wq) : CV wq b k key l A n c := by
  obtain ⟨h3, ⟨c0, c1, c2, c3⟩, f0, f1, f2, f3⟩ := h
  exact ⟨Nat.lt_of_lt_of_le h3 hb.size, ⟨(hb.cell (p := ⟨b, 0, none⟩) h3).trans c0, (hb.cell (p := ⟨b, 1, none⟩) h3).trans c1, (hb.cell (p := ⟨b, 2, none⟩) h3).trans c2, (hb.cell (p := ⟨b, 3, none⟩) h3).trans c3⟩, (hb.frozen (p := ⟨b, 0, none⟩) h3).trans f0, (hb.frozen (p := ⟨b, 1, none⟩) h3).trans f1, (hb.frozen (p := ⟨b, 2, none⟩) h3).trans f2, (hb.frozen (p := ⟨b, 3, none⟩) h3).trans f3⟩
/-- a row of bytes of the walk's own, in a world that came of w1 -/
def Row (w1 wr : World) (v : Value) (bs : List Int) : Prop := wr.ownsRow w1.heap.size 5 1 v bs.length (bs.map (Value.int .u8)) ∧ Below w1.heap.size w1 wr
theorem Row.below {w1 wr wq : World} {v : Value} {bs : List Int} (h : Row w1 wr v bs) (hb : Below wr.heap.size wr wq) : Row w1 wq v bs := ⟨own_below h.1 hb, h.2.trans (hb.mono h.2.size)⟩
theorem OwnB.row {w1 wr wq : World} {v : Value} {bs : List Int} (h : Below w1.heap.size w1 wr) (ho : OwnB wr wq v bs) : Row w1 wq v bs := ⟨own_lower ho.1 h.size, h.trans (ho.2.mono h.size)⟩

theorem flat_succ {ns : List Int} {i : Nat} (h : i < ns.length) : (ns.take (i + 1)).flatMap Pk.num = (ns.take i).flatMap Pk.num ++ Pk.num (ns.getD i 0) := by
  rw [List.take_add_one, List.flatMap_append, List.getElem?_eq_getElem h, List.getD_eq_getElem?_getD, List.getElem?_eq_getElem h]
  simp
theorem flat_len (ns : List Int) : (ns.flatMap Pk.num).length ≤ 10 * ns.length := by
  induction ns with
  | nil => simp
  | cons n ns ih =>
    have := Pk.num_len n
    simp only [List.flatMap_cons, List.length_append, List.length_cons]; omega
set_option maxHeartbeats 2000000 in
theorem refput_any (k key l : Int) (A : Option Addr) (n c : Nat) (ns : List Int) (w : World) (hr : RdK .i64 w w.heap.size A n ns) (hok : Pk.Ok k key l ns) (hn : n ≤ 1000) : Calls Try.prog 9 #[cmv k key l A n c] w fun e w' => ∃ v, e = .returned v ∧ OwnB w w' v (Pk.cb k key l ns) := by
  obtain ⟨i0, hi, hz0, hz1, hz2⟩ := info_parts info8
  have HO := Lib.hid hok
  have HL := Lib.hid hr.1
  have B0 := Lib.hid ((Below.refl w.heap.size w).alloc (Nat.le_refl _) (.cells #[.int .i64 k, .int .i64 key, .int .i64 l, .slice A n c] 24))
  have V1 := Lib.hid (CV.new w 24 k key l A n c)
  have R1 := Lib.hid ((hr.below B0.out).more B0.out.size)
  clear hok hr
  go_enter Try.func9, Try.ntmps9
  go_wp2_with fail
  generalize w.alloc (.cells #[.int .i64 k, .int .i64 key, .int .i64 l, .slice A n c] 24) = w1 at *
  refine (number_any k HO.out.1 _).mono ?_; rintro e u1 ⟨y1, rfl, ho⟩
  have P := Lib.hid (OwnB.row (Below.refl w1.heap.size w1) ho)
  have l1 := Pk.num_len k
  clear ho
  obtain ⟨-, ⟨c0, c1, c2, c3⟩, -⟩ := V1.out.below P.out.2
  go_wp2_with fail
  refine (number_any key (HO.out.2.1) _).mono ?_; rintro e u2 ⟨y2, rfl, ho⟩
  obtain ⟨A2, C2, rfl, -⟩ := own_some P.out.1 (by first | omega | (simp only [List.length_append]; omega))
  have Q := Lib.hid (P.out.below ho.2)
  have l2 := Pk.num_len key
  obtain ⟨g, c9, rfl, _, _, hcell⟩ := own_some ho.1 (by omega)
  clear ho c0 c1 c2 c3
  go_wp2_with (at_builtin; refine wpList_append_own _ rfl _ _ 26 rfl w1.heap.size 5 i0 (.int .u8 0) 1 1 Try.underlying26 hi hz0 hz1 hz2 rfl (by decide) (.slice (some ⟨A2, 0, none⟩) (Pk.num k).length C2) (Pk.num k).length ((Pk.num k).map (Value.int .u8)) rfl Q.out.1 ⟨g, 0, none⟩ (Pk.num key).length c9 ((Pk.num key).map (Value.int .u8)) rfl (by simp) hcell (ones8 _) (by unfold maxLen; first | omega | (simp only [List.length_append]; omega)) (by first | omega | (simp only [List.length_append]; omega)) Q.out.2.size ?_; intro v2 w2 hown hgrow _; have P := Lib.hid (show Row w1 w2 v2 (Pk.num k ++ Pk.num key) from ⟨by rw [List.length_append, List.map_append]; exact hown, Q.out.2.grown hgrow Q.out.2.size (own_block Q.out.1)⟩); clear hown hgrow; obtain ⟨-, ⟨c0, c1, c2, c3⟩, -⟩ := V1.out.below P.out.2)
  obtain ⟨B2, hB2⟩ : ∃ X, Pk.num k ++ Pk.num key = X := ⟨_, rfl⟩
  have LB2 : 1 ≤ B2.length ∧ B2.length ≤ 20 := by rw [← hB2, List.length_append]; omega
  rw [hB2] at P
  have HB2 := Lib.hid hB2
  clear hB2
  refine (number_any l (HO.out.2.2.1) _).mono ?_; rintro e u3 ⟨y3, rfl, ho⟩
  obtain ⟨A3, C3, rfl, -⟩ := own_some P.out.1 (by first | omega | (simp only [List.length_append]; omega))
  have Q := Lib.hid (P.out.below ho.2)
  have l3 := Pk.num_len l
  obtain ⟨g, c9, rfl, _, _, hcell⟩ := own_some ho.1 (by omega)
  clear ho c0 c1 c2 c3
  go_wp2_with (at_builtin; refine wpList_append_own _ rfl _ _ 26 rfl w1.heap.size 5 i0 (.int .u8 0) 1 1 Try.underlying26 hi hz0 hz1 hz2 rfl (by decide) (.slice (some ⟨A3, 0, none⟩) (B2).length C3) (B2).length ((B2).map (Value.int .u8)) rfl Q.out.1 ⟨g, 0, none⟩ (Pk.num l).length c9 ((Pk.num l).map (Value.int .u8)) rfl (by simp) hcell (ones8 _) (by unfold maxLen; first | omega | (simp only [List.length_append]; omega)) (by first | omega | (simp only [List.length_append]; omega)) Q.out.2.size ?_; intro v3 w3 hown hgrow _; have P := Lib.hid (show Row w1 w3 v3 (B2 ++ Pk.num l) from ⟨by rw [List.length_append, List.map_append]; exact hown, Q.out.2.grown hgrow Q.out.2.size (own_block Q.out.1)⟩); clear hown hgrow; obtain ⟨-, ⟨c0, c1, c2, c3⟩, -⟩ := V1.out.below P.out.2)
  obtain ⟨B3, hB3⟩ : ∃ X, B2 ++ Pk.num l = X := ⟨_, rfl⟩
  have LB3 : 1 ≤ B3.length ∧ B3.length ≤ 30 := by rw [← hB3, List.length_append]; omega
  rw [hB3] at P
  have HB3 := Lib.hid hB3
  clear hB3
  refine (number_any (n : Int) (by unfold Pk.I64; omega) _).mono ?_; rintro e u4 ⟨y4, rfl, ho⟩
  obtain ⟨A4, C4, rfl, -⟩ := own_some P.out.1 (by first | omega | (simp only [List.length_append]; omega))
  have Q := Lib.hid (P.out.below ho.2)
  have l4 := Pk.num_len (n : Int)
  obtain ⟨g, c9, rfl, _, _, hcell⟩ := own_some ho.1 (by omega)
  clear ho c0 c1 c2 c3
  go_wp2_with (at_builtin; refine wpList_append_own _ rfl _ _ 26 rfl w1.heap.size 5 i0 (.int .u8 0) 1 1 Try.underlying26 hi hz0 hz1 hz2 rfl (by decide) (.slice (some ⟨A4, 0, none⟩) (B3).length C4) (B3).length ((B3).map (Value.int .u8)) rfl Q.out.1 ⟨g, 0, none⟩ (Pk.num (n : Int)).length c9 ((Pk.num (n : Int)).map (Value.int .u8)) rfl (by simp) hcell (ones8 _) (by unfold maxLen; first | omega | (simp only [List.length_append]; omega)) (by first | omega | (simp only [List.length_append]; omega)) Q.out.2.size ?_; intro v4 w4 hown hgrow _; have P := Lib.hid (show Row w1 w4 v4 (B3 ++ Pk.num (n : Int)) from ⟨by rw [List.length_append, List.map_append]; exact hown, Q.out.2.grown hgrow Q.out.2.size (own_block Q.out.1)⟩); clear hown hgrow; obtain ⟨-, ⟨c0, c1, c2, c3⟩, -⟩ := V1.out.below P.out.2)
  obtain ⟨BS, hBS⟩ : ∃ X, B3 ++ Pk.num (n : Int) = X := ⟨_, rfl⟩
  have LBS : 1 ≤ BS.length ∧ BS.length ≤ 40 := by rw [← hBS, List.length_append]; omega
  rw [hBS] at P
  have HBS := Lib.hid hBS
  clear hBS
  have hBL : BS.length ≤ 40 := by omega
  have hBL1 : 1 ≤ BS.length := by omega
  clear l1 l2 l3 l4 LB2 LB3 LBS
  have P0 := Lib.hid (show Row w1 w4 v4 (BS ++ (ns.take 0).flatMap Pk.num) by simpa using P.out)
  clear P c0 c1 c2 c3
  go_loopw [3, 4] (fun o iv wr => ∃ (i : Nat), iv = .int .i64 i ∧ i ≤ n ∧ Hid (Row w1 wr o (BS ++ (ns.take i).flatMap Pk.num))) (fun _ iv _ => n - (RowKit.intOf iv).toNat)
  case atStart => exact ⟨0, rfl, Nat.zero_le _, P0.out⟩
  case round =>
    clear P0
    obtain ⟨i, rfl, hin, P⟩ := hrel
    obtain ⟨-, ⟨c0, c1, c2, c3⟩, -⟩ := V1.out.below P.out.2
    have R := Lib.hid (R1.out.below P.out.2)
    by_cases hlt : i < n
    · have hltz : (i : Int) < (n : Int) := by omega
      obtain ⟨xb, xo, rfl, _, rx⟩ := R.out.2 i hlt
      have HX := Lib.hid (HO.out.2.2.2 (ns.getD i 0) (by
        rw [List.getD_eq_getElem?_getD, List.getElem?_eq_getElem (by rw [HL.out]; exact hlt)]
        exact List.getElem_mem _))
      have HS := Lib.hid (flat_succ (ns := ns) (i := i) (by rw [HL.out]; exact hlt))
      have hfl : ((ns.take i).flatMap Pk.num).length ≤ 10000 := by have := flat_len (ns.take i); have := List.length_take_le i ns; omega
      generalize ns.getD i 0 = x at *
      obtain ⟨BI, hBI⟩ : ∃ X, BS ++ (ns.take i).flatMap Pk.num = X := ⟨_, rfl⟩
      have LBI : 1 ≤ BI.length ∧ BI.length ≤ 10040 := by rw [← hBI, List.length_append]; omega
      rw [hBI] at P
      have HBI := Lib.hid hBI
      clear hBI
      go_wp2_with fail
      refine (number_any x (HX.out) _).mono ?_; rintro e u7 ⟨y7, rfl, ho⟩
      obtain ⟨A7, C7, rfl, -⟩ := own_some P.out.1 (by first | omega | (simp only [List.length_append]; omega))
      have Q := Lib.hid (P.out.below ho.2)
      have l7 := Pk.num_len x
      obtain ⟨g, c9, rfl, _, _, hcell⟩ := own_some ho.1 (by omega)
      clear ho c0 c1 c2 c3 rx
      go_wp2_with (at_builtin; refine wpList_append_own _ rfl _ _ 26 rfl w1.heap.size 5 i0 (.int .u8 0) 1 1 Try.underlying26 hi hz0 hz1 hz2 rfl (by decide) (.slice (some ⟨A7, 0, none⟩) (BI).length C7) (BI).length ((BI).map (Value.int .u8)) rfl Q.out.1 ⟨g, 0, none⟩ (Pk.num x).length c9 ((Pk.num x).map (Value.int .u8)) rfl (by simp) hcell (ones8 _) (by unfold maxLen; first | omega | (simp only [List.length_append]; omega)) (by first | omega | (simp only [List.length_append]; omega)) Q.out.2.size ?_; intro v7 w7 hown hgrow _; have P := Lib.hid (show Row w1 w7 v7 (BI ++ Pk.num x) from ⟨by rw [List.length_append, List.map_append]; exact hown, Q.out.2.grown hgrow Q.out.2.size (own_block Q.out.1)⟩); clear hown hgrow; obtain ⟨-, ⟨c0, c1, c2, c3⟩, -⟩ := V1.out.below P.out.2)
      exact ⟨⟨i + 1, by go_num, by omega, by rw [HS.out, ← List.append_assoc, HBI.out]; exact P.out⟩, by simp [RowKit.intOf]; omega⟩
    · obtain rfl : i = n := by omega
      go_wp2_with fail
      go_ret
      refine ⟨_, rfl, ?_⟩
      have e1 : (ns.take i).flatMap Pk.num = ns.flatMap Pk.num := by rw [List.take_of_length_le (by rw [HL.out]; exact Nat.le_refl _)]
      have e2 : BS ++ (ns.take i).flatMap Pk.num = Pk.cb k key l ns := by rw [e1, ← HBS.out, ← HB3.out, ← HB2.out]; unfold Pk.cb; rw [HL.out]; simp only [List.append_assoc]
      have P' := P.out
      rw [e2] at P'
      exact ⟨own_lower P'.1 B0.out.size, B0.out.trans (P'.2.mono B0.out.size)⟩
end Go.Proofs.Ytbobaappilploaa
