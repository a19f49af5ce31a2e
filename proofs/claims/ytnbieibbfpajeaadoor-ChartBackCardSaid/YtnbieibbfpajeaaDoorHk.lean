/- ChartBack. -/
import Derived.Test.YtnbieibbfpajeaaDoorHl
import Derived.Deep.CutRange
namespace Go.Proofs.YtnbieibbfpajeaaDoor
open Go.ChangeShapes Go.WideShapes Go.ChangeAt Go.RowKit Go.Lib

theorem less_of (k o j p : Int) (b : Bool) (h : decide (Hp.lt k o j p) = b) (w : World) : Calls Tryd.prog 15 #[acv k o, acv j p] w fun e w' => e = .returned (.bool b) ∧ Below w.heap.size w w' := by
  have h2 := cless k o j p w
  rw [h] at h2; exact h2
theorem eqN1 (w : World) : (binOp .eql 27 (vErr 1) .nilIface).run Tryd.prog w = .ok (.bool false) w := by kernel_rfl
theorem eqN2 (w : World) : (binOp .eql 27 (vErr 2) .nilIface).run Tryd.prog w = .ok (.bool false) w := by kernel_rfl
theorem eqNN (w : World) : (binOp .eql 27 .nilIface .nilIface).run Tryd.prog w = .ok (.bool true) w := by kernel_rfl
theorem guN (v : Value) (hv : v = .nilIface ∨ ∃ k, v = vErr k) (x : Operand) (w : World) : (eqGuard .eql 27 x (.const .nilIface) v .nilIface).run Tryd.prog w = .ok () w := by
  rcases hv with rfl | ⟨k, rfl⟩ <;> cases x <;> rfl
/-- Name, whether there is that account or not -/
theorem cname_both (k o : Int) (w : World) (hL : Laid w) : Calls Tryd.prog 9 #[acv k o] w fun e w' => ∃ (s : ByteArray) (er : Value) (m : Bool), e = .returned (.tuple #[.string s, er]) ∧ (∀ w, (binOp .eql 27 er .nilIface).run Tryd.prog w = .ok (.bool m) w) ∧ (∀ x w, (eqGuard .eql 27 x (.const .nilIface) er .nilIface).run Tryd.prog w = .ok () w) ∧ Hid ((m = true ∧ er = .nilIface ∧ ∃ K O : Nat, k = K ∧ o = O ∧ Hp.May k o ∧ s = strOfNums (Hp.name K O)) ∨ (m = false ∧ er = vErr 1)) ∧ Below w.heap.size w w' := by
  by_cases hm : Hp.May k o
  · obtain ⟨J, rfl⟩ : ∃ J : Nat, k = (J : Int) + 1 := ⟨(k - 1).toNat, by unfold Hp.May at hm; omega⟩
    obtain ⟨O, rfl⟩ : ∃ O : Nat, o = O := ⟨o.toNat, by unfold Hp.May at hm; omega⟩
    exact (cname_yes J O hm w hL).mono fun e w' h => ⟨_, _, true, h.1, eqNN, guN _ (.inl rfl), Lib.hid (.inl ⟨rfl, rfl, J + 1, O, by push_cast; rfl, rfl, hm, rfl⟩), h.2⟩
  · exact (cname_no k o hm w hL).mono fun e w' h => ⟨_, _, false, h.1, eqN1, guN _ (.inr ⟨1, rfl⟩), Lib.hid (.inr ⟨rfl, rfl⟩), h.2⟩
/-- Parse, whether it is a name or not -/
theorem cparse_both (bs : List Int) (hb : ∀ x ∈ bs, 0 ≤ x ∧ x < 256) (hn : bs.length ≤ 2000) (w : World) (hL : Laid w) : Calls Tryd.prog 13 #[.string (strOfNums bs)] w fun e w' => ∃ (k o : Int) (er : Value) (m : Bool), e = .returned (.tuple #[acv k o, er]) ∧ (∀ w, (binOp .eql 27 er .nilIface).run Tryd.prog w = .ok (.bool m) w) ∧ (∀ x w, (eqGuard .eql 27 x (.const .nilIface) er .nilIface).run Tryd.prog w = .ok () w) ∧ Hid ((m = true ∧ er = .nilIface ∧ ∃ K O : Nat, k = K ∧ o = O ∧ Hp.Is bs K O) ∨ (m = false ∧ er = vErr 2)) ∧ Below w.heap.size w w' := by
  refine (cparse_any bs hb hn w hL).mono fun e w' h => ?_
  obtain ⟨⟨k, o, hi, rfl⟩ | ⟨hno, rfl⟩, hb⟩ := h
  · exact ⟨_, _, _, true, rfl, eqNN, guN _ (.inl rfl), Lib.hid (.inl ⟨rfl, rfl, k, o, rfl, rfl, hi⟩), hb⟩
  · exact ⟨_, _, _, false, rfl, eqN2, guN _ (.inr ⟨2, rfl⟩), Lib.hid (.inr ⟨rfl, rfl⟩), hb⟩
/-- both accounts stand, and nothing of before has turned -/
def BK (w wx : World) (k o j p : Int) : Prop := AV wx w.heap.size k o ∧ AV wx (w.heap.size + 1) j p ∧ Below w.heap.size w wx
theorem BK.below {w wx wy : World} {k o j p : Int} (h : BK w wx k o j p) (hb : Below wx.heap.size wx wy) : BK w wy k o j p := ⟨h.1.below hb, h.2.1.below hb, h.2.2.trans (hb.mono h.2.2.size)⟩
theorem BK.start (w : World) (t : TypeId) (k o j p : Int) : BK w ((w.alloc (.cells #[.int .i64 k, .int .i64 o] t)).alloc (.cells #[.int .i64 j, .int .i64 p] t)) k o j p :=
  ⟨(AV.new w t k o).below (alloc_below _ _), by simpa using AV.new (w.alloc (.cells #[.int .i64 k, .int .i64 o] t)) t j p, (alloc_below w _).alloc (alloc_below w _).size _⟩
set_option maxRecDepth 100000 in
set_option maxHeartbeats 2000000 in
theorem back_less (k o j p : Int) (hk : k < j) (bs : List Int) (hb : ∀ x ∈ bs, 0 ≤ x ∧ x < 256) (w : World) (hL : Laid w) : Calls Tryd.prog 5 #[acv k o, acv j p, .string (strOfNums bs)] w fun e w' => e = .returned (.bool true) ∧ Below w.heap.size w w' := by
  have HL := Lib.hid hL
  clear hL
  have LAB := Lib.hid (fun w => less_of k o j p true (decide_eq_true (by unfold Hp.lt; omega)) w)
  have LBA := Lib.hid (fun w => less_of j p k o false (decide_eq_false (by unfold Hp.lt; omega)) w)
  obtain ⟨N, hN⟩ : ∃ N, bs.length = N := ⟨_, rfl⟩
  have hz : (strOfNums bs).size = N := by rw [strOfNums_size, hN]
  have HB := Lib.hid hb
  have HN := Lib.hid hN
  clear hb hN
  have V := Lib.hid (BK.start w 23 k o j p)
  go_enter Tryd.func5, Tryd.ntmps5
  go_wp2_with fail
  generalize (w.alloc (.cells #[.int .i64 k, .int .i64 o] 23)).alloc (.cells #[.int .i64 j, .int .i64 p] 23) = w2 at *
  refine (up_any _ (by first | exact HL.out.below B.out | exact HL.out.below V.out.2.2 | exact HL.out)).mono ?_; rintro e w3 ⟨rfl, hb⟩
  have V := Lib.hid (V.out.below hb)
  clear hb
  by_cases hl : 1000 < N
  · have hlz : (1000 : Int) < (N : Int) := by omega
    go_wp2_with fail
    go_ret
    exact ⟨by simp, V.out.2.2⟩
  have hlz : ¬ (1000 : Int) < (N : Int) := by omega
  have HP := Lib.hid (fun w h => cparse_both bs HB.out (by rw [HN.out]; omega) w h)
  obtain ⟨⟨-, ⟨a0, a1⟩, -⟩, ⟨-, ⟨b0, b1⟩, -⟩, -⟩ := V.out
  go_wp2_with fail
  refine (cname_both k o _ (by first | exact HL.out.below B.out | exact HL.out.below V.out.2.2 | exact HL.out)).mono ?_; rintro e w4 ⟨s, er, m, rfl, q, qg, hcase, hb⟩
  have V := Lib.hid (V.out.below hb)
  clear hb a0 a1 b0 b1
  go_upto_if 27 with fail
  go_cut [] from 10 to 86 (fun wx => BK w wx k o j p)
  case first =>
    rcases hcase.out with ⟨rfl, rfl, K, O, rfl, rfl, hm, rfl⟩ | ⟨rfl, rfl⟩
    · have HM := Lib.hid hm
      clear hm
      go_wp2_with fail
      refine (cparse_any (Hp.name K O) (Hp.name_bytes K O) (by have := Hp.name_len (k := K) (o := O) (by have := HM.out; unfold Hp.May at this; omega) (by have := HM.out; unfold Hp.May at this; omega) (by have := HM.out; unfold Hp.May at this; omega); omega) _ (by first | exact HL.out.below B.out | exact HL.out.below V.out.2.2 | exact HL.out)).mono ?_
      rintro e w5 ⟨⟨k', o', hi, rfl⟩ | ⟨hno, _⟩, hb⟩
      · obtain ⟨rfl, rfl⟩ := Hp.is_unique (show Hp.Is (Hp.name K O) K O from ⟨HM.out, rfl⟩) hi
        have V := Lib.hid (V.out.below hb)
        have V2 := Lib.hid (V.out.below (alloc_below w5 (.cells #[.int .i64 K, .int .i64 O] 23)))
        have A := Lib.hid (AV.new w5 23 K O)
        clear hb hi
        obtain ⟨⟨-, ⟨a0, a1⟩, -⟩, ⟨-, ⟨b0, b1⟩, -⟩, -⟩ := V2.out
        obtain ⟨-, ⟨c0, c1⟩, -⟩ := A.out
        go_wp2_with fail
        go_meet
        exact V2.out
      · exact absurd (show Hp.Is (Hp.name K O) K O from ⟨HM.out, rfl⟩) (hno K O)
    · go_wp2_with fail
      go_meet
      exact V.out
  case rest =>
    clear V hcase q qg
    have V := Lib.hid hcut
    clear hcut
    go_wp2_with fail
    refine (HP.out _ (by first | exact HL.out.below B.out | exact HL.out.below V.out.2.2 | exact HL.out)).mono ?_; rintro e w6 ⟨k2, o2, er2, m2, rfl, q, qg, hcase, hb⟩
    have V := Lib.hid (V.out.below hb)
    have V := Lib.hid (V.out.below (alloc_below w6 (.cells #[.int .i64 k2, .int .i64 o2] 23)))
    have A := Lib.hid (AV.new w6 23 k2 o2)
    clear hb
    go_upto_if 46 with fail
    generalize w6.alloc (.cells #[.int .i64 k2, .int .i64 o2] 23) = w7 at *
    go_cut [] from 10 to 86 (fun wx => BK w wx k o j p)
    case first =>
      rcases hcase.out with ⟨rfl, rfl, K, O, rfl, rfl, hi⟩ | ⟨rfl, rfl⟩
      · have HI := Lib.hid hi
        clear hi
        obtain ⟨-, ⟨c0, c1⟩, -⟩ := A.out
        go_wp2_with fail
        obtain ⟨J, rfl⟩ : ∃ J : Nat, K = J + 1 := ⟨K - 1, by have := (Hp.may_kind HI.out.1).1; omega⟩
        have HC := cname_yes J O (by have := HI.out.1; push_cast at this; exact this)
        rw [← HI.out.2] at HC
        refine (HC _ (by first | exact HL.out.below B.out | exact HL.out.below V.out.2.2 | exact HL.out)).mono ?_; rintro e w8 ⟨rfl, hb⟩
        have V := Lib.hid (V.out.below hb)
        clear hb
        go_wp2_with fail
        go_meet
        exact V.out
      · go_wp2_with fail
        go_meet
        exact V.out
    case rest =>
      clear V hcase q qg A
      have V := Lib.hid hcut
      clear hcut
      obtain ⟨⟨-, ⟨a0, a1⟩, -⟩, ⟨-, ⟨b0, b1⟩, -⟩, -⟩ := V.out
      have e1 : (k == j) = false := by simp; omega
      go_wp2_with fail
      have V0 := Lib.hid V.out
      have HW := Lib.hid (Below.refl wc.heap.size wc).drew
      refine wp_region_held_drew (S := fun w' => w'.cell? ⟨w.heap.size, 0, none⟩ = some (.int .i64 k) ∧ w'.cell? ⟨w.heap.size, 1, none⟩ = some (.int .i64 o) ∧ w'.cell? ⟨w.heap.size + 1, 0, none⟩ = some (.int .i64 j) ∧ w'.cell? ⟨w.heap.size + 1, 1, none⟩ = some (.int .i64 p)) (by kernel_rfl) ?_ (fun hHeld => ?_)
      · exact ⟨a0, a1, b0, b1⟩
      refine wpAnyH_take (i := 0) (v := ?_) rfl (by kernel_rfl) (by kernel_rfl) (by kernel_rfl) (fun _ _ _ h => h) (Or.inl ⟨by rfl, ?_⟩) (by assumption) ?_
      rotate_left 1
      · (intro w hSw; (try dsimp only at hSw); go_simp; try with_reducible rfl)
      try simp only [List.getElem_toArray, List.getElem_cons_zero, Act.put, List.setIfInBounds_toArray, List.set_cons_zero, List.set_cons_succ]
      refine wpAnyH_take (i := 1) (v := ?_) rfl (by kernel_rfl) (by kernel_rfl) (by kernel_rfl) (fun _ _ _ h => h) (Or.inl ⟨by rfl, ?_⟩) (by assumption) ?_
      rotate_left 1
      · (intro w hSw; (try dsimp only at hSw); go_simp; try with_reducible rfl)
      try simp only [List.getElem_toArray, List.getElem_cons_succ, List.getElem_cons_zero, Act.put, List.setIfInBounds_toArray, List.set_cons_zero, List.set_cons_succ]
      refine wpAnyH_take (i := 2) (v := ?_) rfl (by kernel_rfl) (by kernel_rfl) (by kernel_rfl) (fun _ _ _ h => h) (Or.inl ⟨by rfl, ?_⟩) (by assumption) ?_
      rotate_left 1
      · (intro w hSw; (try dsimp only at hSw); go_simp; try with_reducible rfl)
      try simp only [List.getElem_toArray, List.getElem_cons_succ, List.getElem_cons_zero, Act.put, List.setIfInBounds_toArray, List.set_cons_zero, List.set_cons_succ]
      refine wpAnyH_take (i := 3) (v := ?_) rfl (by kernel_rfl) (by kernel_rfl) (by kernel_rfl) (fun _ _ _ h => h) (Or.inl ⟨by rfl, ?_⟩) (by assumption) ?_
      rotate_left 1
      · (intro w hSw; (try dsimp only at hSw); go_simp; try with_reducible rfl)
      try simp only [List.getElem_toArray, List.getElem_cons_succ, List.getElem_cons_zero, Act.put, List.setIfInBounds_toArray, List.set_cons_zero, List.set_cons_succ]
      refine wpAnyH_take (i := 4) (v := ?_) rfl (by kernel_rfl) (by kernel_rfl) (by kernel_rfl) (fun _ _ _ h => h) (Or.inl ⟨by rfl, ?_⟩) (by assumption) ?_
      rotate_left 1
      · (intro w hSw; (try dsimp only at hSw); go_simp; try with_reducible rfl)
      try simp only [List.getElem_toArray, List.getElem_cons_succ, List.getElem_cons_zero, Act.put, List.setIfInBounds_toArray, List.set_cons_zero, List.set_cons_succ]
      refine wpAnyH_take (i := 5) (v := ?_) rfl (by kernel_rfl) (by kernel_rfl) (by kernel_rfl) (fun _ _ _ h => h) (Or.inl ⟨by rfl, ?_⟩) (by assumption) ?_
      rotate_left 1
      · (intro w hSw; (try dsimp only at hSw); go_simp; try with_reducible rfl)
      try simp only [List.getElem_toArray, List.getElem_cons_succ, List.getElem_cons_zero, Act.put, List.setIfInBounds_toArray, List.set_cons_zero, List.set_cons_succ]
      refine wpAnyH_take (i := 6) (v := ?_) rfl (by kernel_rfl) (by kernel_rfl) (by kernel_rfl) (fun _ _ _ h => h) (Or.inl ⟨by rfl, ?_⟩) (by assumption) ?_
      rotate_left 1
      · (intro w hSw; (try dsimp only at hSw); go_simp; try with_reducible rfl)
      try simp only [List.getElem_toArray, List.getElem_cons_succ, List.getElem_cons_zero, Act.put, List.setIfInBounds_toArray, List.set_cons_zero, List.set_cons_succ]
      refine wpAnyH_ready (rs := [7]) (by kernel_rfl) (by simp) ?_
      refine AllReadyH.cons rfl (fun K hK => ?_) AllReadyH.nil
      go_simp
      refine (LAB.out _).mono ?_; rintro e wq ⟨rfl, hb0⟩; have hb := (show Below wc.heap.size wc _ from HW.out).trans (hb0.mono HW.out.size); have HW := Lib.hid hb; have V := Lib.hid (V0.out.below hb); obtain ⟨⟨-, ⟨a0, a1⟩, -⟩, ⟨-, ⟨b0, b1⟩, -⟩, -⟩ := V.out; clear hb hb0; dsimp only
      refine hK.out _ _ ?_ (fun hHeld => ?_)
      · exact ⟨a0, a1, b0, b1⟩
      clear hK K
      try simp only [List.getElem_toArray, List.getElem_cons_succ, List.getElem_cons_zero, Act.put, List.setIfInBounds_toArray, List.set_cons_zero, List.set_cons_succ]
      refine wpAnyH_take (i := 8) (v := ?_) rfl (by kernel_rfl) (by kernel_rfl) (by kernel_rfl) (fun _ _ _ h => h) (Or.inl ⟨by rfl, ?_⟩) (by assumption) ?_
      rotate_left 1
      · (intro w hSw; (try dsimp only at hSw); go_simp; try with_reducible rfl)
      try simp only [List.getElem_toArray, List.getElem_cons_succ, List.getElem_cons_zero, Act.put, List.setIfInBounds_toArray, List.set_cons_zero, List.set_cons_succ]
      refine wpAnyH_take (i := 9) (v := ?_) rfl (by kernel_rfl) (by kernel_rfl) (by kernel_rfl) (fun _ _ _ h => h) (Or.inl ⟨by rfl, ?_⟩) (by assumption) ?_
      rotate_left 1
      · (intro w hSw; (try dsimp only at hSw); go_simp; try with_reducible rfl)
      try simp only [List.getElem_toArray, List.getElem_cons_succ, List.getElem_cons_zero, Act.put, List.setIfInBounds_toArray, List.set_cons_zero, List.set_cons_succ]
      refine wpAnyH_take (i := 10) (v := undef) rfl (by kernel_rfl) (by kernel_rfl) (by kernel_rfl) (fun _ _ _ h => h) (Or.inr ⟨by rfl, rfl⟩) (by assumption) ?_
      try simp only [List.getElem_toArray, List.getElem_cons_succ, List.getElem_cons_zero, Act.put, List.setIfInBounds_toArray, List.set_cons_zero, List.set_cons_succ]
      refine wpAnyH_take (i := 11) (v := undef) rfl (by kernel_rfl) (by kernel_rfl) (by kernel_rfl) (fun _ _ _ h => h) (Or.inr ⟨by rfl, rfl⟩) (by assumption) ?_
      try simp only [List.getElem_toArray, List.getElem_cons_succ, List.getElem_cons_zero, Act.put, List.setIfInBounds_toArray, List.set_cons_zero, List.set_cons_succ]
      refine wpAnyH_take (i := 12) (v := undef) rfl (by kernel_rfl) (by kernel_rfl) (by kernel_rfl) (fun _ _ _ h => h) (Or.inr ⟨by rfl, rfl⟩) (by assumption) ?_
      try simp only [List.getElem_toArray, List.getElem_cons_succ, List.getElem_cons_zero, Act.put, List.setIfInBounds_toArray, List.set_cons_zero, List.set_cons_succ]
      refine wpAnyH_take (i := 13) (v := undef) rfl (by kernel_rfl) (by kernel_rfl) (by kernel_rfl) (fun _ _ _ h => h) (Or.inr ⟨by rfl, rfl⟩) (by assumption) ?_
      try simp only [List.getElem_toArray, List.getElem_cons_succ, List.getElem_cons_zero, Act.put, List.setIfInBounds_toArray, List.set_cons_zero, List.set_cons_succ]
      refine wpAnyH_take (i := 14) (v := ?_) rfl (by kernel_rfl) (by kernel_rfl) (by kernel_rfl) (fun _ _ _ h => h) (Or.inl ⟨by rfl, ?_⟩) (by assumption) ?_
      rotate_left 1
      · (intro w hSw; (try dsimp only at hSw); go_simp; try with_reducible rfl)
      try simp only [List.getElem_toArray, List.getElem_cons_succ, List.getElem_cons_zero, Act.put, List.setIfInBounds_toArray, List.set_cons_zero, List.set_cons_succ]
      refine wpAnyH_take (i := 15) (v := ?_) rfl (by kernel_rfl) (by kernel_rfl) (by kernel_rfl) (fun _ _ _ h => h) (Or.inl ⟨by rfl, ?_⟩) (by assumption) ?_
      rotate_left 1
      · (intro w hSw; (try dsimp only at hSw); go_simp; try with_reducible rfl)
      try simp only [List.getElem_toArray, List.getElem_cons_succ, List.getElem_cons_zero, Act.put, List.setIfInBounds_toArray, List.set_cons_zero, List.set_cons_succ]
      refine wpAnyH_take (i := 16) (v := ?_) rfl (by kernel_rfl) (by kernel_rfl) (by kernel_rfl) (fun _ _ _ h => h) (Or.inl ⟨by rfl, ?_⟩) (by assumption) ?_
      rotate_left 1
      · (intro w hSw; (try dsimp only at hSw); go_simp; try with_reducible rfl)
      try simp only [List.getElem_toArray, List.getElem_cons_succ, List.getElem_cons_zero, Act.put, List.setIfInBounds_toArray, List.set_cons_zero, List.set_cons_succ]
      refine wpAnyH_take (i := 17) (v := ?_) rfl (by kernel_rfl) (by kernel_rfl) (by kernel_rfl) (fun _ _ _ h => h) (Or.inl ⟨by rfl, ?_⟩) (by assumption) ?_
      rotate_left 1
      · (intro w hSw; (try dsimp only at hSw); go_simp; try with_reducible rfl)
      try simp only [List.getElem_toArray, List.getElem_cons_succ, List.getElem_cons_zero, Act.put, List.setIfInBounds_toArray, List.set_cons_zero, List.set_cons_succ]
      refine wpAnyH_take (i := 18) (v := ?_) rfl (by kernel_rfl) (by kernel_rfl) (by kernel_rfl) (fun _ _ _ h => h) (Or.inl ⟨by rfl, ?_⟩) (by assumption) ?_
      rotate_left 1
      · (intro w hSw; (try dsimp only at hSw); go_simp; try with_reducible rfl)
      try simp only [List.getElem_toArray, List.getElem_cons_succ, List.getElem_cons_zero, Act.put, List.setIfInBounds_toArray, List.set_cons_zero, List.set_cons_succ]
      refine wpAnyH_take (i := 19) (v := ?_) rfl (by kernel_rfl) (by kernel_rfl) (by kernel_rfl) (fun _ _ _ h => h) (Or.inl ⟨by rfl, ?_⟩) (by assumption) ?_
      rotate_left 1
      · (intro w hSw; (try dsimp only at hSw); go_simp; try with_reducible rfl)
      try simp only [List.getElem_toArray, List.getElem_cons_succ, List.getElem_cons_zero, Act.put, List.setIfInBounds_toArray, List.set_cons_zero, List.set_cons_succ]
      refine wpAnyH_ready (rs := [20]) (by kernel_rfl) (by simp) ?_
      refine AllReadyH.cons rfl (fun K hK => ?_) AllReadyH.nil
      go_simp
      refine (LAB.out _).mono ?_; rintro e wq ⟨rfl, hb0⟩; have hb := (show Below wc.heap.size wc _ from HW.out).trans (hb0.mono HW.out.size); have HW := Lib.hid hb; have V := Lib.hid (V0.out.below hb); obtain ⟨⟨-, ⟨a0, a1⟩, -⟩, ⟨-, ⟨b0, b1⟩, -⟩, -⟩ := V.out; clear hb hb0; dsimp only
      refine hK.out _ _ ?_ (fun hHeld => ?_)
      · exact ⟨a0, a1, b0, b1⟩
      clear hK K
      try simp only [List.getElem_toArray, List.getElem_cons_succ, List.getElem_cons_zero, Act.put, List.setIfInBounds_toArray, List.set_cons_zero, List.set_cons_succ]
      refine wpAnyH_take (i := 21) (v := ?_) rfl (by kernel_rfl) (by kernel_rfl) (by kernel_rfl) (fun _ _ _ h => h) (Or.inl ⟨by rfl, ?_⟩) (by assumption) ?_
      rotate_left 1
      · (intro w hSw; (try dsimp only at hSw); go_simp; try with_reducible rfl)
      try simp only [List.getElem_toArray, List.getElem_cons_succ, List.getElem_cons_zero, Act.put, List.setIfInBounds_toArray, List.set_cons_zero, List.set_cons_succ]
      refine wpAnyH_take (i := 22) (v := ?_) rfl (by kernel_rfl) (by kernel_rfl) (by kernel_rfl) (fun _ _ _ h => h) (Or.inl ⟨by rfl, ?_⟩) (by assumption) ?_
      rotate_left 1
      · (intro w hSw; (try dsimp only at hSw); go_simp; try with_reducible rfl)
      try simp only [List.getElem_toArray, List.getElem_cons_succ, List.getElem_cons_zero, Act.put, List.setIfInBounds_toArray, List.set_cons_zero, List.set_cons_succ]
      refine wpAnyH_take (i := 23) (v := ?_) rfl (by kernel_rfl) (by kernel_rfl) (by kernel_rfl) (fun _ _ _ h => h) (Or.inl ⟨by rfl, ?_⟩) (by assumption) ?_
      rotate_left 1
      · (intro w hSw; (try dsimp only at hSw); go_simp; try with_reducible rfl)
      try simp only [List.getElem_toArray, List.getElem_cons_succ, List.getElem_cons_zero, Act.put, List.setIfInBounds_toArray, List.set_cons_zero, List.set_cons_succ]
      refine wpAnyH_ready (rs := [24]) (by kernel_rfl) (by simp) ?_
      refine AllReadyH.cons rfl (fun K hK => ?_) AllReadyH.nil
      go_simp
      refine (LBA.out _).mono ?_; rintro e wq ⟨rfl, hb0⟩; have hb := (show Below wc.heap.size wc _ from HW.out).trans (hb0.mono HW.out.size); have HW := Lib.hid hb; have V := Lib.hid (V0.out.below hb); obtain ⟨⟨-, ⟨a0, a1⟩, -⟩, ⟨-, ⟨b0, b1⟩, -⟩, -⟩ := V.out; clear hb hb0; dsimp only
      refine hK.out _ _ ?_ (fun hHeld => ?_)
      · exact ⟨a0, a1, b0, b1⟩
      clear hK K
      try simp only [List.getElem_toArray, List.getElem_cons_succ, List.getElem_cons_zero, Act.put, List.setIfInBounds_toArray, List.set_cons_zero, List.set_cons_succ]
      refine wpAnyH_take (i := 25) (v := ?_) rfl (by kernel_rfl) (by kernel_rfl) (by kernel_rfl) (fun _ _ _ h => h) (Or.inl ⟨by rfl, ?_⟩) (by assumption) ?_
      rotate_left 1
      · (intro w hSw; (try dsimp only at hSw); go_simp; try with_reducible rfl)
      try simp only [List.getElem_toArray, List.getElem_cons_succ, List.getElem_cons_zero, Act.put, List.setIfInBounds_toArray, List.set_cons_zero, List.set_cons_succ]
      refine wpAnyH_take (i := 26) (v := ?_) rfl (by kernel_rfl) (by kernel_rfl) (by kernel_rfl) (fun _ _ _ h => h) (Or.inl ⟨by rfl, ?_⟩) (by assumption) ?_
      rotate_left 1
      · (intro w hSw; (try dsimp only at hSw); go_simp; try with_reducible rfl)
      try simp only [List.getElem_toArray, List.getElem_cons_succ, List.getElem_cons_zero, Act.put, List.setIfInBounds_toArray, List.set_cons_zero, List.set_cons_succ]
      refine wpAnyH_take (i := 27) (v := ?_) rfl (by kernel_rfl) (by kernel_rfl) (by kernel_rfl) (fun _ _ _ h => h) (Or.inl ⟨by rfl, ?_⟩) (by assumption) ?_
      rotate_left 1
      · (intro w hSw; (try dsimp only at hSw); go_simp; try with_reducible rfl)
      try simp only [List.getElem_toArray, List.getElem_cons_succ, List.getElem_cons_zero, Act.put, List.setIfInBounds_toArray, List.set_cons_zero, List.set_cons_succ]
      refine wpAnyH_take (i := 28) (v := ?_) rfl (by kernel_rfl) (by kernel_rfl) (by kernel_rfl) (fun _ _ _ h => h) (Or.inl ⟨by rfl, ?_⟩) (by assumption) ?_
      rotate_left 1
      · (intro w hSw; (try dsimp only at hSw); go_simp; try with_reducible rfl)
      try simp only [List.getElem_toArray, List.getElem_cons_succ, List.getElem_cons_zero, Act.put, List.setIfInBounds_toArray, List.set_cons_zero, List.set_cons_succ]
      refine wpAnyH_done (by kernel_rfl) ?_ _
      go_wp2_with fail
      go_ret
      exact ⟨by simp, V.out.2.2⟩
set_option maxRecDepth 100000 in
set_option maxHeartbeats 2000000 in
theorem back_more (k o j p : Int) (hk : j < k) (bs : List Int) (hb : ∀ x ∈ bs, 0 ≤ x ∧ x < 256) (w : World) (hL : Laid w) : Calls Tryd.prog 5 #[acv k o, acv j p, .string (strOfNums bs)] w fun e w' => e = .returned (.bool true) ∧ Below w.heap.size w w' := by
  have HL := Lib.hid hL
  clear hL
  have LAB := Lib.hid (fun w => less_of k o j p false (decide_eq_false (by unfold Hp.lt; omega)) w)
  have LBA := Lib.hid (fun w => less_of j p k o true (decide_eq_true (by unfold Hp.lt; omega)) w)
  obtain ⟨N, hN⟩ : ∃ N, bs.length = N := ⟨_, rfl⟩
  have hz : (strOfNums bs).size = N := by rw [strOfNums_size, hN]
  have HB := Lib.hid hb
  have HN := Lib.hid hN
  clear hb hN
  have V := Lib.hid (BK.start w 23 k o j p)
  go_enter Tryd.func5, Tryd.ntmps5
  go_wp2_with fail
  generalize (w.alloc (.cells #[.int .i64 k, .int .i64 o] 23)).alloc (.cells #[.int .i64 j, .int .i64 p] 23) = w2 at *
  refine (up_any _ (by first | exact HL.out.below B.out | exact HL.out.below V.out.2.2 | exact HL.out)).mono ?_; rintro e w3 ⟨rfl, hb⟩
  have V := Lib.hid (V.out.below hb)
  clear hb
  by_cases hl : 1000 < N
  · have hlz : (1000 : Int) < (N : Int) := by omega
    go_wp2_with fail
    go_ret
    exact ⟨by simp, V.out.2.2⟩
  have hlz : ¬ (1000 : Int) < (N : Int) := by omega
  have HP := Lib.hid (fun w h => cparse_both bs HB.out (by rw [HN.out]; omega) w h)
  obtain ⟨⟨-, ⟨a0, a1⟩, -⟩, ⟨-, ⟨b0, b1⟩, -⟩, -⟩ := V.out
  go_wp2_with fail
  refine (cname_both k o _ (by first | exact HL.out.below B.out | exact HL.out.below V.out.2.2 | exact HL.out)).mono ?_; rintro e w4 ⟨s, er, m, rfl, q, qg, hcase, hb⟩
  have V := Lib.hid (V.out.below hb)
  clear hb a0 a1 b0 b1
  go_upto_if 27 with fail
  go_cut [] from 10 to 86 (fun wx => BK w wx k o j p)
  case first =>
    rcases hcase.out with ⟨rfl, rfl, K, O, rfl, rfl, hm, rfl⟩ | ⟨rfl, rfl⟩
    · have HM := Lib.hid hm
      clear hm
      go_wp2_with fail
      refine (cparse_any (Hp.name K O) (Hp.name_bytes K O) (by have := Hp.name_len (k := K) (o := O) (by have := HM.out; unfold Hp.May at this; omega) (by have := HM.out; unfold Hp.May at this; omega) (by have := HM.out; unfold Hp.May at this; omega); omega) _ (by first | exact HL.out.below B.out | exact HL.out.below V.out.2.2 | exact HL.out)).mono ?_
      rintro e w5 ⟨⟨k', o', hi, rfl⟩ | ⟨hno, _⟩, hb⟩
      · obtain ⟨rfl, rfl⟩ := Hp.is_unique (show Hp.Is (Hp.name K O) K O from ⟨HM.out, rfl⟩) hi
        have V := Lib.hid (V.out.below hb)
        have V2 := Lib.hid (V.out.below (alloc_below w5 (.cells #[.int .i64 K, .int .i64 O] 23)))
        have A := Lib.hid (AV.new w5 23 K O)
        clear hb hi
        obtain ⟨⟨-, ⟨a0, a1⟩, -⟩, ⟨-, ⟨b0, b1⟩, -⟩, -⟩ := V2.out
        obtain ⟨-, ⟨c0, c1⟩, -⟩ := A.out
        go_wp2_with fail
        go_meet
        exact V2.out
      · exact absurd (show Hp.Is (Hp.name K O) K O from ⟨HM.out, rfl⟩) (hno K O)
    · go_wp2_with fail
      go_meet
      exact V.out
  case rest =>
    clear V hcase q qg
    have V := Lib.hid hcut
    clear hcut
    go_wp2_with fail
    refine (HP.out _ (by first | exact HL.out.below B.out | exact HL.out.below V.out.2.2 | exact HL.out)).mono ?_; rintro e w6 ⟨k2, o2, er2, m2, rfl, q, qg, hcase, hb⟩
    have V := Lib.hid (V.out.below hb)
    have V := Lib.hid (V.out.below (alloc_below w6 (.cells #[.int .i64 k2, .int .i64 o2] 23)))
    have A := Lib.hid (AV.new w6 23 k2 o2)
    clear hb
    go_upto_if 46 with fail
    generalize w6.alloc (.cells #[.int .i64 k2, .int .i64 o2] 23) = w7 at *
    go_cut [] from 10 to 86 (fun wx => BK w wx k o j p)
    case first =>
      rcases hcase.out with ⟨rfl, rfl, K, O, rfl, rfl, hi⟩ | ⟨rfl, rfl⟩
      · have HI := Lib.hid hi
        clear hi
        obtain ⟨-, ⟨c0, c1⟩, -⟩ := A.out
        go_wp2_with fail
        obtain ⟨J, rfl⟩ : ∃ J : Nat, K = J + 1 := ⟨K - 1, by have := (Hp.may_kind HI.out.1).1; omega⟩
        have HC := cname_yes J O (by have := HI.out.1; push_cast at this; exact this)
        rw [← HI.out.2] at HC
        refine (HC _ (by first | exact HL.out.below B.out | exact HL.out.below V.out.2.2 | exact HL.out)).mono ?_; rintro e w8 ⟨rfl, hb⟩
        have V := Lib.hid (V.out.below hb)
        clear hb
        go_wp2_with fail
        go_meet
        exact V.out
      · go_wp2_with fail
        go_meet
        exact V.out
    case rest =>
      clear V hcase q qg A
      have V := Lib.hid hcut
      clear hcut
      obtain ⟨⟨-, ⟨a0, a1⟩, -⟩, ⟨-, ⟨b0, b1⟩, -⟩, -⟩ := V.out
      have e1 : (k == j) = false := by simp; omega
      go_wp2_with fail
      have V0 := Lib.hid V.out
      have HW := Lib.hid (Below.refl wc.heap.size wc).drew
      refine wp_region_held_drew (S := fun w' => w'.cell? ⟨w.heap.size, 0, none⟩ = some (.int .i64 k) ∧ w'.cell? ⟨w.heap.size, 1, none⟩ = some (.int .i64 o) ∧ w'.cell? ⟨w.heap.size + 1, 0, none⟩ = some (.int .i64 j) ∧ w'.cell? ⟨w.heap.size + 1, 1, none⟩ = some (.int .i64 p)) (by kernel_rfl) ?_ (fun hHeld => ?_)
      · exact ⟨a0, a1, b0, b1⟩
      refine wpAnyH_take (i := 0) (v := ?_) rfl (by kernel_rfl) (by kernel_rfl) (by kernel_rfl) (fun _ _ _ h => h) (Or.inl ⟨by rfl, ?_⟩) (by assumption) ?_
      rotate_left 1
      · (intro w hSw; (try dsimp only at hSw); go_simp; try with_reducible rfl)
      try simp only [List.getElem_toArray, List.getElem_cons_zero, Act.put, List.setIfInBounds_toArray, List.set_cons_zero, List.set_cons_succ]
      refine wpAnyH_take (i := 1) (v := ?_) rfl (by kernel_rfl) (by kernel_rfl) (by kernel_rfl) (fun _ _ _ h => h) (Or.inl ⟨by rfl, ?_⟩) (by assumption) ?_
      rotate_left 1
      · (intro w hSw; (try dsimp only at hSw); go_simp; try with_reducible rfl)
      try simp only [List.getElem_toArray, List.getElem_cons_succ, List.getElem_cons_zero, Act.put, List.setIfInBounds_toArray, List.set_cons_zero, List.set_cons_succ]
      refine wpAnyH_take (i := 2) (v := ?_) rfl (by kernel_rfl) (by kernel_rfl) (by kernel_rfl) (fun _ _ _ h => h) (Or.inl ⟨by rfl, ?_⟩) (by assumption) ?_
      rotate_left 1
      · (intro w hSw; (try dsimp only at hSw); go_simp; try with_reducible rfl)
      try simp only [List.getElem_toArray, List.getElem_cons_succ, List.getElem_cons_zero, Act.put, List.setIfInBounds_toArray, List.set_cons_zero, List.set_cons_succ]
      refine wpAnyH_take (i := 3) (v := ?_) rfl (by kernel_rfl) (by kernel_rfl) (by kernel_rfl) (fun _ _ _ h => h) (Or.inl ⟨by rfl, ?_⟩) (by assumption) ?_
      rotate_left 1
      · (intro w hSw; (try dsimp only at hSw); go_simp; try with_reducible rfl)
      try simp only [List.getElem_toArray, List.getElem_cons_succ, List.getElem_cons_zero, Act.put, List.setIfInBounds_toArray, List.set_cons_zero, List.set_cons_succ]
      refine wpAnyH_take (i := 4) (v := ?_) rfl (by kernel_rfl) (by kernel_rfl) (by kernel_rfl) (fun _ _ _ h => h) (Or.inl ⟨by rfl, ?_⟩) (by assumption) ?_
      rotate_left 1
      · (intro w hSw; (try dsimp only at hSw); go_simp; try with_reducible rfl)
      try simp only [List.getElem_toArray, List.getElem_cons_succ, List.getElem_cons_zero, Act.put, List.setIfInBounds_toArray, List.set_cons_zero, List.set_cons_succ]
      refine wpAnyH_take (i := 5) (v := ?_) rfl (by kernel_rfl) (by kernel_rfl) (by kernel_rfl) (fun _ _ _ h => h) (Or.inl ⟨by rfl, ?_⟩) (by assumption) ?_
      rotate_left 1
      · (intro w hSw; (try dsimp only at hSw); go_simp; try with_reducible rfl)
      try simp only [List.getElem_toArray, List.getElem_cons_succ, List.getElem_cons_zero, Act.put, List.setIfInBounds_toArray, List.set_cons_zero, List.set_cons_succ]
      refine wpAnyH_take (i := 6) (v := ?_) rfl (by kernel_rfl) (by kernel_rfl) (by kernel_rfl) (fun _ _ _ h => h) (Or.inl ⟨by rfl, ?_⟩) (by assumption) ?_
      rotate_left 1
      · (intro w hSw; (try dsimp only at hSw); go_simp; try with_reducible rfl)
      try simp only [List.getElem_toArray, List.getElem_cons_succ, List.getElem_cons_zero, Act.put, List.setIfInBounds_toArray, List.set_cons_zero, List.set_cons_succ]
      refine wpAnyH_ready (rs := [7]) (by kernel_rfl) (by simp) ?_
      refine AllReadyH.cons rfl (fun K hK => ?_) AllReadyH.nil
      go_simp
      refine (LAB.out _).mono ?_; rintro e wq ⟨rfl, hb0⟩; have hb := (show Below wc.heap.size wc _ from HW.out).trans (hb0.mono HW.out.size); have HW := Lib.hid hb; have V := Lib.hid (V0.out.below hb); obtain ⟨⟨-, ⟨a0, a1⟩, -⟩, ⟨-, ⟨b0, b1⟩, -⟩, -⟩ := V.out; clear hb hb0; dsimp only
      refine hK.out _ _ ?_ (fun hHeld => ?_)
      · exact ⟨a0, a1, b0, b1⟩
      clear hK K
      try simp only [List.getElem_toArray, List.getElem_cons_succ, List.getElem_cons_zero, Act.put, List.setIfInBounds_toArray, List.set_cons_zero, List.set_cons_succ]
      refine wpAnyH_take (i := 8) (v := ?_) rfl (by kernel_rfl) (by kernel_rfl) (by kernel_rfl) (fun _ _ _ h => h) (Or.inl ⟨by rfl, ?_⟩) (by assumption) ?_
      rotate_left 1
      · (intro w hSw; (try dsimp only at hSw); go_simp; try with_reducible rfl)
      try simp only [List.getElem_toArray, List.getElem_cons_succ, List.getElem_cons_zero, Act.put, List.setIfInBounds_toArray, List.set_cons_zero, List.set_cons_succ]
      refine wpAnyH_take (i := 9) (v := ?_) rfl (by kernel_rfl) (by kernel_rfl) (by kernel_rfl) (fun _ _ _ h => h) (Or.inl ⟨by rfl, ?_⟩) (by assumption) ?_
      rotate_left 1
      · (intro w hSw; (try dsimp only at hSw); go_simp; try with_reducible rfl)
      try simp only [List.getElem_toArray, List.getElem_cons_succ, List.getElem_cons_zero, Act.put, List.setIfInBounds_toArray, List.set_cons_zero, List.set_cons_succ]
      refine wpAnyH_take (i := 10) (v := ?_) rfl (by kernel_rfl) (by kernel_rfl) (by kernel_rfl) (fun _ _ _ h => h) (Or.inl ⟨by rfl, ?_⟩) (by assumption) ?_
      rotate_left 1
      · (intro w hSw; (try dsimp only at hSw); go_simp; try with_reducible rfl)
      try simp only [List.getElem_toArray, List.getElem_cons_succ, List.getElem_cons_zero, Act.put, List.setIfInBounds_toArray, List.set_cons_zero, List.set_cons_succ]
      refine wpAnyH_take (i := 11) (v := ?_) rfl (by kernel_rfl) (by kernel_rfl) (by kernel_rfl) (fun _ _ _ h => h) (Or.inl ⟨by rfl, ?_⟩) (by assumption) ?_
      rotate_left 1
      · (intro w hSw; (try dsimp only at hSw); go_simp; try with_reducible rfl)
      try simp only [List.getElem_toArray, List.getElem_cons_succ, List.getElem_cons_zero, Act.put, List.setIfInBounds_toArray, List.set_cons_zero, List.set_cons_succ]
      refine wpAnyH_ready (rs := [12]) (by kernel_rfl) (by simp) ?_
      refine AllReadyH.cons rfl (fun K hK => ?_) AllReadyH.nil
      go_simp
      refine (LBA.out _).mono ?_; rintro e wq ⟨rfl, hb0⟩; have hb := (show Below wc.heap.size wc _ from HW.out).trans (hb0.mono HW.out.size); have HW := Lib.hid hb; have V := Lib.hid (V0.out.below hb); obtain ⟨⟨-, ⟨a0, a1⟩, -⟩, ⟨-, ⟨b0, b1⟩, -⟩, -⟩ := V.out; clear hb hb0; dsimp only
      refine hK.out _ _ ?_ (fun hHeld => ?_)
      · exact ⟨a0, a1, b0, b1⟩
      clear hK K
      try simp only [List.getElem_toArray, List.getElem_cons_succ, List.getElem_cons_zero, Act.put, List.setIfInBounds_toArray, List.set_cons_zero, List.set_cons_succ]
      refine wpAnyH_take (i := 13) (v := ?_) rfl (by kernel_rfl) (by kernel_rfl) (by kernel_rfl) (fun _ _ _ h => h) (Or.inl ⟨by rfl, ?_⟩) (by assumption) ?_
      rotate_left 1
      · (intro w hSw; (try dsimp only at hSw); go_simp; try with_reducible rfl)
      try simp only [List.getElem_toArray, List.getElem_cons_succ, List.getElem_cons_zero, Act.put, List.setIfInBounds_toArray, List.set_cons_zero, List.set_cons_succ]
      refine wpAnyH_take (i := 14) (v := ?_) rfl (by kernel_rfl) (by kernel_rfl) (by kernel_rfl) (fun _ _ _ h => h) (Or.inl ⟨by rfl, ?_⟩) (by assumption) ?_
      rotate_left 1
      · (intro w hSw; (try dsimp only at hSw); go_simp; try with_reducible rfl)
      try simp only [List.getElem_toArray, List.getElem_cons_succ, List.getElem_cons_zero, Act.put, List.setIfInBounds_toArray, List.set_cons_zero, List.set_cons_succ]
      refine wpAnyH_take (i := 15) (v := ?_) rfl (by kernel_rfl) (by kernel_rfl) (by kernel_rfl) (fun _ _ _ h => h) (Or.inl ⟨by rfl, ?_⟩) (by assumption) ?_
      rotate_left 1
      · (intro w hSw; (try dsimp only at hSw); go_simp; try with_reducible rfl)
      try simp only [List.getElem_toArray, List.getElem_cons_succ, List.getElem_cons_zero, Act.put, List.setIfInBounds_toArray, List.set_cons_zero, List.set_cons_succ]
      refine wpAnyH_take (i := 16) (v := ?_) rfl (by kernel_rfl) (by kernel_rfl) (by kernel_rfl) (fun _ _ _ h => h) (Or.inl ⟨by rfl, ?_⟩) (by assumption) ?_
      rotate_left 1
      · (intro w hSw; (try dsimp only at hSw); go_simp; try with_reducible rfl)
      try simp only [List.getElem_toArray, List.getElem_cons_succ, List.getElem_cons_zero, Act.put, List.setIfInBounds_toArray, List.set_cons_zero, List.set_cons_succ]
      refine wpAnyH_take (i := 17) (v := ?_) rfl (by kernel_rfl) (by kernel_rfl) (by kernel_rfl) (fun _ _ _ h => h) (Or.inl ⟨by rfl, ?_⟩) (by assumption) ?_
      rotate_left 1
      · (intro w hSw; (try dsimp only at hSw); go_simp; try with_reducible rfl)
      try simp only [List.getElem_toArray, List.getElem_cons_succ, List.getElem_cons_zero, Act.put, List.setIfInBounds_toArray, List.set_cons_zero, List.set_cons_succ]
      refine wpAnyH_take (i := 18) (v := ?_) rfl (by kernel_rfl) (by kernel_rfl) (by kernel_rfl) (fun _ _ _ h => h) (Or.inl ⟨by rfl, ?_⟩) (by assumption) ?_
      rotate_left 1
      · (intro w hSw; (try dsimp only at hSw); go_simp; try with_reducible rfl)
      try simp only [List.getElem_toArray, List.getElem_cons_succ, List.getElem_cons_zero, Act.put, List.setIfInBounds_toArray, List.set_cons_zero, List.set_cons_succ]
      refine wpAnyH_take (i := 19) (v := ?_) rfl (by kernel_rfl) (by kernel_rfl) (by kernel_rfl) (fun _ _ _ h => h) (Or.inl ⟨by rfl, ?_⟩) (by assumption) ?_
      rotate_left 1
      · (intro w hSw; (try dsimp only at hSw); go_simp; try with_reducible rfl)
      try simp only [List.getElem_toArray, List.getElem_cons_succ, List.getElem_cons_zero, Act.put, List.setIfInBounds_toArray, List.set_cons_zero, List.set_cons_succ]
      refine wpAnyH_ready (rs := [20]) (by kernel_rfl) (by simp) ?_
      refine AllReadyH.cons rfl (fun K hK => ?_) AllReadyH.nil
      go_simp
      refine (LAB.out _).mono ?_; rintro e wq ⟨rfl, hb0⟩; have hb := (show Below wc.heap.size wc _ from HW.out).trans (hb0.mono HW.out.size); have HW := Lib.hid hb; have V := Lib.hid (V0.out.below hb); obtain ⟨⟨-, ⟨a0, a1⟩, -⟩, ⟨-, ⟨b0, b1⟩, -⟩, -⟩ := V.out; clear hb hb0; dsimp only
      refine hK.out _ _ ?_ (fun hHeld => ?_)
      · exact ⟨a0, a1, b0, b1⟩
      clear hK K
      try simp only [List.getElem_toArray, List.getElem_cons_succ, List.getElem_cons_zero, Act.put, List.setIfInBounds_toArray, List.set_cons_zero, List.set_cons_succ]
      refine wpAnyH_take (i := 21) (v := ?_) rfl (by kernel_rfl) (by kernel_rfl) (by kernel_rfl) (fun _ _ _ h => h) (Or.inl ⟨by rfl, ?_⟩) (by assumption) ?_
      rotate_left 1
      · (intro w hSw; (try dsimp only at hSw); go_simp; try with_reducible rfl)
      try simp only [List.getElem_toArray, List.getElem_cons_succ, List.getElem_cons_zero, Act.put, List.setIfInBounds_toArray, List.set_cons_zero, List.set_cons_succ]
      refine wpAnyH_take (i := 22) (v := undef) rfl (by kernel_rfl) (by kernel_rfl) (by kernel_rfl) (fun _ _ _ h => h) (Or.inr ⟨by rfl, rfl⟩) (by assumption) ?_
      try simp only [List.getElem_toArray, List.getElem_cons_succ, List.getElem_cons_zero, Act.put, List.setIfInBounds_toArray, List.set_cons_zero, List.set_cons_succ]
      refine wpAnyH_take (i := 23) (v := undef) rfl (by kernel_rfl) (by kernel_rfl) (by kernel_rfl) (fun _ _ _ h => h) (Or.inr ⟨by rfl, rfl⟩) (by assumption) ?_
      try simp only [List.getElem_toArray, List.getElem_cons_succ, List.getElem_cons_zero, Act.put, List.setIfInBounds_toArray, List.set_cons_zero, List.set_cons_succ]
      refine wpAnyH_take (i := 24) (v := undef) rfl (by kernel_rfl) (by kernel_rfl) (by kernel_rfl) (fun _ _ _ h => h) (Or.inr ⟨by rfl, rfl⟩) (by assumption) ?_
      try simp only [List.getElem_toArray, List.getElem_cons_succ, List.getElem_cons_zero, Act.put, List.setIfInBounds_toArray, List.set_cons_zero, List.set_cons_succ]
      refine wpAnyH_take (i := 25) (v := ?_) rfl (by kernel_rfl) (by kernel_rfl) (by kernel_rfl) (fun _ _ _ h => h) (Or.inl ⟨by rfl, ?_⟩) (by assumption) ?_
      rotate_left 1
      · (intro w hSw; (try dsimp only at hSw); go_simp; try with_reducible rfl)
      try simp only [List.getElem_toArray, List.getElem_cons_succ, List.getElem_cons_zero, Act.put, List.setIfInBounds_toArray, List.set_cons_zero, List.set_cons_succ]
      refine wpAnyH_take (i := 26) (v := ?_) rfl (by kernel_rfl) (by kernel_rfl) (by kernel_rfl) (fun _ _ _ h => h) (Or.inl ⟨by rfl, ?_⟩) (by assumption) ?_
      rotate_left 1
      · (intro w hSw; (try dsimp only at hSw); go_simp; try with_reducible rfl)
      try simp only [List.getElem_toArray, List.getElem_cons_succ, List.getElem_cons_zero, Act.put, List.setIfInBounds_toArray, List.set_cons_zero, List.set_cons_succ]
      refine wpAnyH_take (i := 27) (v := ?_) rfl (by kernel_rfl) (by kernel_rfl) (by kernel_rfl) (fun _ _ _ h => h) (Or.inl ⟨by rfl, ?_⟩) (by assumption) ?_
      rotate_left 1
      · (intro w hSw; (try dsimp only at hSw); go_simp; try with_reducible rfl)
      try simp only [List.getElem_toArray, List.getElem_cons_succ, List.getElem_cons_zero, Act.put, List.setIfInBounds_toArray, List.set_cons_zero, List.set_cons_succ]
      refine wpAnyH_take (i := 28) (v := ?_) rfl (by kernel_rfl) (by kernel_rfl) (by kernel_rfl) (fun _ _ _ h => h) (Or.inl ⟨by rfl, ?_⟩) (by assumption) ?_
      rotate_left 1
      · (intro w hSw; (try dsimp only at hSw); go_simp; try with_reducible rfl)
      try simp only [List.getElem_toArray, List.getElem_cons_succ, List.getElem_cons_zero, Act.put, List.setIfInBounds_toArray, List.set_cons_zero, List.set_cons_succ]
      refine wpAnyH_done (by kernel_rfl) ?_ _
      go_wp2_with fail
      go_ret
      exact ⟨by simp, V.out.2.2⟩
set_option maxRecDepth 100000 in
set_option maxHeartbeats 2000000 in
theorem back_same_less (k o p : Int) (hk : o < p) (bs : List Int) (hb : ∀ x ∈ bs, 0 ≤ x ∧ x < 256) (w : World) (hL : Laid w) : Calls Tryd.prog 5 #[acv k o, acv k p, .string (strOfNums bs)] w fun e w' => e = .returned (.bool true) ∧ Below w.heap.size w w' := by
  have HL := Lib.hid hL
  clear hL
  have LAB := Lib.hid (fun w => less_of k o k p true (decide_eq_true (by unfold Hp.lt; omega)) w)
  have LBA := Lib.hid (fun w => less_of k p k o false (decide_eq_false (by unfold Hp.lt; omega)) w)
  obtain ⟨N, hN⟩ : ∃ N, bs.length = N := ⟨_, rfl⟩
  have hz : (strOfNums bs).size = N := by rw [strOfNums_size, hN]
  have HB := Lib.hid hb
  have HN := Lib.hid hN
  clear hb hN
  have V := Lib.hid (BK.start w 23 k o k p)
  go_enter Tryd.func5, Tryd.ntmps5
  go_wp2_with fail
  generalize (w.alloc (.cells #[.int .i64 k, .int .i64 o] 23)).alloc (.cells #[.int .i64 k, .int .i64 p] 23) = w2 at *
  refine (up_any _ (by first | exact HL.out.below B.out | exact HL.out.below V.out.2.2 | exact HL.out)).mono ?_; rintro e w3 ⟨rfl, hb⟩
  have V := Lib.hid (V.out.below hb)
  clear hb
  by_cases hl : 1000 < N
  · have hlz : (1000 : Int) < (N : Int) := by omega
    go_wp2_with fail
    go_ret
    exact ⟨by simp, V.out.2.2⟩
  have hlz : ¬ (1000 : Int) < (N : Int) := by omega
  have HP := Lib.hid (fun w h => cparse_both bs HB.out (by rw [HN.out]; omega) w h)
  obtain ⟨⟨-, ⟨a0, a1⟩, -⟩, ⟨-, ⟨b0, b1⟩, -⟩, -⟩ := V.out
  go_wp2_with fail
  refine (cname_both k o _ (by first | exact HL.out.below B.out | exact HL.out.below V.out.2.2 | exact HL.out)).mono ?_; rintro e w4 ⟨s, er, m, rfl, q, qg, hcase, hb⟩
  have V := Lib.hid (V.out.below hb)
  clear hb a0 a1 b0 b1
  go_upto_if 27 with fail
  go_cut [] from 10 to 86 (fun wx => BK w wx k o k p)
  case first =>
    rcases hcase.out with ⟨rfl, rfl, K, O, rfl, rfl, hm, rfl⟩ | ⟨rfl, rfl⟩
    · have HM := Lib.hid hm
      clear hm
      go_wp2_with fail
      refine (cparse_any (Hp.name K O) (Hp.name_bytes K O) (by have := Hp.name_len (k := K) (o := O) (by have := HM.out; unfold Hp.May at this; omega) (by have := HM.out; unfold Hp.May at this; omega) (by have := HM.out; unfold Hp.May at this; omega); omega) _ (by first | exact HL.out.below B.out | exact HL.out.below V.out.2.2 | exact HL.out)).mono ?_
      rintro e w5 ⟨⟨k', o', hi, rfl⟩ | ⟨hno, _⟩, hb⟩
      · obtain ⟨rfl, rfl⟩ := Hp.is_unique (show Hp.Is (Hp.name K O) K O from ⟨HM.out, rfl⟩) hi
        have V := Lib.hid (V.out.below hb)
        have V2 := Lib.hid (V.out.below (alloc_below w5 (.cells #[.int .i64 K, .int .i64 O] 23)))
        have A := Lib.hid (AV.new w5 23 K O)
        clear hb hi
        obtain ⟨⟨-, ⟨a0, a1⟩, -⟩, ⟨-, ⟨b0, b1⟩, -⟩, -⟩ := V2.out
        obtain ⟨-, ⟨c0, c1⟩, -⟩ := A.out
        go_wp2_with fail
        go_meet
        exact V2.out
      · exact absurd (show Hp.Is (Hp.name K O) K O from ⟨HM.out, rfl⟩) (hno K O)
    · go_wp2_with fail
      go_meet
      exact V.out
  case rest =>
    clear V hcase q qg
    have V := Lib.hid hcut
    clear hcut
    go_wp2_with fail
    refine (HP.out _ (by first | exact HL.out.below B.out | exact HL.out.below V.out.2.2 | exact HL.out)).mono ?_; rintro e w6 ⟨k2, o2, er2, m2, rfl, q, qg, hcase, hb⟩
    have V := Lib.hid (V.out.below hb)
    have V := Lib.hid (V.out.below (alloc_below w6 (.cells #[.int .i64 k2, .int .i64 o2] 23)))
    have A := Lib.hid (AV.new w6 23 k2 o2)
    clear hb
    go_upto_if 46 with fail
    generalize w6.alloc (.cells #[.int .i64 k2, .int .i64 o2] 23) = w7 at *
    go_cut [] from 10 to 86 (fun wx => BK w wx k o k p)
    case first =>
      rcases hcase.out with ⟨rfl, rfl, K, O, rfl, rfl, hi⟩ | ⟨rfl, rfl⟩
      · have HI := Lib.hid hi
        clear hi
        obtain ⟨-, ⟨c0, c1⟩, -⟩ := A.out
        go_wp2_with fail
        obtain ⟨J, rfl⟩ : ∃ J : Nat, K = J + 1 := ⟨K - 1, by have := (Hp.may_kind HI.out.1).1; omega⟩
        have HC := cname_yes J O (by have := HI.out.1; push_cast at this; exact this)
        rw [← HI.out.2] at HC
        refine (HC _ (by first | exact HL.out.below B.out | exact HL.out.below V.out.2.2 | exact HL.out)).mono ?_; rintro e w8 ⟨rfl, hb⟩
        have V := Lib.hid (V.out.below hb)
        clear hb
        go_wp2_with fail
        go_meet
        exact V.out
      · go_wp2_with fail
        go_meet
        exact V.out
    case rest =>
      clear V hcase q qg A
      have V := Lib.hid hcut
      clear hcut
      obtain ⟨⟨-, ⟨a0, a1⟩, -⟩, ⟨-, ⟨b0, b1⟩, -⟩, -⟩ := V.out
      have e1 : (o == p) = false := by simp; omega
      go_wp2_with fail
      have V0 := Lib.hid V.out
      have HW := Lib.hid (Below.refl wc.heap.size wc).drew
      refine wp_region_held_drew (S := fun w' => w'.cell? ⟨w.heap.size, 0, none⟩ = some (.int .i64 k) ∧ w'.cell? ⟨w.heap.size, 1, none⟩ = some (.int .i64 o) ∧ w'.cell? ⟨w.heap.size + 1, 0, none⟩ = some (.int .i64 k) ∧ w'.cell? ⟨w.heap.size + 1, 1, none⟩ = some (.int .i64 p)) (by kernel_rfl) ?_ (fun hHeld => ?_)
      · exact ⟨a0, a1, b0, b1⟩
      refine wpAnyH_take (i := 0) (v := ?_) rfl (by kernel_rfl) (by kernel_rfl) (by kernel_rfl) (fun _ _ _ h => h) (Or.inl ⟨by rfl, ?_⟩) (by assumption) ?_
      rotate_left 1
      · (intro w hSw; (try dsimp only at hSw); go_simp; try with_reducible rfl)
      try simp only [List.getElem_toArray, List.getElem_cons_zero, Act.put, List.setIfInBounds_toArray, List.set_cons_zero, List.set_cons_succ]
      refine wpAnyH_take (i := 1) (v := ?_) rfl (by kernel_rfl) (by kernel_rfl) (by kernel_rfl) (fun _ _ _ h => h) (Or.inl ⟨by rfl, ?_⟩) (by assumption) ?_
      rotate_left 1
      · (intro w hSw; (try dsimp only at hSw); go_simp; try with_reducible rfl)
      try simp only [List.getElem_toArray, List.getElem_cons_succ, List.getElem_cons_zero, Act.put, List.setIfInBounds_toArray, List.set_cons_zero, List.set_cons_succ]
      refine wpAnyH_take (i := 2) (v := ?_) rfl (by kernel_rfl) (by kernel_rfl) (by kernel_rfl) (fun _ _ _ h => h) (Or.inl ⟨by rfl, ?_⟩) (by assumption) ?_
      rotate_left 1
      · (intro w hSw; (try dsimp only at hSw); go_simp; try with_reducible rfl)
      try simp only [List.getElem_toArray, List.getElem_cons_succ, List.getElem_cons_zero, Act.put, List.setIfInBounds_toArray, List.set_cons_zero, List.set_cons_succ]
      refine wpAnyH_take (i := 3) (v := ?_) rfl (by kernel_rfl) (by kernel_rfl) (by kernel_rfl) (fun _ _ _ h => h) (Or.inl ⟨by rfl, ?_⟩) (by assumption) ?_
      rotate_left 1
      · (intro w hSw; (try dsimp only at hSw); go_simp; try with_reducible rfl)
      try simp only [List.getElem_toArray, List.getElem_cons_succ, List.getElem_cons_zero, Act.put, List.setIfInBounds_toArray, List.set_cons_zero, List.set_cons_succ]
      refine wpAnyH_take (i := 4) (v := ?_) rfl (by kernel_rfl) (by kernel_rfl) (by kernel_rfl) (fun _ _ _ h => h) (Or.inl ⟨by rfl, ?_⟩) (by assumption) ?_
      rotate_left 1
      · (intro w hSw; (try dsimp only at hSw); go_simp; try with_reducible rfl)
      try simp only [List.getElem_toArray, List.getElem_cons_succ, List.getElem_cons_zero, Act.put, List.setIfInBounds_toArray, List.set_cons_zero, List.set_cons_succ]
      refine wpAnyH_take (i := 5) (v := ?_) rfl (by kernel_rfl) (by kernel_rfl) (by kernel_rfl) (fun _ _ _ h => h) (Or.inl ⟨by rfl, ?_⟩) (by assumption) ?_
      rotate_left 1
      · (intro w hSw; (try dsimp only at hSw); go_simp; try with_reducible rfl)
      try simp only [List.getElem_toArray, List.getElem_cons_succ, List.getElem_cons_zero, Act.put, List.setIfInBounds_toArray, List.set_cons_zero, List.set_cons_succ]
      refine wpAnyH_take (i := 6) (v := ?_) rfl (by kernel_rfl) (by kernel_rfl) (by kernel_rfl) (fun _ _ _ h => h) (Or.inl ⟨by rfl, ?_⟩) (by assumption) ?_
      rotate_left 1
      · (intro w hSw; (try dsimp only at hSw); go_simp; try with_reducible rfl)
      try simp only [List.getElem_toArray, List.getElem_cons_succ, List.getElem_cons_zero, Act.put, List.setIfInBounds_toArray, List.set_cons_zero, List.set_cons_succ]
      refine wpAnyH_ready (rs := [7]) (by kernel_rfl) (by simp) ?_
      refine AllReadyH.cons rfl (fun K hK => ?_) AllReadyH.nil
      go_simp
      refine (LAB.out _).mono ?_; rintro e wq ⟨rfl, hb0⟩; have hb := (show Below wc.heap.size wc _ from HW.out).trans (hb0.mono HW.out.size); have HW := Lib.hid hb; have V := Lib.hid (V0.out.below hb); obtain ⟨⟨-, ⟨a0, a1⟩, -⟩, ⟨-, ⟨b0, b1⟩, -⟩, -⟩ := V.out; clear hb hb0; dsimp only
      refine hK.out _ _ ?_ (fun hHeld => ?_)
      · exact ⟨a0, a1, b0, b1⟩
      clear hK K
      try simp only [List.getElem_toArray, List.getElem_cons_succ, List.getElem_cons_zero, Act.put, List.setIfInBounds_toArray, List.set_cons_zero, List.set_cons_succ]
      refine wpAnyH_take (i := 8) (v := ?_) rfl (by kernel_rfl) (by kernel_rfl) (by kernel_rfl) (fun _ _ _ h => h) (Or.inl ⟨by rfl, ?_⟩) (by assumption) ?_
      rotate_left 1
      · (intro w hSw; (try dsimp only at hSw); go_simp; try with_reducible rfl)
      try simp only [List.getElem_toArray, List.getElem_cons_succ, List.getElem_cons_zero, Act.put, List.setIfInBounds_toArray, List.set_cons_zero, List.set_cons_succ]
      refine wpAnyH_take (i := 9) (v := ?_) rfl (by kernel_rfl) (by kernel_rfl) (by kernel_rfl) (fun _ _ _ h => h) (Or.inl ⟨by rfl, ?_⟩) (by assumption) ?_
      rotate_left 1
      · (intro w hSw; (try dsimp only at hSw); go_simp; try with_reducible rfl)
      try simp only [List.getElem_toArray, List.getElem_cons_succ, List.getElem_cons_zero, Act.put, List.setIfInBounds_toArray, List.set_cons_zero, List.set_cons_succ]
      refine wpAnyH_take (i := 10) (v := undef) rfl (by kernel_rfl) (by kernel_rfl) (by kernel_rfl) (fun _ _ _ h => h) (Or.inr ⟨by rfl, rfl⟩) (by assumption) ?_
      try simp only [List.getElem_toArray, List.getElem_cons_succ, List.getElem_cons_zero, Act.put, List.setIfInBounds_toArray, List.set_cons_zero, List.set_cons_succ]
      refine wpAnyH_take (i := 11) (v := undef) rfl (by kernel_rfl) (by kernel_rfl) (by kernel_rfl) (fun _ _ _ h => h) (Or.inr ⟨by rfl, rfl⟩) (by assumption) ?_
      try simp only [List.getElem_toArray, List.getElem_cons_succ, List.getElem_cons_zero, Act.put, List.setIfInBounds_toArray, List.set_cons_zero, List.set_cons_succ]
      refine wpAnyH_take (i := 12) (v := undef) rfl (by kernel_rfl) (by kernel_rfl) (by kernel_rfl) (fun _ _ _ h => h) (Or.inr ⟨by rfl, rfl⟩) (by assumption) ?_
      try simp only [List.getElem_toArray, List.getElem_cons_succ, List.getElem_cons_zero, Act.put, List.setIfInBounds_toArray, List.set_cons_zero, List.set_cons_succ]
      refine wpAnyH_take (i := 13) (v := undef) rfl (by kernel_rfl) (by kernel_rfl) (by kernel_rfl) (fun _ _ _ h => h) (Or.inr ⟨by rfl, rfl⟩) (by assumption) ?_
      try simp only [List.getElem_toArray, List.getElem_cons_succ, List.getElem_cons_zero, Act.put, List.setIfInBounds_toArray, List.set_cons_zero, List.set_cons_succ]
      refine wpAnyH_take (i := 14) (v := ?_) rfl (by kernel_rfl) (by kernel_rfl) (by kernel_rfl) (fun _ _ _ h => h) (Or.inl ⟨by rfl, ?_⟩) (by assumption) ?_
      rotate_left 1
      · (intro w hSw; (try dsimp only at hSw); go_simp; try with_reducible rfl)
      try simp only [List.getElem_toArray, List.getElem_cons_succ, List.getElem_cons_zero, Act.put, List.setIfInBounds_toArray, List.set_cons_zero, List.set_cons_succ]
      refine wpAnyH_take (i := 15) (v := ?_) rfl (by kernel_rfl) (by kernel_rfl) (by kernel_rfl) (fun _ _ _ h => h) (Or.inl ⟨by rfl, ?_⟩) (by assumption) ?_
      rotate_left 1
      · (intro w hSw; (try dsimp only at hSw); go_simp; try with_reducible rfl)
      try simp only [List.getElem_toArray, List.getElem_cons_succ, List.getElem_cons_zero, Act.put, List.setIfInBounds_toArray, List.set_cons_zero, List.set_cons_succ]
      refine wpAnyH_take (i := 16) (v := ?_) rfl (by kernel_rfl) (by kernel_rfl) (by kernel_rfl) (fun _ _ _ h => h) (Or.inl ⟨by rfl, ?_⟩) (by assumption) ?_
      rotate_left 1
      · (intro w hSw; (try dsimp only at hSw); go_simp; try with_reducible rfl)
      try simp only [List.getElem_toArray, List.getElem_cons_succ, List.getElem_cons_zero, Act.put, List.setIfInBounds_toArray, List.set_cons_zero, List.set_cons_succ]
      refine wpAnyH_take (i := 17) (v := ?_) rfl (by kernel_rfl) (by kernel_rfl) (by kernel_rfl) (fun _ _ _ h => h) (Or.inl ⟨by rfl, ?_⟩) (by assumption) ?_
      rotate_left 1
      · (intro w hSw; (try dsimp only at hSw); go_simp; try with_reducible rfl)
      try simp only [List.getElem_toArray, List.getElem_cons_succ, List.getElem_cons_zero, Act.put, List.setIfInBounds_toArray, List.set_cons_zero, List.set_cons_succ]
      refine wpAnyH_take (i := 18) (v := ?_) rfl (by kernel_rfl) (by kernel_rfl) (by kernel_rfl) (fun _ _ _ h => h) (Or.inl ⟨by rfl, ?_⟩) (by assumption) ?_
      rotate_left 1
      · (intro w hSw; (try dsimp only at hSw); go_simp; try with_reducible rfl)
      try simp only [List.getElem_toArray, List.getElem_cons_succ, List.getElem_cons_zero, Act.put, List.setIfInBounds_toArray, List.set_cons_zero, List.set_cons_succ]
      refine wpAnyH_take (i := 19) (v := ?_) rfl (by kernel_rfl) (by kernel_rfl) (by kernel_rfl) (fun _ _ _ h => h) (Or.inl ⟨by rfl, ?_⟩) (by assumption) ?_
      rotate_left 1
      · (intro w hSw; (try dsimp only at hSw); go_simp; try with_reducible rfl)
      try simp only [List.getElem_toArray, List.getElem_cons_succ, List.getElem_cons_zero, Act.put, List.setIfInBounds_toArray, List.set_cons_zero, List.set_cons_succ]
      refine wpAnyH_ready (rs := [20]) (by kernel_rfl) (by simp) ?_
      refine AllReadyH.cons rfl (fun K hK => ?_) AllReadyH.nil
      go_simp
      refine (LAB.out _).mono ?_; rintro e wq ⟨rfl, hb0⟩; have hb := (show Below wc.heap.size wc _ from HW.out).trans (hb0.mono HW.out.size); have HW := Lib.hid hb; have V := Lib.hid (V0.out.below hb); obtain ⟨⟨-, ⟨a0, a1⟩, -⟩, ⟨-, ⟨b0, b1⟩, -⟩, -⟩ := V.out; clear hb hb0; dsimp only
      refine hK.out _ _ ?_ (fun hHeld => ?_)
      · exact ⟨a0, a1, b0, b1⟩
      clear hK K
      try simp only [List.getElem_toArray, List.getElem_cons_succ, List.getElem_cons_zero, Act.put, List.setIfInBounds_toArray, List.set_cons_zero, List.set_cons_succ]
      refine wpAnyH_take (i := 21) (v := ?_) rfl (by kernel_rfl) (by kernel_rfl) (by kernel_rfl) (fun _ _ _ h => h) (Or.inl ⟨by rfl, ?_⟩) (by assumption) ?_
      rotate_left 1
      · (intro w hSw; (try dsimp only at hSw); go_simp; try with_reducible rfl)
      try simp only [List.getElem_toArray, List.getElem_cons_succ, List.getElem_cons_zero, Act.put, List.setIfInBounds_toArray, List.set_cons_zero, List.set_cons_succ]
      refine wpAnyH_take (i := 22) (v := ?_) rfl (by kernel_rfl) (by kernel_rfl) (by kernel_rfl) (fun _ _ _ h => h) (Or.inl ⟨by rfl, ?_⟩) (by assumption) ?_
      rotate_left 1
      · (intro w hSw; (try dsimp only at hSw); go_simp; try with_reducible rfl)
      try simp only [List.getElem_toArray, List.getElem_cons_succ, List.getElem_cons_zero, Act.put, List.setIfInBounds_toArray, List.set_cons_zero, List.set_cons_succ]
      refine wpAnyH_take (i := 23) (v := ?_) rfl (by kernel_rfl) (by kernel_rfl) (by kernel_rfl) (fun _ _ _ h => h) (Or.inl ⟨by rfl, ?_⟩) (by assumption) ?_
      rotate_left 1
      · (intro w hSw; (try dsimp only at hSw); go_simp; try with_reducible rfl)
      try simp only [List.getElem_toArray, List.getElem_cons_succ, List.getElem_cons_zero, Act.put, List.setIfInBounds_toArray, List.set_cons_zero, List.set_cons_succ]
      refine wpAnyH_ready (rs := [24]) (by kernel_rfl) (by simp) ?_
      refine AllReadyH.cons rfl (fun K hK => ?_) AllReadyH.nil
      go_simp
      refine (LBA.out _).mono ?_; rintro e wq ⟨rfl, hb0⟩; have hb := (show Below wc.heap.size wc _ from HW.out).trans (hb0.mono HW.out.size); have HW := Lib.hid hb; have V := Lib.hid (V0.out.below hb); obtain ⟨⟨-, ⟨a0, a1⟩, -⟩, ⟨-, ⟨b0, b1⟩, -⟩, -⟩ := V.out; clear hb hb0; dsimp only
      refine hK.out _ _ ?_ (fun hHeld => ?_)
      · exact ⟨a0, a1, b0, b1⟩
      clear hK K
      try simp only [List.getElem_toArray, List.getElem_cons_succ, List.getElem_cons_zero, Act.put, List.setIfInBounds_toArray, List.set_cons_zero, List.set_cons_succ]
      refine wpAnyH_take (i := 25) (v := ?_) rfl (by kernel_rfl) (by kernel_rfl) (by kernel_rfl) (fun _ _ _ h => h) (Or.inl ⟨by rfl, ?_⟩) (by assumption) ?_
      rotate_left 1
      · (intro w hSw; (try dsimp only at hSw); go_simp; try with_reducible rfl)
      try simp only [List.getElem_toArray, List.getElem_cons_succ, List.getElem_cons_zero, Act.put, List.setIfInBounds_toArray, List.set_cons_zero, List.set_cons_succ]
      refine wpAnyH_take (i := 26) (v := ?_) rfl (by kernel_rfl) (by kernel_rfl) (by kernel_rfl) (fun _ _ _ h => h) (Or.inl ⟨by rfl, ?_⟩) (by assumption) ?_
      rotate_left 1
      · (intro w hSw; (try dsimp only at hSw); go_simp; try with_reducible rfl)
      try simp only [List.getElem_toArray, List.getElem_cons_succ, List.getElem_cons_zero, Act.put, List.setIfInBounds_toArray, List.set_cons_zero, List.set_cons_succ]
      refine wpAnyH_take (i := 27) (v := ?_) rfl (by kernel_rfl) (by kernel_rfl) (by kernel_rfl) (fun _ _ _ h => h) (Or.inl ⟨by rfl, ?_⟩) (by assumption) ?_
      rotate_left 1
      · (intro w hSw; (try dsimp only at hSw); go_simp; try with_reducible rfl)
      try simp only [List.getElem_toArray, List.getElem_cons_succ, List.getElem_cons_zero, Act.put, List.setIfInBounds_toArray, List.set_cons_zero, List.set_cons_succ]
      refine wpAnyH_take (i := 28) (v := ?_) rfl (by kernel_rfl) (by kernel_rfl) (by kernel_rfl) (fun _ _ _ h => h) (Or.inl ⟨by rfl, ?_⟩) (by assumption) ?_
      rotate_left 1
      · (intro w hSw; (try dsimp only at hSw); go_simp; try with_reducible rfl)
      try simp only [List.getElem_toArray, List.getElem_cons_succ, List.getElem_cons_zero, Act.put, List.setIfInBounds_toArray, List.set_cons_zero, List.set_cons_succ]
      refine wpAnyH_done (by kernel_rfl) ?_ _
      go_wp2_with fail
      go_ret
      exact ⟨by simp, V.out.2.2⟩
set_option maxRecDepth 100000 in
set_option maxHeartbeats 2000000 in
theorem back_same_more (k o p : Int) (hk : p < o) (bs : List Int) (hb : ∀ x ∈ bs, 0 ≤ x ∧ x < 256) (w : World) (hL : Laid w) : Calls Tryd.prog 5 #[acv k o, acv k p, .string (strOfNums bs)] w fun e w' => e = .returned (.bool true) ∧ Below w.heap.size w w' := by
  have HL := Lib.hid hL
  clear hL
  have LAB := Lib.hid (fun w => less_of k o k p false (decide_eq_false (by unfold Hp.lt; omega)) w)
  have LBA := Lib.hid (fun w => less_of k p k o true (decide_eq_true (by unfold Hp.lt; omega)) w)
  obtain ⟨N, hN⟩ : ∃ N, bs.length = N := ⟨_, rfl⟩
  have hz : (strOfNums bs).size = N := by rw [strOfNums_size, hN]
  have HB := Lib.hid hb
  have HN := Lib.hid hN
  clear hb hN
  have V := Lib.hid (BK.start w 23 k o k p)
  go_enter Tryd.func5, Tryd.ntmps5
  go_wp2_with fail
  generalize (w.alloc (.cells #[.int .i64 k, .int .i64 o] 23)).alloc (.cells #[.int .i64 k, .int .i64 p] 23) = w2 at *
  refine (up_any _ (by first | exact HL.out.below B.out | exact HL.out.below V.out.2.2 | exact HL.out)).mono ?_; rintro e w3 ⟨rfl, hb⟩
  have V := Lib.hid (V.out.below hb)
  clear hb
  by_cases hl : 1000 < N
  · have hlz : (1000 : Int) < (N : Int) := by omega
    go_wp2_with fail
    go_ret
    exact ⟨by simp, V.out.2.2⟩
  have hlz : ¬ (1000 : Int) < (N : Int) := by omega
  have HP := Lib.hid (fun w h => cparse_both bs HB.out (by rw [HN.out]; omega) w h)
  obtain ⟨⟨-, ⟨a0, a1⟩, -⟩, ⟨-, ⟨b0, b1⟩, -⟩, -⟩ := V.out
  go_wp2_with fail
  refine (cname_both k o _ (by first | exact HL.out.below B.out | exact HL.out.below V.out.2.2 | exact HL.out)).mono ?_; rintro e w4 ⟨s, er, m, rfl, q, qg, hcase, hb⟩
  have V := Lib.hid (V.out.below hb)
  clear hb a0 a1 b0 b1
  go_upto_if 27 with fail
  go_cut [] from 10 to 86 (fun wx => BK w wx k o k p)
  case first =>
    rcases hcase.out with ⟨rfl, rfl, K, O, rfl, rfl, hm, rfl⟩ | ⟨rfl, rfl⟩
    · have HM := Lib.hid hm
      clear hm
      go_wp2_with fail
      refine (cparse_any (Hp.name K O) (Hp.name_bytes K O) (by have := Hp.name_len (k := K) (o := O) (by have := HM.out; unfold Hp.May at this; omega) (by have := HM.out; unfold Hp.May at this; omega) (by have := HM.out; unfold Hp.May at this; omega); omega) _ (by first | exact HL.out.below B.out | exact HL.out.below V.out.2.2 | exact HL.out)).mono ?_
      rintro e w5 ⟨⟨k', o', hi, rfl⟩ | ⟨hno, _⟩, hb⟩
      · obtain ⟨rfl, rfl⟩ := Hp.is_unique (show Hp.Is (Hp.name K O) K O from ⟨HM.out, rfl⟩) hi
        have V := Lib.hid (V.out.below hb)
        have V2 := Lib.hid (V.out.below (alloc_below w5 (.cells #[.int .i64 K, .int .i64 O] 23)))
        have A := Lib.hid (AV.new w5 23 K O)
        clear hb hi
        obtain ⟨⟨-, ⟨a0, a1⟩, -⟩, ⟨-, ⟨b0, b1⟩, -⟩, -⟩ := V2.out
        obtain ⟨-, ⟨c0, c1⟩, -⟩ := A.out
        go_wp2_with fail
        go_meet
        exact V2.out
      · exact absurd (show Hp.Is (Hp.name K O) K O from ⟨HM.out, rfl⟩) (hno K O)
    · go_wp2_with fail
      go_meet
      exact V.out
  case rest =>
    clear V hcase q qg
    have V := Lib.hid hcut
    clear hcut
    go_wp2_with fail
    refine (HP.out _ (by first | exact HL.out.below B.out | exact HL.out.below V.out.2.2 | exact HL.out)).mono ?_; rintro e w6 ⟨k2, o2, er2, m2, rfl, q, qg, hcase, hb⟩
    have V := Lib.hid (V.out.below hb)
    have V := Lib.hid (V.out.below (alloc_below w6 (.cells #[.int .i64 k2, .int .i64 o2] 23)))
    have A := Lib.hid (AV.new w6 23 k2 o2)
    clear hb
    go_upto_if 46 with fail
    generalize w6.alloc (.cells #[.int .i64 k2, .int .i64 o2] 23) = w7 at *
    go_cut [] from 10 to 86 (fun wx => BK w wx k o k p)
    case first =>
      rcases hcase.out with ⟨rfl, rfl, K, O, rfl, rfl, hi⟩ | ⟨rfl, rfl⟩
      · have HI := Lib.hid hi
        clear hi
        obtain ⟨-, ⟨c0, c1⟩, -⟩ := A.out
        go_wp2_with fail
        obtain ⟨J, rfl⟩ : ∃ J : Nat, K = J + 1 := ⟨K - 1, by have := (Hp.may_kind HI.out.1).1; omega⟩
        have HC := cname_yes J O (by have := HI.out.1; push_cast at this; exact this)
        rw [← HI.out.2] at HC
        refine (HC _ (by first | exact HL.out.below B.out | exact HL.out.below V.out.2.2 | exact HL.out)).mono ?_; rintro e w8 ⟨rfl, hb⟩
        have V := Lib.hid (V.out.below hb)
        clear hb
        go_wp2_with fail
        go_meet
        exact V.out
      · go_wp2_with fail
        go_meet
        exact V.out
    case rest =>
      clear V hcase q qg A
      have V := Lib.hid hcut
      clear hcut
      obtain ⟨⟨-, ⟨a0, a1⟩, -⟩, ⟨-, ⟨b0, b1⟩, -⟩, -⟩ := V.out
      have e1 : (o == p) = false := by simp; omega
      go_wp2_with fail
      have V0 := Lib.hid V.out
      have HW := Lib.hid (Below.refl wc.heap.size wc).drew
      refine wp_region_held_drew (S := fun w' => w'.cell? ⟨w.heap.size, 0, none⟩ = some (.int .i64 k) ∧ w'.cell? ⟨w.heap.size, 1, none⟩ = some (.int .i64 o) ∧ w'.cell? ⟨w.heap.size + 1, 0, none⟩ = some (.int .i64 k) ∧ w'.cell? ⟨w.heap.size + 1, 1, none⟩ = some (.int .i64 p)) (by kernel_rfl) ?_ (fun hHeld => ?_)
      · exact ⟨a0, a1, b0, b1⟩
      refine wpAnyH_take (i := 0) (v := ?_) rfl (by kernel_rfl) (by kernel_rfl) (by kernel_rfl) (fun _ _ _ h => h) (Or.inl ⟨by rfl, ?_⟩) (by assumption) ?_
      rotate_left 1
      · (intro w hSw; (try dsimp only at hSw); go_simp; try with_reducible rfl)
      try simp only [List.getElem_toArray, List.getElem_cons_zero, Act.put, List.setIfInBounds_toArray, List.set_cons_zero, List.set_cons_succ]
      refine wpAnyH_take (i := 1) (v := ?_) rfl (by kernel_rfl) (by kernel_rfl) (by kernel_rfl) (fun _ _ _ h => h) (Or.inl ⟨by rfl, ?_⟩) (by assumption) ?_
      rotate_left 1
      · (intro w hSw; (try dsimp only at hSw); go_simp; try with_reducible rfl)
      try simp only [List.getElem_toArray, List.getElem_cons_succ, List.getElem_cons_zero, Act.put, List.setIfInBounds_toArray, List.set_cons_zero, List.set_cons_succ]
      refine wpAnyH_take (i := 2) (v := ?_) rfl (by kernel_rfl) (by kernel_rfl) (by kernel_rfl) (fun _ _ _ h => h) (Or.inl ⟨by rfl, ?_⟩) (by assumption) ?_
      rotate_left 1
      · (intro w hSw; (try dsimp only at hSw); go_simp; try with_reducible rfl)
      try simp only [List.getElem_toArray, List.getElem_cons_succ, List.getElem_cons_zero, Act.put, List.setIfInBounds_toArray, List.set_cons_zero, List.set_cons_succ]
      refine wpAnyH_take (i := 3) (v := ?_) rfl (by kernel_rfl) (by kernel_rfl) (by kernel_rfl) (fun _ _ _ h => h) (Or.inl ⟨by rfl, ?_⟩) (by assumption) ?_
      rotate_left 1
      · (intro w hSw; (try dsimp only at hSw); go_simp; try with_reducible rfl)
      try simp only [List.getElem_toArray, List.getElem_cons_succ, List.getElem_cons_zero, Act.put, List.setIfInBounds_toArray, List.set_cons_zero, List.set_cons_succ]
      refine wpAnyH_take (i := 4) (v := ?_) rfl (by kernel_rfl) (by kernel_rfl) (by kernel_rfl) (fun _ _ _ h => h) (Or.inl ⟨by rfl, ?_⟩) (by assumption) ?_
      rotate_left 1
      · (intro w hSw; (try dsimp only at hSw); go_simp; try with_reducible rfl)
      try simp only [List.getElem_toArray, List.getElem_cons_succ, List.getElem_cons_zero, Act.put, List.setIfInBounds_toArray, List.set_cons_zero, List.set_cons_succ]
      refine wpAnyH_take (i := 5) (v := ?_) rfl (by kernel_rfl) (by kernel_rfl) (by kernel_rfl) (fun _ _ _ h => h) (Or.inl ⟨by rfl, ?_⟩) (by assumption) ?_
      rotate_left 1
      · (intro w hSw; (try dsimp only at hSw); go_simp; try with_reducible rfl)
      try simp only [List.getElem_toArray, List.getElem_cons_succ, List.getElem_cons_zero, Act.put, List.setIfInBounds_toArray, List.set_cons_zero, List.set_cons_succ]
      refine wpAnyH_take (i := 6) (v := ?_) rfl (by kernel_rfl) (by kernel_rfl) (by kernel_rfl) (fun _ _ _ h => h) (Or.inl ⟨by rfl, ?_⟩) (by assumption) ?_
      rotate_left 1
      · (intro w hSw; (try dsimp only at hSw); go_simp; try with_reducible rfl)
      try simp only [List.getElem_toArray, List.getElem_cons_succ, List.getElem_cons_zero, Act.put, List.setIfInBounds_toArray, List.set_cons_zero, List.set_cons_succ]
      refine wpAnyH_ready (rs := [7]) (by kernel_rfl) (by simp) ?_
      refine AllReadyH.cons rfl (fun K hK => ?_) AllReadyH.nil
      go_simp
      refine (LAB.out _).mono ?_; rintro e wq ⟨rfl, hb0⟩; have hb := (show Below wc.heap.size wc _ from HW.out).trans (hb0.mono HW.out.size); have HW := Lib.hid hb; have V := Lib.hid (V0.out.below hb); obtain ⟨⟨-, ⟨a0, a1⟩, -⟩, ⟨-, ⟨b0, b1⟩, -⟩, -⟩ := V.out; clear hb hb0; dsimp only
      refine hK.out _ _ ?_ (fun hHeld => ?_)
      · exact ⟨a0, a1, b0, b1⟩
      clear hK K
      try simp only [List.getElem_toArray, List.getElem_cons_succ, List.getElem_cons_zero, Act.put, List.setIfInBounds_toArray, List.set_cons_zero, List.set_cons_succ]
      refine wpAnyH_take (i := 8) (v := ?_) rfl (by kernel_rfl) (by kernel_rfl) (by kernel_rfl) (fun _ _ _ h => h) (Or.inl ⟨by rfl, ?_⟩) (by assumption) ?_
      rotate_left 1
      · (intro w hSw; (try dsimp only at hSw); go_simp; try with_reducible rfl)
      try simp only [List.getElem_toArray, List.getElem_cons_succ, List.getElem_cons_zero, Act.put, List.setIfInBounds_toArray, List.set_cons_zero, List.set_cons_succ]
      refine wpAnyH_take (i := 9) (v := ?_) rfl (by kernel_rfl) (by kernel_rfl) (by kernel_rfl) (fun _ _ _ h => h) (Or.inl ⟨by rfl, ?_⟩) (by assumption) ?_
      rotate_left 1
      · (intro w hSw; (try dsimp only at hSw); go_simp; try with_reducible rfl)
      try simp only [List.getElem_toArray, List.getElem_cons_succ, List.getElem_cons_zero, Act.put, List.setIfInBounds_toArray, List.set_cons_zero, List.set_cons_succ]
      refine wpAnyH_take (i := 10) (v := ?_) rfl (by kernel_rfl) (by kernel_rfl) (by kernel_rfl) (fun _ _ _ h => h) (Or.inl ⟨by rfl, ?_⟩) (by assumption) ?_
      rotate_left 1
      · (intro w hSw; (try dsimp only at hSw); go_simp; try with_reducible rfl)
      try simp only [List.getElem_toArray, List.getElem_cons_succ, List.getElem_cons_zero, Act.put, List.setIfInBounds_toArray, List.set_cons_zero, List.set_cons_succ]
      refine wpAnyH_take (i := 11) (v := ?_) rfl (by kernel_rfl) (by kernel_rfl) (by kernel_rfl) (fun _ _ _ h => h) (Or.inl ⟨by rfl, ?_⟩) (by assumption) ?_
      rotate_left 1
      · (intro w hSw; (try dsimp only at hSw); go_simp; try with_reducible rfl)
      try simp only [List.getElem_toArray, List.getElem_cons_succ, List.getElem_cons_zero, Act.put, List.setIfInBounds_toArray, List.set_cons_zero, List.set_cons_succ]
      refine wpAnyH_ready (rs := [12]) (by kernel_rfl) (by simp) ?_
      refine AllReadyH.cons rfl (fun K hK => ?_) AllReadyH.nil
      go_simp
      refine (LBA.out _).mono ?_; rintro e wq ⟨rfl, hb0⟩; have hb := (show Below wc.heap.size wc _ from HW.out).trans (hb0.mono HW.out.size); have HW := Lib.hid hb; have V := Lib.hid (V0.out.below hb); obtain ⟨⟨-, ⟨a0, a1⟩, -⟩, ⟨-, ⟨b0, b1⟩, -⟩, -⟩ := V.out; clear hb hb0; dsimp only
      refine hK.out _ _ ?_ (fun hHeld => ?_)
      · exact ⟨a0, a1, b0, b1⟩
      clear hK K
      try simp only [List.getElem_toArray, List.getElem_cons_succ, List.getElem_cons_zero, Act.put, List.setIfInBounds_toArray, List.set_cons_zero, List.set_cons_succ]
      refine wpAnyH_take (i := 13) (v := ?_) rfl (by kernel_rfl) (by kernel_rfl) (by kernel_rfl) (fun _ _ _ h => h) (Or.inl ⟨by rfl, ?_⟩) (by assumption) ?_
      rotate_left 1
      · (intro w hSw; (try dsimp only at hSw); go_simp; try with_reducible rfl)
      try simp only [List.getElem_toArray, List.getElem_cons_succ, List.getElem_cons_zero, Act.put, List.setIfInBounds_toArray, List.set_cons_zero, List.set_cons_succ]
      refine wpAnyH_take (i := 14) (v := ?_) rfl (by kernel_rfl) (by kernel_rfl) (by kernel_rfl) (fun _ _ _ h => h) (Or.inl ⟨by rfl, ?_⟩) (by assumption) ?_
      rotate_left 1
      · (intro w hSw; (try dsimp only at hSw); go_simp; try with_reducible rfl)
      try simp only [List.getElem_toArray, List.getElem_cons_succ, List.getElem_cons_zero, Act.put, List.setIfInBounds_toArray, List.set_cons_zero, List.set_cons_succ]
      refine wpAnyH_take (i := 15) (v := ?_) rfl (by kernel_rfl) (by kernel_rfl) (by kernel_rfl) (fun _ _ _ h => h) (Or.inl ⟨by rfl, ?_⟩) (by assumption) ?_
      rotate_left 1
      · (intro w hSw; (try dsimp only at hSw); go_simp; try with_reducible rfl)
      try simp only [List.getElem_toArray, List.getElem_cons_succ, List.getElem_cons_zero, Act.put, List.setIfInBounds_toArray, List.set_cons_zero, List.set_cons_succ]
      refine wpAnyH_take (i := 16) (v := ?_) rfl (by kernel_rfl) (by kernel_rfl) (by kernel_rfl) (fun _ _ _ h => h) (Or.inl ⟨by rfl, ?_⟩) (by assumption) ?_
      rotate_left 1
      · (intro w hSw; (try dsimp only at hSw); go_simp; try with_reducible rfl)
      try simp only [List.getElem_toArray, List.getElem_cons_succ, List.getElem_cons_zero, Act.put, List.setIfInBounds_toArray, List.set_cons_zero, List.set_cons_succ]
      refine wpAnyH_take (i := 17) (v := ?_) rfl (by kernel_rfl) (by kernel_rfl) (by kernel_rfl) (fun _ _ _ h => h) (Or.inl ⟨by rfl, ?_⟩) (by assumption) ?_
      rotate_left 1
      · (intro w hSw; (try dsimp only at hSw); go_simp; try with_reducible rfl)
      try simp only [List.getElem_toArray, List.getElem_cons_succ, List.getElem_cons_zero, Act.put, List.setIfInBounds_toArray, List.set_cons_zero, List.set_cons_succ]
      refine wpAnyH_take (i := 18) (v := ?_) rfl (by kernel_rfl) (by kernel_rfl) (by kernel_rfl) (fun _ _ _ h => h) (Or.inl ⟨by rfl, ?_⟩) (by assumption) ?_
      rotate_left 1
      · (intro w hSw; (try dsimp only at hSw); go_simp; try with_reducible rfl)
      try simp only [List.getElem_toArray, List.getElem_cons_succ, List.getElem_cons_zero, Act.put, List.setIfInBounds_toArray, List.set_cons_zero, List.set_cons_succ]
      refine wpAnyH_take (i := 19) (v := ?_) rfl (by kernel_rfl) (by kernel_rfl) (by kernel_rfl) (fun _ _ _ h => h) (Or.inl ⟨by rfl, ?_⟩) (by assumption) ?_
      rotate_left 1
      · (intro w hSw; (try dsimp only at hSw); go_simp; try with_reducible rfl)
      try simp only [List.getElem_toArray, List.getElem_cons_succ, List.getElem_cons_zero, Act.put, List.setIfInBounds_toArray, List.set_cons_zero, List.set_cons_succ]
      refine wpAnyH_ready (rs := [20]) (by kernel_rfl) (by simp) ?_
      refine AllReadyH.cons rfl (fun K hK => ?_) AllReadyH.nil
      go_simp
      refine (LAB.out _).mono ?_; rintro e wq ⟨rfl, hb0⟩; have hb := (show Below wc.heap.size wc _ from HW.out).trans (hb0.mono HW.out.size); have HW := Lib.hid hb; have V := Lib.hid (V0.out.below hb); obtain ⟨⟨-, ⟨a0, a1⟩, -⟩, ⟨-, ⟨b0, b1⟩, -⟩, -⟩ := V.out; clear hb hb0; dsimp only
      refine hK.out _ _ ?_ (fun hHeld => ?_)
      · exact ⟨a0, a1, b0, b1⟩
      clear hK K
      try simp only [List.getElem_toArray, List.getElem_cons_succ, List.getElem_cons_zero, Act.put, List.setIfInBounds_toArray, List.set_cons_zero, List.set_cons_succ]
      refine wpAnyH_take (i := 21) (v := ?_) rfl (by kernel_rfl) (by kernel_rfl) (by kernel_rfl) (fun _ _ _ h => h) (Or.inl ⟨by rfl, ?_⟩) (by assumption) ?_
      rotate_left 1
      · (intro w hSw; (try dsimp only at hSw); go_simp; try with_reducible rfl)
      try simp only [List.getElem_toArray, List.getElem_cons_succ, List.getElem_cons_zero, Act.put, List.setIfInBounds_toArray, List.set_cons_zero, List.set_cons_succ]
      refine wpAnyH_take (i := 22) (v := undef) rfl (by kernel_rfl) (by kernel_rfl) (by kernel_rfl) (fun _ _ _ h => h) (Or.inr ⟨by rfl, rfl⟩) (by assumption) ?_
      try simp only [List.getElem_toArray, List.getElem_cons_succ, List.getElem_cons_zero, Act.put, List.setIfInBounds_toArray, List.set_cons_zero, List.set_cons_succ]
      refine wpAnyH_take (i := 23) (v := undef) rfl (by kernel_rfl) (by kernel_rfl) (by kernel_rfl) (fun _ _ _ h => h) (Or.inr ⟨by rfl, rfl⟩) (by assumption) ?_
      try simp only [List.getElem_toArray, List.getElem_cons_succ, List.getElem_cons_zero, Act.put, List.setIfInBounds_toArray, List.set_cons_zero, List.set_cons_succ]
      refine wpAnyH_take (i := 24) (v := undef) rfl (by kernel_rfl) (by kernel_rfl) (by kernel_rfl) (fun _ _ _ h => h) (Or.inr ⟨by rfl, rfl⟩) (by assumption) ?_
      try simp only [List.getElem_toArray, List.getElem_cons_succ, List.getElem_cons_zero, Act.put, List.setIfInBounds_toArray, List.set_cons_zero, List.set_cons_succ]
      refine wpAnyH_take (i := 25) (v := ?_) rfl (by kernel_rfl) (by kernel_rfl) (by kernel_rfl) (fun _ _ _ h => h) (Or.inl ⟨by rfl, ?_⟩) (by assumption) ?_
      rotate_left 1
      · (intro w hSw; (try dsimp only at hSw); go_simp; try with_reducible rfl)
      try simp only [List.getElem_toArray, List.getElem_cons_succ, List.getElem_cons_zero, Act.put, List.setIfInBounds_toArray, List.set_cons_zero, List.set_cons_succ]
      refine wpAnyH_take (i := 26) (v := ?_) rfl (by kernel_rfl) (by kernel_rfl) (by kernel_rfl) (fun _ _ _ h => h) (Or.inl ⟨by rfl, ?_⟩) (by assumption) ?_
      rotate_left 1
      · (intro w hSw; (try dsimp only at hSw); go_simp; try with_reducible rfl)
      try simp only [List.getElem_toArray, List.getElem_cons_succ, List.getElem_cons_zero, Act.put, List.setIfInBounds_toArray, List.set_cons_zero, List.set_cons_succ]
      refine wpAnyH_take (i := 27) (v := ?_) rfl (by kernel_rfl) (by kernel_rfl) (by kernel_rfl) (fun _ _ _ h => h) (Or.inl ⟨by rfl, ?_⟩) (by assumption) ?_
      rotate_left 1
      · (intro w hSw; (try dsimp only at hSw); go_simp; try with_reducible rfl)
      try simp only [List.getElem_toArray, List.getElem_cons_succ, List.getElem_cons_zero, Act.put, List.setIfInBounds_toArray, List.set_cons_zero, List.set_cons_succ]
      refine wpAnyH_take (i := 28) (v := ?_) rfl (by kernel_rfl) (by kernel_rfl) (by kernel_rfl) (fun _ _ _ h => h) (Or.inl ⟨by rfl, ?_⟩) (by assumption) ?_
      rotate_left 1
      · (intro w hSw; (try dsimp only at hSw); go_simp; try with_reducible rfl)
      try simp only [List.getElem_toArray, List.getElem_cons_succ, List.getElem_cons_zero, Act.put, List.setIfInBounds_toArray, List.set_cons_zero, List.set_cons_succ]
      refine wpAnyH_done (by kernel_rfl) ?_ _
      go_wp2_with fail
      go_ret
      exact ⟨by simp, V.out.2.2⟩
set_option maxRecDepth 100000 in
set_option maxHeartbeats 2000000 in
theorem back_same (k o : Int) (bs : List Int) (hb : ∀ x ∈ bs, 0 ≤ x ∧ x < 256) (w : World) (hL : Laid w) : Calls Tryd.prog 5 #[acv k o, acv k o, .string (strOfNums bs)] w fun e w' => e = .returned (.bool true) ∧ Below w.heap.size w w' := by
  have HL := Lib.hid hL
  clear hL
  have LAB := Lib.hid (fun w => less_of k o k o false (decide_eq_false (by unfold Hp.lt; omega)) w)
  have LBA := Lib.hid (fun w => less_of k o k o false (decide_eq_false (by unfold Hp.lt; omega)) w)
  obtain ⟨N, hN⟩ : ∃ N, bs.length = N := ⟨_, rfl⟩
  have hz : (strOfNums bs).size = N := by rw [strOfNums_size, hN]
  have HB := Lib.hid hb
  have HN := Lib.hid hN
  clear hb hN
  have V := Lib.hid (BK.start w 23 k o k o)
  go_enter Tryd.func5, Tryd.ntmps5
  go_wp2_with fail
  generalize (w.alloc (.cells #[.int .i64 k, .int .i64 o] 23)).alloc (.cells #[.int .i64 k, .int .i64 o] 23) = w2 at *
  refine (up_any _ (by first | exact HL.out.below B.out | exact HL.out.below V.out.2.2 | exact HL.out)).mono ?_; rintro e w3 ⟨rfl, hb⟩
  have V := Lib.hid (V.out.below hb)
  clear hb
  by_cases hl : 1000 < N
  · have hlz : (1000 : Int) < (N : Int) := by omega
    go_wp2_with fail
    go_ret
    exact ⟨by simp, V.out.2.2⟩
  have hlz : ¬ (1000 : Int) < (N : Int) := by omega
  have HP := Lib.hid (fun w h => cparse_both bs HB.out (by rw [HN.out]; omega) w h)
  obtain ⟨⟨-, ⟨a0, a1⟩, -⟩, ⟨-, ⟨b0, b1⟩, -⟩, -⟩ := V.out
  go_wp2_with fail
  refine (cname_both k o _ (by first | exact HL.out.below B.out | exact HL.out.below V.out.2.2 | exact HL.out)).mono ?_; rintro e w4 ⟨s, er, m, rfl, q, qg, hcase, hb⟩
  have V := Lib.hid (V.out.below hb)
  clear hb a0 a1 b0 b1
  go_upto_if 27 with fail
  go_cut [] from 10 to 86 (fun wx => BK w wx k o k o)
  case first =>
    rcases hcase.out with ⟨rfl, rfl, K, O, rfl, rfl, hm, rfl⟩ | ⟨rfl, rfl⟩
    · have HM := Lib.hid hm
      clear hm
      go_wp2_with fail
      refine (cparse_any (Hp.name K O) (Hp.name_bytes K O) (by have := Hp.name_len (k := K) (o := O) (by have := HM.out; unfold Hp.May at this; omega) (by have := HM.out; unfold Hp.May at this; omega) (by have := HM.out; unfold Hp.May at this; omega); omega) _ (by first | exact HL.out.below B.out | exact HL.out.below V.out.2.2 | exact HL.out)).mono ?_
      rintro e w5 ⟨⟨k', o', hi, rfl⟩ | ⟨hno, _⟩, hb⟩
      · obtain ⟨rfl, rfl⟩ := Hp.is_unique (show Hp.Is (Hp.name K O) K O from ⟨HM.out, rfl⟩) hi
        have V := Lib.hid (V.out.below hb)
        have V2 := Lib.hid (V.out.below (alloc_below w5 (.cells #[.int .i64 K, .int .i64 O] 23)))
        have A := Lib.hid (AV.new w5 23 K O)
        clear hb hi
        obtain ⟨⟨-, ⟨a0, a1⟩, -⟩, ⟨-, ⟨b0, b1⟩, -⟩, -⟩ := V2.out
        obtain ⟨-, ⟨c0, c1⟩, -⟩ := A.out
        go_wp2_with fail
        go_meet
        exact V2.out
      · exact absurd (show Hp.Is (Hp.name K O) K O from ⟨HM.out, rfl⟩) (hno K O)
    · go_wp2_with fail
      go_meet
      exact V.out
  case rest =>
    clear V hcase q qg
    have V := Lib.hid hcut
    clear hcut
    go_wp2_with fail
    refine (HP.out _ (by first | exact HL.out.below B.out | exact HL.out.below V.out.2.2 | exact HL.out)).mono ?_; rintro e w6 ⟨k2, o2, er2, m2, rfl, q, qg, hcase, hb⟩
    have V := Lib.hid (V.out.below hb)
    have V := Lib.hid (V.out.below (alloc_below w6 (.cells #[.int .i64 k2, .int .i64 o2] 23)))
    have A := Lib.hid (AV.new w6 23 k2 o2)
    clear hb
    go_upto_if 46 with fail
    generalize w6.alloc (.cells #[.int .i64 k2, .int .i64 o2] 23) = w7 at *
    go_cut [] from 10 to 86 (fun wx => BK w wx k o k o)
    case first =>
      rcases hcase.out with ⟨rfl, rfl, K, O, rfl, rfl, hi⟩ | ⟨rfl, rfl⟩
      · have HI := Lib.hid hi
        clear hi
        obtain ⟨-, ⟨c0, c1⟩, -⟩ := A.out
        go_wp2_with fail
        obtain ⟨J, rfl⟩ : ∃ J : Nat, K = J + 1 := ⟨K - 1, by have := (Hp.may_kind HI.out.1).1; omega⟩
        have HC := cname_yes J O (by have := HI.out.1; push_cast at this; exact this)
        rw [← HI.out.2] at HC
        refine (HC _ (by first | exact HL.out.below B.out | exact HL.out.below V.out.2.2 | exact HL.out)).mono ?_; rintro e w8 ⟨rfl, hb⟩
        have V := Lib.hid (V.out.below hb)
        clear hb
        go_wp2_with fail
        go_meet
        exact V.out
      · go_wp2_with fail
        go_meet
        exact V.out
    case rest =>
      clear V hcase q qg A
      have V := Lib.hid hcut
      clear hcut
      obtain ⟨⟨-, ⟨a0, a1⟩, -⟩, ⟨-, ⟨b0, b1⟩, -⟩, -⟩ := V.out
      go_wp2_with fail
      have V0 := Lib.hid V.out
      have HW := Lib.hid (Below.refl wc.heap.size wc).drew
      refine wp_region_held_drew (S := fun w' => w'.cell? ⟨w.heap.size, 0, none⟩ = some (.int .i64 k) ∧ w'.cell? ⟨w.heap.size, 1, none⟩ = some (.int .i64 o) ∧ w'.cell? ⟨w.heap.size + 1, 0, none⟩ = some (.int .i64 k) ∧ w'.cell? ⟨w.heap.size + 1, 1, none⟩ = some (.int .i64 o)) (by kernel_rfl) ?_ (fun hHeld => ?_)
      · exact ⟨a0, a1, b0, b1⟩
      refine wpAnyH_take (i := 0) (v := ?_) rfl (by kernel_rfl) (by kernel_rfl) (by kernel_rfl) (fun _ _ _ h => h) (Or.inl ⟨by rfl, ?_⟩) (by assumption) ?_
      rotate_left 1
      · (intro w hSw; (try dsimp only at hSw); go_simp; try with_reducible rfl)
      try simp only [List.getElem_toArray, List.getElem_cons_zero, Act.put, List.setIfInBounds_toArray, List.set_cons_zero, List.set_cons_succ]
      refine wpAnyH_take (i := 1) (v := ?_) rfl (by kernel_rfl) (by kernel_rfl) (by kernel_rfl) (fun _ _ _ h => h) (Or.inl ⟨by rfl, ?_⟩) (by assumption) ?_
      rotate_left 1
      · (intro w hSw; (try dsimp only at hSw); go_simp; try with_reducible rfl)
      try simp only [List.getElem_toArray, List.getElem_cons_succ, List.getElem_cons_zero, Act.put, List.setIfInBounds_toArray, List.set_cons_zero, List.set_cons_succ]
      refine wpAnyH_take (i := 2) (v := ?_) rfl (by kernel_rfl) (by kernel_rfl) (by kernel_rfl) (fun _ _ _ h => h) (Or.inl ⟨by rfl, ?_⟩) (by assumption) ?_
      rotate_left 1
      · (intro w hSw; (try dsimp only at hSw); go_simp; try with_reducible rfl)
      try simp only [List.getElem_toArray, List.getElem_cons_succ, List.getElem_cons_zero, Act.put, List.setIfInBounds_toArray, List.set_cons_zero, List.set_cons_succ]
      refine wpAnyH_take (i := 3) (v := ?_) rfl (by kernel_rfl) (by kernel_rfl) (by kernel_rfl) (fun _ _ _ h => h) (Or.inl ⟨by rfl, ?_⟩) (by assumption) ?_
      rotate_left 1
      · (intro w hSw; (try dsimp only at hSw); go_simp; try with_reducible rfl)
      try simp only [List.getElem_toArray, List.getElem_cons_succ, List.getElem_cons_zero, Act.put, List.setIfInBounds_toArray, List.set_cons_zero, List.set_cons_succ]
      refine wpAnyH_take (i := 4) (v := ?_) rfl (by kernel_rfl) (by kernel_rfl) (by kernel_rfl) (fun _ _ _ h => h) (Or.inl ⟨by rfl, ?_⟩) (by assumption) ?_
      rotate_left 1
      · (intro w hSw; (try dsimp only at hSw); go_simp; try with_reducible rfl)
      try simp only [List.getElem_toArray, List.getElem_cons_succ, List.getElem_cons_zero, Act.put, List.setIfInBounds_toArray, List.set_cons_zero, List.set_cons_succ]
      refine wpAnyH_take (i := 5) (v := ?_) rfl (by kernel_rfl) (by kernel_rfl) (by kernel_rfl) (fun _ _ _ h => h) (Or.inl ⟨by rfl, ?_⟩) (by assumption) ?_
      rotate_left 1
      · (intro w hSw; (try dsimp only at hSw); go_simp; try with_reducible rfl)
      try simp only [List.getElem_toArray, List.getElem_cons_succ, List.getElem_cons_zero, Act.put, List.setIfInBounds_toArray, List.set_cons_zero, List.set_cons_succ]
      refine wpAnyH_take (i := 6) (v := ?_) rfl (by kernel_rfl) (by kernel_rfl) (by kernel_rfl) (fun _ _ _ h => h) (Or.inl ⟨by rfl, ?_⟩) (by assumption) ?_
      rotate_left 1
      · (intro w hSw; (try dsimp only at hSw); go_simp; try with_reducible rfl)
      try simp only [List.getElem_toArray, List.getElem_cons_succ, List.getElem_cons_zero, Act.put, List.setIfInBounds_toArray, List.set_cons_zero, List.set_cons_succ]
      refine wpAnyH_ready (rs := [7]) (by kernel_rfl) (by simp) ?_
      refine AllReadyH.cons rfl (fun K hK => ?_) AllReadyH.nil
      go_simp
      refine (LAB.out _).mono ?_; rintro e wq ⟨rfl, hb0⟩; have hb := (show Below wc.heap.size wc _ from HW.out).trans (hb0.mono HW.out.size); have HW := Lib.hid hb; have V := Lib.hid (V0.out.below hb); obtain ⟨⟨-, ⟨a0, a1⟩, -⟩, ⟨-, ⟨b0, b1⟩, -⟩, -⟩ := V.out; clear hb hb0; dsimp only
      refine hK.out _ _ ?_ (fun hHeld => ?_)
      · exact ⟨a0, a1, b0, b1⟩
      clear hK K
      try simp only [List.getElem_toArray, List.getElem_cons_succ, List.getElem_cons_zero, Act.put, List.setIfInBounds_toArray, List.set_cons_zero, List.set_cons_succ]
      refine wpAnyH_take (i := 8) (v := ?_) rfl (by kernel_rfl) (by kernel_rfl) (by kernel_rfl) (fun _ _ _ h => h) (Or.inl ⟨by rfl, ?_⟩) (by assumption) ?_
      rotate_left 1
      · (intro w hSw; (try dsimp only at hSw); go_simp; try with_reducible rfl)
      try simp only [List.getElem_toArray, List.getElem_cons_succ, List.getElem_cons_zero, Act.put, List.setIfInBounds_toArray, List.set_cons_zero, List.set_cons_succ]
      refine wpAnyH_take (i := 9) (v := ?_) rfl (by kernel_rfl) (by kernel_rfl) (by kernel_rfl) (fun _ _ _ h => h) (Or.inl ⟨by rfl, ?_⟩) (by assumption) ?_
      rotate_left 1
      · (intro w hSw; (try dsimp only at hSw); go_simp; try with_reducible rfl)
      try simp only [List.getElem_toArray, List.getElem_cons_succ, List.getElem_cons_zero, Act.put, List.setIfInBounds_toArray, List.set_cons_zero, List.set_cons_succ]
      refine wpAnyH_take (i := 10) (v := ?_) rfl (by kernel_rfl) (by kernel_rfl) (by kernel_rfl) (fun _ _ _ h => h) (Or.inl ⟨by rfl, ?_⟩) (by assumption) ?_
      rotate_left 1
      · (intro w hSw; (try dsimp only at hSw); go_simp; try with_reducible rfl)
      try simp only [List.getElem_toArray, List.getElem_cons_succ, List.getElem_cons_zero, Act.put, List.setIfInBounds_toArray, List.set_cons_zero, List.set_cons_succ]
      refine wpAnyH_take (i := 11) (v := ?_) rfl (by kernel_rfl) (by kernel_rfl) (by kernel_rfl) (fun _ _ _ h => h) (Or.inl ⟨by rfl, ?_⟩) (by assumption) ?_
      rotate_left 1
      · (intro w hSw; (try dsimp only at hSw); go_simp; try with_reducible rfl)
      try simp only [List.getElem_toArray, List.getElem_cons_succ, List.getElem_cons_zero, Act.put, List.setIfInBounds_toArray, List.set_cons_zero, List.set_cons_succ]
      refine wpAnyH_ready (rs := [12]) (by kernel_rfl) (by simp) ?_
      refine AllReadyH.cons rfl (fun K hK => ?_) AllReadyH.nil
      go_simp
      refine (LBA.out _).mono ?_; rintro e wq ⟨rfl, hb0⟩; have hb := (show Below wc.heap.size wc _ from HW.out).trans (hb0.mono HW.out.size); have HW := Lib.hid hb; have V := Lib.hid (V0.out.below hb); obtain ⟨⟨-, ⟨a0, a1⟩, -⟩, ⟨-, ⟨b0, b1⟩, -⟩, -⟩ := V.out; clear hb hb0; dsimp only
      refine hK.out _ _ ?_ (fun hHeld => ?_)
      · exact ⟨a0, a1, b0, b1⟩
      clear hK K
      try simp only [List.getElem_toArray, List.getElem_cons_succ, List.getElem_cons_zero, Act.put, List.setIfInBounds_toArray, List.set_cons_zero, List.set_cons_succ]
      refine wpAnyH_take (i := 13) (v := ?_) rfl (by kernel_rfl) (by kernel_rfl) (by kernel_rfl) (fun _ _ _ h => h) (Or.inl ⟨by rfl, ?_⟩) (by assumption) ?_
      rotate_left 1
      · (intro w hSw; (try dsimp only at hSw); go_simp; try with_reducible rfl)
      try simp only [List.getElem_toArray, List.getElem_cons_succ, List.getElem_cons_zero, Act.put, List.setIfInBounds_toArray, List.set_cons_zero, List.set_cons_succ]
      refine wpAnyH_take (i := 14) (v := ?_) rfl (by kernel_rfl) (by kernel_rfl) (by kernel_rfl) (fun _ _ _ h => h) (Or.inl ⟨by rfl, ?_⟩) (by assumption) ?_
      rotate_left 1
      · (intro w hSw; (try dsimp only at hSw); go_simp; try with_reducible rfl)
      try simp only [List.getElem_toArray, List.getElem_cons_succ, List.getElem_cons_zero, Act.put, List.setIfInBounds_toArray, List.set_cons_zero, List.set_cons_succ]
      refine wpAnyH_take (i := 15) (v := ?_) rfl (by kernel_rfl) (by kernel_rfl) (by kernel_rfl) (fun _ _ _ h => h) (Or.inl ⟨by rfl, ?_⟩) (by assumption) ?_
      rotate_left 1
      · (intro w hSw; (try dsimp only at hSw); go_simp; try with_reducible rfl)
      try simp only [List.getElem_toArray, List.getElem_cons_succ, List.getElem_cons_zero, Act.put, List.setIfInBounds_toArray, List.set_cons_zero, List.set_cons_succ]
      refine wpAnyH_take (i := 16) (v := ?_) rfl (by kernel_rfl) (by kernel_rfl) (by kernel_rfl) (fun _ _ _ h => h) (Or.inl ⟨by rfl, ?_⟩) (by assumption) ?_
      rotate_left 1
      · (intro w hSw; (try dsimp only at hSw); go_simp; try with_reducible rfl)
      try simp only [List.getElem_toArray, List.getElem_cons_succ, List.getElem_cons_zero, Act.put, List.setIfInBounds_toArray, List.set_cons_zero, List.set_cons_succ]
      refine wpAnyH_take (i := 17) (v := ?_) rfl (by kernel_rfl) (by kernel_rfl) (by kernel_rfl) (fun _ _ _ h => h) (Or.inl ⟨by rfl, ?_⟩) (by assumption) ?_
      rotate_left 1
      · (intro w hSw; (try dsimp only at hSw); go_simp; try with_reducible rfl)
      try simp only [List.getElem_toArray, List.getElem_cons_succ, List.getElem_cons_zero, Act.put, List.setIfInBounds_toArray, List.set_cons_zero, List.set_cons_succ]
      refine wpAnyH_take (i := 18) (v := ?_) rfl (by kernel_rfl) (by kernel_rfl) (by kernel_rfl) (fun _ _ _ h => h) (Or.inl ⟨by rfl, ?_⟩) (by assumption) ?_
      rotate_left 1
      · (intro w hSw; (try dsimp only at hSw); go_simp; try with_reducible rfl)
      try simp only [List.getElem_toArray, List.getElem_cons_succ, List.getElem_cons_zero, Act.put, List.setIfInBounds_toArray, List.set_cons_zero, List.set_cons_succ]
      refine wpAnyH_take (i := 19) (v := ?_) rfl (by kernel_rfl) (by kernel_rfl) (by kernel_rfl) (fun _ _ _ h => h) (Or.inl ⟨by rfl, ?_⟩) (by assumption) ?_
      rotate_left 1
      · (intro w hSw; (try dsimp only at hSw); go_simp; try with_reducible rfl)
      try simp only [List.getElem_toArray, List.getElem_cons_succ, List.getElem_cons_zero, Act.put, List.setIfInBounds_toArray, List.set_cons_zero, List.set_cons_succ]
      refine wpAnyH_ready (rs := [20]) (by kernel_rfl) (by simp) ?_
      refine AllReadyH.cons rfl (fun K hK => ?_) AllReadyH.nil
      go_simp
      refine (LAB.out _).mono ?_; rintro e wq ⟨rfl, hb0⟩; have hb := (show Below wc.heap.size wc _ from HW.out).trans (hb0.mono HW.out.size); have HW := Lib.hid hb; have V := Lib.hid (V0.out.below hb); obtain ⟨⟨-, ⟨a0, a1⟩, -⟩, ⟨-, ⟨b0, b1⟩, -⟩, -⟩ := V.out; clear hb hb0; dsimp only
      refine hK.out _ _ ?_ (fun hHeld => ?_)
      · exact ⟨a0, a1, b0, b1⟩
      clear hK K
      try simp only [List.getElem_toArray, List.getElem_cons_succ, List.getElem_cons_zero, Act.put, List.setIfInBounds_toArray, List.set_cons_zero, List.set_cons_succ]
      refine wpAnyH_take (i := 21) (v := ?_) rfl (by kernel_rfl) (by kernel_rfl) (by kernel_rfl) (fun _ _ _ h => h) (Or.inl ⟨by rfl, ?_⟩) (by assumption) ?_
      rotate_left 1
      · (intro w hSw; (try dsimp only at hSw); go_simp; try with_reducible rfl)
      try simp only [List.getElem_toArray, List.getElem_cons_succ, List.getElem_cons_zero, Act.put, List.setIfInBounds_toArray, List.set_cons_zero, List.set_cons_succ]
      refine wpAnyH_take (i := 22) (v := undef) rfl (by kernel_rfl) (by kernel_rfl) (by kernel_rfl) (fun _ _ _ h => h) (Or.inr ⟨by rfl, rfl⟩) (by assumption) ?_
      try simp only [List.getElem_toArray, List.getElem_cons_succ, List.getElem_cons_zero, Act.put, List.setIfInBounds_toArray, List.set_cons_zero, List.set_cons_succ]
      refine wpAnyH_take (i := 23) (v := undef) rfl (by kernel_rfl) (by kernel_rfl) (by kernel_rfl) (fun _ _ _ h => h) (Or.inr ⟨by rfl, rfl⟩) (by assumption) ?_
      try simp only [List.getElem_toArray, List.getElem_cons_succ, List.getElem_cons_zero, Act.put, List.setIfInBounds_toArray, List.set_cons_zero, List.set_cons_succ]
      refine wpAnyH_take (i := 24) (v := undef) rfl (by kernel_rfl) (by kernel_rfl) (by kernel_rfl) (fun _ _ _ h => h) (Or.inr ⟨by rfl, rfl⟩) (by assumption) ?_
      try simp only [List.getElem_toArray, List.getElem_cons_succ, List.getElem_cons_zero, Act.put, List.setIfInBounds_toArray, List.set_cons_zero, List.set_cons_succ]
      refine wpAnyH_take (i := 25) (v := ?_) rfl (by kernel_rfl) (by kernel_rfl) (by kernel_rfl) (fun _ _ _ h => h) (Or.inl ⟨by rfl, ?_⟩) (by assumption) ?_
      rotate_left 1
      · (intro w hSw; (try dsimp only at hSw); go_simp; try with_reducible rfl)
      try simp only [List.getElem_toArray, List.getElem_cons_succ, List.getElem_cons_zero, Act.put, List.setIfInBounds_toArray, List.set_cons_zero, List.set_cons_succ]
      refine wpAnyH_take (i := 26) (v := ?_) rfl (by kernel_rfl) (by kernel_rfl) (by kernel_rfl) (fun _ _ _ h => h) (Or.inl ⟨by rfl, ?_⟩) (by assumption) ?_
      rotate_left 1
      · (intro w hSw; (try dsimp only at hSw); go_simp; try with_reducible rfl)
      try simp only [List.getElem_toArray, List.getElem_cons_succ, List.getElem_cons_zero, Act.put, List.setIfInBounds_toArray, List.set_cons_zero, List.set_cons_succ]
      refine wpAnyH_take (i := 27) (v := ?_) rfl (by kernel_rfl) (by kernel_rfl) (by kernel_rfl) (fun _ _ _ h => h) (Or.inl ⟨by rfl, ?_⟩) (by assumption) ?_
      rotate_left 1
      · (intro w hSw; (try dsimp only at hSw); go_simp; try with_reducible rfl)
      try simp only [List.getElem_toArray, List.getElem_cons_succ, List.getElem_cons_zero, Act.put, List.setIfInBounds_toArray, List.set_cons_zero, List.set_cons_succ]
      refine wpAnyH_take (i := 28) (v := ?_) rfl (by kernel_rfl) (by kernel_rfl) (by kernel_rfl) (fun _ _ _ h => h) (Or.inl ⟨by rfl, ?_⟩) (by assumption) ?_
      rotate_left 1
      · (intro w hSw; (try dsimp only at hSw); go_simp; try with_reducible rfl)
      try simp only [List.getElem_toArray, List.getElem_cons_succ, List.getElem_cons_zero, Act.put, List.setIfInBounds_toArray, List.set_cons_zero, List.set_cons_succ]
      refine wpAnyH_done (by kernel_rfl) ?_ _
      go_wp2_with fail
      go_ret
      exact ⟨by simp, V.out.2.2⟩
theorem back_walk (k o j p : Int) (bs : List Int) (hb : ∀ x ∈ bs, 0 ≤ x ∧ x < 256) (w : World) (hL : Laid w) : Calls Tryd.prog 5 #[acv k o, acv j p, .string (strOfNums bs)] w fun e w' => e = .returned (.bool true) ∧ Below w.heap.size w w' := by
  rcases Int.lt_trichotomy k j with h | rfl | h
  · exact back_less k o j p h bs hb w hL
  · rcases Int.lt_trichotomy o p with h | rfl | h
    · exact back_same_less k o p h bs hb w hL
    · exact back_same k o bs hb w hL
    · exact back_same_more k o p h bs hb w hL
  · exact back_more k o j p h bs hb w hL
theorem back_str (k o j p : Int) (s : ByteArray) (w : World) (hL : Laid w) : Calls Tryd.prog 5 #[acv k o, acv j p, .string s] w fun e w' => e = .returned (.bool true) ∧ Below w.heap.size w w' := by
  obtain ⟨bs, rfl, hb⟩ := bytes_of s
  exact back_walk k o j p bs hb w hL
end Go.Proofs.YtnbieibbfpajeaaDoor
