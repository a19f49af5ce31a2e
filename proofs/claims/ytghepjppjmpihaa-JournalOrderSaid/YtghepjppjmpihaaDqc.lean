/- The program's disk: Sync. -/
import Derived.Test.YtghepjppjmpihaaDqn
namespace Go.Proofs.Ytghepjppjmpihaa
open Go.ChangeShapes Go.WideShapes Go.ChangeAt Go.RowKit Go.Lib

theorem half_start {w : World} {b tb sb mb n m : Nat} {st now dr : List Int} {D : DataW Unit} (h : Dm w b tb sb mb n m st now dr D) : Half (Maps.has D) st st now dr := fun p => by
  by_cases k : dr.getD (p / 64) 0 = 1 ∧ Maps.has D (.int .i64 ((p / 64 : Nat) : Int)) = false
  · have hlt : p / 64 < m := by
      rcases Nat.lt_or_ge (p / 64) m with h1 | h1
      · exact h1
      · have := k.1
        rw [List.getD_eq_getElem?_getD, List.getElem?_eq_none (by rw [h.ld]; exact h1)] at this
        cases this
    have := (h.hk _).2 ⟨p / 64, hlt, rfl, k.1⟩
    rw [k.2] at this; cases this
  · rw [if_neg k]
theorem half_end {X st now dr : List Int} {left : Lit → Bool} {n : Nat} (h : Half left X st now dr) (hl : ∀ k, left k = false) (hi : ∀ p, dr.getD (p / 64) 0 ≠ 1 → now.getD p 0 = st.getD p 0) (lx : X.length = n) (ln : now.length = n) : X = now :=
  Dk.ext (by rw [lx, ln]) fun p _ => by
    rw [h p]
    by_cases k : dr.getD (p / 64) 0 = 1
    · rw [if_pos ⟨k, hl _⟩]
    · rw [if_neg (fun h => k h.1), hi p k]
theorem half_step {X st now dr : List Int} {left : Lit → Bool} {n i : Nat} (h : Half left X st now dr) (hd : dr.getD i 0 = 1) (lx : X.length = n) (hn : 64 * i + 64 ≤ n) :
    Half (fun z => left z && !z.sameKey (.int .i64 (i : Int))) (cp now X (64 * i) (64 * i + 64)) st now dr := fun p => by
  rw [cp_get (by omega) (by omega), h p]
  by_cases e : p / 64 = i
  · rw [if_pos (by omega), if_pos ⟨by rw [e]; exact hd, by rw [e]; simp [Lit.sameKey]⟩]
  · rw [if_neg (by omega)]
    have e2 : (Lit.int .i64 ((p / 64 : Nat) : Int)).sameKey (.int .i64 (i : Int)) = false := Maps.sameKey_ne (fun e' => e (by injection e' with _ e'; omega))
    have e3 : (left (.int .i64 ((p / 64 : Nat) : Int)) && !(Lit.int .i64 ((p / 64 : Nat) : Int)).sameKey (.int .i64 (i : Int))) = left (.int .i64 ((p / 64 : Nat) : Int)) := by rw [e2]; exact Bool.and_true _
    show _ = if dr.getD (p / 64) 0 = 1 ∧ (left (.int .i64 ((p / 64 : Nat) : Int)) && !(Lit.int .i64 ((p / 64 : Nat) : Int)).sameKey (.int .i64 (i : Int))) = false then now.getD p 0 else st.getD p 0
    rw [e3]
set_option maxRecDepth 100000 in
set_option maxHeartbeats 1000000 in
theorem psync {b tb sb mb n m : Nat} {st now dr : List Int} {D : DataW Unit} (w : World) (h : Dm w b tb sb mb n m st now dr D) (hi : ∀ p, dr.getD (p / 64) 0 ≠ 1 → now.getD p 0 = st.getD p 0) :
    Calls Try.prog 11 #[.pointer (some ⟨b, 0, none⟩)] w fun e w' => e = .returned (.tuple #[]) ∧ Dm w' b tb sb mb n m now now (zs m) (.map []) ∧ But (fun k => k = sb ∨ k = mb) w w' := by
  have H := Lib.hid h
  have HI := Lib.hid hi
  have ho := Lib.hid h.own
  have c2 := h.c2
  have hm : m ≤ 1024 := h.le
  have HR := Lib.hid (show b < w.heap.size ∧ tb < w.heap.size ∧ sb < w.heap.size ∧ mb < w.heap.size from ⟨h.lt, h.rn.1, h.rs.1, h.own.lt⟩)
  have HNM := Lib.hid h.e
  clear h hi
  go_enter Try.func11, Try.ntmps11
  go_wp2_with (first | (at_range; refine wpList_range_own _ rfl _ 59 rfl 3 63 keyI Try.underlying59 unitElem mb _ D rfl ho.out ?_; intro w0 hrg0 hg0 hs0) | go_in)
  go_frame
  go_loopw [2] (fun _ wr => ∃ (left : Lit → Bool) (cnt : Nat) (X : List Int), wr.ranges Try.prog 3 unitElem mb w.heap.size (Maps.size D) D left cnt ∧ Hid (Dm wr b tb sb mb n m X now dr D) ∧ Hid (Half left X st now dr) ∧ Hid (But (fun k => k = sb) w wr))
    (fun _ wr => wr.rangeLeft mb w.heap.size)
  case atStart => exact ⟨_, _, st, hrg0, H.out.but (But.grown (S := fun _ => False) hg0 fun _ e => nomatch e) id id id id, half_start H.out, But.grown hg0 fun _ e => nomatch e⟩
  case round =>
    obtain ⟨left, cnt, X, hrg, HM, HH, HB⟩ := hrel
    clear hrg0 hg0 hs0 c2
    go_wp2_with (first
      | (at_next; refine wpList_next_ranges _ rfl _ rfl 3 keyI unitElem (Value.int .i64) (fun _ : Unit => Value.agg #[]) (fun key kl hk => by obtain ⟨x, rfl, _⟩ := Maps.keyOf_int_inv Try.underlying3 hk; exact ⟨x, rfl⟩) (fun v y hv => ⟨(), (unitElem_inv hv).1⟩) mb w.heap.size _ D _ _ rfl hrg ?_ ?_)
      | go_in)
    · intro _ hl0
      have c2 := HM.out.c2
      obtain ⟨w3, hcl, ho3, hb3⟩ := run_clear HM.out.own
      have HX := half_end HH.out hl0 HI.out HM.out.ls HM.out.ln
      have HN := Lib.hid (show Dm w3 b tb sb mb n m now now (zs m) (.map []) ∧ But (fun k => k = sb ∨ k = mb) w w3 from ⟨by
        have := HM.out.marks (dr' := zs m) hb3 ho3 (by simp) (keys_zs _) (many_zs0 _).symm
        rwa [HX] at this, (HB.out.more fun k _ hk => .inl hk).trans (hb3.more fun k _ hk => .inr hk)⟩)
      clear ho3 hb3 HX
      go_wp2_with fail
      go_end0
      exact ⟨rfl, HN.out.1, HN.out.2⟩
    · intro x kl yd yp w1 cnt1 hkey hlk hv hat hrg1 hlt hg1 hs1 hen
      obtain ⟨x', ex, rfl, _⟩ := Maps.keyOf_int_inv Try.underlying3 hkey
      injection ex with _ ex
      subst ex
      obtain ⟨i, him, ei, hdi⟩ := (HM.out.hk _).1 (Maps.has_true_of_atKey hat)
      injection ei with _ ei
      subst ei
      have HM1 := Lib.hid (HM.out.but (But.grown (S := fun k => k = w.heap.size) hg1 fun k e => by injection e with e; exact e.symm) (by have := HR.out; omega) (by have := HR.out; omega) (by have := HR.out; omega) (by have := HR.out; omega))
      have HB1 := Lib.hid (show But (fun k => k = sb) w w1 from ⟨hg1.os.trans HB.out.os, hg1.tape.trans HB.out.tape, hg1.output.trans HB.out.output, Nat.le_trans HB.out.size hg1.size, fun k hk hn => (hg1.block k (Nat.lt_of_lt_of_le hk HB.out.size) (fun e => by injection e with e; omega)).trans (HB.out.block k hk hn)⟩)
      have HRG := Lib.hid hrg1
      have HLT := Lib.hid (show w1.rangeLeft mb w.heap.size < wr.rangeLeft mb w.heap.size by rw [hrg1.left_eq, hrg.left_eq]; exact hlt)
      clear hkey hlk hv hat hrg1 hlt hg1 hs1 hrg HM HB
      have cb := cbounds i (by omega) w1
      obtain ⟨w2, hC, hA2, hb2⟩ := copy_rows (w := w1.drew) HM1.out.rs HM1.out.rn HM1.out.ls HM1.out.ln (64 * i) (64 * i + 64) (by omega) (by have := HNM.out; omega)
      generalize huN : 64 * i = uN at *
      generalize hvN : uN + 64 = vN at *
      have HV := Lib.hid (show uN < n ∧ uN < vN ∧ vN ≤ n from by have := HNM.out; omega)
      have l1 : (uN : Int) ≤ (vN : Int) := by omega
      have l2 : (vN : Int) ≤ (n : Int) := by have := HV.out; omega
      have hne : ¬ n = uN := by have := HV.out; omega
      have HN := Lib.hid (show Dm w2 b tb sb mb n m (cp now X uN vN) now dr D from HM1.out.drew.stands hb2 hA2 (by rw [cp_len]; exact HM1.out.ls))
      have HNB := Lib.hid (HB1.out.drew.trans hb2)
      have HNH := Lib.hid (show Half (fun z => left z && !z.sameKey (.int .i64 (i : Int))) (cp now X uN vN) st now dr by
        rw [← hvN, ← huN]; exact half_step HH.out hdi HM1.out.ls (by have := HV.out; omega))
      have hgw : w1.drew.grownBy w2 (some sb) := grown_but hb2
      have HNR := Lib.hid (show w2.ranges Try.prog 3 unitElem mb w.heap.size (Maps.size D) D (fun z => left z && !z.sameKey (.int .i64 (i : Int))) cnt1 from
        World.ranges.kept (w := w1.drew) HRG.out hgw (fun e => by injection e with e; exact HM1.out.ne.2.2.2.2.2 e.symm) (fun e => by injection e with e; have := HR.out; omega))
      have HL2 := Lib.hid (show w2.rangeLeft mb w.heap.size < wr.rangeLeft mb w.heap.size by rw [HNR.out.left_eq, ← HRG.out.left_eq]; exact HLT.out)
      have hC' := fun ty => hC ⟨sb, uN, none⟩ ⟨tb, uN, none⟩ ty (fun _ => ⟨rfl, rfl⟩)
      have c0 := HM1.out.c0
      have c1 := HM1.out.c1
      clear hC hA2 hb2 hgw hdi him huN hvN HLT HRG HM1 HB1 HH
      go_wp2_with (go_at_call 26; refine cb.mono ?_; rintro e w' ⟨rfl, rfl⟩)
      go_still_tail 14, (by kernel_rfl)
      change wpList _ _ _ _ _ w1.drew
      go_wp2_with fail
      exact ⟨⟨_, cnt1, _, HNR.out, HN.out, HNH.out, HNB.out⟩, HL2.out⟩
end Go.Proofs.Ytghepjppjmpihaa
