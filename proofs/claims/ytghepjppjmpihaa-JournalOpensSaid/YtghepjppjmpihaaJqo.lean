/- The program's journal: Open. -/
import Derived.Test.YtghepjppjmpihaaJqn
namespace Go.Proofs.Ytghepjppjmpihaa
open Go.ChangeShapes Go.WideShapes Go.ChangeAt Go.RowKit Go.Lib

theorem drop_get (l : List Int) (a j : Nat) : (l.drop a).getD j 0 = l.getD (a + j) 0 := by rw [List.getD_eq_getElem?_getD, List.getElem?_drop, ← List.getD_eq_getElem?_getD]
/-- a told row's rest -/
theorem Told.rest {w0 w : World} {g n : Nat} {l : List Int} (h : Told w0 w (some ⟨g, 0, none⟩) n l) (e : Nat) : RdK .u8 w w.heap.size (some ⟨g, e, none⟩) (n - e) (l.drop e) :=
  ⟨by rw [List.length_drop, h.rd.1], fun j hj => by
    obtain ⟨g', off, e1, h1, h2⟩ := h.rd.2 (e + j) (by omega)
    injection e1 with e1; injection e1 with e1 e2; subst e1 e2
    rw [Nat.zero_add] at h2
    exact ⟨g, e, rfl, h1, by rw [drop_get]; exact h2⟩⟩
/-- 0s are laid on a told row's rest -/
theorem Told.wipe {w0 w : World} {g n : Nat} {l : List Int} (h : Told w0 w (some ⟨g, 0, none⟩) n l) (e c : Nat) (he : e < n) :
    (∀ ty, (Builtin.clear_ #[22] ty #[.slice (some ⟨g, e, none⟩) (n - e) c]).run Try.prog w = .ok (.tuple #[]) (w.setCells g e (List.replicate (n - e) (.int .u8 0)))) ∧
    RdK .u8 (w.setCells g e (List.replicate (n - e) (.int .u8 0))) (w.setCells g e (List.replicate (n - e) (.int .u8 0))).heap.size (some ⟨g, e, none⟩) (n - e) (List.replicate (n - e) 0) := by
  have hc : ∀ j, j < n - e → w.cell? ⟨g, e + j, none⟩ = some (.int .u8 (l.getD (e + j) 0)) ∧ g < w.heap.size := fun j hj => by
    obtain ⟨g', off, e1, h1, h2⟩ := h.rd.2 (e + j) (by omega)
    injection e1 with e1; injection e1 with e1 e2; subst e1 e2
    rw [Nat.zero_add] at h2
    exact ⟨h2, h1⟩
  refine ⟨fun ty => run_clear_slice w 22 5 ty (.int .u8 0) Try.underlying22 Try.zeroValue5 rfl rfl g e (n - e) c (by omega) (fun j hj => by rw [(hc j hj).1]; rfl) (fun j hj => ?_), by simp, fun j hj => ⟨g, e, rfl, Nat.lt_of_lt_of_le (hc j hj).2 (But.setCells g _ _ _).size, ?_⟩⟩
  · have := h.free g 0 rfl (e + j) (by omega)
    rwa [Nat.zero_add] at this
  · have h1 := World.cell?_setCells_in g (List.replicate (n - e) (.int .u8 0)) e w (fun i hi => by rw [(hc i (by simpa using hi)).1]; rfl) j (by simpa using hj)
    rw [h1, List.getElem_replicate]
    congr 2
    rw [List.getD_eq_getElem?_getD, List.getElem?_replicate]; split <;> rfl
set_option maxHeartbeats 2000000 in
theorem cclean {S : Nat → Prop} {j d m e : Nat} {sp : Bool} {st now dr : List Int} {rs : List (List Int)} (w : World) (hm : Jm w j d sp) (h : Dq S w d m st now dr) (hj : ¬ S j) (hJ : Jk.J now rs e) (hY : Jk.By now) :
    Calls Try.prog 27 #[.pointer (some ⟨j, 0, none⟩)] w fun v w' => v = .returned .nilIface ∧ ∃ st' dr', Upto S w w' j d m sp st' (Jk.zb now e) dr' ∧ ((Jk.Zb now e ∧ st' = st ∧ dr' = dr) ∨ (st' = Jk.zb now e ∧ dr' = zs m)) := by
  have hsz := h.sizes
  have hel := hJ.le
  have LE := Lib.hid (fun w' (hb : Below w.heap.size w w') => cend w' (hm.below hb) (h.below hb) hJ hY)
  have LW := Lib.hid (fun w' (hb : Below w.heap.size w w') => cwhole_new w' (hm.below hb) (h.below hb))
  have HD := Lib.hid h
  have HM := Lib.hid hm
  have HJ := Lib.hid hj
  have HP := Lib.hid (And.intro hel hsz)
  have HB0 := Lib.hid (Below.refl w.heap.size w)
  have HEQ := Lib.hid (show e ≤ 64 * m by omega)
  have HQ6 := Lib.hid (show ((64 * m : Nat) : Int) ≤ 65536 by omega)
  clear hm h hj hsz hel
  obtain ⟨q, hq⟩ : ∃ q, q = 64 * m := ⟨_, rfl⟩
  rw [← hq] at LW HEQ HQ6
  have HQ := Lib.hid hq
  clear hq
  go_enter Try.func27, Try.ntmps27
  go_wp2_with fail
  refine (LE.out _ HB0.out).mono ?_; rintro e1 w1 ⟨rfl, hb1⟩
  have HB1 := Lib.hid hb1
  clear hb1 LE
  go_wp2_with fail
  refine (LW.out _ HB1.out).mono ?_; rintro e1 w2 ⟨_, c, ⟨g, rfl⟩, rfl, hc1, hc2, hT, hb2⟩
  have HB2 := Lib.hid (HB1.out.trans (hb2.mono HB1.out.size))
  have HT := Lib.hid hT
  have M2 := Lib.hid (HM.out.below HB2.out)
  have HG := Lib.hid (Nat.le_trans HB1.out.size (hT.new g 0 rfl))
  have hce : (e : Int) ≤ (q : Int) := by have := HEQ.out; omega
  have hqc : (q : Int) ≤ (c : Int) := by omega
  have hcm : (c : Int) ≤ 9223372036854775807 := by have h9 : maxLen ≤ 9223372036854775807 := by decide
                                                   omega
  clear hb2 hT LW hc1 hc2
  by_cases hcq : c = e
  · have hqe : q = e := by omega
    have HZ : Hid (Jk.Zb now e) := Lib.hid (fun p hp => by
      rw [List.getD_eq_getElem?_getD, List.getElem?_eq_none (by have := HP.out; have := HQ.out; omega)]; rfl)
    have LC := Lib.hid (ccontains (c := 0) (A := some ⟨g, 0, none⟩) (n := 0) (l := []) w2 ⟨rfl, fun _ h => absurd h (Nat.not_lt_zero _)⟩ (by decide))
    have HN := Lib.hid (fun (hz : Jk.Zb now e) => (by
      have h1 : Jk.zb now e = now := Jk.zb_same (by have := HP.out; omega) hz
      rw [h1]
      exact ⟨S, HD.out.below HB2.out, But.of HB2.out S, fun k hk => .inl hk, M2.out⟩ : Upto S w w2 j d m sp st (Jk.zb now e) dr))
    subst hcq hqe
    go_wp2_with fail
    refine LC.out.mono ?_
    rintro e1 w3 ⟨⟨⟨i, hi, _⟩, _⟩ | ⟨_, rfl⟩, rfl⟩
    · exact absurd hi (Nat.not_lt_zero _)
    · clear LC
      go_wp2_with fail
      go_ret
      exact ⟨rfl, _, _, HN.out HZ.out, .inl ⟨HZ.out, rfl, rfl⟩⟩
  · have HN := Lib.hid (fun (hz : Jk.Zb now e) => (by
      have h1 : Jk.zb now e = now := Jk.zb_same (by have := HP.out; omega) hz
      rw [h1]
      exact ⟨S, HD.out.below HB2.out, But.of HB2.out S, fun k hk => .inl hk, M2.out⟩ : Upto S w w2 j d m sp st (Jk.zb now e) dr))
    have LC := Lib.hid (ccontains (c := c - e) w2 (HT.out.rest e) (by have := HQ6.out; have := HEQ.out; omega))
    go_wp2_with fail
    refine LC.out.mono ?_
    rintro e1 w3 ⟨⟨⟨i, hi, hi2⟩, rfl⟩ | ⟨hz, rfl⟩, rfl⟩
    · have heq : e < q := by omega
      obtain ⟨KC, R3⟩ := HT.out.wipe e (c - e) heq
      have hb3 := But.setCells g (List.replicate (q - e) (.int .u8 0)) e w2
      generalize w2.setCells g e (List.replicate (q - e) (.int .u8 0)) = w3 at *
      have hB3 : Below w.heap.size w w3 := HB2.out.trans (hb3.below (fun k (hk : k = g) => by have := HG.out; omega) HB2.out.size)
      have M3 := Lib.hid (HM.out.below hB3)
      have HB3 := Lib.hid hB3
      have hlt := HD.out.lt
      have LWr := Lib.hid (cwrite_yes (p := e) (c := c - e) w3 (HD.out.below hB3) R3 (fun _ g' off e2 => by injection e2 with e2; injection e2 with e3 _; intro hk; have := hlt _ hk; have := HG.out; omega) (by have := HQ.out; omega) ⟨by omega, by have := hcm; unfold maxLen; omega⟩)
      have c0 := M3.out.c0
      clear R3 hb3 hB3 hlt LC hi hi2
      have hzb : Dk.wr (List.replicate (q - e) 0) now e (q - e) = Jk.zb now e := by unfold Jk.zb; rw [HP.out.2.2.1, ← HQ.out]
      rw [hzb] at LWr
      clear hzb
      go_wp2_with fail
      refine LWr.out.mono ?_; rintro e1 w4 ⟨rfl, hl4⟩
      have U4 := Lib.hid (Upto.of M3.out HB3.out HJ.out hl4)
      clear hl4 LWr c0 KC
      obtain ⟨S4, D4, B4, I4, M4⟩ := U4.out
      have LS := Lib.hid (csync w4 D4)
      have c0 := M4.c0
      have K4 := Lib.hid (And.intro B4 (And.intro I4 M4))
      clear D4 B4 I4 M4
      go_wp2_with fail
      refine LS.out.mono ?_; rintro e1 w5 ⟨rfl, hl5⟩
      have U5 := Lib.hid (Upto.go K4.out.1 K4.out.2.1 K4.out.2.2 HJ.out HM.out.lt hl5)
      clear hl5 LS c0 K4
      go_wp2_with fail
      go_ret
      exact ⟨rfl, _, _, U5.out, .inr ⟨rfl, rfl⟩⟩
    · have HZ : Hid (Jk.Zb now e) := Lib.hid (fun p hp => by
        rcases Nat.lt_or_ge p q with h1 | h1
        · have := hz (p - e) (by omega)
          rw [drop_get, show e + (p - e) = p by omega] at this; exact this
        · rw [List.getD_eq_getElem?_getD, List.getElem?_eq_none (by have := HP.out; have := HQ.out; omega)]; rfl)
      clear LC hz
      go_wp2_with fail
      go_ret
      exact ⟨rfl, _, _, HN.out HZ.out, .inl ⟨HZ.out, rfl, rfl⟩⟩
theorem copen_nil (w : World) : Calls Try.prog 12 #[.pointer none] w fun e w' => e = .returned (.tuple #[.pointer none, vErr 1]) ∧ Below w.heap.size w w' := by
  go_enter Try.func12, Try.ntmps12
  go_wp2_with fail
  exact bodyPost_ret (by simp [results, Try.results12, go_sem]) rfl ⟨rfl, Below.refl _ _⟩
theorem jm_new (w : World) (d : Nat) : Jm (w.alloc (.cells #[.pointer (some ⟨d, 0, none⟩), .bool false] 67)) w.heap.size d false := by
  have h := World.alloc_heap_new w (.cells #[.pointer (some ⟨d, 0, none⟩), .bool false] 67)
  refine ⟨by simp, ?_, ?_, ?_⟩
  · rw [cell_of_row _ _ _ _ _ _ h]; rfl
  · rw [cell_of_row _ _ _ _ _ _ h]; rfl
  · unfold World.frozen?; rw [h]; rfl
set_option maxHeartbeats 1000000 in
theorem copen {S : Nat → Prop} {d m e : Nat} {st now dr : List Int} {rs : List (List Int)} (w : World) (h : Dq S w d m st now dr) (hJ : Jk.J now rs e) (hY : Jk.By now) :
    Calls Try.prog 12 #[.pointer (some ⟨d, 0, none⟩)] w fun v w' => ∃ j S' T st' dr', v = .returned (.tuple #[.pointer (some ⟨j, 0, none⟩), .nilIface]) ∧ Jq T w' j d m rs e ∧ Dq S' w' d m st' (Jk.zb now e) dr' ∧ But S w w' ∧
      (∀ k, S' k → S k ∨ w.heap.size ≤ k) ∧ (∀ k, T k → w.heap.size ≤ k) ∧ (∀ k, S' k → ¬ T k) ∧ ((Jk.Zb now e ∧ st' = st ∧ dr' = dr) ∨ (st' = Jk.zb now e ∧ dr' = zs m)) := by
  have hb1 : Below w.heap.size w (w.alloc (.cells #[.pointer (some ⟨d, 0, none⟩), .bool false] 67)) := (Below.refl _ w).alloc (Nat.le_refl _) _
  have hj : ¬ S w.heap.size := fun e1 => Nat.lt_irrefl _ (h.lt _ e1)
  have LC := Lib.hid (cclean _ (jm_new w d) (h.below hb1) hj hJ hY)
  have HB := Lib.hid (hb1)
  have HJ := Lib.hid hj
  clear h hb1 hj
  go_enter Try.func12, Try.ntmps12
  go_wp2_with fail
  refine LC.out.mono ?_; rintro e1 w2 ⟨rfl, st', dr', ⟨S', h1, h2, h3, h4⟩, h5⟩
  have HX := Lib.hid (show ∃ j S' T st' dr', (Value.tuple #[.pointer (some ⟨w.heap.size, 0, none⟩), .nilIface]) = (Value.tuple #[.pointer (some ⟨j, 0, none⟩), .nilIface]) ∧ Jq T w2 j d m rs e ∧ Dq S' w2 d m st' (Jk.zb now e) dr' ∧ But S w w2 ∧
      (∀ k, S' k → S k ∨ w.heap.size ≤ k) ∧ (∀ k, T k → w.heap.size ≤ k) ∧ (∀ k, S' k → ¬ T k) ∧ ((Jk.Zb now e ∧ st' = st ∧ dr' = dr) ∨ (st' = Jk.zb now e ∧ dr' = zs m)) from
    ⟨w.heap.size, S', fun k => k = w.heap.size, st', dr', rfl, ⟨rfl, h4⟩, h1, (But.of HB.out S).trans h2, fun k hk => (h3 k hk).elim .inl (fun h => .inr (Nat.le_trans HB.out.size h)), fun k hk => Nat.le_of_eq hk.symm, fun k hk (e2 : k = w.heap.size) => by
      subst e2
      rcases h3 _ hk with h | h
      · exact HJ.out h
      · rw [World.size_alloc] at h; omega, h5⟩)
  clear h1 h2 h3 h4 h5 LC
  go_wp2_with fail
  obtain ⟨j, S', T, st', dr', hv, r⟩ := HX.out
  exact bodyPost_ret (v := .tuple #[.pointer (some ⟨w.heap.size, 0, none⟩), .nilIface]) (by simp [results, Try.results12, go_sem]) rfl ⟨j, S', T, st', dr', by rw [hv], r⟩
end Go.Proofs.Ytghepjppjmpihaa
