/- The program's journal: Records. -/
import Derived.Test.YtghepjppjmpihaaJqg
namespace Go.Proofs.Ytghepjppjmpihaa
open Go.ChangeShapes Go.WideShapes Go.ChangeAt Go.RowKit Go.Lib
attribute [local go_sem] Oper.semAt_some

/-- records that are told: new memory, that may be written -/
def RecV (w0 w : World) (v : Value) (rs : List (List Int)) : Prop := ∃ vs : List Value, w.ownsRow w0.heap.size 22 1 v rs.length vs ∧
  ∀ i, i < rs.length → ∃ A c, vs[i]? = some (.slice A (rs.getD i []).length c) ∧ (rs.getD i []).length ≤ c ∧ c ≤ maxLen ∧ (A = none → c = 0) ∧ Told w0 w A (rs.getD i []).length (rs.getD i []) ∧ ∀ g off, A = some ⟨g, off, none⟩ → v.ownBlock ≠ some g
theorem Rv.recV {B : Nat} {w0 w : World} {v : Value} {vs : List Value} {rs : List (List Int)} (h : Rv B w v vs rs) (hB : w0.heap.size ≤ B) : RecV w0 w v rs := by
  refine ⟨vs, ?_, fun i hi => ?_⟩
  · obtain ⟨hl, h | ⟨g, cap, cur, hv, hg, r⟩⟩ := h.o
    · exact ⟨hl, .inl h⟩
    · exact ⟨hl, .inr ⟨g, cap, cur, hv, Nat.le_trans hB hg, r⟩⟩
  · obtain ⟨A, c, h1, h2, h3, h4, h5, h6⟩ := h.r i hi
    exact ⟨A, c, h1, h2, h3, h4, ⟨h5, fun g off e => Nat.le_trans hB (h6 g off e).1, fun g off e => (h6 g off e).2.2.2⟩, fun g off e => (h6 g off e).2.2.1⟩
/-- an append whose run is known, as a step of a region that draws, inside a fence -/
theorem step_push_in {F : Fence} {n : Nat} {P : Program} {ops : Array Oper} {o : Oper} {a : Act} {w : World} {K : Act → World → Prop} {Q : Exit → Act → World → Prop} {E : Prop} (hgd : o.guard = none) (s x : Operand) (t : TypeId)
    (ho : o.op = .call { callee := .builtin .append, args := #[s, x], argTypes := #[t, t] }) (hty : o.type = t) (v u : Value) (hs : a.eval s = v) (hx : a.eval x = u) {v' : Value} {w' : World} (hr : (Builtin.append_ #[t, t] t #[v, u]).run P w = .ok v' w')
    (hK : K (a.put o.dst v') w') : if Region.wanted o (yielded ops a.tmps) = true then Oper.wpIn F n P o a w K Q else E := by
  rw [if_pos (by simp [Region.wanted, hgd])]
  unfold Oper.wpIn
  refine ⟨?_, ?_⟩
  · simp [Oper.about, ho, resolve, Target.leads, Sem.run_pure]
  · rw [Oper.semAt_plain F _ _ (by rw [ho]; intro c hc'; cases hc')]
    simp [execOp, ho, hty, resolve, invoke, builtin, hs, hx, hr, Result.andThen]
    exact hK
theorem putObj_cell {w : World} {r : Nat} {o : Obj} {p : Addr} {u : Value} (hr : w.heap[r]? = some o) (ho : o.isCells = false) (h : w.cell? p = some u) : p.block ≠ r := fun e => by
  unfold World.cell? at h
  rw [e, hr] at h
  cases o <;> simp_all [Obj.isCells]
theorem RecV.putObj {w0 w : World} {v : Value} {rs : List (List Int)} (h : RecV w0 w v rs) (r : Nat) (o o' : Obj) (hr : w.heap[r]? = some o) (ho : o.isCells = false) (hf : ∀ x ∈ rs, 1 ≤ x.length) : RecV w0 (w.putObj r o') v rs := by
  obtain ⟨vs, ⟨hl, h1⟩, h2⟩ := h
  refine ⟨vs, ⟨hl, ?_⟩, fun i hi => ?_⟩
  · rcases h1 with h1 | ⟨g, cap, cur, hv, hg, hh, q⟩
    · exact .inl h1
    · have hne : g ≠ r := fun e => by rw [e, hr] at hh; injection hh with hh; rw [hh] at ho; cases ho
      exact .inr ⟨g, cap, cur, hv, hg, (World.putObj_heap_other hne).trans hh, q⟩
  · obtain ⟨A, c, e1, e2, e3, e4, ht, e5⟩ := h2 i hi
    have hx : 1 ≤ (rs.getD i []).length := by
      rw [List.getD_eq_getElem?_getD, List.getElem?_eq_getElem hi]; exact hf _ (List.getElem_mem hi)
    refine ⟨A, c, e1, e2, e3, e4, ⟨⟨ht.rd.1, fun j hj => ?_⟩, ht.new, fun g off e j hj => ?_⟩, e5⟩
    · obtain ⟨g, off, e6, hg, hc⟩ := ht.rd.2 j hj
      exact ⟨g, off, e6, by simpa using hg, (World.cell?_of_block (World.putObj_heap_other (putObj_cell hr ho hc))).trans hc⟩
    · obtain ⟨g', off', e6, _, hc⟩ := ht.rd.2 0 (by omega)
      rw [e] at e6; injection e6 with e6; injection e6 with e6 e7; subst e6 e7
      have hne : g ≠ r := putObj_cell hr ho hc
      exact (World.frozen?_of_block (a := ⟨g, off + j, none⟩) (World.putObj_heap_other hne)).trans (ht.free _ _ e j hj)
theorem it_one {l : List Int} : ∀ {k a : Nat} {rs : List (List Int)}, Jk.it l k = some (a, rs) → ∀ x ∈ rs, 1 ≤ x.length
  | 0, _, _, h => by
    intro x hx
    injection h with h; injection h with _ h
    rw [← h] at hx; exact absurd hx (List.not_mem_nil)
  | k + 1, _, _, h => by
    obtain ⟨a, rs0, h0, hf, rfl, rfl⟩ := Jk.it_step h
    intro x hx
    rcases List.mem_append.1 hx with hx | hx
    · exact it_one h0 x hx
    · obtain rfl := List.mem_singleton.1 hx
      have := Jk.fd_yes hf
      rw [Jk.rc_len this.2.2.1]; exact this.1
set_option maxRecDepth 100000 in
set_option maxHeartbeats 2000000 in
theorem precords {S : Nat → Prop} {j d m e : Nat} {sp : Bool} {st now dr : List Int} {rs : List (List Int)} (w : World) (hm : Jm w j d sp) (h : Dq S w d m st now dr) (hJ : Jk.J now rs e) (hY : Jk.By now) :
    Calls Try.prog 19 #[.pointer (some ⟨j, 0, none⟩)] w fun v w' => ∃ u, v = .returned u ∧ RecV w w' u rs ∧ Below w.heap.size w w' := by
  have hs := h.sizes
  have hmany := hJ.many
  have hel := hJ.le
  have LW := Lib.hid (fun w' (hb : Below w.heap.size w w') => callsIn_wide (n := 4).2 (cwhole w' (hm.below hb) (h.below hb)))
  have LC := Lib.hid (fun A L c w' => callsIn_wide (n := 4).2 (crecs (A := A) (L := L) (c := c) w'))
  have CL := Lib.hid (fun g off n c bs w' (hr : RdK .u8 w' w'.heap.size (some ⟨g, off, none⟩) n bs) (hn : n ≤ 1024) => callsIn_wide (n := 2).2 (cclone (c := c) w' hr hn))
  have HJ := Lib.hid hm.lt
  refine (callsIn_wide (n := 5)).1 ?_
  refine callsIn_of_wp_marks Try.func19 rfl trivial ?_ rfl
  simp only [Try.ntmps19, List.size_toArray, List.length_cons, List.length_nil, Nat.reduceAdd, Nat.reduceSub, Array.replicate_succ, Array.replicate_zero, List.push_toArray, List.append_toArray, List.nil_append, List.cons_append]
  have HB1 := Lib.hid ((Below.refl w.heap.size w).alloc (Nat.le_refl _) (.cells #[.slice none 0 0] 44))
  clear hm h
  gi_wp2_with (first
    | (refine ⟨trivial, ?_⟩; gi_at_call 31; refine (LW.out _ HB1.out).mono ?_; rintro e1 w2 ⟨A, c, rfl, hc1, hc2, hT, hb2⟩)
    | (refine ⟨trivial, ?_⟩; gi_at_call 30; refine (LC.out _ _ _ _).mono ?_; rintro e2 w3 ⟨rfl, hw3⟩))
  have hsz2 : w.heap.size + 1 ≤ w2.heap.size := by have := hb2.size; rwa [World.size_alloc] at this
  have hq : 64 * m ≤ 65536 := by have := hs.2.2.2; omega
  obtain ⟨g0, hg, hg1, hg2⟩ : ∃ g0, (0 < 64 * m → ∀ g off, A = some ⟨g, off, none⟩ → g = g0) ∧ g0 ≠ w.heap.size ∧ g0 < w2.heap.size := by
    by_cases h0 : 0 < 64 * m
    · obtain ⟨g, off, hA, hg, _⟩ := hT.rd.2 0 h0
      have := hT.new g off hA
      rw [World.size_alloc] at this
      exact ⟨g, fun _ g' off' e => by rw [hA] at e; injection e with e; injection e with e1 _; exact e1.symm, by omega, hg⟩
    · exact ⟨j, fun h => absurd h h0, by have := HJ.out; omega, by have := HJ.out; omega⟩
  have hcE2 : w2.cell? ⟨w.heap.size, 0, none⟩ = some (.slice none 0 0) := (hb2.cell (p := ⟨w.heap.size, 0, none⟩) (by simp)).trans (box_new w (.slice none 0 0) 44).1
  have hzE2 : w2.frozen? ⟨w.heap.size, 0, none⟩ = false := (hb2.frozen (p := ⟨w.heap.size, 0, none⟩) (by simp)).trans (box_new w (.slice none 0 0) 44).2
  have hB2 : Below w.heap.size w w2 := HB1.out.trans (hb2.mono (by simp))
  have hb3 : Below w2.heap.size w2 w3 := by rw [hw3]; exact (Below.refl _ w2).alloc (Nat.le_refl _) _
  have hcB := (box_new w2 (.slice A (64 * m) c) 22).1
  have hzB := (box_new w2 (.slice A (64 * m) c) 22).2
  rw [← hw3] at hcB hzB ⊢
  have hs3 : w3.heap.size = w2.heap.size + 1 := by rw [hw3]; simp
  have hr3 : RdK .u8 w3 w3.heap.size A (64 * m) now := RdK.but hT.rd (But.of hb3 (fun _ => False)) (fun _ _ _ _ => id)
  refine wpIn_range_but (xs := rs) (T := fun k => k = w2.heap.size) (U := fun k => k = w.heap.size ∨ w3.heap.size + 2 ≤ k) rfl (by decide) (gf := 42) (lb := #[.pointer (some ⟨w2.heap.size, 0, none⟩)]) rfl trivial (enters_of Try.func42 (by kernel_rfl) rfl)
    (recs_itr (n := 4) (U := fun k => k = w.heap.size ∨ w3.heap.size + 2 ≤ k) (by decide) w3 hJ hY hs.2.1 hcB hzB (by omega) hr3 hg ⟨by omega, by omega⟩ hc1 hc2 ⟨by show ¬ (w2.heap.size = w.heap.size ∨ w3.heap.size + 2 ≤ w2.heap.size); omega, by show ¬ (g0 = w.heap.size ∨ w3.heap.size + 2 ≤ g0); omega⟩)
    (fun k (hk : k = w2.heap.size) => by omega) (fun k (hk : k = w.heap.size ∨ w3.heap.size + 2 ≤ k) => by omega) (fun pre x A v l o h hl => pc_put pre x A v l o h (by omega))
    (fun pre W => ∃ v vs, W.cell? ⟨w.heap.size, 0, none⟩ = some v ∧ W.frozen? ⟨w.heap.size, 0, none⟩ = false ∧ w.heap.size < W.heap.size ∧ Below w.heap.size w W ∧ Rv (w3.heap.size + 2) W v vs pre)
    ?hI ?h0 (fun v => { tmps := #[.pointer (some ⟨j, 0, none⟩), undef, .slice none 0 0, .pointer (some ⟨w.heap.size, 0, none⟩), v, .pointer (some ⟨j, 0, none⟩), .slice A (64 * m) c, .func (.func 42) #[] #[.pointer (some ⟨w2.heap.size, 0, none⟩)], v, undef, undef, undef, undef, undef, undef], defers := [] }) ?assign ?body ?done
  case hI =>
    rintro pre A B ⟨v, vs, h1, h2, h3, h4, h5⟩ hb
    have hne : ¬ (w.heap.size = w2.heap.size ∨ w3.heap.size ≤ w.heap.size ∧ w.heap.size ≤ w3.heap.size + 1) := by omega
    exact ⟨v, vs, (hb.cell (p := ⟨w.heap.size, 0, none⟩) h3 hne).trans h1, (hb.frozen (p := ⟨w.heap.size, 0, none⟩) h3 hne).trans h2, Nat.lt_of_lt_of_le h3 hb.size, h4.trans (hb.below (fun k hk => by omega) (by omega)), h5.but hb (fun k hk => by omega)⟩
  case h0 => exact ⟨.slice none 0 0, [], (hb3.cell (p := ⟨w.heap.size, 0, none⟩) (by show w.heap.size < _; omega)).trans hcE2, (hb3.frozen (p := ⟨w.heap.size, 0, none⟩) (by show w.heap.size < _; omega)).trans hzE2, by omega, hB2.trans (hb3.mono (by omega)), World.ownsRow_nil _ _ _ _, fun i hi => absurd hi (Nat.not_lt_zero _)⟩
  case assign =>
    intro l v W K hK
    gi_wp2
    exact hK
  case body =>
    rintro l pre x W v hpx ⟨off, c', rfl, hr, h1, h2, h3, h4⟩ ⟨v0, vs, hc, hf, hlt, hB, hR⟩ hwsz
    have hpl : pre.length ≤ 65536 := by
      obtain ⟨t, ht⟩ := hpx
      have e1 := congrArg List.length ht
      rw [List.length_append, List.length_append] at e1
      omega
    have hmx : Try.prog.follows .mixedOrders = true := by kernel_rfl
    have hd : 1 ≤ 5 - 1 - 1 := by decide
    obtain ⟨A0, c0, rfl⟩ := own_form hR.o
    have hdr : But (fun _ => False) W W.drew := (But.refl _ W).drew
    have RR := Lib.hid (hR.but hdr (fun _ _ => id))
    have RD := Lib.hid (RdK.but hr hdr (fun _ _ _ _ => id))
    have HK := Lib.hid (⟨hwsz, hlt, hB, h1, h2, hpl⟩ : w3.heap.size + 1 < W.heap.size ∧ w.heap.size < W.heap.size ∧ Below w.heap.size w W ∧ 1 ≤ x.length ∧ x.length ≤ 1024 ∧ pre.length ≤ 65536)
    have hcd : W.drew.cell? ⟨w.heap.size, 0, none⟩ = some (.slice A0 pre.length c0) := hc
    have hfd : W.drew.frozen? ⟨w.heap.size, 0, none⟩ = false := hf
    have HCF := Lib.hid (And.intro hcd hfd)
    have HSZ := Lib.hid (⟨hs3, hsz2⟩ : w3.heap.size = w2.heap.size + 1 ∧ w.heap.size + 1 ≤ w2.heap.size)
    clear hr h1 h2 h3 h4 hwsz hlt hB hpl hpx hR hdr hs hmany hel hq hs3 hsz2 hw3 hcB hzB hr3 hg hg1 hg2 hcE2 hzE2 hB2 hb3 hT hb2 hc1 hc2
    gi_wp2
    refine wpIn_region_any (by kernel_rfl) ?_
    try (change wpAnyIn _ _ _ _ _ _ _ _ _ (World.drew _))
    refine wpAnyIn_ready (rs := [0, 1]) (by kernel_rfl) (by simp) ?_
    refine AllReadyIn.cons rfl (fun K hK => ?_) ?_
    · go_simp
      refine hK _ _ ?_
      clear hK K
      try simp only [List.getElem_toArray, List.getElem_cons_succ, List.getElem_cons_zero, Act.put, List.setIfInBounds_toArray, List.set_cons_zero, List.set_cons_succ]
      refine wpAnyIn_ready (rs := [1]) (by kernel_rfl) (by simp) ?_
      refine AllReadyIn.cons rfl (fun K hK => ?_) AllReadyIn.nil
      go_simp
      refine hK _ _ ?_
      clear hK K
      try simp only [List.getElem_toArray, List.getElem_cons_succ, List.getElem_cons_zero, Act.put, List.setIfInBounds_toArray, List.set_cons_zero, List.set_cons_succ]
      refine wpAnyIn_ready (rs := [2]) (by kernel_rfl) (by simp) ?_
      refine AllReadyIn.cons rfl (fun K hK => ?_) AllReadyIn.nil
      go_simp
      refine ⟨trivial, ?_⟩
      gi_at_call 32
      refine (CallsIn.inRound l (CL.out _ _ _ _ _ _ RD.out HK.out.2.2.2.2.1)).mono ?_
      rintro e W1 ⟨A2, c2, rfl, hO, hb1⟩
      obtain ⟨A3, c3, W3, hrun, hR3, hB3⟩ := Rv.push RR.out (Nat.succ_le_of_lt HK.out.1) rfl HK.out.2.2.2.1 hO hb1 HK.out.2.2.2.2.2
      have hlt1 : w.heap.size < W1.heap.size := Nat.lt_of_lt_of_le HK.out.2.1 hb1.size
      have c1 := (hb1.cell (p := ⟨w.heap.size, 0, none⟩) HK.out.2.1).trans HCF.out.1
      have hne : ¬ (w3.heap.size + 2 ≤ w.heap.size) := by have := HSZ.out; omega
      have c3' := (hB3.cell (p := ⟨w.heap.size, 0, none⟩) HK.out.2.1 hne).trans HCF.out.1
      have z3' := (hB3.frozen (p := ⟨w.heap.size, 0, none⟩) HK.out.2.1 hne).trans HCF.out.2
      have HR3 := Lib.hid hR3
      have HB3 := Lib.hid hB3
      clear hR3 hB3 hO hb1 hne
      refine hK _ _ ?_
      clear hK K
      try simp only [List.getElem_toArray, List.getElem_cons_succ, List.getElem_cons_zero, Act.put, List.setIfInBounds_toArray, List.set_cons_zero, List.set_cons_succ]
      refine wpAnyIn_ready (rs := [3]) (by kernel_rfl) (by simp) ?_
      refine AllReadyIn.cons rfl (fun K hK => ?_) AllReadyIn.nil
      go_simp
      refine hK _ _ ?_
      clear hK K
      try simp only [List.getElem_toArray, List.getElem_cons_succ, List.getElem_cons_zero, Act.put, List.setIfInBounds_toArray, List.set_cons_zero, List.set_cons_succ]
      refine wpAnyIn_ready (rs := [4]) (by kernel_rfl) (by simp) ?_
      refine AllReadyIn.cons rfl (fun K hK => ?_) AllReadyIn.nil
      refine step_push_in rfl _ _ 44 rfl rfl (.slice A0 pre.length c0) (.slice (some ⟨W1.heap.size, 0, none⟩) 1 1) rfl rfl hrun ?_
      refine hK _ _ ?_
      clear hK K
      try simp only [List.getElem_toArray, List.getElem_cons_succ, List.getElem_cons_zero, Act.put, List.setIfInBounds_toArray, List.set_cons_zero, List.set_cons_succ]
      refine wpAnyIn_ready (rs := [5]) (by kernel_rfl) (by simp) ?_
      refine AllReadyIn.cons rfl (fun K hK => ?_) AllReadyIn.nil
      go_simp
      refine hK _ _ ?_
      clear hK K
      try simp only [List.getElem_toArray, List.getElem_cons_succ, List.getElem_cons_zero, Act.put, List.setIfInBounds_toArray, List.set_cons_zero, List.set_cons_succ]
      refine wpAnyIn_done (by kernel_rfl) ?_ _
      gi_wp2
      refine ⟨(((But.refl (fun k => k = w.heap.size ∨ w3.heap.size + 2 ≤ k) W).drew).trans (HB3.out.more fun k _ h => .inr h)).setCell (p := ⟨w.heap.size, 0, none⟩) (.inl rfl) _, .slice A3 (pre.length + 1) c3, _, World.cell?_setCell_same _ _ _ c3', by rw [World.frozen?_setCell]; exact z3', Nat.lt_of_lt_of_le HK.out.2.1 (Nat.le_trans HB3.out.size (by simp [World.setCell])), (HK.out.2.2.1.trans (Below.trans (Below.refl _ W).drew (HB3.out.below (fun k (hk : w3.heap.size + 2 ≤ k) => by have := HSZ.out; omega) (Nat.le_of_lt HK.out.2.1)))).setCell (p := ⟨w.heap.size, 0, none⟩) (Nat.le_refl _) _, HR3.out.but ((But.refl (fun k => k = w.heap.size) W3).setCell (p := ⟨w.heap.size, 0, none⟩) rfl _) (fun k hk (e : k = w.heap.size) => by have := HSZ.out; omega)⟩
    refine AllReadyIn.cons rfl (fun K hK => ?_) AllReadyIn.nil
    go_simp
    refine hK _ _ ?_
    clear hK K
    try simp only [List.getElem_toArray, List.getElem_cons_succ, List.getElem_cons_zero, Act.put, List.setIfInBounds_toArray, List.set_cons_zero, List.set_cons_succ]
    refine wpAnyIn_ready (rs := [0, 2]) (by kernel_rfl) (by simp) ?_
    refine AllReadyIn.cons rfl (fun K hK => ?_) ?_
    · go_simp
      refine hK _ _ ?_
      clear hK K
      try simp only [List.getElem_toArray, List.getElem_cons_succ, List.getElem_cons_zero, Act.put, List.setIfInBounds_toArray, List.set_cons_zero, List.set_cons_succ]
      refine wpAnyIn_ready (rs := [2]) (by kernel_rfl) (by simp) ?_
      refine AllReadyIn.cons rfl (fun K hK => ?_) AllReadyIn.nil
      go_simp
      refine ⟨trivial, ?_⟩
      gi_at_call 32
      refine (CallsIn.inRound l (CL.out _ _ _ _ _ _ RD.out HK.out.2.2.2.2.1)).mono ?_
      rintro e W1 ⟨A2, c2, rfl, hO, hb1⟩
      obtain ⟨A3, c3, W3, hrun, hR3, hB3⟩ := Rv.push RR.out (Nat.succ_le_of_lt HK.out.1) rfl HK.out.2.2.2.1 hO hb1 HK.out.2.2.2.2.2
      have hlt1 : w.heap.size < W1.heap.size := Nat.lt_of_lt_of_le HK.out.2.1 hb1.size
      have c1 := (hb1.cell (p := ⟨w.heap.size, 0, none⟩) HK.out.2.1).trans HCF.out.1
      have hne : ¬ (w3.heap.size + 2 ≤ w.heap.size) := by have := HSZ.out; omega
      have c3' := (hB3.cell (p := ⟨w.heap.size, 0, none⟩) HK.out.2.1 hne).trans HCF.out.1
      have z3' := (hB3.frozen (p := ⟨w.heap.size, 0, none⟩) HK.out.2.1 hne).trans HCF.out.2
      have HR3 := Lib.hid hR3
      have HB3 := Lib.hid hB3
      clear hR3 hB3 hO hb1 hne
      refine hK _ _ ?_
      clear hK K
      try simp only [List.getElem_toArray, List.getElem_cons_succ, List.getElem_cons_zero, Act.put, List.setIfInBounds_toArray, List.set_cons_zero, List.set_cons_succ]
      refine wpAnyIn_ready (rs := [3]) (by kernel_rfl) (by simp) ?_
      refine AllReadyIn.cons rfl (fun K hK => ?_) AllReadyIn.nil
      go_simp
      refine hK _ _ ?_
      clear hK K
      try simp only [List.getElem_toArray, List.getElem_cons_succ, List.getElem_cons_zero, Act.put, List.setIfInBounds_toArray, List.set_cons_zero, List.set_cons_succ]
      refine wpAnyIn_ready (rs := [4]) (by kernel_rfl) (by simp) ?_
      refine AllReadyIn.cons rfl (fun K hK => ?_) AllReadyIn.nil
      refine step_push_in rfl _ _ 44 rfl rfl (.slice A0 pre.length c0) (.slice (some ⟨W1.heap.size, 0, none⟩) 1 1) rfl rfl hrun ?_
      refine hK _ _ ?_
      clear hK K
      try simp only [List.getElem_toArray, List.getElem_cons_succ, List.getElem_cons_zero, Act.put, List.setIfInBounds_toArray, List.set_cons_zero, List.set_cons_succ]
      refine wpAnyIn_ready (rs := [5]) (by kernel_rfl) (by simp) ?_
      refine AllReadyIn.cons rfl (fun K hK => ?_) AllReadyIn.nil
      go_simp
      refine hK _ _ ?_
      clear hK K
      try simp only [List.getElem_toArray, List.getElem_cons_succ, List.getElem_cons_zero, Act.put, List.setIfInBounds_toArray, List.set_cons_zero, List.set_cons_succ]
      refine wpAnyIn_done (by kernel_rfl) ?_ _
      gi_wp2
      refine ⟨(((But.refl (fun k => k = w.heap.size ∨ w3.heap.size + 2 ≤ k) W).drew).trans (HB3.out.more fun k _ h => .inr h)).setCell (p := ⟨w.heap.size, 0, none⟩) (.inl rfl) _, .slice A3 (pre.length + 1) c3, _, World.cell?_setCell_same _ _ _ c3', by rw [World.frozen?_setCell]; exact z3', Nat.lt_of_lt_of_le HK.out.2.1 (Nat.le_trans HB3.out.size (by simp [World.setCell])), (HK.out.2.2.1.trans (Below.trans (Below.refl _ W).drew (HB3.out.below (fun k (hk : w3.heap.size + 2 ≤ k) => by have := HSZ.out; omega) (Nat.le_of_lt HK.out.2.1)))).setCell (p := ⟨w.heap.size, 0, none⟩) (Nat.le_refl _) _, HR3.out.but ((But.refl (fun k => k = w.heap.size) W3).setCell (p := ⟨w.heap.size, 0, none⟩) rfl _) (fun k hk (e : k = w.heap.size) => by have := HSZ.out; omega)⟩
    refine AllReadyIn.cons rfl (fun K hK => ?_) AllReadyIn.nil
    go_simp
    refine ⟨trivial, ?_⟩
    gi_at_call 32
    refine (CallsIn.inRound l (CL.out _ _ _ _ _ _ RD.out HK.out.2.2.2.2.1)).mono ?_
    rintro e W1 ⟨A2, c2, rfl, hO, hb1⟩
    obtain ⟨A3, c3, W3, hrun, hR3, hB3⟩ := Rv.push RR.out (Nat.succ_le_of_lt HK.out.1) rfl HK.out.2.2.2.1 hO hb1 HK.out.2.2.2.2.2
    have hlt1 : w.heap.size < W1.heap.size := Nat.lt_of_lt_of_le HK.out.2.1 hb1.size
    have c1 := (hb1.cell (p := ⟨w.heap.size, 0, none⟩) HK.out.2.1).trans HCF.out.1
    have hne : ¬ (w3.heap.size + 2 ≤ w.heap.size) := by have := HSZ.out; omega
    have c3' := (hB3.cell (p := ⟨w.heap.size, 0, none⟩) HK.out.2.1 hne).trans HCF.out.1
    have z3' := (hB3.frozen (p := ⟨w.heap.size, 0, none⟩) HK.out.2.1 hne).trans HCF.out.2
    have HR3 := Lib.hid hR3
    have HB3 := Lib.hid hB3
    clear hR3 hB3 hO hb1 hne
    refine hK _ _ ?_
    clear hK K
    try simp only [List.getElem_toArray, List.getElem_cons_succ, List.getElem_cons_zero, Act.put, List.setIfInBounds_toArray, List.set_cons_zero, List.set_cons_succ]
    refine wpAnyIn_ready (rs := [0, 3]) (by kernel_rfl) (by simp) ?_
    refine AllReadyIn.cons rfl (fun K hK => ?_) ?_
    · go_simp
      refine hK _ _ ?_
      clear hK K
      try simp only [List.getElem_toArray, List.getElem_cons_succ, List.getElem_cons_zero, Act.put, List.setIfInBounds_toArray, List.set_cons_zero, List.set_cons_succ]
      refine wpAnyIn_ready (rs := [3]) (by kernel_rfl) (by simp) ?_
      refine AllReadyIn.cons rfl (fun K hK => ?_) AllReadyIn.nil
      go_simp
      refine hK _ _ ?_
      clear hK K
      try simp only [List.getElem_toArray, List.getElem_cons_succ, List.getElem_cons_zero, Act.put, List.setIfInBounds_toArray, List.set_cons_zero, List.set_cons_succ]
      refine wpAnyIn_ready (rs := [4]) (by kernel_rfl) (by simp) ?_
      refine AllReadyIn.cons rfl (fun K hK => ?_) AllReadyIn.nil
      refine step_push_in rfl _ _ 44 rfl rfl (.slice A0 pre.length c0) (.slice (some ⟨W1.heap.size, 0, none⟩) 1 1) rfl rfl hrun ?_
      refine hK _ _ ?_
      clear hK K
      try simp only [List.getElem_toArray, List.getElem_cons_succ, List.getElem_cons_zero, Act.put, List.setIfInBounds_toArray, List.set_cons_zero, List.set_cons_succ]
      refine wpAnyIn_ready (rs := [5]) (by kernel_rfl) (by simp) ?_
      refine AllReadyIn.cons rfl (fun K hK => ?_) AllReadyIn.nil
      go_simp
      refine hK _ _ ?_
      clear hK K
      try simp only [List.getElem_toArray, List.getElem_cons_succ, List.getElem_cons_zero, Act.put, List.setIfInBounds_toArray, List.set_cons_zero, List.set_cons_succ]
      refine wpAnyIn_done (by kernel_rfl) ?_ _
      gi_wp2
      refine ⟨(((But.refl (fun k => k = w.heap.size ∨ w3.heap.size + 2 ≤ k) W).drew).trans (HB3.out.more fun k _ h => .inr h)).setCell (p := ⟨w.heap.size, 0, none⟩) (.inl rfl) _, .slice A3 (pre.length + 1) c3, _, World.cell?_setCell_same _ _ _ c3', by rw [World.frozen?_setCell]; exact z3', Nat.lt_of_lt_of_le HK.out.2.1 (Nat.le_trans HB3.out.size (by simp [World.setCell])), (HK.out.2.2.1.trans (Below.trans (Below.refl _ W).drew (HB3.out.below (fun k (hk : w3.heap.size + 2 ≤ k) => by have := HSZ.out; omega) (Nat.le_of_lt HK.out.2.1)))).setCell (p := ⟨w.heap.size, 0, none⟩) (Nat.le_refl _) _, HR3.out.but ((But.refl (fun k => k = w.heap.size) W3).setCell (p := ⟨w.heap.size, 0, none⟩) rfl _) (fun k hk (e : k = w.heap.size) => by have := HSZ.out; omega)⟩
    refine AllReadyIn.cons rfl (fun K hK => ?_) AllReadyIn.nil
    go_simp
    refine hK _ _ ?_
    clear hK K
    try simp only [List.getElem_toArray, List.getElem_cons_succ, List.getElem_cons_zero, Act.put, List.setIfInBounds_toArray, List.set_cons_zero, List.set_cons_succ]
    refine wpAnyIn_ready (rs := [0]) (by kernel_rfl) (by simp) ?_
    refine AllReadyIn.cons rfl (fun K hK => ?_) AllReadyIn.nil
    go_simp
    refine hK _ _ ?_
    clear hK K
    try simp only [List.getElem_toArray, List.getElem_cons_succ, List.getElem_cons_zero, Act.put, List.setIfInBounds_toArray, List.set_cons_zero, List.set_cons_succ]
    refine wpAnyIn_ready (rs := [4]) (by kernel_rfl) (by simp) ?_
    refine AllReadyIn.cons rfl (fun K hK => ?_) AllReadyIn.nil
    refine step_push_in rfl _ _ 44 rfl rfl (.slice A0 pre.length c0) (.slice (some ⟨W1.heap.size, 0, none⟩) 1 1) rfl rfl hrun ?_
    refine hK _ _ ?_
    clear hK K
    try simp only [List.getElem_toArray, List.getElem_cons_succ, List.getElem_cons_zero, Act.put, List.setIfInBounds_toArray, List.set_cons_zero, List.set_cons_succ]
    refine wpAnyIn_ready (rs := [5]) (by kernel_rfl) (by simp) ?_
    refine AllReadyIn.cons rfl (fun K hK => ?_) AllReadyIn.nil
    go_simp
    refine hK _ _ ?_
    clear hK K
    try simp only [List.getElem_toArray, List.getElem_cons_succ, List.getElem_cons_zero, Act.put, List.setIfInBounds_toArray, List.set_cons_zero, List.set_cons_succ]
    refine wpAnyIn_done (by kernel_rfl) ?_ _
    gi_wp2
    refine ⟨(((But.refl (fun k => k = w.heap.size ∨ w3.heap.size + 2 ≤ k) W).drew).trans (HB3.out.more fun k _ h => .inr h)).setCell (p := ⟨w.heap.size, 0, none⟩) (.inl rfl) _, .slice A3 (pre.length + 1) c3, _, World.cell?_setCell_same _ _ _ c3', by rw [World.frozen?_setCell]; exact z3', Nat.lt_of_lt_of_le HK.out.2.1 (Nat.le_trans HB3.out.size (by simp [World.setCell])), (HK.out.2.2.1.trans (Below.trans (Below.refl _ W).drew (HB3.out.below (fun k (hk : w3.heap.size + 2 ≤ k) => by have := HSZ.out; omega) (Nat.le_of_lt HK.out.2.1)))).setCell (p := ⟨w.heap.size, 0, none⟩) (Nat.le_refl _) _, HR3.out.but ((But.refl (fun k => k = w.heap.size) W3).setCell (p := ⟨w.heap.size, 0, none⟩) rfl _) (fun k hk (e : k = w.heap.size) => by have := HSZ.out; omega)⟩
  case done =>
    rintro W ⟨v, vs, hc, hf, _, hB, hR⟩ hK
    gi_wp2
    refine ⟨by simp, .inl ⟨_, _, rfl, run_takeDeferred hK, ?_⟩⟩
    exact ⟨_, results_tmp rfl _ _ _, v, rfl, (hR.recV (by omega)).putObj _ _ _ hK rfl (it_one hJ.1), hB.trans ((But.putObj (S := fun k => k = w3.heap.size) W _ _ rfl).below (fun k (hk : k = w3.heap.size) => by omega) (by have := hB.size; omega))⟩
end Go.Proofs.Ytghepjppjmpihaa
