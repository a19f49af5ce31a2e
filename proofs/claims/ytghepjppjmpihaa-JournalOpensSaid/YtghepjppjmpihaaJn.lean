/- The reference's Scan. -/
import Derived.Test.YtghepjppjmpihaaJh
import Derived.Test.YtghepjppjmpihaaJc
namespace Go.Proofs.Ytghepjppjmpihaa
open Go.ChangeShapes Go.WideShapes Go.ChangeAt Go.RowKit Go.Lib

/-- what was found among the first sizes -/
def fq (l : List Int) (a q : Nat) : Nat := if Jk.fd l a < q then Jk.fd l a else 0
theorem fq_one (l : List Int) (a : Nat) : fq l a 1 = 0 := by unfold fq; split <;> omega
theorem fq_yes {l : List Int} {a q : Nat} (h : Jk.OkAt l a q) : fq l a (q + 1) = q := by unfold fq; rw [Jk.fd_ok h, if_pos (by omega)]
theorem fq_no {l : List Int} {a q : Nat} (h : ¬ Jk.OkAt l a q) (_ : 1 ≤ q) : fq l a (q + 1) = fq l a q := by
  have : Jk.fd l a ≠ q := fun e => h (by have := Jk.fd_yes (l := l) (a := a) (by omega); rwa [e] at this)
  unfold fq; split <;> split <;> omega
theorem fq_end {l : List Int} {a q : Nat} (h : 1024 < q ∨ l.length < a + 8 + q) (_ : 1 ≤ q) : fq l a q = Jk.fd l a := by
  have := Jk.fd_bd l a
  unfold fq; split
  · rfl
  · omega
/-- a head stands where its bytes do -/
theorem ok_iff {l : List Int} {a q : Nat} (h1 : 1 ≤ q) (h2 : q ≤ 1024) (h : a + 8 + q ≤ l.length) : Jk.OkAt l a q ↔ Jk.hd q = (l.drop a).take 8 := by
  have hget : ∀ i, i < 8 → ((l.drop a).take 8).getD i 0 = l.getD (a + i) 0 := fun i hi => by rw [List.getD_eq_getElem?_getD, List.getElem?_take_of_lt hi, List.getElem?_drop, ← List.getD_eq_getElem?_getD]
  constructor
  · intro k
    exact Dk.ext (by rw [List.length_take, List.length_drop, Jk.hd_len]; omega) fun i hi => by
      rw [Jk.hd_len] at hi
      rw [hget i hi, k.2.2.2 i hi]
  · intro k
    exact ⟨h1, h2, h, fun i hi => by rw [← hget i hi, k]⟩
theorem by_mem {l : List Int} (h : Jk.By l) : ∀ x ∈ l, 0 ≤ x ∧ x < 256 := fun x hx => by
  obtain ⟨i, hi, rfl⟩ := List.mem_iff_getElem.1 hx
  have := h i
  rwa [List.getD_eq_getElem?_getD, List.getElem?_eq_getElem hi] at this
theorem by_part {l : List Int} (h : Jk.By l) (a n : Nat) : ∀ x ∈ (l.drop a).take n, 0 ≤ x ∧ x < 256 := fun x hx => by_mem h x (List.mem_of_mem_drop (List.mem_of_mem_take hx))
/-- what was told up to a place -/
structure Sc (w wr : World) (l : List Int) (Ao : Option Addr) (co cnt a : Nat) (vs : List Value) (rs : List (List Int)) : Prop where
  it : Jk.it l cnt = some (a, rs)
  b : Below w.heap.size w wr
  o : wr.ownsRow w.heap.size 22 1 (.slice Ao cnt co) cnt vs
  v : ∀ k, k < cnt → ∃ A c, vs[k]? = some (.slice A (rs.getD k []).length c) ∧ RdK .u8 wr wr.heap.size A (rs.getD k []).length (rs.getD k []) ∧ (0 < (rs.getD k []).length → ∀ g off, A = some ⟨g, off, none⟩ → (Value.slice Ao cnt co).ownBlock ≠ some g ∧ w.heap.size ≤ g)
theorem Sc.below {w wr w' : World} {l : List Int} {Ao : Option Addr} {co cnt a : Nat} {vs : List Value} {rs : List (List Int)} (h : Sc w wr l Ao co cnt a vs rs) (hb : Below wr.heap.size wr w') : Sc w w' l Ao co cnt a vs rs :=
  ⟨h.it, h.b.trans (hb.mono h.b.size), ownsRow_below h.o hb, fun k hk => by
    obtain ⟨A, c, e, hr, hn⟩ := h.v k hk
    exact ⟨A, c, e, (hr.below hb).more hb.size, hn⟩⟩
theorem rdk_but {k : IntKind} {w w' : World} {A : Option Addr} {n : Nat} {zs : List Int} {U : Nat → Prop} (h : RdK k w w.heap.size A n zs) (hb : But U w w') (hs : 0 < n → ∀ g off, A = some ⟨g, off, none⟩ → ¬ U g) : RdK k w' w'.heap.size A n zs :=
  ⟨h.1, fun j hj => by
    obtain ⟨g, off, e, hg, hc⟩ := h.2 j hj
    exact ⟨g, off, e, Nat.lt_of_lt_of_le hg hb.size, (hb.cell (p := ⟨g, off + j, none⟩) hg (hs (by omega) g off e)).trans hc⟩⟩
theorem Sc.push {w wr w5 : World} {l : List Int} {Ao AX A5 : Option Addr} {co cX c5 cnt a f B : Nat} {vs : List Value} {rs : List (List Int)} (h : Sc w wr l Ao co cnt a vs rs) (hf : f = Jk.fd l a) (hf0 : f ≠ 0) (hwB : w.heap.size ≤ B) (ho4 : wr.ownsRow B 5 1 (.slice AX f cX) f ((Jk.rc l a f).map (Value.int .u8)))
    (hB : ∀ k, (Value.slice Ao cnt co).ownBlock = some k → k < B) (ho : w5.ownsRow w.heap.size 22 1 (.slice A5 (cnt + 1) c5) (cnt + 1) (vs ++ [.slice AX f cX])) (hb : But (fun k => (Value.slice Ao cnt co).ownBlock = some k) wr w5)
    (hwh : ∀ k, (Value.slice A5 (cnt + 1) c5).ownBlock = some k → (Value.slice Ao cnt co).ownBlock = some k ∨ wr.heap.size ≤ k) : Sc w w5 l A5 c5 (cnt + 1) (a + 8 + f) (vs ++ [.slice AX f cX]) (rs ++ [Jk.rc l a f]) := by
  have hok := Jk.fd_yes (l := l) (a := a) (by rw [← hf]; exact hf0)
  have hrl : (Jk.rc l a f).length = f := Jk.rc_len (by have := hok.2.2.1; omega)
  have hl := Jk.it_len h.it
  have hvl : vs.length = cnt := by have := h.o.1; omega
  have hr4 := RdK.of_own ho4
  have hlt4 : ∀ g off, AX = some ⟨g, off, none⟩ → B ≤ g ∧ g < wr.heap.size := fun g off e => ho4.lt g (by rw [e]; rfl)
  refine ⟨by have := Jk.it_next h.it (by rw [← hf]; exact hf0); rw [← hf] at this; exact this, h.b.trans (hb.below (fun k hk => own_block h.o k hk) h.b.size), ho, fun k hk => ?_⟩
  by_cases e : k = cnt
  · subst e
    have e1 : (rs ++ [Jk.rc l a f]).getD k [] = Jk.rc l a f := by rw [List.getD_eq_getElem?_getD, List.getElem?_append_right (by omega), hl]; simp
    rw [e1, hrl]
    refine ⟨AX, cX, by rw [List.getElem?_append_right (by omega), hvl]; simp, rdk_but hr4 hb (fun _ g off e2 h2 => absurd (hB g h2) (by have := (hlt4 g off e2).1; omega)), fun _ g off e2 => ⟨fun h2 => ?_, by have := (hlt4 g off e2).1; omega⟩⟩
    rcases hwh g h2 with h3 | h3
    · exact absurd (hB g h3) (by have := (hlt4 g off e2).1; omega)
    · have := (hlt4 g off e2).2; omega
  · obtain ⟨A', c', e1, e2, e3⟩ := h.v k (by omega)
    have e4 : (rs ++ [Jk.rc l a f]).getD k [] = rs.getD k [] := by rw [List.getD_eq_getElem?_getD, List.getElem?_append_left (by omega), ← List.getD_eq_getElem?_getD]
    rw [e4]
    refine ⟨A', c', by rw [List.getElem?_append_left (by omega)]; exact e1, rdk_but e2 hb (fun h0 g off e5 h2 => (e3 h0 g off e5).1 h2), fun h0 g off e5 => ⟨fun h2 => ?_, (e3 h0 g off e5).2⟩⟩
    rcases hwh g h2 with h3 | h3
    · exact (e3 h0 g off e5).1 h3
    · obtain ⟨g', off', e6, hg, _⟩ := e2.2 0 h0
      rw [e5] at e6; injection e6 with e6; injection e6 with e7
      omega
/-- what was told is there as long as only older memory turns -/
theorem Sc.rd {w wr : World} {l : List Int} {Ao : Option Addr} {co cnt a : Nat} {vs : List Value} {rs : List (List Int)} (h : Sc w wr l Ao co cnt a vs rs) : ∀ (U : Nat → Prop) (w' : World), But U wr w' → (∀ k, U k → k < w.heap.size) → RdRs w' Ao rs.length rs := fun U w' hb hU => by
  rw [Jk.it_len h.it]
  exact rdrs_own (ownsRow_but h.o hb (fun k hk hu => by have := own_block h.o k hk; have := hU k hu; omega)) (Jk.it_len h.it) fun i hi => by
    obtain ⟨A, c, e, hr, hn⟩ := h.v i hi
    exact ⟨A, c, e, rdk_but hr hb fun h0 g off e2 hu => by have := (hn h0 g off e2).2; have := hU g hu; omega⟩
def it_next_ok (l : List Int) (cnt a : Nat) (rs : List (List Int)) : Prop := Jk.fd l a ≠ 0 → Jk.it l (cnt + 1) = some (a + 8 + Jk.fd l a, rs ++ [Jk.rc l a (Jk.fd l a)])
set_option maxHeartbeats 2000000 in
set_option maxRecDepth 1000000 in
theorem scan_any {b n : Nat} {l : List Int} (w : World) (hr : RdK .u8 w w.heap.size (some ⟨b, 0, none⟩) n l) (hY : Jk.By l) (hn : n ≤ 65536) :
    Calls Try.prog 29 #[.slice (some ⟨b, 0, none⟩) n n] w fun v w' => ∃ (A : Option Addr) (c : Nat) (rs : List (List Int)) (e : Nat), v = .returned (.tuple #[.slice A rs.length c, .int .i64 e]) ∧ Jk.J l rs e ∧ (∀ (U : Nat → Prop) (w2 : World), But U w' w2 → (∀ k, U k → k < w.heap.size) → RdRs w2 A rs.length rs) ∧ Below w.heap.size w w' := by
  have R := Lib.hid hr
  have YY := Lib.hid hY
  have HL := Lib.hid hr.1
  obtain ⟨i8, hi8, hz80, hz81, hz82⟩ := info_parts infoB8
  obtain ⟨i0, hi, hz0, hz1, hz2⟩ := info_parts infoR
  clear hr hY
  go_enter Try.func29, Try.ntmps29
  go_wp2_with fail
  go_loopw [4, 5] (fun ov av wr => ∃ (a cnt : Nat), av = .int .i64 a ∧ ∃ (Ao : Option Addr) (co : Nat) (vs : List Value) (rs : List (List Int)), ov = .slice Ao cnt co ∧ Hid (Sc w wr l Ao co cnt a vs rs)) (fun _ av _ => n - (RowKit.intOf av).toNat)
  case atStart => exact ⟨0, 0, rfl, none, 0, [], [], rfl, rfl, Below.refl _ _, World.ownsRow_nil _ _ _ _, fun k hk => absurd hk (Nat.not_lt_zero _)⟩
  case round =>
    obtain ⟨a, cnt, rfl, Ao, co, vs, rs, rfl, H⟩ := hrel
    have hab := Jk.it_bd H.out.it
    rw [HL.out] at hab
    obtain ⟨hab1, hab2⟩ := hab
    by_cases hlt : a + 8 < n
    · have hltz : (a : Int) + 8 < (n : Int) := by omega
      obtain ⟨w2, e2⟩ : ∃ x, x = wr := ⟨_, rfl⟩
      subst e2
      go_wp2_with fail
      go_loopw [6, 7] (fun fv qv wr => ∃ q : Nat, qv = .int .i64 q ∧ fv = .int .i64 (fq l a q : Nat) ∧ 1 ≤ q ∧ q ≤ 1025 ∧ Hid (Sc w wr l Ao co cnt a vs rs)) (fun _ qv _ => 1025 - (RowKit.intOf qv).toNat)
      case atStart => exact ⟨1, rfl, by rw [fq_one]; rfl, Nat.le_refl _, by omega, H.out⟩
      case round =>
        clear H
        obtain ⟨q, rfl, rfl, hq1, hq2, H⟩ := hrel
        by_cases hq3 : q ≤ 1024 ∧ a + 8 + q ≤ n
        · have z1 : (q : Int) ≤ 1024 := by omega
          obtain ⟨a8, ha8⟩ : ∃ x, x = a + 8 := ⟨_, rfl⟩
          obtain ⟨aq, haq⟩ : ∃ x, x = a8 + q := ⟨_, rfl⟩
          have r1 : IntKind.i64.wrap ((a : Int) + 8) = (a8 : Int) := by rw [IntKind.wrap_i64]; omega
          have r2 : IntKind.i64.wrap ((a8 : Int) + (q : Int)) = (aq : Int) := by rw [IntKind.wrap_i64]; omega
          have z2 : (aq : Int) ≤ (n : Int) := by omega
          have z3 : (0 : Int) ≤ (a : Int) := by omega
          have z4 : (a : Int) ≤ (a8 : Int) := by omega
          have z5 : (a8 : Int) ≤ (n : Int) := by omega
          have z6 : a8 - a = 8 := by omega
          have z7 : ¬ n = a := by omega
          have RB := Lib.hid (R.out.below H.out.b)
          have RS := Lib.hid (show RdK .u8 wr wr.heap.size (some ⟨b, a, none⟩) 8 ((l.drop a).take 8) from by
            have h1 := ((RB.out.more H.out.b.size).drops (j := a)).takes (j := 8) (by omega)
            rwa [Nat.zero_add] at h1)
          have HI := Lib.hid (ok_iff (l := l) (a := a) hq1 hq3.1 (by rw [HL.out]; omega))
          have HH := Lib.hid (fun w => head_any q hq3.1 w)
          have FY := Lib.hid (fun h : Jk.OkAt l a q => fq_yes h)
          have FN := Lib.hid (fun h : ¬ Jk.OkAt l a q => fq_no h hq1)
          have ST := Lib.hid (by_part YY.out a 8)
          have SH := Lib.hid (by_mem (Jk.By.hd q))
          have kB0 := rd_str (c := n - a) RS.out
          have kB1 := rd_str (c := n - a) (RS.out.below (Below.refl _ _).drew)
          by_cases hok : Jk.OkAt l a q
          · have hEQ := HI.out.mp hok
            have HFY := Lib.hid (FY.out hok)
            rw [← hEQ] at kB0 kB1
            clear ha8 haq hok
            go_wp2_with fail
            refine wp_region_held_drew (S := fun w' => (convert 22 9 (.slice (some ⟨b, a, none⟩) 8 (n - a))).run Try.prog w' = .ok (.string (strOfNums (Jk.hd q))) w') (by kernel_rfl) ?_ (fun hHeld => ?_)
            · assumption
            refine wpAnyH_take (i := 0) (v := ?_) rfl (by kernel_rfl) (by kernel_rfl) (by kernel_rfl) (fun _ _ _ h => h) (Or.inl ⟨by rfl, ?_⟩) (by assumption) ?_
            rotate_left 1
            · (intro w hSw; (try dsimp only at hSw); go_simp; try with_reducible rfl)
            try simp only [List.getElem_toArray, List.getElem_cons_zero, Act.put, List.setIfInBounds_toArray, List.set_cons_zero, List.set_cons_succ]
            refine wpAnyH_take (i := 3) (v := ?_) rfl (by kernel_rfl) (by kernel_rfl) (by kernel_rfl) (fun _ _ _ h => h) (Or.inl ⟨by rfl, ?_⟩) (by assumption) ?_
            rotate_left 1
            · (intro w hSw; (try dsimp only at hSw); go_simp; try with_reducible rfl)
            try simp only [List.getElem_toArray, List.getElem_cons_succ, List.getElem_cons_zero, Act.put, List.setIfInBounds_toArray, List.set_cons_zero, List.set_cons_succ]
            refine wpAnyH_take (i := 4) (v := ?_) rfl (by kernel_rfl) (by kernel_rfl) (by kernel_rfl) (fun _ _ _ h => h) (Or.inl ⟨by rfl, ?_⟩) (by assumption) ?_
            rotate_left 1
            · (intro w hSw; (try dsimp only at hSw); go_simp; try with_reducible rfl)
            try simp only [List.getElem_toArray, List.getElem_cons_succ, List.getElem_cons_zero, Act.put, List.setIfInBounds_toArray, List.set_cons_zero, List.set_cons_succ]
            refine wpAnyH_take (i := 5) (v := ?_) rfl (by kernel_rfl) (by kernel_rfl) (by kernel_rfl) (fun _ _ _ h => h) (Or.inl ⟨by rfl, ?_⟩) (by assumption) ?_
            rotate_left 1
            · (intro w hSw; (try dsimp only at hSw); go_simp; try with_reducible rfl)
            try simp only [List.getElem_toArray, List.getElem_cons_succ, List.getElem_cons_zero, Act.put, List.setIfInBounds_toArray, List.set_cons_zero, List.set_cons_succ]
            refine wpAnyH_take (i := 6) (v := ?_) rfl (by kernel_rfl) (by kernel_rfl) (by kernel_rfl) (fun _ _ _ h => h) (Or.inl ⟨by rfl, ?_⟩) (by assumption) ?_
            rotate_left 1
            · (intro w hSw; (try dsimp only at hSw); go_simp; try with_reducible rfl)
            try simp only [List.getElem_toArray, List.getElem_cons_succ, List.getElem_cons_zero, Act.put, List.setIfInBounds_toArray, List.set_cons_zero, List.set_cons_succ]
            refine wpAnyH_take (i := 7) (v := ?_) rfl (by kernel_rfl) (by kernel_rfl) (by kernel_rfl) (fun _ _ _ h => h) (Or.inl ⟨by rfl, ?_⟩) (by assumption) ?_
            rotate_left 1
            · (intro w hSw; (try dsimp only at hSw); go_simp; try with_reducible rfl)
            try simp only [List.getElem_toArray, List.getElem_cons_succ, List.getElem_cons_zero, Act.put, List.setIfInBounds_toArray, List.set_cons_zero, List.set_cons_succ]
            refine wpAnyH_take (i := 8) (v := ?_) rfl (by kernel_rfl) (by kernel_rfl) (by kernel_rfl) (fun _ _ _ h => h) (Or.inl ⟨by rfl, ?_⟩) (by assumption) ?_
            rotate_left 1
            · (intro w hSw; (try dsimp only at hSw); go_simp; try with_reducible rfl)
            try simp only [List.getElem_toArray, List.getElem_cons_succ, List.getElem_cons_zero, Act.put, List.setIfInBounds_toArray, List.set_cons_zero, List.set_cons_succ]
            refine wpAnyH_ready (rs := [1]) (by kernel_rfl) (by simp) ?_
            refine AllReadyH.cons rfl (fun K hK => ?_) AllReadyH.nil
            go_simp
            refine (HH.out _).mono ?_; rintro v w3 ⟨g, ⟨c3, rfl⟩, hR, hb⟩; have kA := rd_str (c := c3) hR; have H3 := Lib.hid (show Sc w w3 l Ao co cnt a vs rs ∧ RdK .u8 w3 w3.heap.size (some ⟨b, a, none⟩) 8 ((l.drop a).take 8) from by first | exact ⟨(H.out.below (Below.refl _ _).drew).below hb, (RS.out.below ((Below.refl _ _).drew.trans hb)).more ((Below.refl wr.heap.size wr).drew.trans hb).size⟩ | exact ⟨H.out.below hb, (RS.out.below hb).more hb.size⟩); have kB := rd_str (c := n - a) H3.out.2; rw [← hEQ] at kB; clear hR hb; dsimp only
            refine hK.out _ _ ?_ (fun hHeld => ?_)
            · assumption
            clear hK K
            try simp only [List.getElem_toArray, List.getElem_cons_succ, List.getElem_cons_zero, Act.put, List.setIfInBounds_toArray, List.set_cons_zero, List.set_cons_succ]
            refine wpAnyH_ready (rs := [2]) (by kernel_rfl) (by simp) ?_
            refine AllReadyH.cons rfl (fun K hK => ?_) AllReadyH.nil
            go_simp
            refine hK.out _ _ ?_ (fun hHeld => ?_)
            · assumption
            clear hK K
            try simp only [List.getElem_toArray, List.getElem_cons_succ, List.getElem_cons_zero, Act.put, List.setIfInBounds_toArray, List.set_cons_zero, List.set_cons_succ]
            refine wpAnyH_take (i := 9) (v := ?_) rfl (by kernel_rfl) (by kernel_rfl) (by kernel_rfl) (fun _ _ _ h => h) (Or.inl ⟨by rfl, ?_⟩) (by assumption) ?_
            rotate_left 1
            · (intro w hSw; (try dsimp only at hSw); go_simp; try with_reducible rfl)
            try simp only [List.getElem_toArray, List.getElem_cons_succ, List.getElem_cons_zero, Act.put, List.setIfInBounds_toArray, List.set_cons_zero, List.set_cons_succ]
            refine wpAnyH_done (by kernel_rfl) ?_ _
            go_wp2_with fail
            exact ⟨⟨q + 1, by go_num, by rw [HFY.out], by omega, by omega, H3.out.1⟩, by simp [RowKit.intOf]; omega⟩
          · have hne := str_ne SH.out ST.out (fun e => hok (HI.out.mpr e))
            have HFN := Lib.hid (FN.out hok)
            clear ha8 haq hok
            go_wp2_with fail
            refine wp_region_held_drew (S := fun w' => (convert 22 9 (.slice (some ⟨b, a, none⟩) 8 (n - a))).run Try.prog w' = .ok (.string (strOfNums ((l.drop a).take 8))) w') (by kernel_rfl) ?_ (fun hHeld => ?_)
            · assumption
            refine wpAnyH_take (i := 0) (v := ?_) rfl (by kernel_rfl) (by kernel_rfl) (by kernel_rfl) (fun _ _ _ h => h) (Or.inl ⟨by rfl, ?_⟩) (by assumption) ?_
            rotate_left 1
            · (intro w hSw; (try dsimp only at hSw); go_simp; try with_reducible rfl)
            try simp only [List.getElem_toArray, List.getElem_cons_zero, Act.put, List.setIfInBounds_toArray, List.set_cons_zero, List.set_cons_succ]
            refine wpAnyH_take (i := 3) (v := ?_) rfl (by kernel_rfl) (by kernel_rfl) (by kernel_rfl) (fun _ _ _ h => h) (Or.inl ⟨by rfl, ?_⟩) (by assumption) ?_
            rotate_left 1
            · (intro w hSw; (try dsimp only at hSw); go_simp; try with_reducible rfl)
            try simp only [List.getElem_toArray, List.getElem_cons_succ, List.getElem_cons_zero, Act.put, List.setIfInBounds_toArray, List.set_cons_zero, List.set_cons_succ]
            refine wpAnyH_take (i := 4) (v := ?_) rfl (by kernel_rfl) (by kernel_rfl) (by kernel_rfl) (fun _ _ _ h => h) (Or.inl ⟨by rfl, ?_⟩) (by assumption) ?_
            rotate_left 1
            · (intro w hSw; (try dsimp only at hSw); go_simp; try with_reducible rfl)
            try simp only [List.getElem_toArray, List.getElem_cons_succ, List.getElem_cons_zero, Act.put, List.setIfInBounds_toArray, List.set_cons_zero, List.set_cons_succ]
            refine wpAnyH_take (i := 5) (v := ?_) rfl (by kernel_rfl) (by kernel_rfl) (by kernel_rfl) (fun _ _ _ h => h) (Or.inl ⟨by rfl, ?_⟩) (by assumption) ?_
            rotate_left 1
            · (intro w hSw; (try dsimp only at hSw); go_simp; try with_reducible rfl)
            try simp only [List.getElem_toArray, List.getElem_cons_succ, List.getElem_cons_zero, Act.put, List.setIfInBounds_toArray, List.set_cons_zero, List.set_cons_succ]
            refine wpAnyH_take (i := 6) (v := ?_) rfl (by kernel_rfl) (by kernel_rfl) (by kernel_rfl) (fun _ _ _ h => h) (Or.inl ⟨by rfl, ?_⟩) (by assumption) ?_
            rotate_left 1
            · (intro w hSw; (try dsimp only at hSw); go_simp; try with_reducible rfl)
            try simp only [List.getElem_toArray, List.getElem_cons_succ, List.getElem_cons_zero, Act.put, List.setIfInBounds_toArray, List.set_cons_zero, List.set_cons_succ]
            refine wpAnyH_take (i := 7) (v := ?_) rfl (by kernel_rfl) (by kernel_rfl) (by kernel_rfl) (fun _ _ _ h => h) (Or.inl ⟨by rfl, ?_⟩) (by assumption) ?_
            rotate_left 1
            · (intro w hSw; (try dsimp only at hSw); go_simp; try with_reducible rfl)
            try simp only [List.getElem_toArray, List.getElem_cons_succ, List.getElem_cons_zero, Act.put, List.setIfInBounds_toArray, List.set_cons_zero, List.set_cons_succ]
            refine wpAnyH_take (i := 8) (v := ?_) rfl (by kernel_rfl) (by kernel_rfl) (by kernel_rfl) (fun _ _ _ h => h) (Or.inl ⟨by rfl, ?_⟩) (by assumption) ?_
            rotate_left 1
            · (intro w hSw; (try dsimp only at hSw); go_simp; try with_reducible rfl)
            try simp only [List.getElem_toArray, List.getElem_cons_succ, List.getElem_cons_zero, Act.put, List.setIfInBounds_toArray, List.set_cons_zero, List.set_cons_succ]
            refine wpAnyH_ready (rs := [1]) (by kernel_rfl) (by simp) ?_
            refine AllReadyH.cons rfl (fun K hK => ?_) AllReadyH.nil
            go_simp
            refine (HH.out _).mono ?_; rintro v w3 ⟨g, ⟨c3, rfl⟩, hR, hb⟩; have kA := rd_str (c := c3) hR; have H3 := Lib.hid (show Sc w w3 l Ao co cnt a vs rs ∧ RdK .u8 w3 w3.heap.size (some ⟨b, a, none⟩) 8 ((l.drop a).take 8) from by first | exact ⟨(H.out.below (Below.refl _ _).drew).below hb, (RS.out.below ((Below.refl _ _).drew.trans hb)).more ((Below.refl wr.heap.size wr).drew.trans hb).size⟩ | exact ⟨H.out.below hb, (RS.out.below hb).more hb.size⟩); have kB := rd_str (c := n - a) H3.out.2; clear hR hb; dsimp only
            refine hK.out _ _ ?_ (fun hHeld => ?_)
            · assumption
            clear hK K
            try simp only [List.getElem_toArray, List.getElem_cons_succ, List.getElem_cons_zero, Act.put, List.setIfInBounds_toArray, List.set_cons_zero, List.set_cons_succ]
            refine wpAnyH_ready (rs := [2]) (by kernel_rfl) (by simp) ?_
            refine AllReadyH.cons rfl (fun K hK => ?_) AllReadyH.nil
            go_simp
            refine hK.out _ _ ?_ (fun hHeld => ?_)
            · assumption
            clear hK K
            try simp only [List.getElem_toArray, List.getElem_cons_succ, List.getElem_cons_zero, Act.put, List.setIfInBounds_toArray, List.set_cons_zero, List.set_cons_succ]
            refine wpAnyH_take (i := 9) (v := ?_) rfl (by kernel_rfl) (by kernel_rfl) (by kernel_rfl) (fun _ _ _ h => h) (Or.inl ⟨by rfl, ?_⟩) (by assumption) ?_
            rotate_left 1
            · (intro w hSw; (try dsimp only at hSw); go_simp; try with_reducible rfl)
            try simp only [List.getElem_toArray, List.getElem_cons_succ, List.getElem_cons_zero, Act.put, List.setIfInBounds_toArray, List.set_cons_zero, List.set_cons_succ]
            refine wpAnyH_done (by kernel_rfl) ?_ _
            go_wp2_with fail
            exact ⟨⟨q + 1, by go_num, by rw [HFN.out], by omega, by omega, H3.out.1⟩, by simp [RowKit.intOf]; omega⟩
        · have hq3' : 1024 < q ∨ n < a + 8 + q := by omega
          have HF := Lib.hid (fq_end (l := l) (a := a) (q := q) (by rw [HL.out]; omega) hq1)
          rw [HF.out]
          have BD := Lib.hid (Jk.fd_bd l a)
          have HN := Lib.hid (show it_next_ok l cnt a rs from fun h => Jk.it_next H.out.it h)
          have HE := Lib.hid (show Jk.fd l a = 0 → Jk.J l rs a from fun h => ⟨by rw [Jk.it_len H.out.it]; exact H.out.it, h⟩)
          obtain ⟨f, hf⟩ : ∃ f, f = Jk.fd l a := ⟨_, rfl⟩
          rw [← hf] at BD HE ⊢
          have FD := Lib.hid hf
          clear hf HF
          obtain ⟨a8, ha8⟩ : ∃ x, x = a + 8 := ⟨_, rfl⟩
          obtain ⟨aq, haq⟩ : ∃ x, x = a8 + q := ⟨_, rfl⟩
          have r1 : IntKind.i64.wrap ((a : Int) + 8) = (a8 : Int) := by rw [IntKind.wrap_i64]; omega
          have r2 : IntKind.i64.wrap ((a8 : Int) + (q : Int)) = (aq : Int) := by rw [IntKind.wrap_i64]; omega
          have hfb : f ≤ 1024 := BD.out.1
          by_cases hf0 : f = 0
          · have LR := Lib.hid (Jk.it_len H.out.it)
            have hf0z : (f : Int) = 0 := by omega
            rcases (show (¬ (q : Int) ≤ 1024) ∨ ((q : Int) ≤ 1024 ∧ ¬ (aq : Int) ≤ (n : Int)) by omega) with h | ⟨h0, h⟩
            · go_wp2_with fail
              exact bodyPost_ret (v := .tuple #[.slice Ao cnt co, .int .i64 a]) (by simp [results, Try.results29, go_sem]) rfl ⟨Ao, co, rs, a, by rw [LR.out], HE.out hf0, H.out.rd, H.out.b⟩
            · have hb2 : decide ((aq : Int) ≤ (n : Int)) = false := decide_eq_false h
              go_wp2_with fail
              exact bodyPost_ret (v := .tuple #[.slice Ao cnt co, .int .i64 a]) (by simp [results, Try.results29, go_sem]) rfl ⟨Ao, co, rs, a, by rw [LR.out], HE.out hf0, H.out.rd, H.out.b⟩
          · have hf0z : ¬ (f : Int) = 0 := by omega
            have hfn : a8 + f ≤ n := by have := BD.out.2 hf0; rw [HL.out] at this; omega
            obtain ⟨af, haf⟩ : ∃ x, x = a8 + f := ⟨_, rfl⟩
            have r3 : IntKind.i64.wrap ((a8 : Int) + (f : Int)) = (af : Int) := by rw [IntKind.wrap_i64]; omega
            have z8 : ¬ n = a + 8 := by omega
            have HF0 := Lib.hid hf0
            have FB := Lib.hid hfb
            have CB := Lib.hid (show cnt ≤ 65536 by omega)
            have AL := Lib.hid ((Below.refl wr.heap.size wr).alloc (Nat.le_refl _) (.cells #[] 5))
            have E := Lib.hid (empty_row wr 5)
            have HWB := Lib.hid H.out.b.size
            have HOB := Lib.hid (show ∀ k, (Value.slice Ao cnt co).ownBlock = some k → k < wr.heap.size from fun k hk => (H.out.o.lt k hk).2)
            have RP := Lib.hid (show RdK .u8 (wr.alloc (.cells #[] 5)) (wr.alloc (.cells #[] 5)).heap.size (some ⟨b, a + 8, none⟩) f (Jk.rc l a f) from by
              have h1 := (((R.out.below (H.out.b.trans (AL.out.mono H.out.b.size))).more (Nat.le_trans H.out.b.size AL.out.size)).drops (j := a + 8)).takes (j := f) (by omega)
              rwa [Nat.zero_add] at h1)
            have y1 : IntKind.i64.wrap ((a : Int) + 8 + (f : Int)) = (a : Int) + 8 + (f : Int) := by rw [IntKind.wrap_i64]; omega
            rcases (show (¬ (q : Int) ≤ 1024) ∨ ((q : Int) ≤ 1024 ∧ ¬ (aq : Int) ≤ (n : Int)) by omega) with h | ⟨h0, h⟩
            · go_wp2_with (first
                | (at_builtin; refine wpList_append_nums _ rfl _ _ 22 rfl wr.heap.size 5 i8 .u8 1 Try.underlying22 hi8 hz80 hz81 hz82 _ 0 [] rfl E.out (some ⟨b, a + 8, none⟩) f (n - (a + 8)) (Jk.rc l a f) (wr.alloc (.cells #[] 5)).heap.size (by simp [Act.eval] <;> omega) RP.out (fun h => nomatch h) (by have := FB.out; unfold maxLen; omega) (by have := FB.out; omega) (by simp) ?_; intro v1 w4 hown hb; rw [Nat.zero_add, List.nil_append] at hown; obtain ⟨AX, cX, rfl⟩ := own_form hown; have B4 := Lib.hid (AL.out.trans hb); have H5 := Lib.hid ((H.out.below B4.out).below ((Below.refl w4.heap.size w4).alloc (Nat.le_refl _) (.cells #[.slice AX f cX] 22))); have O5 := Lib.hid (hown.alloc (.cells #[.slice AX f cX] 22)); have CC : (w4.alloc (.cells #[.slice AX f cX] 22)).cell? ⟨w4.heap.size, 0, none⟩ = some (.slice AX f cX) := (by simp); clear hown hb)
                | (at_builtin; refine wpList_push_at _ rfl _ _ 44 rfl w.heap.size 22 i0 (.slice none 0 0) 24 Try.underlying44 hi hz0 hz1 hz2 rfl _ cnt vs rfl H5.out.o w4.heap.size (.slice AX f cX) rfl CC rfl (by have := CB.out; unfold maxLen; omega) (by have := CB.out; omega) H5.out.b.size ?_; intro v2 w5 hown hb hwh; obtain ⟨A5, c5, rfl⟩ := own_form hown; have H6 := Lib.hid (H5.out.push FD.out HF0.out HWB.out O5.out HOB.out hown hb hwh); clear hown hb hwh CC))
              exact ⟨⟨a + 8 + f, cnt + 1, by go_num, A5, c5, _, _, rfl, H6.out⟩, by simp [RowKit.intOf]; omega⟩
            · have hb2 : decide ((aq : Int) ≤ (n : Int)) = false := decide_eq_false h
              go_wp2_with (first
                | (at_builtin; refine wpList_append_nums _ rfl _ _ 22 rfl wr.heap.size 5 i8 .u8 1 Try.underlying22 hi8 hz80 hz81 hz82 _ 0 [] rfl E.out (some ⟨b, a + 8, none⟩) f (n - (a + 8)) (Jk.rc l a f) (wr.alloc (.cells #[] 5)).heap.size (by simp [Act.eval] <;> omega) RP.out (fun h => nomatch h) (by have := FB.out; unfold maxLen; omega) (by have := FB.out; omega) (by simp) ?_; intro v1 w4 hown hb; rw [Nat.zero_add, List.nil_append] at hown; obtain ⟨AX, cX, rfl⟩ := own_form hown; have B4 := Lib.hid (AL.out.trans hb); have H5 := Lib.hid ((H.out.below B4.out).below ((Below.refl w4.heap.size w4).alloc (Nat.le_refl _) (.cells #[.slice AX f cX] 22))); have O5 := Lib.hid (hown.alloc (.cells #[.slice AX f cX] 22)); have CC : (w4.alloc (.cells #[.slice AX f cX] 22)).cell? ⟨w4.heap.size, 0, none⟩ = some (.slice AX f cX) := (by simp); clear hown hb)
                | (at_builtin; refine wpList_push_at _ rfl _ _ 44 rfl w.heap.size 22 i0 (.slice none 0 0) 24 Try.underlying44 hi hz0 hz1 hz2 rfl _ cnt vs rfl H5.out.o w4.heap.size (.slice AX f cX) rfl CC rfl (by have := CB.out; unfold maxLen; omega) (by have := CB.out; omega) H5.out.b.size ?_; intro v2 w5 hown hb hwh; obtain ⟨A5, c5, rfl⟩ := own_form hown; have H6 := Lib.hid (H5.out.push FD.out HF0.out HWB.out O5.out HOB.out hown hb hwh); clear hown hb hwh CC))
              exact ⟨⟨a + 8 + f, cnt + 1, by go_num, A5, c5, _, _, rfl, H6.out⟩, by simp [RowKit.intOf]; omega⟩
    · have hltz : ¬ (a : Int) + 8 < (n : Int) := by omega
      have LR := Lib.hid (Jk.it_len H.out.it)
      have HE := Lib.hid (show Jk.J l rs a from ⟨by rw [Jk.it_len H.out.it]; exact H.out.it, by
        by_cases k : Jk.fd l a = 0
        · exact k
        · have := (Jk.fd_bd l a).2 k; rw [HL.out] at this; omega⟩)
      go_wp2_with fail
      exact bodyPost_ret (v := .tuple #[.slice Ao cnt co, .int .i64 a]) (by simp [results, Try.results29, go_sem]) rfl ⟨Ao, co, rs, a, by rw [LR.out], HE.out, H.out.rd, H.out.b⟩
end Go.Proofs.Ytghepjppjmpihaa
