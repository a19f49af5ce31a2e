/- The program's journal: all that is read, and where the records end. -/
import Derived.Test.YtghepjppjmpihaaJqi
import Derived.Test.YtghepjppjmpihaaDh
namespace Go.Proofs.Ytghepjppjmpihaa
open Go.ChangeShapes Go.WideShapes Go.ChangeAt Go.RowKit Go.Lib
attribute [local go_sem] Oper.semAt_some

/-- a journal's two cells -/
structure Jm (w : World) (j d : Nat) (sp : Bool) : Prop where
  lt : j < w.heap.size
  c0 : w.cell? ⟨j, 0, none⟩ = some (.pointer (some ⟨d, 0, none⟩))
  c1 : w.cell? ⟨j, 1, none⟩ = some (.bool sp)
  z1 : w.frozen? ⟨j, 1, none⟩ = false
theorem Jm.but {S : Nat → Prop} {w w' : World} {j d : Nat} {sp : Bool} (h : Jm w j d sp) (hb : But S w w') (hs : ¬ S j) : Jm w' j d sp :=
  ⟨Nat.lt_of_lt_of_le h.lt hb.size, (hb.cell (p := ⟨j, 0, none⟩) h.lt hs).trans h.c0, (hb.cell (p := ⟨j, 1, none⟩) h.lt hs).trans h.c1, (hb.frozen (p := ⟨j, 1, none⟩) h.lt hs).trans h.z1⟩
theorem Jm.below {w w' : World} {j d : Nat} {sp : Bool} (h : Jm w j d sp) (hb : Below w.heap.size w w') : Jm w' j d sp := h.but (But.of hb (fun _ => False)) id
theorem box_new (w : World) (v : Value) (t : TypeId) : (w.alloc (.cells #[v] t)).cell? ⟨w.heap.size, 0, none⟩ = some v ∧ (w.alloc (.cells #[v] t)).frozen? ⟨w.heap.size, 0, none⟩ = false := by
  have h := World.alloc_heap_new w (.cells #[v] t)
  constructor
  · unfold World.cell?; rw [h]; rfl
  · unfold World.frozen?; rw [h]; rfl
theorem take_all {l : List Int} {n : Nat} (h : l.length = n) : (l.drop 0).take n = l := by rw [List.drop_zero, ← h, List.take_length]
theorem cread_all {S : Nat → Prop} {b m : Nat} {st now dr : List Int} (w : World) (h : Dq S w b m st now dr) :
    Calls Try.prog 17 #[.pointer (some ⟨b, 0, none⟩), .int .i64 0, .int .i64 (64 * m : Nat)] w fun e w' => ∃ A c, (∃ g, A = some ⟨g, 0, none⟩) ∧ e = .returned (.tuple #[.slice A (64 * m) c, .nilIface]) ∧ 64 * m ≤ c ∧ c ≤ maxLen ∧ Told w w' A (64 * m) now ∧ Below w.heap.size w w' := by
  have h1 := cread_new (p := 0) (q := 64 * m) w h (by omega)
  rw [take_all h.sizes.2.1] at h1
  exact h1
set_option maxHeartbeats 1000000 in
theorem cwhole_new {S : Nat → Prop} {j d m : Nat} {sp : Bool} {st now dr : List Int} (w : World) (hm : Jm w j d sp) (h : Dq S w d m st now dr) :
    Calls Try.prog 31 #[.pointer (some ⟨j, 0, none⟩)] w fun e w' => ∃ A c, (∃ g, A = some ⟨g, 0, none⟩) ∧ e = .returned (.slice A (64 * m) c) ∧ 64 * m ≤ c ∧ c ≤ maxLen ∧ Told w w' A (64 * m) now ∧ Below w.heap.size w w' := by
  have hs := h.sizes
  have LS := Lib.hid (fun w' (hb : Below w.heap.size w w') => csize w' (h.below hb))
  have LR := Lib.hid (fun w' (hb : Below w.heap.size w w') => cread_all w' (h.below hb))
  have HM := Lib.hid (fun w' (hb : Below w.heap.size w w') => hm.below hb)
  have c0 := hm.c0
  have HJ := Lib.hid hm.lt
  have HN := Lib.hid (show ((64 * m : Nat) : Int) ≤ 65536 by have := hs.2.2.2; omega)
  clear hm h hs
  generalize 64 * m = q at *
  go_enter Try.func31, Try.ntmps31
  go_wp2_with fail
  have HW := Lib.hid (Below.refl w.heap.size w).drew
  go_region_held3 (fun w' => w'.cell? ⟨j, 0, none⟩ = some (.pointer (some ⟨d, 0, none⟩)))
    (first | assumption | go_keep)
    (first
    | (go_at_call 37; refine (LS.out _ HW.out).mono ?_; rintro e w1 ⟨rfl, hb0⟩; have hb := HW.out.trans (hb0.mono HW.out.size); have HW := Lib.hid hb; have c0 := (hb.cell (p := ⟨j, 0, none⟩) HJ.out).trans c0; clear hb hb0)
    | (go_at_call 17; refine (LR.out _ HW.out).mono ?_; rintro e w2 ⟨A, c, hA0, rfl, hc1, hc2, hT, hb0⟩; have HA0 := Lib.hid hA0; have HT := Lib.hid hT; have HC := Lib.hid hc1; have HC2 := Lib.hid hc2; have HW0 := HW; have hb := HW.out.trans (hb0.mono HW.out.size); have HW := Lib.hid hb; have c0 := (hb0.cell (p := ⟨j, 0, none⟩) (Nat.lt_of_lt_of_le HJ.out HW0.out.size)).trans c0; clear hb hb0 hT hc1 hc2 hA0))
  go_wp2_with fail
  go_ret
  exact ⟨A, c, HA0.out, rfl, HC.out, HC2.out, ⟨HT.out.rd, fun g off e => Nat.le_trans HW0.out.size (HT.out.new g off e), HT.out.free⟩, HW.out⟩
theorem cwhole {S : Nat → Prop} {j d m : Nat} {sp : Bool} {st now dr : List Int} (w : World) (hm : Jm w j d sp) (h : Dq S w d m st now dr) :
    Calls Try.prog 31 #[.pointer (some ⟨j, 0, none⟩)] w fun e w' => ∃ A c, e = .returned (.slice A (64 * m) c) ∧ 64 * m ≤ c ∧ c ≤ maxLen ∧ Told w w' A (64 * m) now ∧ Below w.heap.size w w' :=
  (cwhole_new w hm h).mono fun _ _ ⟨A, c, _, h⟩ => ⟨A, c, h⟩
theorem crecs {A : Option Addr} {L c : Nat} (w : World) : Calls Try.prog 30 #[.slice A L c] w fun e w' => e = .returned (.func (.func 42) #[] #[.pointer (some ⟨w.heap.size, 0, none⟩)]) ∧ w' = w.alloc (.cells #[.slice A L c] 22) := by
  go_enter Try.func30, Try.ntmps30
  go_wp2_with fail
  go_ret
  exact ⟨rfl, rfl⟩
/-- what records come to, with their heads -/
def sm : List (List Int) → Nat
  | [] => 0
  | x :: l => 8 + x.length + sm l
theorem sm_append (l k : List (List Int)) : sm (l ++ k) = sm l + sm k := by
  induction l with
  | nil => simp [sm]
  | cons x l ih => simp only [List.cons_append, sm, ih]; omega
theorem it_sm {l : List Int} : ∀ {k a : Nat} {rs : List (List Int)}, Jk.it l k = some (a, rs) → a = sm rs
  | 0, _, _, h => by simp [Jk.it] at h; obtain ⟨rfl, rfl⟩ := h; rfl
  | k + 1, _, _, h => by
    obtain ⟨a, rs0, h0, hf, rfl, rfl⟩ := Jk.it_step h
    have h1 := it_sm h0
    have h2 := (Jk.fd_bd l a).2 hf
    rw [sm_append, ← h1]
    show _ = a + (8 + (Jk.rc l a (Jk.fd l a)).length + 0)
    rw [Jk.rc_len h2]; omega
theorem pc_put {g0 : Nat} (pre : List (List Int)) (x : List Int) (A : World) (v : Value) (l : Nat) (o : Obj) (h : Pc g0 pre x A v) (hl : g0 < l) : Pc g0 pre x (A.putObj l o) v := by
  obtain ⟨off, c, h1, h2, h3⟩ := h
  exact ⟨off, c, h1, ⟨h2.1, fun j hj => by
    obtain ⟨g, off', e, h4, h5⟩ := h2.2 j hj
    injection e with e; injection e with e1 e2; subst e1 e2
    exact ⟨g0, off, rfl, by simpa using h4, (World.cell?_of_block (World.putObj_heap_other (by show g0 ≠ l; omega))).trans h5⟩⟩, h3⟩
set_option maxHeartbeats 2000000 in
theorem cend {S : Nat → Prop} {j d m e : Nat} {sp : Bool} {st now dr : List Int} {rs : List (List Int)} (w : World) (hm : Jm w j d sp) (h : Dq S w d m st now dr) (hJ : Jk.J now rs e) (hY : Jk.By now) :
    Calls Try.prog 38 #[.pointer (some ⟨j, 0, none⟩)] w fun v w' => v = .returned (.int .i64 (e : Nat)) ∧ Below w.heap.size w w' := by
  have hs := h.sizes
  have he := it_sm hJ.1
  have hel := hJ.le
  have LW := Lib.hid (fun w' (hb : Below w.heap.size w w') => callsIn_wide (n := 4).2 (cwhole w' (hm.below hb) (h.below hb)))
  have LC := Lib.hid (fun A L c w' => callsIn_wide (n := 4).2 (crecs (A := A) (L := L) (c := c) w'))
  have HJ := Lib.hid hm.lt
  refine (callsIn_wide (n := 5)).1 ?_
  refine callsIn_of_wp_marks Try.func38 rfl trivial ?_ rfl
  simp only [Try.ntmps38, List.size_toArray, List.length_cons, List.length_nil, Nat.reduceAdd, Nat.reduceSub, Array.replicate_succ, Array.replicate_zero, List.push_toArray, List.append_toArray, List.nil_append, List.cons_append]
  have HB1 := Lib.hid ((Below.refl w.heap.size w).alloc (Nat.le_refl _) (.cells #[.int .i64 0] 3))
  clear hm h
  gi_wp2_with (first
    | (refine ⟨trivial, ?_⟩; gi_at_call 31; refine (LW.out _ HB1.out).mono ?_; rintro e1 w2 ⟨A, c, rfl, hc1, hc2, hT, hb2⟩)
    | (refine ⟨trivial, ?_⟩; gi_at_call 30; refine (LC.out _ _ _ _).mono ?_; rintro e2 w3 ⟨rfl, hw3⟩))
  have hsz2 : w.heap.size + 1 ≤ w2.heap.size := by have := hb2.size; rwa [World.size_alloc] at this
  have hq : 64 * m ≤ 65536 := by have := hs.2.2.2; omega
  obtain ⟨g0, hg, hg1, hg2⟩ : ∃ g0, (0 < 64 * m → ∀ g off, A = some ⟨g, off, none⟩ → g = g0) ∧ g0 ≠ w.heap.size ∧ g0 < w2.heap.size := by
    by_cases h0 : 0 < 64 * m
    · obtain ⟨g, off, hA, hg, _⟩ := hT.rd.2 0 h0
      have := hT.new g off hA
      rw [World.size_alloc] at this
      exact ⟨g, fun _ g' off' e => by rw [hA] at e; injection e with e; injection e with e1 _; exact e1.symm, by omega, hg⟩
    · exact ⟨j, fun h => absurd h h0, by have := HJ.out; omega, by have := HJ.out; omega⟩
  have hcE2 : w2.cell? ⟨w.heap.size, 0, none⟩ = some (.int .i64 0) := (hb2.cell (p := ⟨w.heap.size, 0, none⟩) (by simp)).trans (box_new w (.int .i64 0) 3).1
  have hzE2 : w2.frozen? ⟨w.heap.size, 0, none⟩ = false := (hb2.frozen (p := ⟨w.heap.size, 0, none⟩) (by simp)).trans (box_new w (.int .i64 0) 3).2
  have hB2 : Below w.heap.size w w2 := HB1.out.trans (hb2.mono (by simp))
  have hb3 : Below w2.heap.size w2 w3 := by rw [hw3]; exact (Below.refl _ w2).alloc (Nat.le_refl _) _
  have hcB := (box_new w2 (.slice A (64 * m) c) 22).1
  have hzB := (box_new w2 (.slice A (64 * m) c) 22).2
  rw [← hw3] at hcB hzB ⊢
  have hs3 : w3.heap.size = w2.heap.size + 1 := by rw [hw3]; simp
  have hr3 : RdK .u8 w3 w3.heap.size A (64 * m) now := RdK.but hT.rd (But.of hb3 (fun _ => False)) (fun _ _ _ _ => id)
  refine wpIn_range_but (xs := rs) (T := fun k => k = w2.heap.size) (U := fun k => k = w.heap.size) rfl (by decide) (gf := 42) (lb := #[.pointer (some ⟨w2.heap.size, 0, none⟩)]) rfl trivial (enters_of Try.func42 (by kernel_rfl) rfl)
    (recs_itr (n := 4) (U := fun k => k = w.heap.size) (by decide) w3 hJ hY hs.2.1 hcB hzB (by omega) hr3 hg ⟨by omega, by omega⟩ hc1 hc2 ⟨by show ¬ (w2.heap.size = w.heap.size); omega, by show ¬ (g0 = w.heap.size); omega⟩)
    (fun k (hk : k = w2.heap.size) => by omega) (fun k (hk : k = w.heap.size) => by omega) (fun pre x A v l o h hl => pc_put pre x A v l o h (by omega))
    (fun pre W => W.cell? ⟨w.heap.size, 0, none⟩ = some (.int .i64 (sm pre : Nat)) ∧ W.frozen? ⟨w.heap.size, 0, none⟩ = false ∧ w.heap.size < W.heap.size ∧ Below w.heap.size w W)
    ?hI ?h0 (fun v => { tmps := #[.pointer (some ⟨j, 0, none⟩), undef, .int .i64 0, .pointer (some ⟨w.heap.size, 0, none⟩), v, .pointer (some ⟨j, 0, none⟩), .slice A (64 * m) c, .func (.func 42) #[] #[.pointer (some ⟨w2.heap.size, 0, none⟩)], v, undef, undef, undef, undef, undef, undef], defers := [] }) ?assign ?body ?done
  case hI =>
    rintro pre A B ⟨h1, h2, h3, h4⟩ hb
    have hne : ¬ (w.heap.size = w2.heap.size ∨ w3.heap.size ≤ w.heap.size ∧ w.heap.size ≤ w3.heap.size + 1) := by omega
    exact ⟨(hb.cell (p := ⟨w.heap.size, 0, none⟩) h3 hne).trans h1, (hb.frozen (p := ⟨w.heap.size, 0, none⟩) h3 hne).trans h2, Nat.lt_of_lt_of_le h3 hb.size, h4.trans (hb.below (fun k hk => by omega) (by omega))⟩
  case h0 => exact ⟨(hb3.cell (p := ⟨w.heap.size, 0, none⟩) (by show w.heap.size < _; omega)).trans hcE2, (hb3.frozen (p := ⟨w.heap.size, 0, none⟩) (by show w.heap.size < _; omega)).trans hzE2, by omega, hB2.trans (hb3.mono (by omega))⟩
  case assign =>
    intro l v W K hK
    gi_wp2
    exact hK
  case body =>
    rintro l pre x W v hpx ⟨off, c', rfl, hr, h1, h2, h3, h4⟩ ⟨hc, hf, hlt, hB⟩ _
    have hle : sm pre + (8 + x.length) ≤ 65536 := by
      obtain ⟨t, ht⟩ := hpx
      have e1 := congrArg sm ht
      rw [sm_append, sm_append] at e1
      have : sm [x] = 8 + x.length + 0 := rfl
      omega
    have hadd : sm (pre ++ [x]) = sm pre + (8 + x.length) := by rw [sm_append]; rfl
    have HA := Lib.hid hadd
    have HB := Lib.hid hB
    have HL := Lib.hid hlt
    clear hr h1 h2 h3 h4 hpx hadd hB hlt
    gi_wp2
    have e1 : ((sm (pre ++ [x]) : Nat) : Int) = (sm pre : Nat) + (8 + (x.length : Nat)) := by rw [HA.out]; omega
    refine ⟨(But.refl (fun k => k = w.heap.size) W).setCell (p := ⟨w.heap.size, 0, none⟩) rfl _, ?_, by rw [World.frozen?_setCell]; exact hf, by have := HL.out; simpa [World.setCell] using this, HB.out.setCell (p := ⟨w.heap.size, 0, none⟩) (Nat.le_refl _) _⟩
    rw [e1]; exact World.cell?_setCell_same _ _ _ hc
  case done =>
    rintro W ⟨hc, hf, _, hB⟩ hK
    gi_wp2
    refine ⟨by simp, .inl ⟨_, _, rfl, run_takeDeferred hK, ?_⟩⟩
    exact ⟨_, results_tmp rfl _ _ _, by rw [he]; rfl, hB.trans ((But.putObj (S := fun k => k = w3.heap.size) W _ _ rfl).below (fun k (hk : k = w3.heap.size) => by omega) (by have := hB.size; omega))⟩
end Go.Proofs.Ytghepjppjmpihaa
