/- The program's journal: its records are told. -/
import Derived.Test.YtghepjppjmpihaaJqe
import Derived.Test.YtghepjppjmpihaaCln
namespace Go.Proofs.Ytghepjppjmpihaa
open Go.ChangeShapes Go.WideShapes Go.ChangeAt Go.RowKit Go.Lib
attribute [local go_sem] Oper.semAt_some

theorem eql_nil (a : Option Addr) (l c : Nat) (w : World) : (binOp .eql 22 (.slice a l c) (.slice none 0 0)).run Try.prog w = .ok (.bool a.isNone) w := by
  have h := run_equal_slice_nil (P := Try.prog) w 22 5 a l c Try.underlying22
  simp only [binOp, Sem.run_bind, h, Result.andThen_ok, Sem.run_pure]
attribute [local go_sem] eql_nil in
theorem cclone {g off n c : Nat} {bs : List Int} (w : World) (hr : RdK .u8 w w.heap.size (some ⟨g, off, none⟩) n bs) (hn : n ≤ 1024) :
    Calls Try.prog 32 #[.slice (some ⟨g, off, none⟩) n c] w fun e w' => ∃ A2 c2, e = .returned (.slice A2 n c2) ∧ w'.ownsRow w.heap.size 5 1 (.slice A2 n c2) n (bs.map (.int .u8)) ∧ Below w.heap.size w w' := by
  obtain ⟨i0, hi, hz0, hz1, hz2⟩ := info_parts infob8
  have R := Lib.hid hr
  have HN := Lib.hid (fun k (e : k = n) => (by omega : k ≤ 1024))
  have E := Lib.hid (empty_row w 5)
  have AL := Lib.hid ((Below.refl w.heap.size w).alloc (Nat.le_refl _) (.cells #[] 5))
  clear hr hn
  go_enter Try.func32, Try.ntmps32
  go_wp2_with (at_builtin; refine wpList_append_nums _ rfl _ _ 22 rfl w.heap.size 5 i0 .u8 1 Try.underlying22 hi hz0 hz1 hz2 _ 0 [] rfl E.out (some ⟨g, off, none⟩) n c bs w.heap.size rfl (R.out.below AL.out) (fun h => nomatch h) (by have := HN.out n rfl; unfold maxLen; omega) (by have := HN.out n rfl; omega) (by simp) ?_; intro v1 w4 hown hb; rw [Nat.zero_add, List.nil_append] at hown; obtain ⟨AX, cX, rfl⟩ := own_form hown; have B4 := Lib.hid (AL.out.trans hb); have O4 := Lib.hid hown; clear hown hb)
  go_ret
  exact ⟨AX, cX, rfl, O4.out, B4.out⟩
/-- records that were told so far, in memory from block B on -/
structure Rv (B : Nat) (wr : World) (v : Value) (vs : List Value) (pre : List (List Int)) : Prop where
  o : wr.ownsRow B 22 1 v pre.length vs
  r : ∀ i, i < pre.length → ∃ A c, vs[i]? = some (.slice A (pre.getD i []).length c) ∧ (pre.getD i []).length ≤ c ∧ c ≤ maxLen ∧ (A = none → c = 0) ∧ RdK .u8 wr wr.heap.size A (pre.getD i []).length (pre.getD i []) ∧
    ∀ g off, A = some ⟨g, off, none⟩ → B ≤ g ∧ g < wr.heap.size ∧ v.ownBlock ≠ some g ∧ ∀ j, j < (pre.getD i []).length → wr.frozen? ⟨g, off + j, none⟩ = false
theorem own_lt {w : World} {base size n k : Nat} {e : TypeId} {v : Value} {xs : List Value} (h : w.ownsRow base e size v n xs) (hk : v.ownBlock = some k) : k < w.heap.size := by
  obtain ⟨_, ⟨rfl, _⟩ | ⟨g, cap, cur, rfl, _, hg, _⟩⟩ := h
  · cases hk
  · injection hk with hk
    subst hk
    exact (Array.getElem?_eq_some_iff.1 hg).1
theorem own_but' {S : Nat → Prop} {w w' : World} {base size n : Nat} {e : TypeId} {v : Value} {xs : List Value} (h : w.ownsRow base e size v n xs) (hb : But S w w') (hs : ∀ k, base ≤ k → ¬ S k) : w'.ownsRow base e size v n xs := by
  obtain ⟨hl, h | ⟨g, cap, cur, hv, hg, hh, r⟩⟩ := h
  · exact ⟨hl, .inl h⟩
  · exact ⟨hl, .inr ⟨g, cap, cur, hv, hg, (hb.block g (Array.getElem?_eq_some_iff.1 hh).1 (hs g hg)).trans hh, r⟩⟩
theorem Rv.but {S : Nat → Prop} {B : Nat} {w w' : World} {v : Value} {vs : List Value} {pre : List (List Int)} (h : Rv B w v vs pre) (hb : But S w w') (hs : ∀ k, B ≤ k → ¬ S k) : Rv B w' v vs pre :=
  ⟨own_but' h.o hb hs, fun i hi => by
    obtain ⟨A, c, h1, h2, h3, h4, h5, h6⟩ := h.r i hi
    exact ⟨A, c, h1, h2, h3, h4, RdK.but h5 hb (fun _ g off e => hs g (h6 g off e).1), fun g off e => by
      obtain ⟨k1, k2, k3, k4⟩ := h6 g off e
      exact ⟨k1, Nat.lt_of_lt_of_le k2 hb.size, k3, fun j hj => (hb.frozen (p := ⟨g, off + j, none⟩) k2 (hs g k1)).trans (k4 j hj)⟩⟩⟩
/-- where a row lies that one value was appended to -/
theorem pushed_where {P : Program} {w w' : World} {t ty e : TypeId} {i : TypeInfo} {z : Value} {bytes : Nat} (ht : P.underlying t = some (.slice e)) (hi : P.info? e = some i) (hz : i.zero = some z) (hsize : i.size = 1) (hby : i.bytes = bytes) (hzs : z.cells.size = 1)
    {base n : Nat} {v v' : Value} {xs : List Value} (hown : w.ownsRow base e 1 v n xs) {a : Addr} {u : Value} (hu : w.cell? a = some u) (h1 : u.oneCell' = true) (h63 : n + 1 ≤ maxLen) (hbytes : (n + 1) * bytes ≤ 140737488355328)
    (hr : (Builtin.append_ #[t, t] ty #[v, .slice (some a) 1 1]).run P w = .ok v' w') : ∀ k, v'.ownBlock = some k → v.ownBlock = some k ∨ w.heap.size ≤ k := by
  have hnews : ∀ j u', [u][j]? = some u' → w.cell? (a.add j) = some u' := fun j u' h => by
    have hj : j = 0 := by
      rcases Nat.eq_zero_or_pos j with h0 | h0
      · exact h0
      · rw [List.getElem?_eq_none (by simp; omega)] at h; cases h
    subst hj
    simp at h
    subst h
    simpa [Addr.add] using hu
  have ho : ∀ u' ∈ [u], u'.oneCell' = true := fun u' h => by simp at h; subst h; exact h1
  obtain ⟨hl, hv⟩ := hown
  rcases hv with ⟨rfl, rfl⟩ | ⟨g, cap, cur, rfl, hg, hh, h2, h3, h4, h5⟩
  · obtain ⟨v2, w2, hr2, ho2, _⟩ := run_append_own (P := P) w w.heap.size t ty e i z 1 bytes ht hi hz hsize hby hzs (by decide) (.slice none 0 0) 0 [] (World.ownsRow_nil _ _ _ _) a 1 1 [u] rfl hnews ho h63 hbytes (Nat.le_refl _)
    rw [hr2] at hr
    injection hr with e1 e2
    subst e1
    exact fun k hk => .inr (own_block ho2 k hk)
  · by_cases hroom : n + 1 ≤ cap
    · have hr2 := run_append_room (P := P) w t ty e i ht hi g n cap cur hh a 1 1 [u] (by rw [hsize]; rfl) hnews ho hroom (by rw [hsize, h4]; simp; omega)
      rw [hr2] at hr
      injection hr with e1 e2
      subst e1
      exact fun k hk => .inl hk
    · have hown' : w.ownsRow base e 1 (.slice (some ⟨g, 0, none⟩) n cap) n xs := ⟨hl, .inr ⟨g, cap, cur, rfl, hg, hh, h2, h3, h4, h5⟩⟩
      have hr2 := run_append_grow (P := P) w t ty e i z ht hi hz ⟨g, 0, none⟩ n cap xs (by rw [hsize]; exact hl) (hown'.cells (g := g) rfl) a 1 1 [u] (by rw [hsize]; rfl) hnews (by omega) (by unfold maxLen at h63; omega) (growslice_fits (by omega) (by rw [hby]; exact hbytes))
      rw [hr2] at hr
      injection hr with e1 e2
      subst e1
      exact fun k hk => .inr (by simp [Value.ownBlock] at hk; omega)
theorem infoS8 : (Try.prog.info? 22).map (fun i => (i.zero, i.size, i.bytes)) = some (some (.slice none 0 0), 1, 24) := by kernel_rfl
/-- a record more: its copy is appended -/
theorem Rv.push {B n c : Nat} {W w1 : World} {A : Option Addr} {v : Value} {vs : List Value} {pre : List (List Int)} {x : List Int} (h : Rv B W v vs pre) (hB : B ≤ W.heap.size) (hx : x.length = n) (hn : 1 ≤ n) (hcl : w1.ownsRow W.heap.size 5 1 (.slice A n c) n (x.map (.int .u8))) (hb : Below W.heap.size W w1) (hk : pre.length ≤ 65536) :
    ∃ A' c' w3, (Builtin.append_ #[44, 44] 44 #[v, .slice (some ⟨w1.heap.size, 0, none⟩) 1 1]).run Try.prog (w1.alloc (.cells #[.slice A n c] 22)) = .ok (.slice A' (pre.length + 1) c') w3 ∧
      Rv B w3 (.slice A' (pre.length + 1) c') (vs ++ [.slice A n c]) (pre ++ [x]) ∧ But (fun k => B ≤ k) W w3 := by
  obtain ⟨i0, hi, hz0, hz1, hz2⟩ := info_parts infoS8
  have hv := h.but (But.of hb (fun _ => False)) (fun _ _ => id)
  have ho2 := hv.o.alloc (.cells #[.slice A n c] 22)
  have hc2 := (box_new w1 (.slice A n c) 22).1
  obtain ⟨v', w3, hr, r1, r2, _⟩ := run_append_own (P := Try.prog) (w1.alloc (.cells #[.slice A n c] 22)) B 44 44 22 i0 (.slice none 0 0) 1 24 Try.underlying44 hi hz0 hz1 hz2 rfl (by decide) v pre.length vs ho2 ⟨w1.heap.size, 0, none⟩ 1 1 [.slice A n c] rfl
    (fun j u' hu => by
      have hj : j = 0 := by
        rcases Nat.eq_zero_or_pos j with h | h
        · exact h
        · rw [List.getElem?_eq_none (by simp; omega)] at hu; cases hu
      subst hj
      simp at hu
      subst hu
      simp [Addr.add])
    (fun u' hu => by simp at hu; subst hu; rfl) (by unfold maxLen; omega) (by omega) (by have := hb.size; rw [World.size_alloc]; omega)
  have hw := pushed_where Try.underlying44 hi hz0 hz1 hz2 rfl ho2 hc2 rfl (by unfold maxLen; omega) (by omega) hr
  obtain ⟨A', c', rfl⟩ := own_form r1
  have hvl : vs.length = pre.length := by have := h.o.1; omega
  have hsz : W.heap.size ≤ w1.heap.size := hb.size
  have hb13 : But (fun k => v.ownBlock = some k) w1 w3 := ((But.refl _ w1).alloc _).trans (But.grown r2 (fun j e => e))
  have hblk : ∀ k, v.ownBlock = some k → B ≤ k ∧ k < W.heap.size := fun k e => ⟨own_block h.o k e, own_lt h.o e⟩
  have hwo := Wrt.of_own hcl
  refine ⟨A', c', w3, hr, ⟨by rw [List.length_append]; exact r1, fun i hi => ?_⟩, (But.of hb _).trans (hb13.more fun k _ e => (hblk k e).1)⟩
  rw [List.length_append] at hi
  by_cases e : i = pre.length
  · subst e
    have e1 : (pre ++ [x]).getD pre.length [] = x := by rw [List.getD_eq_getElem?_getD, List.getElem?_append_right (Nat.le_refl _)]; simp
    rw [e1, hx]
    obtain ⟨_, ⟨_, h0⟩ | ⟨g, cap, cur, hcv, hg, hh, q1, q2, _⟩⟩ := hcl
    · omega
    · injection hcv with q3 _ q4
      subst q3 q4
      have hlg := (Array.getElem?_eq_some_iff.1 hh).1
      have hnb : ¬ v.ownBlock = some g := fun e => by have := (hblk g e).2; omega
      refine ⟨some ⟨g, 0, none⟩, c, by rw [List.getElem?_append_right (by omega), hvl]; simp, q1, q2, (fun e => nomatch e), RdK.but hwo.1.rd hb13 (fun _ g' off' e => by injection e with e; injection e with e _; rw [← e]; exact hnb), fun g' off' e => ?_⟩
      injection e with e; injection e with e1 e2; subst e1 e2
      refine ⟨by omega, Nat.lt_of_lt_of_le hlg hb13.size, fun e => ?_, fun j hj => (hb13.frozen (p := ⟨g, 0 + j, none⟩) hlg hnb).trans (hwo.1.free g 0 rfl j hj)⟩
      rcases hw g e with k | k
      · exact hnb k
      · rw [World.size_alloc] at k; omega
  · have hi' : i < pre.length := by simp at hi; omega
    obtain ⟨A0, c0, h1, h2, h3, h4, h5, h6⟩ := hv.r i hi'
    have e4 : (pre ++ [x]).getD i [] = pre.getD i [] := by rw [List.getD_eq_getElem?_getD, List.getElem?_append_left hi', ← List.getD_eq_getElem?_getD]
    rw [e4]
    refine ⟨A0, c0, by rw [List.getElem?_append_left (by omega)]; exact h1, h2, h3, h4, RdK.but h5 hb13 (fun _ g off e => (h6 g off e).2.2.1), fun g off e => ?_⟩
    obtain ⟨k1, k2, k3, k4⟩ := h6 g off e
    refine ⟨k1, Nat.lt_of_lt_of_le k2 hb13.size, fun e => ?_, fun j hj => (hb13.frozen (p := ⟨g, off + j, none⟩) k2 k3).trans (k4 j hj)⟩
    rcases hw g e with k | k
    · exact k3 k
    · rw [World.size_alloc] at k; omega
end Go.Proofs.Ytghepjppjmpihaa
