import Derived.Test.YtedbfkpmffehaaaStays
import Derived.Deep.RegionHeld3
import Derived.Deep.DrawnRows
namespace Go.Proofs.Ytedbfkpmffehaaa
open Go.RowKit Go.Shelf Go.Lib Ar
attribute [local go_sem ↓] Go.wp_at_zero Go.wp_at_succ

/-- append onto a row of the call's own, as a step of a region that draws -/
theorem step_own {P : Program} {ops : Array Oper} {o : Oper} {a : Act} {w : World} {K : Act → World → Prop} {Q : Exit → Act → World → Prop} {E : Prop} (hg : o.guard = none) (s x : Operand) (t : TypeId)
    (ho : o.op = .call { callee := .builtin .append, args := #[s, x], argTypes := #[t, t] })
    (base : Nat) (e : TypeId) (i : TypeInfo) (z : Value) (size bytes : Nat) (ht : P.underlying t = some (.slice e)) (hi : P.info? e = some i) (hz : i.zero = some z)
    (hsize : i.size = size) (hby : i.bytes = bytes) (hzs : z.cells.size = size) (hsz : 0 < size)
    (v : Value) (n : Nat) (xs : List Value) (hs : a.eval s = v) (hown : w.ownsRow base e size v n xs)
    (ad : Addr) (m c : Nat) (news : List Value) (hx : a.eval x = .slice (some ad) m c) (hl : news.length = m * size) (hnews : ∀ j u, news[j]? = some u → w.cell? (ad.add j) = some u) (h1 : ∀ u ∈ news, u.oneCell' = true)
    (h63 : n + m ≤ maxLen) (hbytes : (n + m) * bytes ≤ 140737488355328) (hbase : base ≤ w.heap.size)
    (h : ∀ v' w', w'.ownsRow base e size v' (n + m) (xs ++ news) → w.grownBy w' v.ownBlock → K (a.put o.dst v') w') :
    if Region.wanted o (yielded ops a.tmps) = true then Oper.wp P o a w K Q else E := by
  rw [if_pos (by simp [Region.wanted, hg])]
  exact wp_append_own w s x t ho base e i z size bytes ht hi hz hsize hby hzs hsz v n xs hs hown ad m c news hx hl hnews h1 h63 hbytes hbase fun v' w' h2 h3 _ => h v' w' h2 h3

theorem own_form {w : World} {base e size n : Nat} {v : Value} {xs : List Value} (h : w.ownsRow base e size v n xs) : ∃ A c, v = .slice A n c := by
  obtain ⟨_, ⟨rfl, rfl⟩ | ⟨g, c, cur, rfl, _⟩⟩ := h
  · exact ⟨_, _, rfl⟩
  · exact ⟨_, _, rfl⟩
theorem own_block {w : World} {base e size n : Nat} {v : Value} {xs : List Value} (h : w.ownsRow base e size v n xs) : ∀ k, v.ownBlock = some k → base ≤ k := by
  intro k hk
  obtain ⟨_, ⟨rfl, rfl⟩ | ⟨g, c, cur, rfl, hb, _⟩⟩ := h
  · cases hk
  · cases hk; exact hb
theorem ones (l : List Int) : ∀ u ∈ l.map (Value.int .i64), u.oneCell' = true := fun u hu => by obtain ⟨z, _, rfl⟩ := List.mem_map.1 hu; rfl

set_option maxHeartbeats 4000000 in
theorem order_walk (b off n cap k : Nat) (at0 at1 : Int) (zs : List Int) (w : World) (hn : n ≤ cap) (hcap : cap ≤ 9223372036854775807) (hr : RdK .i64 w w.heap.size (some ⟨b, off, none⟩) n zs) (hin : ∀ z ∈ zs, In z)
    (hpos : 0 < n) (hle : n ≤ 1000) (hat : In at0) (e1 : (if at0 < 0 then -(at0 + 1) else at0) = at1) (e2 : at1 % (n : Int) = (k : Int)) (hk : k < n) :
    Calls Try.prog 7 #[.slice (some ⟨b, off, none⟩) n cap, .int .i64 at0] w fun e w' => e = .returned (.bool true) ∧ Below w.heap.size w w' := by
  have HIN := Lib.hid hin; clear hin
  have HR := Lib.hid hr; clear hr
  obtain ⟨i0, hi, hz0, hz1, hz2⟩ := info_parts info2
  obtain ⟨t1, t2⟩ := hat
  have a1 : 0 ≤ at1 := by rw [← e1]; split <;> omega
  have a2 : at1 ≤ 9223372036854775807 := by rw [← e1]; split <;> omega
  have nz : ((n : Int) == 0) = false := by simp; omega
  have k1 : (0 : Int) ≤ (k : Int) := by omega
  have k2 : (k : Int) ≤ (n : Int) := by omega
  have k3 : (n : Int) ≤ (cap : Int) := by omega
  have k4 : (k : Int) ≤ (cap : Int) := by omega
  have k5 : ¬ cap = k := by omega
  have k6 : decide ((1000 : Int) < (n : Int)) = false := by simp; omega
  have hz : zs.length = n := HR.out.1
  have L1 := Lib.hid (show ((zs.drop k).map (Value.int .i64)).length = (n - k) * 1 by rw [List.length_map, List.length_drop, hz]; omega)
  have L2 := Lib.hid (show ((zs.take k).map (Value.int .i64)).length = k * 1 by rw [List.length_map, List.length_take, hz]; omega)
  have IN2 := Lib.hid (show ∀ z ∈ zs.drop k ++ zs.take k, In z from fun z h => by
    rcases List.mem_append.1 h with h | h
    · exact HIN.out z (List.mem_of_mem_drop h)
    · exact HIN.out z (List.mem_of_mem_take h))
  clear hz
  have HSUM := Lib.hid (show (zs.drop k ++ zs.take k).sum = zs.sum by rw [← List.take_append_drop k zs, List.sum_append, List.sum_append, List.take_append_drop]; omega)
  obtain ⟨T1, hT1⟩ : ∃ T1, (zs.take k).sum = T1 := ⟨_, rfl⟩
  obtain ⟨T2, hT2⟩ : ∃ T2, (zs.drop k).sum = T2 := ⟨_, rfl⟩
  have HT := Lib.hid (show T1 + T2 = zs.sum by rw [← hT1, ← hT2, ← List.sum_append, List.take_append_drop])
  have HT1 := Lib.hid hT1; clear hT1
  have HT2 := Lib.hid hT2; clear hT2
  have hcases : (∃ v, se T1 = .iface 39 v) ∨ (se T1 = .nilIface ∧ ∃ v, se T2 = .iface 39 v) ∨ (se T1 = .nilIface ∧ se T2 = .nilIface ∧ sv T1 = T1 ∧ sv T2 = T2 ∧ Hid (In T1 ∧ In T2)) := by
    by_cases f1 : Fits T1
    · by_cases f2 : Fits T2
      · exact .inr (.inr ⟨(sv_fit f1 rfl).2, (sv_fit f2 rfl).2, (sv_fit f1 rfl).1, (sv_fit f2 rfl).1, f1, f2⟩)
      · exact .inr (.inl ⟨(sv_fit f1 rfl).2, _, (sv_over f2).2⟩)
    · exact .inl ⟨_, (sv_over f1).2⟩
  have hes : (at0 < 0 ∧ -(at0 + 1) = at1) ∨ (0 ≤ at0 ∧ at0 = at1) := by
    by_cases hneg : at0 < 0
    · rw [if_pos hneg] at e1; exact .inl ⟨hneg, e1⟩
    · rw [if_neg hneg] at e1; exact .inr ⟨by omega, e1⟩
  clear e1
  rcases hes with ⟨hneg, E1⟩ | ⟨hneg, rfl⟩
  all_goals
    rcases se_cases zs.sum with hS | hS
    all_goals
      go_enter Try.func7, Try.ntmps7
      go_wp2_with fail
      refine (up_any _).mono ?_; rintro e w' ⟨rfl, m, rfl⟩
      go_wp2_with fail
      refine (sum_any _ n cap zs _ _ (HR.out.below (below_drewN _ w m)) HIN.out (by omega)).mono ?_; rintro e w2 ⟨rfl, rfl⟩
      go_wp2_with fail
      go_region_held3 (fun w' => True) (trivial)
        (first
          | ((refine step_own (by rfl) _ _ 35 (by rfl) w.heap.size 2 i0 (.int .i64 0) 1 8 Try.underlying35 hi hz0 hz1 hz2 rfl (by decide) (.slice (some ⟨w.heap.size, 0, none⟩) 0 0) 0 [] (by rfl) ⟨rfl, .inr ⟨w.heap.size, 0, #[], rfl, Nat.le_refl _, heap_alloc_new _ _, Nat.le_refl _, by decide, rfl, rfl⟩⟩ ⟨b, off + k, none⟩ (n - k) (cap - k) ((zs.drop k).map (Value.int .i64)) (by rfl) L1.out (RdK.drops (HR.out.below ((below_drewN _ w _).alloc (Nat.le_refl _) _))).cells (ones _) (by unfold maxLen; omega) (by omega) (by simp) ?_; intro v1 w1 hown1 hgrow1; have HO1 := Lib.hid (show w1.ownsRow w.heap.size 2 1 v1 (n - k) ((zs.drop k).map (Value.int .i64)) by simpa using hown1); have HB1 := Lib.hid (((below_drewN w.heap.size w _).alloc (Nat.le_refl _) _).grown hgrow1 (by simp) (fun k hk => by cases hk; exact Nat.le_refl _)); clear hown1 hgrow1))
          | ((refine step_own (by rfl) _ _ 35 (by rfl) w.heap.size 2 i0 (.int .i64 0) 1 8 Try.underlying35 hi hz0 hz1 hz2 rfl (by decide) v1 (n - k) _ (by rfl) HO1.out ⟨b, off, none⟩ k cap ((zs.take k).map (Value.int .i64)) (by rfl) L2.out ((HR.out.below HB1.out).takes (by omega)).cells (ones _) (by unfold maxLen; omega) (by omega) HB1.out.size ?_; intro v2 w2 hown2 hgrow2; rw [show n - k + k = n by omega, ← List.map_append] at hown2; have HB2 := Lib.hid (HB1.out.grown hgrow2 HB1.out.size (own_block HO1.out)); obtain ⟨A2, c2, rfl⟩ := own_form hown2; have HO2 := Lib.hid (RdK.of_own hown2); clear hown2 hgrow2))
          | (go_at_call 21; refine (sum_any A2 n c2 _ _ _ HO2.out IN2.out (by omega)).mono ?_; rintro e w3 ⟨rfl, rfl⟩; rw [HSUM.out]))
      go_wp2_with fail
      go_quiet (fail)
      rcases hcases with ⟨v, hc⟩ | ⟨hc, v, hc2⟩ | ⟨hc, hc2, hc3, hc4, HI⟩
      all_goals
        go_wp2_with fail
        refine (sum_any _ k cap (zs.take k) _ _ ((HR.out.below (HB2.out.trans (below_drewN _ _ _))).takes (by omega)) (fun z hz => HIN.out z (List.mem_of_mem_take hz)) (by omega)).mono ?_; rintro e w2 ⟨rfl, rfl⟩
        rw [HT1.out]
        go_wp2_with fail
        refine (sum_any _ (n - k) (cap - k) (zs.drop k) _ _ ((HR.out.below (HB2.out.trans (below_drewN _ _ _))).drops) (fun z hz => HIN.out z (List.mem_of_mem_drop hz)) (by omega)).mono ?_; rintro e w2 ⟨rfl, rfl⟩
        rw [HT2.out]
        go_wp2_with fail
        first
          | (go_ret; exact ⟨rfl, HB2.out.trans (below_drewN _ _ _)⟩)
          | (refine (add_any T1 T2 HI.out.1 HI.out.2 _).mono ?_
             rintro e w3 ⟨rfl, g3⟩
             rw [HT.out]
             go_wp2_with fail
             go_quiet (fail)
             go_wp2_with fail
             go_ret
             exact ⟨rfl, ((HB2.out.trans (below_drewN _ _ _)).trans (g3.mono (HB2.out.trans (below_drewN _ _ _)).size)).trans (below_drewN _ _ _)⟩)

theorem order_any (A : Option Addr) (n cap : Nat) (at0 : Int) (zs : List Int) (w : World) (hn : n ≤ cap) (hcap : cap ≤ 9223372036854775807) (hr : RdK .i64 w w.heap.size A n zs) (hin : ∀ z ∈ zs, In z) (hat : In at0) :
    Calls Try.prog 7 #[.slice A n cap, .int .i64 at0] w fun e w' => e = .returned (.bool true) ∧ Below w.heap.size w w' := by
  by_cases hout : 1000 < n
  · have k1 : decide ((1000 : Int) < (n : Int)) = true := by simp; omega
    clear hr hin
    go_enter Try.func7, Try.ntmps7
    go_wp2_with fail
    refine (up_any _).mono ?_; rintro e w' ⟨rfl, m, rfl⟩
    go_wp2_with fail
    go_ret
    exact ⟨rfl, below_drewN _ w m⟩
  have k1 : decide ((1000 : Int) < (n : Int)) = false := by simp; omega
  by_cases h0 : n = 0
  · subst h0
    clear hr hin
    go_enter Try.func7, Try.ntmps7
    go_wp2_with fail
    refine (up_any _).mono ?_; rintro e w' ⟨rfl, m, rfl⟩
    go_wp2_with fail
    go_ret
    exact ⟨rfl, below_drewN _ w m⟩
  obtain ⟨b, off, rfl, _, _⟩ := hr.2 0 (by omega)
  have hm1 := Int.emod_nonneg (if at0 < 0 then -(at0 + 1) else at0) (b := (n : Int)) (by omega)
  have hm2 := Int.emod_lt_of_pos (if at0 < 0 then -(at0 + 1) else at0) (b := (n : Int)) (by omega)
  exact order_walk b off n cap ((if at0 < 0 then -(at0 + 1) else at0) % (n : Int)).toNat at0 _ zs w hn hcap hr hin (by omega) (by omega) hat rfl (by omega) (by omega)
