import Derived.Test.YtmfjnnjjoagbiaaDoorNum
import Derived.Deep.DeepMust
namespace Go.Proofs.YtmfjnnjjoagbiaaDoor
open Go.RowKit Go.Shelf Go.Lib Ar Dg

theorem info46 : (Tryd.prog.info? 54).map (fun i => (i.zero, i.size, i.bytes)) = some (some (.int .u64 0), 1, 8) := by kernel_rfl
theorem ones64 (l : List Int) : ∀ u ∈ l.map (Value.int .u64), u.oneCell' = true := fun u hu => by obtain ⟨z, _, rfl⟩ := List.mem_map.1 hu; rfl

/-- a slice of digits came back -/
def SlPost (w : World) (P : List Int → Prop) (e : Ending) (w' : World) : Prop :=
  ∃ A n c ds, e = .returned (.slice A n c) ∧ n ≤ c ∧ c ≤ 9223372036854775807 ∧ RdK .u64 w' w'.heap.size A n ds ∧ Dig ds ∧ P ds ∧ Below w.heap.size w w'

theorem one64 (z : Int) : ∀ u ∈ ([.int .u64 z] : List Value), u.oneCell' = true := fun u hu => by simp at hu; subst hu; rfl
def PlusRel (w : World) (d1 d2 : List Int) (N : Nat) (o cv iv : Value) (wr : World) : Prop :=
  ∃ (i : Nat) (c : Int) (os : List Int), iv = .int .i64 i ∧ cv = .int .u64 c ∧ 0 ≤ c ∧ c ≤ 1 ∧ i ≤ N + 1 ∧ Hid (i = N + 1 → c = 0) ∧ wr.ownsRow w.heap.size 54 1 o i (os.map (Value.int .u64)) ∧ Below w.heap.size w wr ∧
    Hid (os.length = i ∧ Dig os ∧ dv os + pw i * c = pre d1 i + pre d2 i)

set_option maxHeartbeats 1000000 in
theorem plus_any (A1 A2 : Option Addr) (n1 c1 n2 c2 : Nat) (d1 d2 : List Int) (w : World) (hr1 : RdK .u64 w w.heap.size A1 n1 d1) (hr2 : RdK .u64 w w.heap.size A2 n2 d2) (hd1 : Dig d1) (hd2 : Dig d2) (b1 : n1 ≤ 100000) (b2 : n2 ≤ 100000) :
    Calls Tryd.prog 25 #[.slice A1 n1 c1, .slice A2 n2 c2] w (SlPost w fun ds => dv ds = dv d1 + dv d2 ∧ ds.length ≤ max n1 n2 + 1) := by
  obtain ⟨i0, hi, hz0, hz1, hz2⟩ := info_parts info46
  have HD1 := Lib.hid hd1; clear hd1
  have HD2 := Lib.hid hd2; clear hd2
  have HR1 := Lib.hid hr1; clear hr1
  have HR2 := Lib.hid hr2; clear hr2
  obtain ⟨N, hN⟩ : ∃ N, max n1 n2 = N := ⟨_, rfl⟩
  have hN1 : n1 ≤ N := by omega
  have hN2 : n2 ≤ N := by omega
  have hN3 : N ≤ 100000 := by omega
  have HN := Lib.hid hN; clear hN
  go_enter Tryd.func25, Tryd.ntmps25
  go_wp2_with fail
  go_loopw [5, 6, 7] (PlusRel w d1 d2 N) (fun o c i wr => N + 2 - (RowKit.intOf i).toNat)
  case atStart => exact ⟨0, 0, [], rfl, rfl, by decide, by decide, by omega, fun _ => rfl, ⟨rfl, .inl ⟨rfl, rfl⟩⟩, Below.refl _ _, rfl, (fun x hx => nomatch hx), by rw [pre_zero, pre_zero]; rfl⟩
  case round =>
    obtain ⟨i, c, os, rfl, rfl, hc0, hc1, hiN, hcz, hown, hb, hm⟩ := hrel
    have HB := Lib.hid hb; clear hb
    by_cases hgo : i < n1 ∨ i < n2 ∨ 0 < c
    · have hx := HD1.out.getD i
      have hy := HD2.out.getD i
      obtain ⟨x, ex⟩ : ∃ x, d1.getD i 0 = x := ⟨_, rfl⟩
      obtain ⟨y, ey⟩ : ∃ y, d2.getD i 0 = y := ⟨_, rfl⟩
      rw [ex] at hx
      rw [ey] at hy
      obtain ⟨x0, x1⟩ := hx
      obtain ⟨y0, y1⟩ := hy
      have HX := Lib.hid ex
      have HY := Lib.hid ey
      have hle : i ≤ N := by
        rcases Nat.lt_or_ge N i with h | h
        · have := hcz.out (by omega); omega
        · exact h
      have HM := Lib.hid (show (os ++ [(x + y + c) % 65536]).length = i + 1 ∧ Dig (os ++ [(x + y + c) % 65536]) ∧ dv (os ++ [(x + y + c) % 65536]) + pw (i + 1) * ((x + y + c) / 65536) = pre d1 (i + 1) + pre d2 (i + 1) from
        ⟨by rw [List.length_append, hm.out.1]; rfl, hm.out.2.1.snoc (by omega) (by omega), plus_step hm.out.1 hm.out.2.2 (by rw [ex, ey])⟩)
      have HC := Lib.hid (show i + 1 = N + 1 → (x + y + c) / 65536 = 0 ∨ i < n1 ∨ i < n2 from fun h => by
        by_cases h1 : i < n1 ∨ i < n2
        · exact .inr h1
        · have e1 : x = 0 := by rw [← ex, List.getD_eq_getElem?_getD, List.getElem?_eq_none (by rw [HR1.out.1]; omega)]; rfl
          have e2 : y = 0 := by rw [← ey, List.getD_eq_getElem?_getD, List.getElem?_eq_none (by rw [HR2.out.1]; omega)]; rfl
          left; omega)
      clear ex ey hm
      have hgo' : i < n1 ∨ (¬ i < n1 ∧ i < n2) ∨ (¬ i < n1 ∧ ¬ i < n2 ∧ 0 < c) := by omega
      clear hgo
      rcases hgo' with g1 | ⟨g1, g2⟩ | ⟨g1, g2, g3⟩
      all_goals
        go_wp2_with fail
        refine (at_any A1 n1 c1 d1 i _ _ (HR1.out.below HB.out)).mono ?_; rintro e w' ⟨rfl, rfl⟩
        rw [HX.out]
        go_wp2_with fail
        refine (at_any A2 n2 c2 d2 i _ _ (HR2.out.below HB.out)).mono ?_; rintro e w' ⟨rfl, rfl⟩
        rw [HY.out]
        go_wp2_with (at_builtin; refine wpList_append_own _ rfl _ _ 35 rfl w.heap.size 54 i0 (.int .u64 0) 1 8 Tryd.underlying35 hi hz0 hz1 hz2 rfl (by decide) u5 i (os.map (Value.int .u64)) rfl (hown.alloc _) ⟨wr.heap.size, 0, none⟩ 1 1 [.int .u64 ((x + y + c) % 65536)] rfl rfl (news1 _ _ _) (one64 _) (by unfold maxLen; omega) (by omega) (le_alloc HB.out (Nat.le_refl _) _) ?_; intro v' w1 hown' hgrow _; have HB1 := Lib.hid ((HB.out.alloc HB.out.size _).grown hgrow (le_alloc HB.out (Nat.le_refl _) _) (own_block hown)); clear hgrow)
        exact ⟨⟨i + 1, _, _, by go_num, rfl, by omega, by omega, by omega, fun h => by have := HC.out h; omega, by rw [List.map_append]; exact hown', HB1.out, HM⟩, by simp [RowKit.intOf]; omega⟩
    · have g1 : ¬ i < n1 := fun h => hgo (.inl h)
      have g2 : ¬ i < n2 := fun h => hgo (.inr (.inl h))
      have g3 : c = 0 := by have := fun h => hgo (.inr (.inr h)); omega
      subst g3
      clear hgo
      obtain ⟨A, cp, rfl⟩ := own_form hown
      have HO := Lib.hid hown; clear hown
      go_wp2_with fail
      go_ret
      refine ⟨A, i, cp, os, rfl, (own_caps HO.out).1, (own_caps HO.out).2, RdK.of_own HO.out, hm.out.2.1, ⟨?_, ?_⟩, HB.out⟩
      · have := hm.out.2.2
        rw [pre_all d1 i (by rw [HR1.out.1]; omega), pre_all d2 i (by rw [HR2.out.1]; omega)] at this
        omega
      · rw [hm.out.1, HN.out]; exact hiN
