import Derived.Test.YtmfjnnjjoagbiaaDoorAdd
namespace Go.Proofs.YtmfjnnjjoagbiaaDoor
open Go.RowKit Go.Shelf Go.Lib Ar Dg

theorem drop_step {ds : List Int} {j : Nat} (h : j < ds.length) : dv (ds.drop j) = ds.getD j 0 + 65536 * dv (ds.drop (j + 1)) := by
  rw [List.drop_eq_getElem_cons h, List.getD_eq_getElem?_getD, List.getElem?_eq_getElem h]; rfl
theorem drop_bd {ds : List Int} (hd : Dig ds) (j : Nat) (h : ds.length ≤ 4) : 0 ≤ dv (ds.drop j) ∧ dv (ds.drop j) < pw (4 - j) := by
  have h1 : Dig (ds.drop j) := fun d hm => hd d (List.mem_of_mem_drop hm)
  have := dv_bd h1
  refine ⟨this.1, Int.lt_of_lt_of_le this.2 (pw_mono (by rw [List.length_drop]; omega))⟩
theorem pw4 : pw 4 = 18446744073709551616 := by decide

def ToPost (w : World) (x : Int) (e : Ending) (w' : World) : Prop :=
  ∃ t : Int, e = .returned (.tuple #[.int .i64 t, .bool (decide (Fits x))]) ∧ (Fits x → t = x) ∧ Below w.heap.size w w'

theorem neg_i64 (u : Int) (h0 : 0 ≤ u) (h1 : u ≤ 9223372036854775808) : IntKind.i64.wrap (IntKind.u64.wrap (bits .xor .u64 IntKind.u64.max u + 1)) = -u := by
  obtain ⟨n, rfl⟩ := Int.eq_ofNat_of_zero_le h0
  rw [u64_not _ (by omega), IntKind.wrap_u64, IntKind.wrap_i64]; omega

set_option maxHeartbeats 1000000 in
theorem to_num (v1 : Value) (x1 : Int) (w : World) (h1 : NumV w w.heap.size v1 x1) : Calls Tryd.prog 15 #[v1] w (ToPost w x1) := by
  obtain ⟨A1, n1, c1, d1, m1, rfl, p1, p2, r1, g1, t1, p3, e1⟩ := h1
  obtain ⟨w1, hw1⟩ : ∃ w1, w.alloc (.cells #[.slice A1 n1 c1, .bool m1] 37) = w1 := ⟨_, rfl⟩
  have hlow : Below w.heap.size w w1 := by rw [← hw1]; exact (Below.refl _ _).alloc (Nat.le_refl _) _
  have k0 : w1.cell? ⟨w.heap.size, 0, none⟩ = some (.slice A1 n1 c1) := by rw [← hw1, World.cell?_alloc_new]; rfl
  have k1 : w1.cell? ⟨w.heap.size, 1, none⟩ = some (.bool m1) := by rw [← hw1, World.cell?_alloc_new]; rfl
  have hr := (r1.below hlow).more hlow.size
  have HLOW := Lib.hid hlow; clear hlow
  have hlen := r1.1
  by_cases hbig : 4 < n1
  · have hnf : ¬ Fits x1 := by
      have h2 := top_lo g1 t1 (by omega)
      have h3 := pw_mono (show 4 ≤ d1.length - 1 by omega)
      rw [pw4] at h3
      intro hf; obtain ⟨f1, f2⟩ := hf
      cases m1
      · have : x1 = dv d1 := e1
        omega
      · have : x1 = -dv d1 := e1
        omega
    have HD := Lib.hid (show decide (Fits x1) = false by simpa using hnf)
    have HN := Lib.hid hnf
    have hb : (4 : Int) < (n1 : Int) := by omega
    clear r1 g1 t1 p3 e1 hr hlen hnf
    go_enter Tryd.func15, Tryd.ntmps15
    go_wp2_with fail
    go_ret2
    exact ⟨0, by rw [HD.out]; rfl, fun h => absurd h HN.out, HLOW.out⟩
  have hb : (n1 : Int) ≤ 4 := by omega
  have H := Lib.hid (show RdK .u64 w1 w1.heap.size A1 n1 d1 ∧ Dig d1 ∧ d1.length = n1 ∧ Top d1 ∧ (m1 = true → 0 < n1) ∧ x1 = sgn m1 (dv d1) from ⟨hr, g1, hlen, t1, p3, e1⟩)
  clear r1 g1 t1 p3 e1 hr hlen
  have hmain : ∀ (b : Bool), m1 = b → Calls Tryd.prog 15 #[.agg #[.slice A1 n1 c1, .bool b]] w (ToPost w x1) := by
    intro b hbm
    subst hbm
    go_enter Tryd.func15, Tryd.ntmps15
    go_wp2_with fail
    go_loop [4, 5] (fun u i => ∃ k : Nat, k ≤ n1 ∧ i = .int .i64 ((k : Int) - 1) ∧ u = .int .u64 (dv (d1.drop k))) (fun _ i => ((RowKit.intOf i) + 1).toNat)
    case atStart => exact ⟨n1, Nat.le_refl _, rfl, by rw [List.drop_eq_nil_of_le (by rw [H.out.2.2.1]; exact Nat.le_refl _)]; rfl⟩
    case round =>
      obtain ⟨k, hk, rfl, rfl⟩ := hrel
      have hbd := drop_bd H.out.2.1 k (by rw [H.out.2.2.1]; omega)
      rcases Nat.eq_zero_or_pos k with h0 | h0
      · subst h0
        rw [List.drop_zero] at *
        have hbd2 : dv d1 < 18446744073709551616 := by rw [← pw4]; exact hbd.2
        have hbd1 := hbd.1
        obtain ⟨u, hu⟩ : ∃ u, dv d1 = u := ⟨_, rfl⟩
        rw [hu] at hbd1 hbd2 ⊢
        have HU := Lib.hid hu
        clear hbd hu
        cases m1
        · have hx : x1 = u := by rw [H.out.2.2.2.2.2, HU.out]; rfl
          have HD := Lib.hid (show decide (Fits x1) = decide (u < 9223372036854775808) by rw [decide_eq_decide, hx]; unfold Fits; omega)
          have HT := Lib.hid (show Fits x1 → wrap64 u = x1 from fun h => by rw [hx] at h ⊢; obtain ⟨_, _⟩ := h; rw [← IntWalk.i64_left, IntKind.wrap_i64]; omega)
          clear hx
          go_wp2_with fail
          go_ret2
          exact ⟨wrap64 u, by rw [HD.out]; rfl, HT.out, HLOW.out⟩
        · have hx : x1 = -u := by rw [H.out.2.2.2.2.2, HU.out]; rfl
          have HD := Lib.hid (show decide (Fits x1) = decide (u ≤ 9223372036854775808) by rw [decide_eq_decide, hx]; unfold Fits; omega)
          have HT := Lib.hid (show Fits x1 → wrap64 (IntKind.u64.wrap (bits .xor .u64 IntKind.u64.max u + 1)) = x1 from fun h => by rw [hx] at h ⊢; obtain ⟨_, _⟩ := h; rw [← IntWalk.i64_left]; exact neg_i64 u hbd1 (by omega))
          clear hx
          go_wp2_with fail
          go_ret2
          exact ⟨wrap64 (IntKind.u64.wrap (bits .xor .u64 IntKind.u64.max u + 1)), by rw [HD.out]; rfl, HT.out, HLOW.out⟩
      · obtain ⟨j, rfl⟩ : ∃ j, k = j + 1 := ⟨k - 1, by omega⟩
        obtain ⟨xb, xo, rfl, _, rx⟩ := H.out.1.2 j (by omega)
        have hz := H.out.2.1.getD j
        have hst := drop_step (ds := d1) (j := j) (by rw [H.out.2.2.1]; omega)
        have hbj := (drop_bd H.out.2.1 j (by rw [H.out.2.2.1]; omega)).2
        have hpj := pw_mono (show 4 - j ≤ 4 by omega)
        rw [pw4] at hpj
        have ej : ((j + 1 : Nat) : Int) - 1 = (j : Int) := by omega
        rw [ej]
        have hj1 : (j : Int) < (n1 : Int) := by omega
        have HU := Lib.hid hst
        obtain ⟨z, hzz⟩ : ∃ z, d1.getD j 0 = z := ⟨_, rfl⟩
        obtain ⟨u, hu⟩ : ∃ u, dv (d1.drop (j + 1)) = u := ⟨_, rfl⟩
        rw [hzz] at rx hz hst
        rw [hu] at hst hbd ⊢
        obtain ⟨z0, z1⟩ := hz
        have u0 := hbd.1
        have b1 : u * 65536 + z < 18446744073709551616 := by omega
        have HZ := Lib.hid (show z = d1.getD j 0 ∧ u = dv (d1.drop (j + 1)) ∧ u * 65536 + z = dv (d1.drop j) from ⟨hzz.symm, hu.symm, by omega⟩)
        clear hzz hu hst hbd hbj hpj ej
        go_wp2_with fail
        go_round
        case rel => exact ⟨j, by omega, rfl, congrArg (Value.int .u64) HZ.out.2.2⟩
        case measure => simp [RowKit.intOf]
  exact hmain m1 rfl
