import Derived.Test.YthnhfilackghgaaDoorDg
import Derived.KernelRfl
namespace Go.Proofs.YthnhfilackghgaaDoor
open Go.RowKit Go.Lib Go.ChangeShapes Go.WideShapes Go.ChangeAt

theorem eqE1 (w : World) : (binOp .eql 28 (vErr 1) (vErr 1)).run Tryd.prog w = .ok (.bool true) w := by kernel_rfl
theorem neE1 (w : World) : (binOp .neq 28 (vErr 1) (vErr 1)).run Tryd.prog w = .ok (.bool false) w := by kernel_rfl
theorem neE2 (w : World) : (binOp .neq 28 (vErr 2) (vErr 2)).run Tryd.prog w = .ok (.bool false) w := by kernel_rfl
theorem eqE2 (w : World) : (binOp .eql 28 (vErr 2) (vErr 2)).run Tryd.prog w = .ok (.bool true) w := by kernel_rfl
theorem mvv_is {y m d n Y M D : Int} (h : Dt.mok y m n) (h1 : Dt.my y m n = Y) (h2 : Dt.mm y m n = M) (h3 : Dt.md y m d n = D) : mvv y m d n = dv Y M D ∧ mev y m n = .nilIface := by
  rw [mvv, if_pos h, mev, if_pos h, h1, h2, h3]; exact ⟨rfl, rfl⟩
theorem in64 {a : Int} (h : (Lit.int .i64 a).wf = true) : -9223372036854775808 ≤ a ∧ a ≤ 9223372036854775807 := by
  simp [Lit.wf, IntKind.min, IntKind.max, IntKind.signed, IntKind.bits] at h
  exact ⟨by omega, by omega⟩
theorem up_any (w : World) (hL : Laid w) : Calls Tryd.prog 8 #[] w fun e w' => e = .returned (.bool true) ∧ Below w.heap.size w w' := by
  have HL := Lib.hid hL
  clear hL
  have M1 : Dt.May 2024 1 31 := by decide
  have M2 : Dt.May 1970 1 1 := by decide
  have M3 : Dt.May 2026 11 15 := by decide
  have M4 : Dt.May 2024 2 29 := by decide
  obtain ⟨E1, E2⟩ := mvv_is (d := 31) (show Dt.mok 2024 1 1 by decide) (show _ = 2024 by decide) (show _ = 2 by decide) (show _ = 29 by decide)
  have E3 : Dt.nm 1970 1 1 = 0 := by decide
  have E4 : (Dt.nm 2026 11 15 + 4) % 7 = 0 := by decide
  have H := Lib.hid (And.intro M1 (And.intro M2 (And.intro M3 M4)))
  have HE := Lib.hid (And.intro E1 (And.intro E2 (And.intro E3 E4)))
  clear M1 M2 M3 M4 E1 E2 E3 E4
  go_enter Tryd.func8, Tryd.ntmps8
  go_wp2_with fail
  refine (cmon_yes _ _ _ _ H.out.1 (by decide) _ (by first | exact HL.out.below B.out.1 | exact HL.out.below B.out | exact HL.out.below B0.out.1 | exact HL.out | exact HL.out.below B1.out.1 | exact HL.out.below B2.out.1 | exact HL.out.below B3.out.1 | exact HL.out.below (B.out.below (by first | exact Below.refl _ _ | exact (Below.refl _ _).drew)).1)).mono ?_; rintro e w1 ⟨rfl, hb1⟩
  rw [HE.out.1, HE.out.2.1]
  have B1 := Lib.hid (DV.new hb1 23 2024 2 29)
  clear hb1
  go_wp2_with fail
  refine (cnum_yes _ _ _ H.out.2.1 _ (by first | exact HL.out.below B.out.1 | exact HL.out.below B.out | exact HL.out.below B0.out.1 | exact HL.out | exact HL.out.below B1.out.1 | exact HL.out.below B2.out.1 | exact HL.out.below B3.out.1 | exact HL.out.below (B.out.below (by first | exact Below.refl _ _ | exact (Below.refl _ _).drew)).1)).mono ?_; rintro e w2 ⟨rfl, hb2⟩
  rw [HE.out.2.2.1]
  have B2 := Lib.hid (B1.out.below hb2)
  clear hb2
  go_wp2_with fail
  refine (cwd_yes _ _ _ H.out.2.2.1 _ (by first | exact HL.out.below B.out.1 | exact HL.out.below B.out | exact HL.out.below B0.out.1 | exact HL.out | exact HL.out.below B1.out.1 | exact HL.out.below B2.out.1 | exact HL.out.below B3.out.1 | exact HL.out.below (B.out.below (by first | exact Below.refl _ _ | exact (Below.refl _ _).drew)).1)).mono ?_; rintro e w3 ⟨rfl, hb3⟩
  rw [HE.out.2.2.2]
  have B3 := Lib.hid (B2.out.below hb3)
  clear hb3
  obtain ⟨-, -, -, ⟨c0, c1, c2⟩, -⟩ := B3.out
  go_wp2_with fail
  refine (cmay _ _ _ _ (by first | exact HL.out.below B.out.1 | exact HL.out.below B.out | exact HL.out.below B0.out.1 | exact HL.out | exact HL.out.below B1.out.1 | exact HL.out.below B2.out.1 | exact HL.out.below B3.out.1 | exact HL.out.below (B.out.below (by first | exact Below.refl _ _ | exact (Below.refl _ _).drew)).1)).mono ?_; rintro e w4 ⟨rfl, hb4⟩
  rw [decide_eq_true H.out.2.2.2]
  have B4 := Lib.hid (B3.out.below hb4)
  clear hb4
  go_wp2_with fail
  go_ret
  exact ⟨rfl, B4.out.1⟩

theorem mays_walk (y m d : Int) (w : World) (hL : Laid w) : Calls Tryd.prog 3 #[dv y m d] w fun e w' => e = .returned (.bool true) ∧ Below w.heap.size w w' := by
  have HL := Lib.hid hL
  clear hL
  go_enter Tryd.func3, Tryd.ntmps3
  go_wp2_with fail
  have B0 := Lib.hid (DV.new (Below.refl w.heap.size w) 23 y m d)
  refine (up_any _ (by first | exact HL.out.below B.out.1 | exact HL.out.below B.out | exact HL.out.below B0.out.1 | exact HL.out | exact HL.out.below B1.out.1 | exact HL.out.below B2.out.1 | exact HL.out.below B3.out.1 | exact HL.out.below (B.out.below (by first | exact Below.refl _ _ | exact (Below.refl _ _).drew)).1)).mono ?_; rintro e w1 ⟨rfl, hb⟩
  have B := Lib.hid (B0.out.below hb)
  clear hb B0
  obtain ⟨-, -, -, ⟨c0, c1, c2⟩, -⟩ := B.out
  obtain ⟨q, hq⟩ : ∃ q, decide (Dt.May y m d) = q := ⟨_, rfl⟩
  have HQ := Lib.hid hq
  clear hq
  cases q
  all_goals
    go_wp2_with fail
    go_region_held3 (fun w' => w'.cell? ⟨w.heap.size, 0, none⟩ = some (.int .i64 y) ∧ w'.cell? ⟨w.heap.size, 1, none⟩ = some (.int .i64 m) ∧ w'.cell? ⟨w.heap.size, 2, none⟩ = some (.int .i64 d))
      (refine ⟨?_, ?_, ?_⟩ <;> (first | assumption | go_keep))
      (first
      | (go_at_call 9; refine (cmay y m d _ (by first | exact HL.out.below B.out.1 | exact HL.out.below B.out | exact HL.out.below B0.out.1 | exact HL.out | exact HL.out.below B1.out.1 | exact HL.out.below B2.out.1 | exact HL.out.below B3.out.1 | exact HL.out.below (B.out.below (by first | exact Below.refl _ _ | exact (Below.refl _ _).drew)).1)).mono ?_; rintro e w2 ⟨rfl, hb⟩; rw [HQ.out]; have B := Lib.hid ((B.out.below (by first | exact Below.refl _ _ | exact (Below.refl _ _).drew)).below hb); obtain ⟨-, -, -, ⟨c0, c1, c2⟩, -⟩ := B.out; clear hb)
      | (go_at_call 10; refine (refmay_any y m d _).mono ?_; rintro e w3 ⟨rfl, hb⟩; rw [HQ.out]; have B := Lib.hid ((B.out.below (by first | exact Below.refl _ _ | exact (Below.refl _ _).drew)).below hb); obtain ⟨-, -, -, ⟨c0, c1, c2⟩, -⟩ := B.out; clear hb)
      | (go_at_call 11; refine (cdays y m _ (by first | exact HL.out.below B.out.1 | exact HL.out.below B.out | exact HL.out.below B0.out.1 | exact HL.out | exact HL.out.below B1.out.1 | exact HL.out.below B2.out.1 | exact HL.out.below B3.out.1 | exact HL.out.below (B.out.below (by first | exact Below.refl _ _ | exact (Below.refl _ _).drew)).1)).mono ?_; rintro e w4 ⟨rfl, hb⟩; have B := Lib.hid ((B.out.below (by first | exact Below.refl _ _ | exact (Below.refl _ _).drew)).below hb); obtain ⟨-, -, -, ⟨c0, c1, c2⟩, -⟩ := B.out; clear hb)
      | (go_at_call 12; refine (days_any y m _).mono ?_; rintro e w5 ⟨rfl, rfl⟩))
    all_goals
      go_wp2_with fail
      go_ret
      exact ⟨by simp, B.out.1⟩
end Go.Proofs.YthnhfilackghgaaDoor
