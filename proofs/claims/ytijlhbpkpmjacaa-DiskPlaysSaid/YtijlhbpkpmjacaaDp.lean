/- The law DiskPlays. -/
import Derived.Test.YtijlhbpkpmjacaaDe
namespace Go.Proofs.Ytijlhbpkpmjacaa
open Go.ChangeShapes Go.WideShapes Go.ChangeAt Go.RowKit Go.Lib

/-- a deed's parts -/
structure Dd where
  (W T N : Int)
  (bA : Option Addr)
  (bn bc : Nat)
  (bz : List Int)
  (pA : Option Addr)
  (pn pc : Nat)
  (pz : List Int)
/-- a deed that is read at a place -/
structure DdAt (w : World) (B0 g o : Nat) (D : Dd) : Prop where
  lt : g < B0
  c0 : w.cell? ⟨g, o, none⟩ = some (.int .i64 D.W)
  c1 : w.cell? ⟨g, o + 1, none⟩ = some (.int .i64 D.T)
  c2 : w.cell? ⟨g, o + 2, none⟩ = some (.int .i64 D.N)
  c3 : w.cell? ⟨g, o + 3, none⟩ = some (.slice D.bA D.bn D.bc)
  c4 : w.cell? ⟨g, o + 4, none⟩ = some (.slice D.pA D.pn D.pc)
  rb : RdK .u8 w B0 D.bA D.bn D.bz
  rp : RdK .i64 w B0 D.pA D.pn D.pz
  i : I64 D.W ∧ I64 D.T ∧ I64 D.N
  hb : D.bn ≤ D.bc ∧ D.bc ≤ maxLen
  hp : D.pn ≤ D.pc ∧ D.pc ≤ maxLen
  hz : ∀ x ∈ D.pz, I64 x
theorem DdAt.below {w w' : World} {B0 g o : Nat} {D : Dd} (h : DdAt w B0 g o D) (hb : Below B0 w w') : DdAt w' B0 g o D :=
  ⟨h.lt, (hb.cell (p := ⟨g, o, none⟩) h.lt).trans h.c0, (hb.cell (p := ⟨g, o + 1, none⟩) h.lt).trans h.c1, (hb.cell (p := ⟨g, o + 2, none⟩) h.lt).trans h.c2, (hb.cell (p := ⟨g, o + 3, none⟩) h.lt).trans h.c3, (hb.cell (p := ⟨g, o + 4, none⟩) h.lt).trans h.c4,
    h.rb.below hb, h.rp.below hb, h.i, h.hb, h.hp, h.hz⟩
/-- deeds that are read, one behind the other -/
def Dds (w : World) (B0 : Nat) (A : Option Addr) (n : Nat) : Prop := ∀ i, i < n → ∃ g off D, A = some ⟨g, off, none⟩ ∧ DdAt w B0 g (off + i * 5) D
theorem Dds.below {w w' : World} {B0 : Nat} {A : Option Addr} {n : Nat} (h : Dds w B0 A n) (hb : Below B0 w w') : Dds w' B0 A n := fun i hi => by
  obtain ⟨g, off, D, e, h1⟩ := h i hi
  exact ⟨g, off, D, e, h1.below hb⟩
set_option maxHeartbeats 2000000 in
set_option maxRecDepth 1000000 in
theorem plays_walk (z : Int) (A : Option Addr) (n c : Nat) (hz : I64 z) (w : World) (hr : Dds w w.heap.size A n) (hc : n ≤ c ∧ c ≤ maxLen) :
    Calls Try.prog 4 #[.int .i64 z, .slice A n c] w fun e w' => e = .returned (.bool true) ∧ Below w.heap.size w w' := by
  have R := Lib.hid hr
  have HZ := Lib.hid hz
  have l1 : (n : Int) ≤ 9223372036854775807 := by have := len64 hc.2; omega
  have hpk := pk_bd z (by decide : (0 : Int) < 8)
  obtain ⟨m, hm⟩ : ∃ m : Nat, (m : Int) = 1 + pk z 8 := ⟨(1 + pk z 8).toNat, by omega⟩
  have ra : IntKind.i64.wrap (1 + pk z 8) = (m : Int) := by rw [IntKind.wrap_i64]; omega
  have HM := Lib.hid (show 1 ≤ m ∧ m ≤ 8 by omega)
  obtain ⟨k, hk⟩ : ∃ k, k = pk z 8 := ⟨_, rfl⟩
  have HK := Lib.hid hk
  rw [← hk] at ra
  clear hr hz hc hpk hm hk
  go_enter Try.func4, Try.ntmps4
  go_wp2_with fail
  refine (up_any _).mono ?_; rintro e w1 ⟨rfl, hb⟩; have B := Lib.hid hb; clear hb
  go_wp2_with fail
  refine (pick_any z 8 HZ.out (by decide) _).mono ?_; rintro e w' ⟨rfl, hw⟩; have hw2 := hw; subst hw2; clear hw
  rw [← HK.out]
  go_wp2_with fail
  refine (cnew_yes m HM.out.1 (by have := HM.out; omega) _).mono ?_; rintro e w2 ⟨b, S, rfl, hD, hb, hS⟩
  have D := Lib.hid (show Dq S w2 b m _ _ _ ∧ ∀ k, S k → w.heap.size ≤ k from ⟨hD, fun k hk => Nat.le_trans B.out.size (hS k hk)⟩)
  have B := Lib.hid (B.out.trans (hb.mono B.out.size))
  clear hD hb hS
  go_wp2_with fail
  refine (refnew_any m HM.out.1 (by have := HM.out; omega) _).mono ?_; rintro e w3 ⟨M, sb, nb, db, rfl, hM, hb, g0, g1, g2, g3⟩
  have F := Lib.hid (show Both w.heap.size w3 S b m M sb nb db _ _ _ from ⟨D.out.1.below hb, hM, D.out.2, fun k hk => by have := D.out.1.lt k hk; omega, by have := B.out.size; omega⟩)
  have B := Lib.hid (B.out.trans (hb.mono B.out.size))
  clear hM hb g0 g1 g2 g3
  go_wp2_with fail
  go_loopw [9] (fun iv wr => ∃ (i : Nat) (S : Nat → Prop) (st now dr : List Int), iv = .int .i64 i ∧ i ≤ n ∧ Hid (Both w.heap.size wr S b m M sb nb db st now dr) ∧ Hid (Below w.heap.size w wr)) (fun iv _ => n - (RowKit.intOf iv).toNat)
  case atStart => exact ⟨0, S, _, _, _, rfl, Nat.zero_le _, F.out, B.out⟩
  case round =>
    clear F B D
    obtain ⟨i, S, st, now, dr, rfl, hin, F, B⟩ := hrel
    by_cases hlt : i < n ∧ i < 100
    · have hltz : (i : Int) < (n : Int) := by omega
      have hltz2 : (i : Int) < 100 := by omega
      obtain ⟨g, off, D, rfl, hd⟩ := (R.out.below B.out) i hlt.1
      have DA := Lib.hid hd
      obtain ⟨-, c0, c1, c2, c3, c4, -⟩ := hd
      have lb := len64 DA.out.hb.2
      have lp := len64 DA.out.hp.2
      have lb2 : (D.bn : Int) ≤ 9223372036854775807 := by have := DA.out.hb.1; omega
      have lp2 : (D.pn : Int) ≤ 9223372036854775807 := by have := DA.out.hp.1; omega
      clear lb lp
      by_cases h1 : 2000 < D.bn
      · have h1z : (2000 : Int) < (D.bn : Int) := by omega
        go_wp2_with fail
        go_ret
        exact ⟨by simp, B.out⟩
      have h1b : decide ((2000 : Int) < (D.bn : Int)) = false := by simp; omega
      by_cases h2 : 2000 < D.pn
      · have h2z : (2000 : Int) < (D.pn : Int) := by omega
        go_wp2_with fail
        go_ret
        exact ⟨by simp, B.out⟩
      have h2b : decide ((2000 : Int) < (D.pn : Int)) = false := by simp; omega
      go_wp2_with fail
      refine (one_any _ F.out B.out.size DA.out.rb DA.out.rp DA.out.i.1 DA.out.i.2.1 DA.out.i.2.2 DA.out.hb DA.out.hp DA.out.hz).mono ?_
      rintro e w4 ⟨rfl, ⟨S4, st4, now4, dr4, hF⟩, hb⟩
      have F4 := Lib.hid hF
      have B := Lib.hid (B.out.trans hb)
      clear hF hb c0 c1 c2 c3 c4
      go_wp2_with fail
      refine (cdirty _ F4.out.d).mono ?_; rintro e w5 ⟨rfl, hb⟩
      have F4 := Lib.hid (F4.out.below hb)
      have B := Lib.hid (B.out.trans (hb.mono B.out.size))
      clear hb
      go_wp2_with fail
      refine (refmany_any _ F4.out.m).mono ?_; rintro e w6 ⟨rfl, hb⟩
      have F4 := Lib.hid (F4.out.below hb)
      have B := Lib.hid (B.out.trans (hb.mono B.out.size))
      clear hb
      go_wp2_with fail
      exact ⟨⟨i + 1, S4, st4, now4, dr4, by go_num, by omega, F4.out, B.out⟩, by simp [RowKit.intOf]; omega⟩
    · have hcase : (¬ (i : Int) < (n : Int)) ∨ ((i : Int) < (n : Int) ∧ ¬ (i : Int) < 100) := by omega
      have hn64 : 64 * m ≤ 512 := by have := HM.out; omega
      obtain ⟨n1, hn1⟩ : ∃ n1, n1 = 64 * m := ⟨_, rfl⟩
      have HN := Lib.hid hn1
      have HE := Lib.hid (show 64 * (m : Int) = (n1 : Int) by omega)
      clear hn1
      rcases hcase with h | ⟨h0, h⟩
      · go_wp2_with fail
        rw [HE.out]
        refine (cread_yes (p := 0) (q := n1) _ F.out.d (by rw [HN.out]; omega)).mono ?_; rintro e w4 ⟨A4, c4, rfl, -, -, hT, hb⟩
        rw [List.drop_zero, List.take_of_length_le (by rw [F.out.m.ln, HN.out]; exact Nat.le_refl _)] at hT
        have T := Lib.hid hT.rd
        have F := Lib.hid (F.out.below hb)
        have B := Lib.hid (B.out.trans (hb.mono B.out.size))
        clear hT hb
        have m1 := F.out.m.c1
        rw [← HN.out] at m1
        have RN := Lib.hid (show RdK .u8 w4 w4.heap.size (some ⟨nb, 0, none⟩) n1 now from by
          have h0 := (F.out.m.rn.rd w4.heap.size F.out.m.rn.1)
          rwa [F.out.m.ln, ← HN.out] at h0)
        have kA := fun n => rd_str (c := c4) (T.out.below (below_drewN _ _ n))
        have kB := fun n => rd_str (c := n1) (RN.out.below (below_drewN _ _ n))
        go_wp2_with fail
        go_quiet (fail)
        go_wp2_with fail
        go_ret
        exact ⟨by simp, B.out.trans (below_drewN _ _ _)⟩
      · have hb2 : decide ((i : Int) < 100) = false := by simp; omega
        go_wp2_with fail
        rw [HE.out]
        refine (cread_yes (p := 0) (q := n1) _ F.out.d (by rw [HN.out]; omega)).mono ?_; rintro e w4 ⟨A4, c4, rfl, -, -, hT, hb⟩
        rw [List.drop_zero, List.take_of_length_le (by rw [F.out.m.ln, HN.out]; exact Nat.le_refl _)] at hT
        have T := Lib.hid hT.rd
        have F := Lib.hid (F.out.below hb)
        have B := Lib.hid (B.out.trans (hb.mono B.out.size))
        clear hT hb
        have m1 := F.out.m.c1
        rw [← HN.out] at m1
        have RN := Lib.hid (show RdK .u8 w4 w4.heap.size (some ⟨nb, 0, none⟩) n1 now from by
          have h0 := (F.out.m.rn.rd w4.heap.size F.out.m.rn.1)
          rwa [F.out.m.ln, ← HN.out] at h0)
        have kA := fun n => rd_str (c := c4) (T.out.below (below_drewN _ _ n))
        have kB := fun n => rd_str (c := n1) (RN.out.below (below_drewN _ _ n))
        go_wp2_with fail
        go_quiet (fail)
        go_wp2_with fail
        go_ret
        exact ⟨by simp, B.out.trans (below_drewN _ _ _)⟩
end Go.Proofs.Ytijlhbpkpmjacaa
