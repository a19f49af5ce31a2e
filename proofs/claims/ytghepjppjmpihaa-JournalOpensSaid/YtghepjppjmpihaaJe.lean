/- The law JournalOpens. -/
import Derived.Test.YtghepjppjmpihaaJo
namespace Go.Proofs.Ytghepjppjmpihaa
open Go.ChangeShapes Go.WideShapes Go.ChangeAt Go.RowKit Go.Lib

set_option maxHeartbeats 2000000 in
set_option maxRecDepth 1000000 in
theorem opens_walk (A : Option Addr) (n c : Nat) (bs : List Int) (w : World) (hr : RdK .u8 w w.heap.size A n bs) (hc : n ≤ c ∧ c ≤ maxLen) (hY : Jk.By bs) :
    Calls Try.prog 3 #[.slice A n c] w fun e w' => e = .returned (.bool true) ∧ Below w.heap.size w w' := by
  have R := Lib.hid hr
  have HC := Lib.hid hc
  have YY := Lib.hid hY
  have l1 : (n : Int) ≤ 9223372036854775807 := by have := len64 hc.2; omega
  clear hr hc hY
  by_cases h1 : 512 < n
  · have h1z : (512 : Int) < (n : Int) := by omega
    go_enter Try.func3, Try.ntmps3
    go_wp2_with fail
    refine (up_any _).mono ?_; rintro e w1 ⟨rfl, hb⟩; have B := Lib.hid hb; clear hb
    go_wp2_with fail
    go_ret
    exact ⟨by simp, B.out⟩
  have h1z : ¬ (512 : Int) < (n : Int) := by omega
  obtain ⟨m, hm⟩ : ∃ m : Nat, m = 8 := ⟨_, rfl⟩
  have HM := Lib.hid hm
  have hn : 0 + n ≤ 64 * m := by omega
  obtain ⟨X, hX⟩ : ∃ X, X = Dk.wr bs (zs (64 * m)) 0 n := ⟨_, rfl⟩
  have HX := Lib.hid hX
  have XL := Lib.hid (show X.length = 64 * m by rw [hX, Dk.wr_len, List.length_replicate])
  have XY := Lib.hid (show Jk.By X from by rw [hX]; exact YY.out.wr (Jk.By.zs _) (by rw [List.length_replicate]; exact hn))
  obtain ⟨rs, ee, hJ⟩ := Jk.J_exists X
  have J := Lib.hid hJ
  have ZL := Lib.hid (show (Jk.zb X ee).length = 512 by rw [Jk.zb_len, XL.out, HM.out])
  clear hX hJ hm
  go_enter Try.func3, Try.ntmps3
  go_wp2_with fail
  refine (up_any _).mono ?_; rintro e w1 ⟨rfl, hb⟩; have B := Lib.hid hb; clear hb
  go_wp2_with fail
  rw [show (8 : Int) = (m : Int) from by have := HM.out; omega]
  refine (cnew_yes m (by have := HM.out; omega) (by have := HM.out; omega) _).mono ?_; rintro e w2 ⟨d, S, rfl, hD, hb, hS⟩
  have D := Lib.hid hD
  have NS := Lib.hid (show ∀ k, S k → w.heap.size ≤ k from fun k hk => Nat.le_trans B.out.size (hS k hk))
  have B := Lib.hid (B.out.trans (hb.mono B.out.size))
  clear hD hb hS
  go_wp2_with fail
  refine (cwrite_yes (p := 0) _ D.out ((R.out.below B.out).more B.out.size) (R.out.apart NS.out) hn HC.out).mono ?_; rintro e w3 ⟨rfl, hl⟩
  obtain ⟨S3, hD, -, hb, hS, -⟩ := hl.use NS.out B.out.size
  rw [← HX.out] at hD
  have D := Lib.hid hD
  have NS := Lib.hid hS
  have B := Lib.hid (B.out.trans hb)
  clear hD hb hS hl
  go_wp2_with fail
  refine (csync _ D.out).mono ?_; rintro e w4 ⟨rfl, hl⟩
  obtain ⟨S4, hD, -, hb, hS, -⟩ := hl.use NS.out B.out.size
  have D := Lib.hid hD
  have NS := Lib.hid hS
  have B := Lib.hid (B.out.trans hb)
  clear hD hb hS hl
  go_wp2_with fail
  refine (copen_dj _ D.out J.out XY.out NS.out B.out.size).mono ?_; rintro e w5 ⟨j, S5, T5, rfl, hD, hb, -, -⟩
  have D := Lib.hid hD
  have B := Lib.hid (B.out.trans hb)
  clear hD hb NS
  go_wp2_with fail
  rw [show (8 : Int) = (m : Int) from by have := HM.out; omega]
  refine (refnew_any m (by have := HM.out; omega) (by have := HM.out; omega) _).mono ?_; rintro e w6 ⟨M, sb, nb, db, rfl, hM, hb, g0, g1, g2, g3⟩
  have MM := Lib.hid hM
  have GG := Lib.hid (show w5.heap.size ≤ M ∧ w5.heap.size ≤ sb ∧ w5.heap.size ≤ nb ∧ w5.heap.size ≤ db from ⟨g0, g1, g2, g3⟩)
  have W5 := Lib.hid B.out.size
  have LT := Lib.hid D.out.lt
  have D := Lib.hid (D.out.below hb)
  have B := Lib.hid (B.out.trans (hb.mono B.out.size))
  clear hM hb g0 g1 g2 g3
  go_wp2_with fail
  refine (refwrite_any (p := 0) _ MM.out ((R.out.below B.out).more B.out.size) (R.out.apart (S := fun k => k = nb ∨ k = db) (fun k hk => by have := GG.out; have := W5.out; omega)) hn).mono ?_; rintro e w7 ⟨rfl, hM, hU⟩
  rw [← HX.out] at hM
  have MM := Lib.hid hM
  have D := Lib.hid (D.out.but hU (fun k hk hu => by have := LT.out k hk; have := GG.out; omega))
  have B := Lib.hid (B.out.trans (hU.below (fun k hk => by have := GG.out; have := W5.out; omega) B.out.size))
  clear hM hU
  go_wp2_with fail
  refine (refsync_any _ MM.out).mono ?_; rintro e w8 ⟨rfl, hM, hU⟩
  have MM := Lib.hid hM
  have D := Lib.hid (D.out.but hU (fun k hk hu => by have := LT.out k hk; have := GG.out; omega))
  have B := Lib.hid (B.out.trans (hU.below (fun k hk => by have := GG.out; have := W5.out; omega) B.out.size))
  clear hM hU
  go_wp2_with fail
  refine (refopen_any _ MM.out XY.out).mono ?_; rintro e w9 ⟨K, A9, c9, rs9, e9, st9, dr9, rfl, hJ9, hM, hK, hc9, hR9, hU⟩
  obtain ⟨rfl, rfl⟩ := Jk.J_unique J.out hJ9
  have MM := Lib.hid hM
  have KK := Lib.hid (show K < w9.heap.size ∧ w9.cell? ⟨K, 1, none⟩ = some (.slice A9 rs.length c9) from ⟨hK, hc9⟩)
  have R9 := Lib.hid hR9
  have D := Lib.hid (D.out.but hU (fun k hk hu => by have := LT.out k hk; have := GG.out; omega))
  have B := Lib.hid (B.out.trans (hU.below (fun k hk => by have := GG.out; have := W5.out; omega) B.out.size))
  clear hJ9 hM hK hc9 hR9 hU
  go_wp2_with fail
  refine (cread_yes (p := 0) (q := 512) _ D.out.dk (by have := HM.out; omega)).mono ?_; rintro e w10 ⟨A10, c10, rfl, -, -, hT, hb⟩
  rw [List.drop_zero, List.take_of_length_le (by rw [ZL.out]; exact Nat.le_refl _)] at hT
  have T := Lib.hid hT.rd
  have MM := Lib.hid (MM.out.but (But.of hb (fun _ => False)) id id id id)
  have KK := Lib.hid (show K < w10.heap.size ∧ w10.cell? ⟨K, 1, none⟩ = some (.slice A9 rs.length c9) from ⟨Nat.lt_of_lt_of_le KK.out.1 hb.size, (hb.cell (p := ⟨K, 1, none⟩) KK.out.1).trans KK.out.2⟩)
  have R9 := Lib.hid (R9.out.below hb)
  have D := Lib.hid (D.out.below hb)
  have B := Lib.hid (B.out.trans (hb.mono B.out.size))
  clear hT hb
  have RN := Lib.hid (show RdK .u8 w10 w10.heap.size (some ⟨nb, 0, none⟩) 512 (Jk.zb X ee) from by
    have h0 := MM.out.rn.rd w10.heap.size MM.out.rn.1
    rwa [ZL.out] at h0)
  have LR := Lib.hid (show rs.length ≤ 512 by have := J.out.many; have := J.out.le; rw [XL.out] at this; have := HM.out; omega)
  have m1 := MM.out.c1
  rw [show 64 * m = 512 by rw [HM.out]] at m1
  have k1 := KK.out.2
  have kA := rd_str (c := c10) T.out
  have kA2 := rd_str (c := c10) (T.out.below (Below.refl _ _).drew)
  have kB := rd_str (c := 512) RN.out
  have kB2 := rd_str (c := 512) (RN.out.below (Below.refl _ _).drew)
  go_wp2_with fail
  go_region_held3 (fun w' => w'.cell? ⟨M, 1, none⟩ = some (.slice (some ⟨nb, 0, none⟩) 512 512) ∧ w'.cell? ⟨K, 1, none⟩ = some (.slice A9 rs.length c9) ∧ (convert 22 9 (.slice A10 512 c10)).run Try.prog w' = .ok (.string (strOfNums (Jk.zb X ee))) w' ∧ (convert 22 9 (.slice (some ⟨nb, 0, none⟩) 512 512)).run Try.prog w' = .ok (.string (strOfNums (Jk.zb X ee))) w')
    (refine ⟨?_, ?_, ?_, ?_⟩ <;> (first | assumption | go_keep))
    (first
    | (go_at_call 19; refine (crecords _ (by first | exact D.out | exact D.out.below (Below.refl _ _).drew)).mono ?_; rintro e w11 ⟨u, rfl, hV, hb⟩; have HX := Lib.hid ((Below.refl w10.heap.size w10).drew.trans hb); have g1 := rd_str (c := c10) (T.out.below HX.out); have g2 := rd_str (c := 512) (RN.out.below HX.out); obtain ⟨AV, cV, rfl, hR⟩ := hV.rd; have RV := Lib.hid hR; have F := Lib.hid (show RdRs w11 A9 rs.length rs ∧ Below w.heap.size w w11 ∧ w11.cell? ⟨M, 1, none⟩ = some (.slice (some ⟨nb, 0, none⟩) 512 512) ∧ w11.cell? ⟨K, 1, none⟩ = some (.slice A9 rs.length c9) from by first | exact ⟨(R9.out.below (Below.refl _ _).drew).below hb, B.out.drew.trans (hb.mono B.out.drew.size), (hb.cell (p := ⟨M, 1, none⟩) MM.out.lt).trans m1, (hb.cell (p := ⟨K, 1, none⟩) KK.out.1).trans k1⟩ | exact ⟨R9.out.below hb, B.out.trans (hb.mono B.out.size), (hb.cell (p := ⟨M, 1, none⟩) MM.out.lt).trans m1, (hb.cell (p := ⟨K, 1, none⟩) KK.out.1).trans k1⟩); have f1 := F.out.2.2.1; have f2 := F.out.2.2.2; clear hV hR hb)
    | (go_at_call 18; refine (refsame_yes _ RV.out F.out.1 (by have := LR.out; omega)).mono ?_; rintro e w12 ⟨rfl, hb⟩; have HY := Lib.hid (HX.out.trans (hb.mono HX.out.size)); have g3 := rd_str (c := c10) (T.out.below HY.out); have g4 := rd_str (c := 512) (RN.out.below HY.out); have FB := Lib.hid (F.out.2.1.trans (hb.mono F.out.2.1.size)); have f3 := (hb.cell (p := ⟨M, 1, none⟩) (cell_lt f1)).trans f1; have f4 := (hb.cell (p := ⟨K, 1, none⟩) (cell_lt f2)).trans f2; clear hb))
  all_goals
    go_wp2_with fail
    go_ret
    exact ⟨by simp, FB.out⟩
end Go.Proofs.Ytghepjppjmpihaa
