/- The law JournalOrder. -/
import Derived.Test.YtghepjppjmpihaaJl
namespace Go.Proofs.Ytghepjppjmpihaa
open Go.ChangeShapes Go.WideShapes Go.ChangeAt Go.RowKit Go.Lib

theorem may16 {e L : Nat} (he : e ≤ 308) (hL : L ≤ 300) : mayN 16 e L = if L < 1 then 1 else 0 := by
  unfold mayN Jk.fr
  by_cases h : L < 1
  · rw [if_pos (.inl h), if_pos h]
  · rw [if_neg (by omega), if_neg h, if_neg (by split <;> omega)]
set_option maxHeartbeats 2000000 in
set_option maxRecDepth 1000000 in
theorem order_walk (A1 A2 : Option Addr) (n1 c1 n2 c2 : Nat) (aa bb : List Int) (w : World) (r1 : RdK .u8 w w.heap.size A1 n1 aa) (r2 : RdK .u8 w w.heap.size A2 n2 bb) (hc1 : n1 ≤ c1 ∧ c1 ≤ maxLen) (hc2 : n2 ≤ c2 ∧ c2 ≤ maxLen) (y1 : Jk.By aa) (y2 : Jk.By bb) :
    Calls Try.prog 6 #[.slice A1 n1 c1, .slice A2 n2 c2] w fun e w' => e = .returned (.bool true) ∧ Below w.heap.size w w' := by
  have R := Lib.hid (⟨r1, r2⟩ : RdK .u8 w w.heap.size A1 n1 aa ∧ RdK .u8 w w.heap.size A2 n2 bb)
  have HC := Lib.hid (show (n1 ≤ c1 ∧ c1 ≤ maxLen) ∧ (n2 ≤ c2 ∧ c2 ≤ maxLen) from ⟨hc1, hc2⟩)
  have YY := Lib.hid (⟨y1, y2⟩ : Jk.By aa ∧ Jk.By bb)
  have HL := Lib.hid (show aa.length = n1 ∧ bb.length = n2 from ⟨r1.1, r2.1⟩)
  have l1 : (n1 : Int) ≤ 9223372036854775807 := by have := len64 hc1.2; omega
  have l2 : (n2 : Int) ≤ 9223372036854775807 := by have := len64 hc2.2; omega
  obtain ⟨i0, hi, hz0, hz1, hz2⟩ := info_parts infoR
  clear r1 r2 hc1 hc2 y1 y2
  by_cases h1 : 300 < n1 ∨ 300 < n2
  · have hh : (300 : Int) < (n1 : Int) ∨ (300 : Int) < (n2 : Int) := by omega
    go_enter Try.func6, Try.ntmps6
    go_wp2_with fail
    refine (up_any _).mono ?_; rintro e w1 ⟨rfl, hb⟩; have B := Lib.hid hb; clear hb
    rcases hh with h | h
    · go_wp2_with fail
      go_ret
      exact ⟨by simp, B.out⟩
    · go_wp2_with fail
      all_goals (go_ret; exact ⟨by simp, B.out⟩)
  have b1 : decide ((300 : Int) < (n1 : Int)) = false := by simp; omega
  have b2 : decide ((300 : Int) < (n2 : Int)) = false := by simp; omega
  go_enter Try.func6, Try.ntmps6
  go_wp2_with fail
  refine (up_any _).mono ?_; rintro e w1 ⟨rfl, hb⟩; have B := Lib.hid hb; clear hb
  go_wp2_with fail
  refine (cnew_yes 16 (by decide) (by decide) _).mono ?_; rintro e w2 ⟨d, S, rfl, hD, hb, hS⟩
  have D := Lib.hid hD
  have HS := Lib.hid (show ∀ k, S k → w.heap.size ≤ k from fun k hk => Nat.le_trans B.out.size (hS k hk))
  have B := Lib.hid (B.out.trans (hb.mono B.out.size))
  clear hD hb hS
  go_wp2_with fail
  refine (copen_dj _ D.out (Jk.J_zero _) (Jk.By.zs _) HS.out B.out.size).mono ?_; rintro e w3 ⟨j, S3, T3, rfl, hD, hb, -, -⟩
  have D := Lib.hid hD
  have B := Lib.hid (B.out.trans hb)
  clear hD hb
  go_wp2_with fail
  refine (cfree _ D.out).mono ?_; rintro e w4 ⟨rfl, hb⟩
  rw [show Jk.fr (64 * 16) 0 = 1016 by decide]
  have D := Lib.hid (D.out.below hb)
  have B := Lib.hid (B.out.trans (hb.mono B.out.size))
  clear hb
  go_wp2_with fail
  refine (append_any _ D.out B.out.size (R.out.1.below B.out) HC.out.1 YY.out.1).mono ?_; rintro e w5 ⟨u1, S5, T5, now5, rs5, e5, rfl, hD, ⟨hb, -, -⟩, hv1⟩
  have D := Lib.hid hD
  have B := Lib.hid (B.out.trans hb)
  have HV := Lib.hid (show (1 ≤ n1 ∧ u1 = .nilIface ∧ rs5 = [aa] ∧ e5 = 8 + n1) ∨ (n1 = 0 ∧ u1 = vErr 1 ∧ rs5 = [] ∧ e5 = 0) by
    rw [may16 (by omega) (by omega)] at hv1
    rcases hv1 with ⟨k1, k2, _, k4, k5⟩ | ⟨k1, k2, _, k4, k5⟩
    · split at k1
      · exact absurd k1 (by decide)
      · exact .inl ⟨by omega, k2, k4, by omega⟩
    · split at k1
      · rename_i k
        rw [if_pos k] at k2
        exact .inr ⟨by omega, k2, k4, k5⟩
      · exact absurd rfl k1)
  have he5 : e5 ≤ 308 := by have := HV.out; omega
  clear hD hb hv1
  go_wp2_with fail
  refine (cfree _ D.out).mono ?_; rintro e w6 ⟨rfl, hb⟩
  have D := Lib.hid (D.out.below hb)
  have B := Lib.hid (B.out.trans (hb.mono B.out.size))
  clear hb
  obtain ⟨f5, hf5⟩ : ∃ f, f = Jk.fr (64 * 16) e5 := ⟨_, rfl⟩
  have HF := Lib.hid (show f5 = 1016 - e5 by rw [hf5]; unfold Jk.fr; split <;> omega)
  rw [← hf5]
  clear hf5
  go_wp2_with fail
  refine (append_any _ D.out B.out.size (R.out.2.below B.out) HC.out.2 YY.out.2).mono ?_; rintro e w7 ⟨u2, S7, T7, now7, rs7, e7, rfl, hD, ⟨hb, -, -⟩, hv1⟩
  have D := Lib.hid hD
  have B := Lib.hid (B.out.trans hb)
  have HU := Lib.hid (show (1 ≤ n2 ∧ u2 = .nilIface ∧ rs7 = rs5 ++ [bb]) ∨ (n2 = 0 ∧ u2 = vErr 1 ∧ rs7 = rs5) by
    rw [may16 he5 (by omega)] at hv1
    rcases hv1 with ⟨k1, k2, _, k4, k5⟩ | ⟨k1, k2, _, k4, k5⟩
    · split at k1
      · exact absurd k1 (by decide)
      · exact .inl ⟨by omega, k2, k4⟩
    · split at k1
      · rename_i k
        rw [if_pos k] at k2
        exact .inr ⟨by omega, k2, k4⟩
      · exact absurd rfl k1)
  clear hD hb hv1
  rcases HV.out with ⟨k1, rfl, rfl, rfl⟩ | ⟨k1, rfl, rfl, rfl⟩
  · rcases HU.out with ⟨k2, rfl, rfl⟩ | ⟨k2, rfl, rfl⟩
    · have B0 := Lib.hid (Below.refl w7.heap.size w7)
      have z1 : (0 : Int) < (n1 : Int) := by omega
      have zf : IntKind.i64.wrap (1016 - (f5 : Int)) = (n1 : Int) + 8 := by have := HF.out; rw [IntKind.wrap_i64]; omega
      have z2 : (0 : Int) < (n2 : Int) := by omega
      have O0 := Lib.hid ((w7.alloc (.cells #[.slice A1 n1 c1] 22)).ownsRow_nil w7.heap.size 22 1)
      have CC1 : (w7.alloc (.cells #[.slice A1 n1 c1] 22)).cell? ⟨w7.heap.size, 0, none⟩ = some (.slice A1 n1 c1) := by simp
      go_wp2_with (first | (at_builtin; refine wpList_push _ rfl _ _ 44 rfl w7.heap.size 22 i0 (.slice none 0 0) 24 Try.underlying44 hi hz0 hz1 hz2 rfl _ 0 _ rfl O0.out w7.heap.size (.slice A1 n1 c1) rfl CC1 rfl (by decide) (by decide) (B0.out.alloc B0.out.size (.cells #[.slice A1 n1 c1] 22)).size ?_; intro v' x1 hown hb; obtain ⟨W1, cw1, rfl⟩ := own_form hown; have O1 := Lib.hid (show x1.ownsRow w7.heap.size 22 1 (.slice W1 1 cw1) 1 [.slice A1 n1 c1] from hown); have B0 := Lib.hid ((B0.out.alloc B0.out.size (.cells #[.slice A1 n1 c1] 22)).trans hb); clear hown hb O0 CC1; have O1 := Lib.hid (O1.out.alloc (.cells #[.slice A2 n2 c2] 22)); have CC2 : (x1.alloc (.cells #[.slice A2 n2 c2] 22)).cell? ⟨x1.heap.size, 0, none⟩ = some (.slice A2 n2 c2) := by simp) | (at_builtin; refine wpList_push _ rfl _ _ 44 rfl w7.heap.size 22 i0 (.slice none 0 0) 24 Try.underlying44 hi hz0 hz1 hz2 rfl _ 1 _ rfl O1.out x1.heap.size (.slice A2 n2 c2) rfl CC2 rfl (by decide) (by decide) (B0.out.alloc B0.out.size (.cells #[.slice A2 n2 c2] 22)).size ?_; intro v' x2 hown hb; obtain ⟨W2, cw2, rfl⟩ := own_form hown; have O2 := Lib.hid (show x2.ownsRow w7.heap.size 22 1 (.slice W2 2 cw2) 2 [.slice A1 n1 c1, .slice A2 n2 c2] from hown); have B0 := Lib.hid ((B0.out.alloc B0.out.size (.cells #[.slice A2 n2 c2] 22)).trans hb); clear hown hb O1 CC2))
      have D := Lib.hid (D.out.below B0.out)
      have B := Lib.hid (B.out.trans (B0.out.mono B.out.size))
      refine (crecords _ D.out).mono ?_; rintro e y1 ⟨u, rfl, hV, hb⟩
      obtain ⟨AV, cV, rfl, hR⟩ := hV.rd
      have RV := Lib.hid hR
      have O2 := Lib.hid (ownsRow_below O2.out hb)
      have B := Lib.hid (B.out.trans (hb.mono B.out.size))
      clear hV hR hb
      have RW := Lib.hid (show RdRs y1 W2 2 [aa, bb] from rdrs_own O2.out rfl (by
        intro i hi
        obtain rfl | rfl : i = 0 ∨ i = 1 := by omega
        · exact ⟨A1, c1, by rw [show ([aa, bb].getD 0 [] : List Int) = aa from rfl, HL.out.1]; rfl, by rw [show ([aa, bb].getD 0 [] : List Int) = aa from rfl, HL.out.1]; exact (R.out.1.below B.out).more B.out.size⟩
        · exact ⟨A2, c2, by rw [show ([aa, bb].getD 1 [] : List Int) = bb from rfl, HL.out.2]; rfl, by rw [show ([aa, bb].getD 1 [] : List Int) = bb from rfl, HL.out.2]; exact (R.out.2.below B.out).more B.out.size⟩))
      go_wp2_with fail
      refine (refsame_yes _ RV.out RW.out (by simp)).mono ?_; rintro e y2 ⟨rfl, hb⟩
      have B := Lib.hid (B.out.trans (hb.mono B.out.size))
      clear hb
      go_wp2_with fail
      go_ret
      exact ⟨by simp, B.out⟩
    · have B0 := Lib.hid (Below.refl w7.heap.size w7)
      have z1 : (0 : Int) < (n1 : Int) := by omega
      have zf : IntKind.i64.wrap (1016 - (f5 : Int)) = (n1 : Int) + 8 := by have := HF.out; rw [IntKind.wrap_i64]; omega
      have hn2 : n2 = 0 := by omega
      subst hn2
      have O0 := Lib.hid ((w7.alloc (.cells #[.slice A1 n1 c1] 22)).ownsRow_nil w7.heap.size 22 1)
      have CC1 : (w7.alloc (.cells #[.slice A1 n1 c1] 22)).cell? ⟨w7.heap.size, 0, none⟩ = some (.slice A1 n1 c1) := by simp
      go_wp2_with (at_builtin; refine wpList_push _ rfl _ _ 44 rfl w7.heap.size 22 i0 (.slice none 0 0) 24 Try.underlying44 hi hz0 hz1 hz2 rfl _ 0 _ rfl O0.out w7.heap.size (.slice A1 n1 c1) rfl CC1 rfl (by decide) (by decide) (B0.out.alloc B0.out.size (.cells #[.slice A1 n1 c1] 22)).size ?_; intro v' x1 hown hb; obtain ⟨W1, cw1, rfl⟩ := own_form hown; have O1 := Lib.hid (show x1.ownsRow w7.heap.size 22 1 (.slice W1 1 cw1) 1 [.slice A1 n1 c1] from hown); have B0 := Lib.hid ((B0.out.alloc B0.out.size (.cells #[.slice A1 n1 c1] 22)).trans hb); clear hown hb O0 CC1)
      have D := Lib.hid (D.out.below B0.out)
      have B := Lib.hid (B.out.trans (B0.out.mono B.out.size))
      refine (crecords _ D.out).mono ?_; rintro e y1 ⟨u, rfl, hV, hb⟩
      obtain ⟨AV, cV, rfl, hR⟩ := hV.rd
      have RV := Lib.hid hR
      have O1 := Lib.hid (ownsRow_below O1.out hb)
      have B := Lib.hid (B.out.trans (hb.mono B.out.size))
      clear hV hR hb
      have RW := Lib.hid (show RdRs y1 W1 1 [aa] from rdrs_own O1.out rfl (by
        intro i hi
        obtain rfl : i = 0 := by omega
        exact ⟨A1, c1, by rw [show ([aa].getD 0 [] : List Int) = aa from rfl, HL.out.1]; rfl, by rw [show ([aa].getD 0 [] : List Int) = aa from rfl, HL.out.1]; exact (R.out.1.below B.out).more B.out.size⟩))
      go_wp2_with fail
      refine (refsame_yes _ RV.out RW.out (by simp)).mono ?_; rintro e y2 ⟨rfl, hb⟩
      have B := Lib.hid (B.out.trans (hb.mono B.out.size))
      clear hb
      go_wp2_with fail
      go_ret
      exact ⟨by simp, B.out⟩
  · rcases HU.out with ⟨k2, rfl, rfl⟩ | ⟨k2, rfl, rfl⟩
    · have B0 := Lib.hid (Below.refl w7.heap.size w7)
      have hn1 : n1 = 0 := by omega
      subst hn1
      have zf : f5 = 1016 := by have := HF.out; omega
      subst zf
      have z2 : (0 : Int) < (n2 : Int) := by omega
      have O0 := Lib.hid ((w7.alloc (.cells #[.slice A2 n2 c2] 22)).ownsRow_nil w7.heap.size 22 1)
      have CC1 : (w7.alloc (.cells #[.slice A2 n2 c2] 22)).cell? ⟨w7.heap.size, 0, none⟩ = some (.slice A2 n2 c2) := by simp
      go_wp2_with (at_builtin; refine wpList_push _ rfl _ _ 44 rfl w7.heap.size 22 i0 (.slice none 0 0) 24 Try.underlying44 hi hz0 hz1 hz2 rfl _ 0 _ rfl O0.out w7.heap.size (.slice A2 n2 c2) rfl CC1 rfl (by decide) (by decide) (B0.out.alloc B0.out.size (.cells #[.slice A2 n2 c2] 22)).size ?_; intro v' x1 hown hb; obtain ⟨W1, cw1, rfl⟩ := own_form hown; have O1 := Lib.hid (show x1.ownsRow w7.heap.size 22 1 (.slice W1 1 cw1) 1 [.slice A2 n2 c2] from hown); have B0 := Lib.hid ((B0.out.alloc B0.out.size (.cells #[.slice A2 n2 c2] 22)).trans hb); clear hown hb O0 CC1)
      have D := Lib.hid (D.out.below B0.out)
      have B := Lib.hid (B.out.trans (B0.out.mono B.out.size))
      refine (crecords _ D.out).mono ?_; rintro e y1 ⟨u, rfl, hV, hb⟩
      obtain ⟨AV, cV, rfl, hR⟩ := hV.rd
      have RV := Lib.hid hR
      have O1 := Lib.hid (ownsRow_below O1.out hb)
      have B := Lib.hid (B.out.trans (hb.mono B.out.size))
      clear hV hR hb
      have RW := Lib.hid (show RdRs y1 W1 1 [bb] from rdrs_own O1.out rfl (by
        intro i hi
        obtain rfl : i = 0 := by omega
        exact ⟨A2, c2, by rw [show ([bb].getD 0 [] : List Int) = bb from rfl, HL.out.2]; rfl, by rw [show ([bb].getD 0 [] : List Int) = bb from rfl, HL.out.2]; exact (R.out.2.below B.out).more B.out.size⟩))
      go_wp2_with fail
      refine (refsame_yes _ RV.out RW.out (by simp)).mono ?_; rintro e y2 ⟨rfl, hb⟩
      have B := Lib.hid (B.out.trans (hb.mono B.out.size))
      clear hb
      go_wp2_with fail
      go_ret
      exact ⟨by simp, B.out⟩
    · have B0 := Lib.hid (Below.refl w7.heap.size w7)
      have hn1 : n1 = 0 := by omega
      subst hn1
      have zf : f5 = 1016 := by have := HF.out; omega
      subst zf
      have hn2 : n2 = 0 := by omega
      subst hn2
      have D := Lib.hid (D.out.below B0.out)
      have B := Lib.hid (B.out.trans (B0.out.mono B.out.size))
      go_wp2_with fail
      refine (crecords _ D.out).mono ?_; rintro e y1 ⟨u, rfl, hV, hb⟩
      obtain ⟨AV, cV, rfl, hR⟩ := hV.rd
      have RV := Lib.hid hR
      have B := Lib.hid (B.out.trans (hb.mono B.out.size))
      clear hV hR hb
      have RW := Lib.hid (RdRs.nil y1)
      go_wp2_with fail
      refine (refsame_yes _ RV.out RW.out (by simp)).mono ?_; rintro e y2 ⟨rfl, hb⟩
      have B := Lib.hid (B.out.trans (hb.mono B.out.size))
      clear hb
      go_wp2_with fail
      go_ret
      exact ⟨by simp, B.out⟩
end Go.Proofs.Ytghepjppjmpihaa
