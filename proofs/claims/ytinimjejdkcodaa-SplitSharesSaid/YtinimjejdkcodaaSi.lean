/- The sort's order at work: slices.insertionSortCmpFunc on the row of places. -/
import Derived.Test.YtinimjejdkcodaaSk
namespace Go.Proofs.Ytinimjejdkcodaa
open Go.RowKit Go.Shelf Go.Lib Go.Sort Ss
variable {w0 W : World} {blk off n bx : Nat} {dk : Array Nat} {k : Nat → Nat}

/-- the closure tells the order of places by their rests, wherever the sort stands -/
def Cm (k : Nat → Nat) (bx : Nat) (w0 : World) (blk off n : Nat) : Prop :=
  ∀ (dk : Array Nat) (W : World), Pl w0 blk off n dk W → ∀ x y, x < n → y < n →
    Calls Try.prog 35 #[.int .i64 x, .int .i64 y, .pointer (some ⟨bx, 0, none⟩)] W fun e w' => e = .returned (.int .i64 (cv (k y) (k x))) ∧ ∃ q, w' = W.drewN q
theorem Cm.at (h : Cm k bx w0 blk off n) (S : Pl w0 blk off n dk W) (i j : Nat) (hi : i < n) (hj : j < n) (q : Nat) :
    Calls Try.prog 35 #[.int .i64 (dk[i]! : Nat), .int .i64 (dk[j]! : Nat), .pointer (some ⟨bx, 0, none⟩)] (W.drewN q) fun e w' => e = .returned (.int .i64 (cv (k dk[j]!) (k dk[i]!))) ∧ ∃ m, w' = (W.drewN q).drewN m :=
  h dk (W.drewN q) (S.drewN q) _ _ (S.2.2.2 i hi) (S.2.2.2 j hj)
theorem cv_t {x y : Nat} (h : lt k x y = true) : cv (k y) (k x) < 0 := by rw [lt_t] at h; unfold cv; rw [if_pos (by omega)]; decide
theorem cv_f {x y : Nat} (h : lt k x y = false) : ¬ cv (k y) (k x) < 0 := by rw [lt_f] at h; unfold cv; rw [if_neg (by omega)]; split <;> decide

set_option maxHeartbeats 4000000 in
set_option maxRecDepth 1000000 in
theorem insertion_any (cap a b : Nat) (d : Array Nat) (w : World) (C : Cm k bx w0 blk off n) (S : Pl w0 blk off n d w) (hab : a ≤ b) (hb : b ≤ n) (hn : n < 4611686018427387904) :
    Calls Try.prog 45 #[.slice (some ⟨blk, off, none⟩) n cap, .int .i64 a, .int .i64 b, .func (.func 35) #[] #[.pointer (some ⟨bx, 0, none⟩)]] w fun e w' =>
      e = .returned (.tuple #[]) ∧ Pl w0 blk off n (Sort.insertionSort (lt k) d a b) w' := by
  have HC := Lib.hid C
  have S0 := Lib.hid S
  have mixed := mixed
  clear S C
  go_enter Try.func45, Try.ntmps45
  go_wp2_with fail
  go_loopw [8] (fun v wr => ∃ (i : Nat) (dk : Array Nat), v = .int .i64 i ∧ a < i ∧ i ≤ b + 1 ∧ Hid (Pl w0 blk off n dk wr ∧ insOuter (lt k) a b i dk = insOuter (lt k) a b (a + 1) d)) (fun v wr => b + 1 - (RowKit.intOf v).toNat)
  case atStart => exact ⟨a + 1, d, by go_num, by omega, by omega, S0.out, rfl⟩
  case round =>
    obtain ⟨i, dk, rfl, hai, hib, H⟩ := hrel
    by_cases hlt : i < b
    · have hltz : (i : Int) < (b : Int) := by omega
      go_wp2_with fail
      go_loopw [9] (fun v wr2 => ∃ (j : Nat) (dj : Array Nat), v = .int .i64 j ∧ a ≤ j ∧ j ≤ i ∧ Hid (Pl w0 blk off n dj wr2 ∧ insInner (lt k) a j dj = insInner (lt k) a i dk)) (fun v wr2 => (RowKit.intOf v).toNat)
      case atStart => exact ⟨i, dk, rfl, by omega, Nat.le_refl _, H.out.1, rfl⟩
      case round =>
        obtain ⟨j, dj, rfl, haj, hji, HJ⟩ := hrel
        have OUT : Hid ((j ≤ a ∨ lt k dj[j]! dj[j - 1]! = false) → insOuter (lt k) a b (i + 1) dj = insOuter (lt k) a b (a + 1) d) := Lib.hid (fun hs => by
          rw [← H.out.2, insOuter_go _ _ _ _ _ hlt, ← HJ.out.2, insInner_stop _ _ _ _ hs])
        by_cases hja : a < j
        · have hjaz : (a : Int) < (j : Int) := by omega
          obtain ⟨jp, hjp⟩ : ∃ q, q + 1 = j := ⟨j - 1, by omega⟩
          have zjp : (j : Int) = (jp : Int) + 1 := by omega
          have hjad : decide ((jp : Int) + 1 > (a : Int)) = true := decide_eq_true (by omega)
          have hjaz' : (a : Int) < (jp : Int) + 1 := by omega
          obtain ⟨iN, hiN⟩ : ∃ q, q = j := ⟨_, rfl⟩
          obtain ⟨jN, hjN⟩ : ∃ q, q = j - 1 := ⟨_, rfl⟩
          have ea : ((jp : Int) + 1).toNat = iN := by omega
          have pa : (0 : Int) ≤ (jp : Int) + 1 := by omega
          have ba : (jp : Int) + 1 < (n : Int) := by omega
          have ra : IntKind.i64.wrap ((jp : Int) + 1) = (jp : Int) + 1 := by rw [IntKind.wrap_i64]; omega
          have ec : ((jp : Int)).toNat = jN := by omega
          have pc : (0 : Int) ≤ (jp : Int) := by omega
          have bc : (jp : Int) < (n : Int) := by omega
          have rc : IntKind.i64.wrap ((jp : Int)) = (jp : Int) := by rw [IntKind.wrap_i64]; omega
          have c1 := HJ.out.1.c1 iN (by omega)
          have c3 := HJ.out.1.c1 jN (by omega)
          have f1 := HJ.out.1.f1 iN (by omega)
          have f3 := HJ.out.1.f1 jN (by omega)
          have hc := HC.out.at HJ.out.1 iN jN (by omega) (by omega)
          cases hlv : lt k dj[iN]! dj[jN]! with
          | true =>
            have hv := cv_t hlv
            have hd : decide (cv (k dj[jN]!) (k dj[iN]!) < 0) = true := decide_eq_true hv
            obtain ⟨u, c2⟩ := HJ.out.1.c2 iN jN (by omega) (by omega) (en dj[jN]!)
            have HN := Lib.hid (show ∀ q, Pl w0 blk off n (swp dj iN jN) (((wr.drewN q).setCell ⟨blk, off + iN, none⟩ (en dj[jN]!)).setCell ⟨blk, off + jN, none⟩ (en dj[iN]!)).drew ∧ insInner (lt k) a jN (swp dj iN jN) = insInner (lt k) a i dk from fun q => 
              ⟨(HJ.out.1.drewN q).swapped iN jN (by omega) (by omega), by rw [← HJ.out.2, insInner_go (lt k) a j dj hja (by have := hlv; rw [hiN, hjN] at this; exact this), hiN, hjN]⟩)
            have JN := Lib.hid (show iN = j ∧ jN = j - 1 from ⟨hiN, hjN⟩)
            clear hlv HJ OUT
            unfold en at c1 c2 c3 HN
            clear hiN hjN
            generalize cv (k dj[jN]!) (k dj[iN]!) = z at hc hv hd
            generalize ((dj[iN]! : Nat) : Int) = zx at c1 c2 hc HN
            generalize ((dj[jN]! : Nat) : Int) = zy at c3 c2 hc HN
            go_wp2_with fail
            go_quiet ((go_at_call 35; exact Calls.quiet_of (hc _)))
            have c1' : (wr.drewN nq).cell? ⟨blk, off + iN, none⟩ = some (.int .i64 zx) := c1
            have c3' : (wr.drewN nq).cell? ⟨blk, off + jN, none⟩ = some (.int .i64 zy) := c3
            have f1' : (wr.drewN nq).frozen? ⟨blk, off + iN, none⟩ = false := f1
            have f3' : (wr.drewN nq).frozen? ⟨blk, off + jN, none⟩ = false := f3
            have c2' : ((wr.drewN nq).setCell ⟨blk, off + iN, none⟩ (.int .i64 zy)).cell? ⟨blk, off + jN, none⟩ = some u := c2
            have HM := Lib.hid (HN.out nq)
            clear c1 c3 f1 f3 c2 HN hc
            generalize wr.drewN nq = w2 at c1' c3' f1' f3' c2' HM ⊢
            clear nq
            go_wp2_with fail
            go_big_region_o
            clear c1' c3' f1' f3' c2'
            generalize ((w2.setCell ⟨blk, off + iN, none⟩ (.int .i64 zy)).setCell ⟨blk, off + jN, none⟩ (.int .i64 zx)).drew = w3 at HM ⊢
            have HP := Lib.hid (show jp = jN ∧ jN < j ∧ a ≤ jN ∧ jN ≤ i from by have := JN.out; omega)
            clear ea ec
            go_wp2_with fail
            exact ⟨⟨jN, swp dj iN jN, by rw [HP.out.1], HP.out.2.2.1, HP.out.2.2.2, HM⟩, by simp [RowKit.intOf]; have := HP.out; omega⟩
          | false =>
            have hv := cv_f hlv
            have hd : decide (cv (k dj[jN]!) (k dj[iN]!) < 0) = false := decide_eq_false hv
            have HO := Lib.hid (OUT.out (Or.inr (by rw [hiN, hjN] at hlv; exact hlv)))
            have HS := Lib.hid HJ.out.1
            clear hlv HJ OUT
            unfold en at c1 c3
            clear hiN hjN
            generalize cv (k dj[jN]!) (k dj[iN]!) = z at hc hv hd
            generalize ((dj[iN]! : Nat) : Int) = zx at c1 hc
            generalize ((dj[jN]! : Nat) : Int) = zy at c3 hc
            go_wp2_with fail
            go_quiet ((go_at_call 35; exact Calls.quiet_of (hc _)))
            clear c1 c3 f1 f3 hc ea ec
            go_wp2_with fail
            exact ⟨⟨i + 1, dj, by go_num, by omega, by omega, HS.out.drewN _, HO.out⟩, by simp [RowKit.intOf]; omega⟩
        · have hjaz : decide ((j : Int) > (a : Int)) = false := decide_eq_false (by omega)
          have hjaz' : ¬ (a : Int) < (j : Int) := by omega
          have HO := Lib.hid (OUT.out (Or.inl (by omega)))
          have HS := Lib.hid HJ.out.1
          clear HJ OUT
          go_wp2_with fail
          go_big_region_o
          go_wp2_with fail
          exact ⟨⟨i + 1, dj, by go_num, by omega, by omega, HS.out.drewN 1, HO.out⟩, by simp [RowKit.intOf]; omega⟩
    · have hltz : ¬ (i : Int) < (b : Int) := by omega
      go_wp2_with fail
      go_end0
      exact ⟨rfl, by unfold Sort.insertionSort; rw [← H.out.2, insOuter_stop _ _ _ _ _ hlt]; exact H.out.1⟩
end Go.Proofs.Ytinimjejdkcodaa
