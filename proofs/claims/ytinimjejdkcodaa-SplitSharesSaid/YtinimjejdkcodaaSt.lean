/- slices.SortStableFunc on the row of places: blocks of twenty, then merges. -/
import Derived.Test.YtinimjejdkcodaaSg
namespace Go.Proofs.Ytinimjejdkcodaa
open Go.RowKit Go.Shelf Go.Lib Go.Sort Ss
variable {w0 W : World} {blk off n bx : Nat} {dk : Array Nat} {k : Nat → Nat}

theorem merge_all (cap : Nat) (C : Cm k bx w0 blk off n) (hn : n < 4611686018427387904) : ∀ s, MergeIH k bx w0 blk off n cap s
  | 0 => fun a m b d w h => absurd h (Nat.not_lt_zero _)
  | s + 1 => fun a m b d w h S P ham hmb hb => by
    by_cases h1 : m = a + 1
    · subst h1
      rw [show (((a + 1 : Nat) : Int)) = (a : Int) + 1 by omega]
      exact merge_left cap a b d w C S P hmb hb hn
    · by_cases h2 : b = m + 1
      · subst h2
        rw [show (((m + 1 : Nat) : Int)) = (m : Int) + 1 by omega]
        exact merge_right cap a m d w C S P (by omega) hb hn
      · exact merge_step cap a m b d w C (fun a' m' b' d' w' h' => merge_all cap C hn s a' m' b' d' w' (by omega)) S P (by omega) (by omega) hb hn
theorem merge_z (cap a m b : Nat) (za zm zb : Int) (d : Array Nat) (w : World) (C : Cm k bx w0 blk off n) (S : Pl w0 blk off n d w) (P : Pre k a m b d) (ham : a < m) (hmb : m < b) (hb : b ≤ n) (hn : n < 4611686018427387904) (ea : za = a) (em : zm = m) (eb : zb = b) :
    Calls Try.prog 46 #[.slice (some ⟨blk, off, none⟩) n cap, .int .i64 za, .int .i64 zm, .int .i64 zb, .func (.func 35) #[] #[.pointer (some ⟨bx, 0, none⟩)]] w fun e w' =>
      e = .returned (.tuple #[]) ∧ ∃ d', Post k a b d d' ∧ Pl w0 blk off n d' w' := by
  subst ea em eb; exact merge_all cap C hn (b - a + 1) a m b d w (by omega) S P ham hmb hb
theorem insertion_z (cap a b : Nat) (za zb : Int) (d : Array Nat) (w : World) (C : Cm k bx w0 blk off n) (S : Pl w0 blk off n d w) (hab : a ≤ b) (hb : b ≤ n) (hn : n < 4611686018427387904) (ea : za = a) (eb : zb = b) :
    Calls Try.prog 45 #[.slice (some ⟨blk, off, none⟩) n cap, .int .i64 za, .int .i64 zb, .func (.func 35) #[] #[.pointer (some ⟨bx, 0, none⟩)]] w fun e w' =>
      e = .returned (.tuple #[]) ∧ Pl w0 blk off n (Sort.insertionSort (lt k) d a b) w' := by
  subst ea eb; exact insertion_any cap a b d w C S hab hb hn

set_option maxHeartbeats 4000000 in
set_option maxRecDepth 1000000 in
theorem stable_any (cap : Nat) (d : Array Nat) (w : World) (C : Cm k bx w0 blk off n) (S : Pl w0 blk off n d w) (hd : ∀ p, p < n → d[p]! = p) (hn : n ≤ 1000000) :
    Calls Try.prog 41 #[.slice (some ⟨blk, off, none⟩) n cap, .int .i64 n, .func (.func 35) #[] #[.pointer (some ⟨bx, 0, none⟩)]] w fun e w' =>
      e = .returned (.tuple #[]) ∧ ∃ d', PermIn 0 n d d' ∧ Run k 0 n d' ∧ Pl w0 blk off n d' w' := by
  have HC := Lib.hid C
  have S0 := Lib.hid S
  have HD := Lib.hid hd
  clear S C hd
  go_enter Try.func41, Try.ntmps41
  go_wp2_with fail
  go_loopw [7, 8] (fun v u wr => ∃ (A : Nat) (dk : Array Nat), v = .int .i64 A ∧ u = .int .i64 ((A : Int) + 20) ∧ A ≤ n ∧ Hid (∃ t, A = t * 20 ∧ Runs k n 20 0 (t * 20) dk ∧ PermIn 0 n d dk ∧ (∀ p, A ≤ p → p < n → dk[p]! = p) ∧ Pl w0 blk off n dk wr)) (fun v u wr => n + 20 - (RowKit.intOf v).toNat)
  case atStart => exact ⟨0, d, by go_num, by go_num, Nat.zero_le _, 0, rfl, fun j x1 x2 => by omega, permIn_refl _ _ _, fun p _ => HD.out p, S0.out⟩
  case round =>
    obtain ⟨A, dk, rfl, rfl, hA, H⟩ := hrel
    by_cases hlt : A + 20 ≤ n
    · have hltz : (A : Int) + 20 ≤ (n : Int) := by omega
      go_wp2_with fail
      have HS := Lib.hid (show Pl w0 blk off n dk wr from by obtain ⟨t, h⟩ := H.out; exact h.2.2.2.2)
      refine (insertion_z cap A (A + 20) _ _ dk _ HC.out HS.out (by omega) hlt (by omega) (by omega) (by omega)).mono ?_
      rintro e w1 ⟨rfl, s1⟩
      have HN := Lib.hid (show ∃ d1, ∃ t, A + 20 = t * 20 ∧ Runs k n 20 0 (t * 20) d1 ∧ PermIn 0 n d d1 ∧ (∀ p, A + 20 ≤ p → p < n → d1[p]! = p) ∧ Pl w0 blk off n d1 w1 from by
        obtain ⟨t, h1, h2, h3, h4, h5⟩ := H.out
        subst h1
        have sz := h5.2.2.1
        obtain ⟨r1, r2⟩ := Run.start (k := k) (a := t * 20) (b := t * 20 + 20) (d := dk) (by omega) (by omega) (fun p x1 x2 => h4 p x1 (by omega)) rfl
        refine ⟨_, t + 1, by omega, ?_, permIn_trans _ _ _ _ _ h3 (permIn_mono dk _ (t * 20) (t * 20 + 20) 0 n (Nat.zero_le _) hlt (by omega) r2), fun p x1 x2 => by rw [r2.2.1 p (Or.inr (by omega))]; exact h4 p (by omega) x2, s1⟩
        rw [Nat.add_mul, Nat.one_mul]
        exact Runs.grow (by decide) h2 hlt r2 r1)
      clear s1 HS H
      obtain ⟨d1, HN⟩ : ∃ d1, Hid (∃ t, A + 20 = t * 20 ∧ Runs k n 20 0 (t * 20) d1 ∧ PermIn 0 n d d1 ∧ (∀ p, A + 20 ≤ p → p < n → d1[p]! = p) ∧ Pl w0 blk off n d1 w1) := HN.out
      go_wp2_with fail
      exact ⟨⟨A + 20, d1, by go_num, by go_num, hlt, HN⟩, by simp [RowKit.intOf]; omega⟩
    · have hltz : ¬ (A : Int) + 20 ≤ (n : Int) := by omega
      go_wp2_with fail
      have HS := Lib.hid (show Pl w0 blk off n dk wr from by obtain ⟨t, h⟩ := H.out; exact h.2.2.2.2)
      refine (insertion_z cap A n _ _ dk _ HC.out HS.out hA (Nat.le_refl _) (by omega) (by omega) (by omega)).mono ?_
      rintro e w1 ⟨rfl, s1⟩
      have HN := Lib.hid (show ∃ d1, Runs k n 20 0 n d1 ∧ PermIn 0 n d d1 ∧ Pl w0 blk off n d1 w1 from by
        obtain ⟨t, h1, h2, h3, h4, h5⟩ := H.out
        subst h1
        have sz := h5.2.2.1
        obtain ⟨r1, r2⟩ := Run.start (k := k) (a := t * 20) (b := n) (d := dk) hA (by omega) (fun p x1 x2 => h4 p x1 x2) rfl
        exact ⟨_, Runs.last (by decide) h2 (by omega) hA r2 r1, permIn_trans _ _ _ _ _ h3 (permIn_mono dk _ (t * 20) n 0 n (Nat.zero_le _) (Nat.le_refl _) (by omega) r2), s1⟩)
      clear s1 HS H
      obtain ⟨d1, HN⟩ : ∃ d1, Hid (Runs k n 20 0 n d1 ∧ PermIn 0 n d d1 ∧ Pl w0 blk off n d1 w1) := HN.out
      clear hltz hlt
      go_wp2_with fail
      go_loopw [6] (fun v wr => ∃ (B : Nat) (dk : Array Nat), v = .int .i64 B ∧ 0 < B ∧ Hid (Runs k n B 0 n dk ∧ PermIn 0 n d dk ∧ Pl w0 blk off n dk wr)) (fun v wr => n - (RowKit.intOf v).toNat)
      case atStart => exact ⟨20, d1, by go_num, by decide, HN.out⟩
      case round =>
        obtain ⟨B, dk, rfl, hB, H⟩ := hrel
        by_cases hlt : B < n
        · have hltz : (B : Int) < (n : Int) := by omega
          go_wp2_with fail
          go_loopw [7, 8] (fun v u wr => ∃ (A : Nat) (dk : Array Nat), v = .int .i64 A ∧ u = .int .i64 ((A : Int) + 2 * (B : Int)) ∧ A ≤ n ∧ Hid (∃ t, A = t * (2 * B) ∧ Runs k n (2 * B) 0 (t * (2 * B)) dk ∧ Runs k n B (t * (2 * B)) n dk ∧ PermIn 0 n d dk ∧ Pl w0 blk off n dk wr)) (fun v u wr => n + 2 * B - (RowKit.intOf v).toNat)
          case atStart => exact ⟨0, dk, by go_num, by go_num, Nat.zero_le _, 0, by omega, fun j x1 x2 => by omega, by rw [Nat.zero_mul]; exact H.out.1, H.out.2.1, H.out.2.2⟩
          case round =>
            clear H HN
            obtain ⟨A, dk, rfl, rfl, hA, H⟩ := hrel
            by_cases hlt2 : A + 2 * B ≤ n
            · have hltz2 : (A : Int) + 2 * (B : Int) ≤ (n : Int) := by omega
              have HS := Lib.hid (show Pl w0 blk off n dk wr ∧ Run k A (A + B) dk ∧ Run k (A + B) (A + 2 * B) dk from by
                obtain ⟨t, h1, h2, h3, h4, h5⟩ := H.out
                subst h1
                exact ⟨h5, h3.pair hB hlt2⟩)
              go_wp2_with fail
              refine (merge_z cap A (A + B) (A + 2 * B) _ _ _ dk _ HC.out HS.out.1 (HS.out.2.1.pre HS.out.2.2) (by omega) (by omega) hlt2 (by omega) (by omega) (by omega) (by omega)).mono ?_
              rintro e w1 ⟨rfl, d1, p1, s1⟩
              have HN := Lib.hid (show ∃ t, A + 2 * B = t * (2 * B) ∧ Runs k n (2 * B) 0 (t * (2 * B)) d1 ∧ Runs k n B (t * (2 * B)) n d1 ∧ PermIn 0 n d d1 ∧ Pl w0 blk off n d1 w1 from by
                obtain ⟨t, h1, h2, h3, h4, h5⟩ := H.out
                have sz := h5.2.2.1
                have r := HS.out.2.1.merged (by omega) (by omega) (by omega) HS.out.2.2 p1
                subst h1
                refine ⟨t + 1, by rw [Nat.add_mul, Nat.one_mul], ?_, ?_, permIn_trans _ _ _ _ _ h4 (permIn_mono dk _ _ _ 0 n (Nat.zero_le _) hlt2 (by omega) p1.1), s1⟩
                · rw [Nat.add_mul, Nat.one_mul]; exact h2.grow (by omega) hlt2 p1.1 r
                · rw [Nat.add_mul, Nat.one_mul]; exact h3.weaken (by omega) p1.1)
              clear p1 s1 HS H
              go_wp2_with fail
              exact ⟨⟨A + 2 * B, d1, by go_num, by first | go_num | (congr 1; omega), hlt2, HN⟩, by simp [RowKit.intOf]; omega⟩
            · have hltz2 : ¬ (A : Int) + 2 * (B : Int) ≤ (n : Int) := by omega
              by_cases hlt3 : A + B < n
              · have hltz3 : (A : Int) + (B : Int) < (n : Int) := by omega
                have HS := Lib.hid (show Pl w0 blk off n dk wr ∧ Run k A (A + B) dk ∧ Run k (A + B) n dk from by
                  obtain ⟨t, h1, h2, h3, h4, h5⟩ := H.out
                  subst h1
                  exact ⟨h5, h3.rest hB (by omega) hlt3⟩)
                go_wp2_with fail
                refine (merge_z cap A (A + B) n _ _ _ dk _ HC.out HS.out.1 (HS.out.2.1.pre HS.out.2.2) (by omega) hlt3 (Nat.le_refl _) (by omega) (by omega) (by omega) (by omega)).mono ?_
                rintro e w1 ⟨rfl, d1, p1, s1⟩
                have HN := Lib.hid (show Runs k n (2 * B) 0 n d1 ∧ PermIn 0 n d d1 ∧ Pl w0 blk off n d1 w1 from by
                  obtain ⟨t, h1, h2, h3, h4, h5⟩ := H.out
                  have sz := h5.2.2.1
                  have r := HS.out.2.1.merged (by omega) (by omega) (by omega) HS.out.2.2 p1
                  subst h1
                  exact ⟨h2.last (by omega) (by omega) hA p1.1 r, permIn_trans _ _ _ _ _ h4 (permIn_mono dk _ _ _ 0 n (Nat.zero_le _) (Nat.le_refl _) (by omega) p1.1), s1⟩)
                clear p1 s1 HS H
                go_wp2_with fail
                exact ⟨⟨2 * B, d1, by first | go_num | (congr 1; omega), by omega, HN⟩, by simp [RowKit.intOf]; omega⟩
              · have hltz3 : ¬ (A : Int) + (B : Int) < (n : Int) := by omega
                have HN := Lib.hid (show Runs k n (2 * B) 0 n dk ∧ PermIn 0 n d dk ∧ Pl w0 blk off n dk wr from by
                  obtain ⟨t, h1, h2, h3, h4, h5⟩ := H.out
                  subst h1
                  refine ⟨h2.last (by omega) (by omega) hA (permIn_refl _ _ _) ?_, h4, h5⟩
                  rcases Nat.lt_or_ge (t * (2 * B)) n with x | x
                  · exact h3.alone hB (by omega) x
                  · exact Run.empty x)
                clear H
                go_wp2_with fail
                exact ⟨⟨2 * B, dk, by first | go_num | (congr 1; omega), by omega, HN⟩, by simp [RowKit.intOf]; omega⟩
        · have hltz : ¬ (B : Int) < (n : Int) := by omega
          go_wp2_with fail
          go_end0
          exact ⟨rfl, dk, H.out.2.1, H.out.1.all (by omega), H.out.2.2⟩

theorem sortStable_any (cap : Nat) (d : Array Nat) (w : World) (C : Cm k bx w0 blk off n) (S : Pl w0 blk off n d w) (hd : ∀ p, p < n → d[p]! = p) (hn : n ≤ 1000000) :
    Calls Try.prog 34 #[.slice (some ⟨blk, off, none⟩) n cap, .func (.func 35) #[] #[.pointer (some ⟨bx, 0, none⟩)]] w fun e w' =>
      e = .returned (.tuple #[]) ∧ ∃ d', PermIn 0 n d d' ∧ Run k 0 n d' ∧ Pl w0 blk off n d' w' := by
  have H := Lib.hid (stable_any cap d w C S hd hn)
  clear C S hd
  go_enter Try.func34, Try.ntmps34
  go_wp2_with fail
  refine H.out.mono ?_
  rintro e w1 ⟨rfl, d1, h1, h2, h3⟩
  go_wp2_with fail
  go_end0
  exact ⟨rfl, d1, h1, h2, h3⟩
end Go.Proofs.Ytinimjejdkcodaa
