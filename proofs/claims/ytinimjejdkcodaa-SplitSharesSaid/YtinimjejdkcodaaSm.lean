/- slices.symMergeCmpFunc on the row of places: two sorted parts become one. -/
import Derived.Test.YtinimjejdkcodaaSi
namespace Go.Proofs.Ytinimjejdkcodaa
open Go.RowKit Go.Shelf Go.Lib Go.Sort Ss
variable {w0 W : World} {blk off n bx : Nat} {dk : Array Nat} {k : Nat → Nat}

set_option maxHeartbeats 4000000 in
set_option maxRecDepth 1000000 in
/-- the first part is one place -/
theorem merge_left (cap a b : Nat) (d : Array Nat) (w : World) (C : Cm k bx w0 blk off n) (S : Pl w0 blk off n d w) (P : Pre k a (a + 1) b d) (hab : a + 1 < b) (hb : b ≤ n) (hn : n < 4611686018427387904) :
    Calls Try.prog 46 #[.slice (some ⟨blk, off, none⟩) n cap, .int .i64 a, .int .i64 ((a : Int) + 1), .int .i64 b, .func (.func 35) #[] #[.pointer (some ⟨bx, 0, none⟩)]] w fun e w' =>
      e = .returned (.tuple #[]) ∧ ∃ d', Post k a b d d' ∧ Pl w0 blk off n d' w' := by
  have HC := Lib.hid C
  have S0 := Lib.hid S
  have HP := Lib.hid P
  have mixed := mixed
  have e1 : (a : Int) + 1 - (a : Int) = 1 := by omega
  clear S C P
  go_enter Try.func46, Try.ntmps46
  go_wp2_with fail
  go_loopw [10, 11] (fun v u wr => ∃ i j : Nat, v = .int .i64 i ∧ u = .int .i64 j ∧ a + 1 ≤ i ∧ i ≤ j ∧ j ≤ b ∧ Hid (Pl w0 blk off n d wr ∧ (∀ h, a + 1 ≤ h → h < i → lt k d[h]! d[a]! = true) ∧ (∀ h, j ≤ h → h < b → lt k d[h]! d[a]! = false))) (fun v u wr => (RowKit.intOf u).toNat - (RowKit.intOf v).toNat)
  case atStart => exact ⟨a + 1, b, by go_num, rfl, Nat.le_refl _, by omega, Nat.le_refl _, S0.out, fun h h1 h2 => by omega, fun h h1 h2 => by omega⟩
  case round =>
    obtain ⟨i, j, rfl, rfl, hai, hij, hjb, H⟩ := hrel
    by_cases hlt : i < j
    · have hltz : (i : Int) < (j : Int) := by omega
      obtain ⟨hN, eh⟩ : ∃ q : Nat, q = (i + j) / 2 := ⟨_, rfl⟩
      have eh2 : ((i : Int) + (j : Int)) / 2 = (hN : Int) := by omega
      have h1 : i ≤ hN := by omega
      have h2 : hN < j := by omega
      clear eh
      have ba : (hN : Int) < (n : Int) := by omega
      have bc : (a : Int) < (n : Int) := by omega
      have c1 := H.out.1.c1 hN (by omega)
      have c3 := H.out.1.c1 a (by omega)
      have hc := HC.out.at H.out.1 hN a (by omega) (by omega)
      cases hlv : lt k d[hN]! d[a]! with
      | true =>
        have hv := cv_t hlv
        have hd : decide (cv (k d[a]!) (k d[hN]!) < 0) = true := decide_eq_true hv
        have HQ := Lib.hid (show (∀ h, a + 1 ≤ h → h < hN + 1 → lt k d[h]! d[a]! = true) ∧ (∀ h, j ≤ h → h < b → lt k d[h]! d[a]! = false) from
          ⟨fun h x1 x2 => HP.out.lt_mono (Nat.le_refl _) (Nat.le_refl _) (by omega) x1 (by omega) (by omega) hlv, H.out.2.2⟩)
        have HS := Lib.hid H.out.1
        clear hlv H
        unfold en at c1 c3
        generalize cv (k d[a]!) (k d[hN]!) = z at hc hv hd
        generalize ((d[hN]! : Nat) : Int) = zx at c1 hc
        generalize ((d[a]! : Nat) : Int) = zy at c3 hc
        go_wp2_with fail
        go_quiet ((go_at_call 35; exact Calls.quiet_of (hc _)))
        clear c1 c3 hc
        go_wp2_with fail
        exact ⟨⟨hN + 1, j, by go_num, rfl, by omega, by omega, hjb, HS.out.drewN _, HQ.out⟩, by simp [RowKit.intOf]; omega⟩
      | false =>
        have hv := cv_f hlv
        have hd : decide (cv (k d[a]!) (k d[hN]!) < 0) = false := decide_eq_false hv
        have HQ := Lib.hid (show (∀ h, a + 1 ≤ h → h < i → lt k d[h]! d[a]! = true) ∧ (∀ h, hN ≤ h → h < b → lt k d[h]! d[a]! = false) from
          ⟨H.out.2.1, fun h x1 x2 => by
            cases e : lt k d[h]! d[a]! with
            | false => rfl
            | true => exact absurd (HP.out.lt_mono (Nat.le_refl _) (Nat.le_refl _) (by omega) (show a + 1 ≤ hN by omega) x1 x2 e) (by rw [hlv]; decide)⟩)
        have HS := Lib.hid H.out.1
        clear hlv H
        unfold en at c1 c3
        generalize cv (k d[a]!) (k d[hN]!) = z at hc hv hd
        generalize ((d[hN]! : Nat) : Int) = zx at c1 hc
        generalize ((d[a]! : Nat) : Int) = zy at c3 hc
        go_wp2_with fail
        go_quiet ((go_at_call 35; exact Calls.quiet_of (hc _)))
        clear c1 c3 hc
        go_wp2_with fail
        exact ⟨⟨i, hN, rfl, rfl, hai, by omega, by omega, HS.out.drewN _, HQ.out⟩, by simp [RowKit.intOf]; omega⟩
    · have hltz : ¬ (i : Int) < (j : Int) := by omega
      obtain rfl : i = j := by omega
      have HR := Lib.hid (show (i < b → R k d[i]! d[a]! = false) ∧ (a + 1 < i → R k d[a]! d[i - 1]! = false) from
        ⟨fun x => HP.out.f (Nat.le_refl _) (by omega) hai x (H.out.2.2 i (Nat.le_refl _) x), fun x => HP.out.t (Nat.le_refl _) (by omega) (by omega) (by omega) (H.out.2.1 (i - 1) (by omega) (by omega))⟩)
      have HS := Lib.hid H.out.1
      clear H hltz
      obtain ⟨ip, rfl⟩ : ∃ q, i = q + 1 := ⟨i - 1, by omega⟩
      go_wp2_with fail
      go_loopw [13] (fun v wr => ∃ (c : Nat) (dk : Array Nat), v = .int .i64 c ∧ a ≤ c ∧ c ≤ ip ∧ Hid (Rot d a (a + 1) (c + 1) dk ∧ PermIn a b d dk ∧ Pl w0 blk off n dk wr)) (fun v wr => ip - (RowKit.intOf v).toNat)
      case atStart => exact ⟨a, d, rfl, Nat.le_refl _, by omega, Rot.none d (by omega) (by omega) (Or.inr rfl), permIn_refl _ _ _, HS.out⟩
      case round =>
        obtain ⟨c, dk, rfl, hac, hci, H⟩ := hrel
        by_cases hlt : c < ip
        · have hltz : (c : Int) < (ip : Int) := by omega
          obtain ⟨jN, hjN⟩ : ∃ q, q = c + 1 := ⟨_, rfl⟩
          have rc : IntKind.i64.wrap ((c : Int) + 1) = (jN : Int) := by rw [IntKind.wrap_i64]; omega
          have ba : (c : Int) < (n : Int) := by omega
          have bc : (jN : Int) < (n : Int) := by omega
          have c1 := H.out.2.2.c1 c (by omega)
          have c3 := H.out.2.2.c1 jN (by omega)
          have f1 := H.out.2.2.f1 c (by omega)
          have f3 := H.out.2.2.f1 jN (by omega)
          obtain ⟨u, c2⟩ := H.out.2.2.c2 c jN (by omega) (by omega) (en dk[jN]!)
          have HN := Lib.hid (show Rot d a (a + 1) (c + 1 + 1) (swp dk c jN) ∧ PermIn a b d (swp dk c jN) ∧ Pl w0 blk off n (swp dk c jN) ((wr.setCell ⟨blk, off + c, none⟩ (en dk[jN]!)).setCell ⟨blk, off + jN, none⟩ (en dk[c]!)).drew from
            ⟨by rw [hjN]; exact H.out.1.up (by omega) (by have := S0.out.2.2.1; omega), H.out.2.2.perm (by omega) (by omega) (by omega) (by omega) hb _ H.out.2.1, H.out.2.2.swapped c jN (by omega) (by omega)⟩)
          have J := Lib.hid hjN
          clear H hjN
          unfold en at c1 c2 c3 HN
          generalize ((dk[c]! : Nat) : Int) = zx at c1 c2 HN
          generalize ((dk[jN]! : Nat) : Int) = zy at c3 c2 HN
          go_wp2_with fail
          go_big_region_o
          clear c1 c3 c2 f1 f3
          generalize ((wr.setCell ⟨blk, off + c, none⟩ (.int .i64 zy)).setCell ⟨blk, off + jN, none⟩ (.int .i64 zx)).drew = w3 at HN ⊢
          go_wp2_with fail
          exact ⟨⟨c + 1, swp dk c jN, by rw [J.out], by omega, by omega, HN⟩, by simp [RowKit.intOf]; have := J.out; omega⟩
        · have hltz : ¬ (c : Int) < (ip : Int) := by omega
          obtain rfl : c = ip := by omega
          go_wp2_with fail
          (try simp only [Exit.inBlock, Exit.then])
          refine bodyPost_ret (results_none rfl _ _ _) rfl ?_
          exact ⟨rfl, dk, ⟨H.out.2.1, one_left HP.out hai hjb HR.out.1 HR.out.2 H.out.1⟩, H.out.2.2⟩

set_option maxHeartbeats 4000000 in
set_option maxRecDepth 1000000 in
/-- the second part is one place -/
theorem merge_right (cap a m : Nat) (d : Array Nat) (w : World) (C : Cm k bx w0 blk off n) (S : Pl w0 blk off n d w) (P : Pre k a m (m + 1) d) (ham : a + 1 < m) (hb : m + 1 ≤ n) (hn : n < 4611686018427387904) :
    Calls Try.prog 46 #[.slice (some ⟨blk, off, none⟩) n cap, .int .i64 a, .int .i64 m, .int .i64 ((m : Int) + 1), .func (.func 35) #[] #[.pointer (some ⟨bx, 0, none⟩)]] w fun e w' =>
      e = .returned (.tuple #[]) ∧ ∃ d', Post k a (m + 1) d d' ∧ Pl w0 blk off n d' w' := by
  have HC := Lib.hid C
  have S0 := Lib.hid S
  have HP := Lib.hid P
  have mixed := mixed
  have e1 : ((m : Int) - (a : Int) == 1) = false := by rw [beq_eq_false_iff_ne]; omega
  have e2 : (m : Int) + 1 - (m : Int) = 1 := by omega
  clear S C P
  go_enter Try.func46, Try.ntmps46
  go_wp2_with fail
  go_loopw [14, 15] (fun v u wr => ∃ i j : Nat, v = .int .i64 i ∧ u = .int .i64 j ∧ a ≤ i ∧ i ≤ j ∧ j ≤ m ∧ Hid (Pl w0 blk off n d wr ∧ (∀ h, a ≤ h → h < i → lt k d[m]! d[h]! = false) ∧ (∀ h, j ≤ h → h < m → lt k d[m]! d[h]! = true))) (fun v u wr => (RowKit.intOf u).toNat - (RowKit.intOf v).toNat)
  case atStart => exact ⟨a, m, rfl, rfl, Nat.le_refl _, by omega, Nat.le_refl _, S0.out, fun h h1 h2 => by omega, fun h h1 h2 => by omega⟩
  case round =>
    obtain ⟨i, j, rfl, rfl, hai, hij, hjb, H⟩ := hrel
    by_cases hlt : i < j
    · have hltz : (i : Int) < (j : Int) := by omega
      obtain ⟨hN, eh⟩ : ∃ q : Nat, q = (i + j) / 2 := ⟨_, rfl⟩
      have eh2 : ((i : Int) + (j : Int)) / 2 = (hN : Int) := by omega
      have h1 : i ≤ hN := by omega
      have h2 : hN < j := by omega
      clear eh
      have ba : (hN : Int) < (n : Int) := by omega
      have bc : (m : Int) < (n : Int) := by omega
      have c1 := H.out.1.c1 hN (by omega)
      have c3 := H.out.1.c1 m (by omega)
      have hc := HC.out.at H.out.1 m hN (by omega) (by omega)
      cases hlv : lt k d[m]! d[hN]! with
      | true =>
        have hv := cv_t hlv
        have hd : decide (cv (k d[hN]!) (k d[m]!) < 0) = true := decide_eq_true hv
        have HQ := Lib.hid (show (∀ h, a ≤ h → h < i → lt k d[m]! d[h]! = false) ∧ (∀ h, hN ≤ h → h < m → lt k d[m]! d[h]! = true) from
          ⟨H.out.2.1, fun h x1 x2 => HP.out.lt_mono (show a ≤ hN by omega) x1 x2 (Nat.le_refl _) (Nat.le_refl _) (by omega) hlv⟩)
        have HS := Lib.hid H.out.1
        clear hlv H
        unfold en at c1 c3
        generalize cv (k d[hN]!) (k d[m]!) = z at hc hv hd
        generalize ((d[hN]! : Nat) : Int) = zx at c1 hc
        generalize ((d[m]! : Nat) : Int) = zy at c3 hc
        go_wp2_with fail
        go_quiet ((go_at_call 35; exact Calls.quiet_of (hc _)))
        clear c1 c3 hc
        go_wp2_with fail
        exact ⟨⟨i, hN, rfl, rfl, hai, by omega, by omega, HS.out.drewN _, HQ.out⟩, by simp [RowKit.intOf]; omega⟩
      | false =>
        have hv := cv_f hlv
        have hd : decide (cv (k d[hN]!) (k d[m]!) < 0) = false := decide_eq_false hv
        have HQ := Lib.hid (show (∀ h, a ≤ h → h < hN + 1 → lt k d[m]! d[h]! = false) ∧ (∀ h, j ≤ h → h < m → lt k d[m]! d[h]! = true) from
          ⟨fun h x1 x2 => by
            cases e : lt k d[m]! d[h]! with
            | false => rfl
            | true => exact absurd (HP.out.lt_mono x1 (show h ≤ hN by omega) (by omega) (Nat.le_refl _) (Nat.le_refl _) (by omega) e) (by rw [hlv]; decide), H.out.2.2⟩)
        have HS := Lib.hid H.out.1
        clear hlv H
        unfold en at c1 c3
        generalize cv (k d[hN]!) (k d[m]!) = z at hc hv hd
        generalize ((d[hN]! : Nat) : Int) = zx at c1 hc
        generalize ((d[m]! : Nat) : Int) = zy at c3 hc
        go_wp2_with fail
        go_quiet ((go_at_call 35; exact Calls.quiet_of (hc _)))
        clear c1 c3 hc
        go_wp2_with fail
        exact ⟨⟨hN + 1, j, by go_num, rfl, by omega, by omega, hjb, HS.out.drewN _, HQ.out⟩, by simp [RowKit.intOf]; omega⟩
    · have hltz : ¬ (i : Int) < (j : Int) := by omega
      obtain rfl : i = j := by omega
      have HR := Lib.hid (show (a < i → R k d[m]! d[i - 1]! = false) ∧ (i < m → R k d[i]! d[m]! = false) from
        ⟨fun x => HP.out.f (by omega) (by omega) (Nat.le_refl _) (by omega) (H.out.2.1 (i - 1) (by omega) (by omega)), fun x => HP.out.t (by omega) x (Nat.le_refl _) (by omega) (H.out.2.2 i (Nat.le_refl _) x)⟩)
      have HS := Lib.hid H.out.1
      clear H hltz
      go_wp2_with fail
      go_loopw [17] (fun v wr => ∃ (c : Nat) (dk : Array Nat), v = .int .i64 c ∧ i ≤ c ∧ c ≤ m ∧ Hid (Rot d c m (m + 1) dk ∧ PermIn a (m + 1) d dk ∧ Pl w0 blk off n dk wr)) (fun v wr => (RowKit.intOf v).toNat)
      case atStart => exact ⟨m, d, rfl, hjb, Nat.le_refl _, Rot.none d (by omega) (by omega) (Or.inl rfl), permIn_refl _ _ _, HS.out⟩
      case round =>
        obtain ⟨c, dk, rfl, hac, hci, H⟩ := hrel
        by_cases hlt : i < c
        · have hltz : (i : Int) < (c : Int) := by omega
          obtain ⟨jN, hjN⟩ : ∃ q, q = c - 1 := ⟨_, rfl⟩
          have rd : (c : Int) - 1 = (jN : Int) := by omega
          have ba : (c : Int) < (n : Int) := by omega
          have bc : (jN : Int) < (n : Int) := by omega
          have c1 := H.out.2.2.c1 c (by omega)
          have c3 := H.out.2.2.c1 jN (by omega)
          have f1 := H.out.2.2.f1 c (by omega)
          have f3 := H.out.2.2.f1 jN (by omega)
          obtain ⟨u, c2⟩ := H.out.2.2.c2 c jN (by omega) (by omega) (en dk[jN]!)
          have HN := Lib.hid (show Rot d jN m (m + 1) (swp dk c jN) ∧ PermIn a (m + 1) d (swp dk c jN) ∧ Pl w0 blk off n (swp dk c jN) ((wr.setCell ⟨blk, off + c, none⟩ (en dk[jN]!)).setCell ⟨blk, off + jN, none⟩ (en dk[c]!)).drew from
            ⟨H.out.1.down_le hci jN (by omega) (by have := S0.out.2.2.1; omega), H.out.2.2.perm (by omega) (by omega) (by omega) (by omega) hb _ H.out.2.1, H.out.2.2.swapped c jN (by omega) (by omega)⟩)
          have J := Lib.hid (show i ≤ jN ∧ jN ≤ m ∧ jN < c from by omega)
          clear H hjN
          unfold en at c1 c2 c3 HN
          generalize ((dk[c]! : Nat) : Int) = zx at c1 c2 HN
          generalize ((dk[jN]! : Nat) : Int) = zy at c3 c2 HN
          go_wp2_with fail
          go_big_region_o
          clear c1 c3 c2 f1 f3
          generalize ((wr.setCell ⟨blk, off + c, none⟩ (.int .i64 zy)).setCell ⟨blk, off + jN, none⟩ (.int .i64 zx)).drew = w3 at HN ⊢
          go_wp2_with fail
          exact ⟨⟨jN, swp dk c jN, rfl, J.out.1, J.out.2.1, HN⟩, by simp [RowKit.intOf]; have := J.out; omega⟩
        · have hltz : ¬ (i : Int) < (c : Int) := by omega
          obtain rfl : c = i := by omega
          go_wp2_with fail
          (try simp only [Exit.inBlock, Exit.then])
          refine bodyPost_ret (results_none rfl _ _ _) rfl ?_
          exact ⟨rfl, dk, ⟨H.out.2.1, one_right HP.out hai hjb HR.out.1 HR.out.2 H.out.1⟩, H.out.2.2⟩
end Go.Proofs.Ytinimjejdkcodaa
