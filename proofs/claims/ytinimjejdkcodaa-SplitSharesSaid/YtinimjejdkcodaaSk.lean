/- The row of places that is sorted, and what exchanges in it come to: slices.swapRangeCmpFunc, slices.rotateCmpFunc. -/
import Derived.Test.YtinimjejdkcodaaSc
import Derived.Sort.WalkA
import Derived.Sort.WalkB2
import Derived.Sort.WalkB12
import Derived.Deep.LoopGhost
namespace Go.Proofs.Ytinimjejdkcodaa
open Go.RowKit Go.Shelf Go.Lib Go.Sort Ss

def en (x : Nat) : Value := .int .i64 x
theorem en_one : OneCell en := fun _ => rfl
theorem mixed : Try.prog.follows Departure.mixedOrders = true := by kernel_rfl

/-- W is a world of the sort's, begun at w0: the row of n places at blk, off holds dk -/
def Pl (w0 : World) (blk off n : Nat) (dk : Array Nat) (W : World) : Prop :=
  (∃ d0 : Array Nat, d0.size = n ∧ Row1 en w0 blk off d0) ∧ SW en w0 blk off dk W ∧ dk.size = n ∧ ∀ p, p < n → dk[p]! < n
variable {w0 W : World} {blk off n : Nat} {dk : Array Nat}
theorem Pl.c1 (h : Pl w0 blk off n dk W) (i : Nat) (hi : i < n) : W.cell? ⟨blk, off + i, none⟩ = some (en dk[i]!) := by
  obtain ⟨⟨d0, z0, R⟩, S, z, _⟩ := h
  exact S.c1 R (by omega) i (by omega)
theorem Pl.f1 (h : Pl w0 blk off n dk W) (i : Nat) (hi : i < n) : W.frozen? ⟨blk, off + i, none⟩ = false := by
  obtain ⟨⟨d0, z0, R⟩, S, z, _⟩ := h
  exact S.f1 R (by omega) i (by omega)
theorem Pl.c2 (h : Pl w0 blk off n dk W) (i j : Nat) (hi : i < n) (hj : j < n) (v : Value) : ∃ u, (W.setCell ⟨blk, off + i, none⟩ v).cell? ⟨blk, off + j, none⟩ = some u := by
  obtain ⟨⟨d0, z0, R⟩, S, z, _⟩ := h
  exact S.c2 R (by omega) i j (by omega) (by omega) v
theorem Pl.drewN (h : Pl w0 blk off n dk W) (q : Nat) : Pl w0 blk off n dk (W.drewN q) := ⟨h.1, h.2.1.drewN q, h.2.2⟩
theorem Pl.swapped (h : Pl w0 blk off n dk W) (i j : Nat) (hi : i < n) (hj : j < n) : Pl w0 blk off n (swp dk i j) ((W.setCell ⟨blk, off + i, none⟩ (en dk[j]!)).setCell ⟨blk, off + j, none⟩ (en dk[i]!)).drew := by
  obtain ⟨⟨d0, z0, R⟩, S, z, b⟩ := h
  refine ⟨⟨d0, z0, R⟩, S.swapped R i j (by omega) (by omega), by rw [size_swp]; exact z, fun p hp => ?_⟩
  rw [swp_get dk (by omega) (by omega)]
  split
  · exact b _ hi
  · split
    · exact b _ hj
    · exact b _ hp
theorem Pl.perm {d : Array Nat} (h : Pl w0 blk off n d W) {a b i j : Nat} (hi : a ≤ i) (hi2 : i < b) (hj : a ≤ j) (hj2 : j < b) (hb : b ≤ n) (e : Array Nat) (hp : PermIn a b e d) : PermIn a b e (swp d i j) :=
  permIn_trans _ _ _ _ _ hp (swp_permIn d a b i j hi hi2 hj hj2 (by rw [h.2.2.1]; exact hb))

set_option maxHeartbeats 4000000 in
set_option maxRecDepth 1000000 in
theorem swapRange_any (cap a b m : Nat) (d : Array Nat) (w : World) (fv : Value) (S : Pl w0 blk off n d w) (hab : a + m ≤ b) (hb : b + m ≤ n) (hn : n < 4611686018427387904) :
    Calls Try.prog 48 #[.slice (some ⟨blk, off, none⟩) n cap, .int .i64 a, .int .i64 b, .int .i64 m, fv] w fun e w' =>
      e = .returned (.tuple #[]) ∧ ∃ d', Swr d a b m d' ∧ PermIn a (b + m) d d' ∧ Pl w0 blk off n d' w' := by
  have S0 := Lib.hid S
  clear S
  have mixed := mixed
  go_enter Try.func48, Try.ntmps48
  go_wp2_with fail
  go_loopw [10] (fun v wr => ∃ (i : Nat) (dk : Array Nat), v = .int .i64 i ∧ i ≤ m ∧ Hid (Swr d a b i dk ∧ PermIn a (b + m) d dk ∧ Pl w0 blk off n dk wr)) (fun v wr => m - (RowKit.intOf v).toNat)
  case atStart => exact ⟨0, d, rfl, Nat.zero_le _, Swr.zero d a b, permIn_refl _ _ _, S0.out⟩
  case round =>
    obtain ⟨i, dk, rfl, him, H⟩ := hrel
    by_cases hlt : i < m
    · have hltz : (i : Int) < (m : Int) := by omega
      obtain ⟨iN, hiN⟩ : ∃ q, q = a + i := ⟨_, rfl⟩
      obtain ⟨jN, hjN⟩ : ∃ q, q = b + i := ⟨_, rfl⟩
      have ra : IntKind.i64.wrap ((a : Int) + (i : Int)) = (iN : Int) := by rw [IntKind.wrap_i64]; omega
      have rc : IntKind.i64.wrap ((b : Int) + (i : Int)) = (jN : Int) := by rw [IntKind.wrap_i64]; omega
      have ba : (iN : Int) < (n : Int) := by omega
      have bc : (jN : Int) < (n : Int) := by omega
      obtain ⟨x, hx⟩ : ∃ x, x = en dk[iN]! := ⟨_, rfl⟩
      obtain ⟨y, hy⟩ : ∃ x, x = en dk[jN]! := ⟨_, rfl⟩
      have S3 : Pl w0 blk off n (swp dk iN jN) ((wr.setCell ⟨blk, off + iN, none⟩ y).setCell ⟨blk, off + jN, none⟩ x).drew := by rw [hx, hy]; exact H.out.2.2.swapped iN jN (by omega) (by omega)
      have c1 := H.out.2.2.c1 iN (by omega)
      have c3 := H.out.2.2.c1 jN (by omega)
      have f1 := H.out.2.2.f1 iN (by omega)
      have f3 := H.out.2.2.f1 jN (by omega)
      obtain ⟨u, c2⟩ := H.out.2.2.c2 iN jN (by omega) (by omega) y
      rw [← hx] at c1
      rw [← hy] at c3
      have HN := Lib.hid (show Swr d a b (i + 1) (swp dk iN jN) ∧ PermIn a (b + m) d (swp dk iN jN) ∧ Pl w0 blk off n (swp dk iN jN) ((wr.setCell ⟨blk, off + iN, none⟩ y).setCell ⟨blk, off + jN, none⟩ x).drew from
        ⟨by rw [hiN, hjN]; exact H.out.1.succ (by omega) (by have := H.out.1.1; have := S0.out.2.2.1; omega), H.out.2.2.perm (by omega) (by omega) (by omega) (by omega) hb _ H.out.2.1, S3⟩)
      have x1 : x = .int .i64 (dk[iN]! : Nat) := hx
      have y1 : y = .int .i64 (dk[jN]! : Nat) := hy
      clear S3 hx hy hiN hjN H
      generalize (dk[iN]! : Int) = zx at x1
      generalize (dk[jN]! : Int) = zy at y1
      subst x1 y1
      go_wp2_with fail
      go_big_region_o
      clear c1 c3 c2 f1 f3
      generalize ((wr.setCell ⟨blk, off + iN, none⟩ (.int .i64 zy)).setCell ⟨blk, off + jN, none⟩ (.int .i64 zx)).drew = w3 at HN ⊢
      go_wp2_with fail
      exact ⟨⟨i + 1, swp dk iN jN, by go_num, by omega, HN⟩, by simp [RowKit.intOf]; omega⟩
    · have : ¬ (i : Int) < (m : Int) := by omega
      go_wp2_with fail
      obtain rfl : i = m := by omega
      go_end0
      exact ⟨rfl, dk, H.out⟩

theorem swapRange_z (cap a b m : Nat) (za zb zm : Int) (d : Array Nat) (w : World) (fv : Value) (S : Pl w0 blk off n d w) (hab : a + m ≤ b) (hb : b + m ≤ n) (hn : n < 4611686018427387904) (ea : za = a) (eb : zb = b) (em : zm = m) :
    Calls Try.prog 48 #[.slice (some ⟨blk, off, none⟩) n cap, .int .i64 za, .int .i64 zb, .int .i64 zm, fv] w fun e w' =>
      e = .returned (.tuple #[]) ∧ ∃ d', Swr d a b m d' ∧ PermIn a (b + m) d d' ∧ Pl w0 blk off n d' w' := by
  subst ea eb em; exact swapRange_any cap a b m d w fv S hab hb hn

set_option maxHeartbeats 4000000 in
set_option maxRecDepth 1000000 in
theorem rotate_any (cap a m b : Nat) (d : Array Nat) (w : World) (fv : Value) (S : Pl w0 blk off n d w) (ham : a < m) (hmb : m < b) (hb : b ≤ n) (hn : n < 4611686018427387904) :
    Calls Try.prog 47 #[.slice (some ⟨blk, off, none⟩) n cap, .int .i64 a, .int .i64 m, .int .i64 b, fv] w fun e w' =>
      e = .returned (.tuple #[]) ∧ ∃ d', Rot d a m b d' ∧ PermIn a b d d' ∧ Pl w0 blk off n d' w' := by
  have S0 := Lib.hid S
  clear S
  go_enter Try.func47, Try.ntmps47
  go_wp2_with fail
  go_loopw [10, 11] (fun v u wr => ∃ (i j : Nat) (dk : Array Nat), v = .int .i64 i ∧ u = .int .i64 j ∧ 0 < i ∧ 0 < j ∧ a + i ≤ m ∧ m + j ≤ b ∧ Hid ((∀ e, Rot dk (m - i) m (m + j) e → Rot d a m b e) ∧ PermIn a b d dk ∧ Pl w0 blk off n dk wr)) (fun v u wr => (RowKit.intOf v).toNat + (RowKit.intOf u).toNat)
  case atStart => exact ⟨m - a, b - m, d, by go_num, by go_num, by omega, by omega, by omega, by omega, fun e he => by rwa [show m - (m - a) = a by omega, show m + (b - m) = b by omega] at he, permIn_refl _ _ _, S0.out⟩
  case round =>
    obtain ⟨i, j, dk, rfl, rfl, hi0, hj0, him, hjm, H⟩ := hrel
    by_cases hij : i = j
    · have e0 : ((i : Int) != (j : Int)) = false := by rw [bne_eq_false_iff_eq, hij]
      go_wp2_with fail
      refine (swapRange_z cap (m - i) m i _ _ _ dk _ fv H.out.2.2 (by omega) (by omega) hn (by omega) (by omega) (by omega)).mono ?_
      rintro e w' ⟨rfl, d2, h1, h2, h3⟩
      have HQ := Lib.hid (show Rot d a m b d2 ∧ PermIn a b d d2 ∧ Pl w0 blk off n d2 w' from ⟨H.out.1 d2 (by rw [← hij]; exact Rot.even (by omega) h1),
        permIn_trans _ _ _ _ _ H.out.2.1 (permIn_mono dk d2 (m - i) (m + i) a b (by omega) (by omega) (by rw [H.out.2.2.2.2.1]; exact hb) h2), h3⟩)
      clear h1 h2 h3 H
      go_wp2_with fail
      go_end0
      exact ⟨rfl, d2, HQ.out⟩
    · have e0 : ((i : Int) != (j : Int)) = true := by rw [bne_iff_ne]; omega
      by_cases hji : j < i
      · have hz : (j : Int) < (i : Int) := by omega
        go_wp2_with fail
        refine (swapRange_z cap (m - i) m j _ _ _ dk _ fv H.out.2.2 (by omega) (by omega) hn (by omega) (by omega) (by omega)).mono ?_
        rintro e w' ⟨rfl, d2, h1, h2, h3⟩
        have HQ := Lib.hid (show (∀ e, Rot d2 (m - (i - j)) m (m + j) e → Rot d a m b e) ∧ PermIn a b d d2 ∧ Pl w0 blk off n d2 w' from ⟨fun e he => H.out.1 e (Rot.left (by omega) hji h1 he),
          permIn_trans _ _ _ _ _ H.out.2.1 (permIn_mono dk d2 (m - i) (m + j) a b (by omega) (by omega) (by rw [H.out.2.2.2.2.1]; exact hb) h2), h3⟩)
        clear h1 h2 h3 H
        go_wp2_with fail
        exact ⟨⟨i - j, j, d2, by go_num, rfl, by omega, by omega, by omega, by omega, HQ⟩, by simp [RowKit.intOf]; omega⟩
      · have hz : ¬ (j : Int) < (i : Int) := by omega
        go_wp2_with fail
        refine (swapRange_z cap (m - i) (m + j - i) i _ _ _ dk _ fv H.out.2.2 (by omega) (by omega) hn (by omega) (by omega) (by omega)).mono ?_
        rintro e w' ⟨rfl, d2, h1, h2, h3⟩
        have HQ := Lib.hid (show (∀ e, Rot d2 (m - i) m (m + (j - i)) e → Rot d a m b e) ∧ PermIn a b d d2 ∧ Pl w0 blk off n d2 w' from ⟨fun e he => H.out.1 e (Rot.right (by omega) (by omega) h1 he),
          permIn_trans _ _ _ _ _ H.out.2.1 (permIn_mono dk d2 (m - i) (m + j - i + i) a b (by omega) (by omega) (by rw [H.out.2.2.2.2.1]; exact hb) h2), h3⟩)
        clear h1 h2 h3 H
        go_wp2_with fail
        exact ⟨⟨i, j - i, d2, rfl, by go_num, by omega, by omega, by omega, by omega, HQ⟩, by simp [RowKit.intOf]; omega⟩
end Go.Proofs.Ytinimjejdkcodaa
