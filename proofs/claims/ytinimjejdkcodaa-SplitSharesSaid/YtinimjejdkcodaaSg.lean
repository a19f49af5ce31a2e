/- slices.symMergeCmpFunc whole: cut, turn, and both halves. -/
import Derived.Test.YtinimjejdkcodaaSm
namespace Go.Proofs.Ytinimjejdkcodaa
open Go.RowKit Go.Shelf Go.Lib Go.Sort Ss
variable {w0 W : World} {blk off n bx : Nat} {dk : Array Nat} {k : Nat → Nat}

/-- what the call is to come to, of parts shorter than s -/
def MergeIH (k : Nat → Nat) (bx : Nat) (w0 : World) (blk off n cap s : Nat) : Prop :=
  ∀ (a m b : Nat) (d : Array Nat) (w : World), b - a < s → Pl w0 blk off n d w → Pre k a m b d → a < m → m < b → b ≤ n →
    Calls Try.prog 46 #[.slice (some ⟨blk, off, none⟩) n cap, .int .i64 a, .int .i64 m, .int .i64 b, .func (.func 35) #[] #[.pointer (some ⟨bx, 0, none⟩)]] w fun e w' =>
      e = .returned (.tuple #[]) ∧ ∃ d', Post k a b d d' ∧ Pl w0 blk off n d' w'

/-- what is left to do behind the cut -/
structure Cut (k : Nat → Nat) (a m b s t mid : Nat) (d : Array Nat) : Prop where
  sa : a ≤ s
  sm : s ≤ m
  mt : m ≤ t
  tb : t ≤ b
  md : s + t = mid + m
  h1 : a < s → t < b → R k d[t]! d[s - 1]! = false
  h2 : m < t → s < m → R k d[s]! d[t - 1]! = false

theorem Cut.two {a m b s t mid : Nat} {d d1 : Array Nat} (c : Cut k a m b s t mid d) (P : Pre k a m b d) (R : Rot d s m t d1) :
    Pre k a s mid d1 ∧ Pre k mid t b d1 ∧ ∀ p q, a ≤ p → p < mid → mid ≤ q → q < b → Ss.R k d1[q]! d1[p]! = false := by
  have h := halves P c.sa c.sm c.mt c.tb c.h1 c.h2 R
  have e : s + (t - m) = mid := by have := c.md; have := c.mt; omega
  rwa [e] at h
theorem Cut.done {a m b s t mid : Nat} {d d1 d2 d3 : Array Nat} (c : Cut k a m b s t mid d) (P : Pre k a m b d) (hb : b ≤ d.size) (h1 : a ≤ mid) (h2 : mid ≤ b) (R : Rot d s m t d1) (hp : PermIn s t d d1) (F : Post k a mid d1 d2) (G : Post k mid b d2 d3) : Post k a b d d3 :=
  Post.after hb c.sa c.tb hp (glue h1 h2 (by rw [hp.1]; exact hb) (c.two P R).2.2 F G)
theorem _root_.Go.Proofs.Ytinimjejdkcodaa.Ss.Pre.other {a m b s t : Nat} {d e : Array Nat} (P : Pre k a m b d) (hm : a ≤ m) (hmb : m ≤ b) (hp : PermIn s t d e) (ho : b ≤ s ∨ t ≤ a) : Pre k a m b e := by
  have g : ∀ p, a ≤ p → p < b → e[p]! = d[p]! := fun p x1 x2 => hp.2.1 p (by omega)
  exact ⟨fun p q x1 x2 x3 => by rw [g p x1 (by omega), g q (by omega) (by omega)]; exact P.l p q x1 x2 x3, fun p q x1 x2 x3 => by rw [g p (by omega) (by omega), g q (by omega) x3]; exact P.r p q x1 x2 x3,
    fun p q x1 x2 x3 x4 => by rw [g p x1 (by omega), g q (by omega) x4]; exact P.e p q x1 x2 x3 x4⟩

set_option maxHeartbeats 16000000 in
set_option maxRecDepth 1000000 in
theorem merge_step (cap a m b : Nat) (d : Array Nat) (w : World) (C : Cm k bx w0 blk off n) (ih : MergeIH k bx w0 blk off n cap (b - a)) (S : Pl w0 blk off n d w) (P : Pre k a m b d) (ham : a + 1 < m) (hmb : m + 1 < b) (hb : b ≤ n) (hn : n < 4611686018427387904) :
    Calls Try.prog 46 #[.slice (some ⟨blk, off, none⟩) n cap, .int .i64 a, .int .i64 m, .int .i64 b, .func (.func 35) #[] #[.pointer (some ⟨bx, 0, none⟩)]] w fun e w' =>
      e = .returned (.tuple #[]) ∧ ∃ d', Post k a b d d' ∧ Pl w0 blk off n d' w' := by
  have HC := Lib.hid C
  have S0 := Lib.hid S
  have HP := Lib.hid P
  have IH := Lib.hid ih
  have mixed := mixed
  have e1 : ((m : Int) - (a : Int) == 1) = false := by rw [beq_eq_false_iff_ne]; omega
  have e2 : ((b : Int) - (m : Int) == 1) = false := by rw [beq_eq_false_iff_ne]; omega
  clear S C P ih
  obtain ⟨mid, hmid⟩ : ∃ q : Nat, q = (a + b) / 2 := ⟨_, rfl⟩
  have em : ((a : Int) + (b : Int)) / 2 = (mid : Int) := by omega
  have hm1 : a + 2 ≤ mid := by omega
  have hm2 : mid + 2 ≤ b := by omega
  have hm3 : mid + mid ≤ a + b := by omega
  clear hmid
  obtain ⟨lo, hi, hcase⟩ : ∃ lo hi : Nat, (mid < m ∧ lo + b = mid + m ∧ hi = mid) ∨ (m ≤ mid ∧ lo = a ∧ hi = m) := by
    by_cases x : mid < m
    · exact ⟨mid + m - b, mid, Or.inl ⟨x, by omega, rfl⟩⟩
    · exact ⟨a, m, Or.inr ⟨by omega, rfl, rfl⟩⟩
  have HL := Lib.hid (show a ≤ lo ∧ lo ≤ hi ∧ hi ≤ m ∧ hi ≤ mid ∧ mid + m ≤ lo + b ∧ (lo = a ∨ lo + b = mid + m) ∧ (hi = m ∨ hi = mid) from by omega)
  go_enter Try.func46, Try.ntmps46
  obtain ⟨p, hp⟩ : ∃ q : Nat, q + 1 = mid + m := ⟨mid + m - 1, by omega⟩
  have ep : (mid : Int) + (m : Int) - 1 = (p : Int) := by omega
  have HPP := Lib.hid hp
  clear hp
  rcases hcase with ⟨x1, x2, x3⟩ | ⟨x1, x2, x3⟩
  all_goals
    have HX := Lib.hid (And.intro x2 x3)
    first
    | (have x4 : (mid : Int) < (m : Int) := by omega
       have el : (mid : Int) + (m : Int) - (b : Int) = (lo : Int) := by have := HL.out; omega
       clear x2 x3
       go_wp2_with fail)
    | (have x4 : ¬ (mid : Int) < (m : Int) := by omega
       clear x2 x3
       go_wp2_with fail)
    go_loopw [20, 21] (fun v u wr => ∃ s r : Nat, v = .int .i64 s ∧ u = .int .i64 r ∧ lo ≤ s ∧ s ≤ r ∧ r ≤ hi ∧ Hid (Pl w0 blk off n d wr ∧ (∀ c, lo ≤ c → c < s → lt k d[p - c]! d[c]! = false) ∧ (∀ c, r ≤ c → c < hi → lt k d[p - c]! d[c]! = true))) (fun v u wr => (RowKit.intOf u).toNat - (RowKit.intOf v).toNat)
    case atStart => exact ⟨lo, hi, by first | rfl | rw [HX.out.1], by first | rfl | rw [HX.out.2], Nat.le_refl _, HL.out.2.1, Nat.le_refl _, S0.out, fun h h1 h2 => by omega, fun h h1 h2 => by omega⟩
    case round =>
      obtain ⟨s, r, rfl, rfl, hls, hsr, hrh, H⟩ := hrel
      by_cases hlt : s < r
      · have hltz : (s : Int) < (r : Int) := by omega
        obtain ⟨c, ec⟩ : ∃ q : Nat, q = (s + r) / 2 := ⟨_, rfl⟩
        have ec2 : ((s : Int) + (r : Int)) / 2 = (c : Int) := by omega
        have h1 : s ≤ c := by omega
        have h2 : c < r := by omega
        clear ec
        have B := Lib.hid (show a ≤ c ∧ c < m ∧ m ≤ p - c ∧ p - c < b ∧ c ≤ p ∧ c < hi from by have := HL.out; have := HPP.out; omega)
        obtain ⟨pc, epc⟩ : ∃ q : Nat, q = p - c := ⟨_, rfl⟩
        have epc2 : (p : Int) - (c : Int) = (pc : Int) := by have := B.out; omega
        have ba : (c : Int) < (n : Int) := by have := B.out; omega
        have bc : (pc : Int) < (n : Int) := by have := B.out; omega
        have c1 := H.out.1.c1 c (by have := B.out; omega)
        have c3 := H.out.1.c1 pc (by have := B.out; omega)
        have hc := HC.out.at H.out.1 pc c (by have := B.out; omega) (by have := B.out; omega)
        cases hlv : lt k d[pc]! d[c]! with
        | true =>
          have hv := cv_t hlv
          have hd : decide (cv (k d[c]!) (k d[pc]!) < 0) = true := decide_eq_true hv
          have HQ := Lib.hid (show (∀ h, lo ≤ h → h < s → lt k d[p - h]! d[h]! = false) ∧ (∀ h, c ≤ h → h < hi → lt k d[p - h]! d[h]! = true) from
            ⟨H.out.2.1, fun h x1 x2 => HP.out.lt_mono (h := p - c) B.out.1 x1 (by have := HL.out; omega) (by have := HL.out; have := HPP.out; omega) (by omega) B.out.2.2.2.1 (by rw [← epc]; exact hlv)⟩)
          have HS := Lib.hid H.out.1
          clear hlv H epc
          unfold en at c1 c3
          generalize cv (k d[c]!) (k d[pc]!) = z at hc hv hd
          generalize ((d[c]! : Nat) : Int) = zx at c1 hc
          generalize ((d[pc]! : Nat) : Int) = zy at c3 hc
          go_wp2_with fail
          go_quiet ((go_at_call 35; exact Calls.quiet_of (hc _)))
          clear c1 c3 hc
          go_wp2_with fail
          exact ⟨⟨s, c, rfl, rfl, hls, by omega, by omega, HS.out.drewN _, HQ.out⟩, by simp [RowKit.intOf]; omega⟩
        | false =>
          have hv := cv_f hlv
          have hd : decide (cv (k d[c]!) (k d[pc]!) < 0) = false := decide_eq_false hv
          have HQ := Lib.hid (show (∀ h, lo ≤ h → h < c + 1 → lt k d[p - h]! d[h]! = false) ∧ (∀ h, r ≤ h → h < hi → lt k d[p - h]! d[h]! = true) from
            ⟨fun h x1 x2 => by
              cases e : lt k d[p - h]! d[h]! with
              | false => rfl
              | true => exact absurd (HP.out.lt_mono (p' := c) (h' := p - c) (show a ≤ h by have := HL.out; omega) (by omega) B.out.2.1 B.out.2.2.1 (by omega) (by have := HL.out; have := HPP.out; omega) e) (by rw [← epc, hlv]; decide), H.out.2.2⟩)
          have HS := Lib.hid H.out.1
          clear hlv H epc
          unfold en at c1 c3
          generalize cv (k d[c]!) (k d[pc]!) = z at hc hv hd
          generalize ((d[c]! : Nat) : Int) = zx at c1 hc
          generalize ((d[pc]! : Nat) : Int) = zy at c3 hc
          go_wp2_with fail
          go_quiet ((go_at_call 35; exact Calls.quiet_of (hc _)))
          clear c1 c3 hc
          go_wp2_with fail
          exact ⟨⟨c + 1, r, by go_num, rfl, by omega, by omega, hrh, HS.out.drewN _, HQ.out⟩, by simp [RowKit.intOf]; omega⟩
      · have hltz : ¬ (s : Int) < (r : Int) := by omega
        obtain rfl : s = r := by omega
        obtain ⟨t, ht⟩ : ∃ t : Nat, s + t = mid + m := ⟨mid + m - s, by have := HL.out; omega⟩
        have et : (mid : Int) + (m : Int) - (s : Int) = (t : Int) := by omega
        have HS := Lib.hid H.out.1
        have CUT := Lib.hid (show Cut k a m b s t mid d from by
          obtain ⟨y1, y2, y3, y4, y5, y6, y7⟩ := HL.out
          have y8 := HPP.out
          refine ⟨by omega, by omega, by omega, by omega, ht, fun z1 z2 => ?_, fun z1 z2 => ?_⟩
          · have q := H.out.2.1 (s - 1) (by omega) (by omega)
            rw [show p - (s - 1) = t by omega] at q
            exact HP.out.f (by omega) (by omega) (by omega) z2 q
          · have q := H.out.2.2 s (Nat.le_refl _) (by omega)
            rw [show p - s = t - 1 by omega] at q
            exact HP.out.t (by omega) z2 (by omega) (by omega) q)
        clear H ht hltz hls hrh hsr
        have MD := CUT.out.md
        have Y := Lib.hid (And.intro CUT.out.sa (And.intro CUT.out.sm (And.intro CUT.out.mt CUT.out.tb)))
        rcases Nat.lt_or_ge s m with b1 | b1 <;> rcases Nat.lt_or_ge m t with b2 | b2 <;> rcases Nat.lt_or_ge a s with b3 | b3 <;> rcases Nat.lt_or_ge t b with b4 | b4
        · first
          | (exfalso; have := Y.out; omega)
          | (have z1 : (s : Int) < (m : Int) := by omega
             have z2 : (m : Int) < (t : Int) := by omega
             have z3 : (a : Int) < (s : Int) := by omega
             have z4 : (t : Int) < (b : Int) := by omega
             have z5 : (s : Int) < (mid : Int) := by omega
             have z6 : (mid : Int) < (t : Int) := by omega
             have Z := Lib.hid (And.intro MD (And.intro b1 (And.intro b2 (And.intro b3 b4)))); clear MD b1 b2 b3 b4
             go_wp2_with fail
             refine (rotate_any cap s m t d _ _ HS.out Z.out.2.1 Z.out.2.2.1 (by have := CUT.out.tb; omega) hn).mono ?_
             rintro e w1 ⟨rfl, d1, r1, r2, r3⟩
             have E := Lib.hid (show Rot d s m t d1 ∧ PermIn s t d d1 ∧ Pl w0 blk off n d1 w1 from ⟨r1, r2, r3⟩)
             clear r1 r2 r3
             have V := Lib.hid (CUT.out.two HP.out E.out.1)
             go_wp2_with fail
             refine (IH.out a s mid d1 _ (by omega) E.out.2.2 V.out.1 Z.out.2.2.2.1 (by have := Z.out; have := Y.out; omega) (by omega)).mono ?_
             rintro e w2 ⟨rfl, d2, r1, r2⟩
             have F := Lib.hid (show Post k a mid d1 d2 ∧ Pl w0 blk off n d2 w2 from ⟨r1, r2⟩)
             clear r1 r2
             go_wp2_with fail
             refine (IH.out mid t b d2 _ (by omega) F.out.2 (V.out.2.1.other (by have := Z.out; have := Y.out; omega) CUT.out.tb F.out.1.1 (Or.inr (Nat.le_refl _))) (by have := Z.out; have := Y.out; omega) Z.out.2.2.2.2 hb).mono ?_
             rintro e w3 ⟨rfl, d3, r1, r2⟩
             have G := Lib.hid (show Post k mid b d2 d3 ∧ Pl w0 blk off n d3 w3 from ⟨r1, r2⟩)
             clear r1 r2
             go_wp2_with fail
             go_end0
             exact ⟨rfl, d3, CUT.out.done HP.out (by have := S0.out.2.2.1; omega) (by omega) (by omega) E.out.1 E.out.2.1 F.out.1 G.out.1, G.out.2⟩)
        · first
          | (exfalso; have := Y.out; omega)
          | (have z1 : (s : Int) < (m : Int) := by omega
             have z2 : (m : Int) < (t : Int) := by omega
             have z3 : (a : Int) < (s : Int) := by omega
             have z4 : ¬ (t : Int) < (b : Int) := by omega
             have z5 : (s : Int) < (mid : Int) := by omega
             have z6 : (mid : Int) < (t : Int) := by omega
             have Z := Lib.hid (And.intro MD (And.intro b1 (And.intro b2 (And.intro b3 b4)))); clear MD b1 b2 b3 b4
             go_wp2_with fail
             refine (rotate_any cap s m t d _ _ HS.out Z.out.2.1 Z.out.2.2.1 (by have := CUT.out.tb; omega) hn).mono ?_
             rintro e w1 ⟨rfl, d1, r1, r2, r3⟩
             have E := Lib.hid (show Rot d s m t d1 ∧ PermIn s t d d1 ∧ Pl w0 blk off n d1 w1 from ⟨r1, r2, r3⟩)
             clear r1 r2 r3
             have V := Lib.hid (CUT.out.two HP.out E.out.1)
             go_wp2_with fail
             refine (IH.out a s mid d1 _ (by omega) E.out.2.2 V.out.1 Z.out.2.2.2.1 (by have := Z.out; have := Y.out; omega) (by omega)).mono ?_
             rintro e w2 ⟨rfl, d2, r1, r2⟩
             have F := Lib.hid (show Post k a mid d1 d2 ∧ Pl w0 blk off n d2 w2 from ⟨r1, r2⟩)
             clear r1 r2
             have G := Lib.hid (show Post k mid b d2 d2 ∧ Pl w0 blk off n d2 w2 from ⟨Post.refl ((V.out.2.1.other (by have := Z.out; have := Y.out; omega) CUT.out.tb F.out.1.1 (Or.inr (Nat.le_refl _))).sorted (by have := Z.out; have := Y.out; omega)), F.out.2⟩)
             go_wp2_with fail
             go_end0
             exact ⟨rfl, d2, CUT.out.done HP.out (by have := S0.out.2.2.1; omega) (by omega) (by omega) E.out.1 E.out.2.1 F.out.1 G.out.1, G.out.2⟩)
        · first
          | (exfalso; have := Y.out; omega)
          | (have z1 : (s : Int) < (m : Int) := by omega
             have z2 : (m : Int) < (t : Int) := by omega
             have z3 : ¬ (a : Int) < (s : Int) := by omega
             have z4 : (t : Int) < (b : Int) := by omega
             have z5 : (s : Int) < (mid : Int) := by omega
             have z6 : (mid : Int) < (t : Int) := by omega
             have Z := Lib.hid (And.intro MD (And.intro b1 (And.intro b2 (And.intro b3 b4)))); clear MD b1 b2 b3 b4
             go_wp2_with fail
             refine (rotate_any cap s m t d _ _ HS.out Z.out.2.1 Z.out.2.2.1 (by have := CUT.out.tb; omega) hn).mono ?_
             rintro e w1 ⟨rfl, d1, r1, r2, r3⟩
             have E := Lib.hid (show Rot d s m t d1 ∧ PermIn s t d d1 ∧ Pl w0 blk off n d1 w1 from ⟨r1, r2, r3⟩)
             clear r1 r2 r3
             have V := Lib.hid (CUT.out.two HP.out E.out.1)
             have F := Lib.hid (show Post k a mid d1 d1 ∧ Pl w0 blk off n d1 w1 from ⟨Post.refl (V.out.1.sorted (by have := Z.out; have := Y.out; omega)), E.out.2.2⟩)
             go_wp2_with fail
             refine (IH.out mid t b d1 _ (by omega) F.out.2 (V.out.2.1.other (by have := Z.out; have := Y.out; omega) CUT.out.tb F.out.1.1 (Or.inr (Nat.le_refl _))) (by have := Z.out; have := Y.out; omega) Z.out.2.2.2.2 hb).mono ?_
             rintro e w3 ⟨rfl, d3, r1, r2⟩
             have G := Lib.hid (show Post k mid b d1 d3 ∧ Pl w0 blk off n d3 w3 from ⟨r1, r2⟩)
             clear r1 r2
             go_wp2_with fail
             go_end0
             exact ⟨rfl, d3, CUT.out.done HP.out (by have := S0.out.2.2.1; omega) (by omega) (by omega) E.out.1 E.out.2.1 F.out.1 G.out.1, G.out.2⟩)
        · first
          | (exfalso; have := Y.out; omega)
          | (have z1 : (s : Int) < (m : Int) := by omega
             have z2 : (m : Int) < (t : Int) := by omega
             have z3 : ¬ (a : Int) < (s : Int) := by omega
             have z4 : ¬ (t : Int) < (b : Int) := by omega
             have z5 : (s : Int) < (mid : Int) := by omega
             have z6 : (mid : Int) < (t : Int) := by omega
             have Z := Lib.hid (And.intro MD (And.intro b1 (And.intro b2 (And.intro b3 b4)))); clear MD b1 b2 b3 b4
             go_wp2_with fail
             refine (rotate_any cap s m t d _ _ HS.out Z.out.2.1 Z.out.2.2.1 (by have := CUT.out.tb; omega) hn).mono ?_
             rintro e w1 ⟨rfl, d1, r1, r2, r3⟩
             have E := Lib.hid (show Rot d s m t d1 ∧ PermIn s t d d1 ∧ Pl w0 blk off n d1 w1 from ⟨r1, r2, r3⟩)
             clear r1 r2 r3
             have V := Lib.hid (CUT.out.two HP.out E.out.1)
             have F := Lib.hid (show Post k a mid d1 d1 ∧ Pl w0 blk off n d1 w1 from ⟨Post.refl (V.out.1.sorted (by have := Z.out; have := Y.out; omega)), E.out.2.2⟩)
             have G := Lib.hid (show Post k mid b d1 d1 ∧ Pl w0 blk off n d1 w1 from ⟨Post.refl ((V.out.2.1.other (by have := Z.out; have := Y.out; omega) CUT.out.tb F.out.1.1 (Or.inr (Nat.le_refl _))).sorted (by have := Z.out; have := Y.out; omega)), F.out.2⟩)
             go_wp2_with fail
             go_end0
             exact ⟨rfl, d1, CUT.out.done HP.out (by have := S0.out.2.2.1; omega) (by omega) (by omega) E.out.1 E.out.2.1 F.out.1 G.out.1, G.out.2⟩)
        · first
          | (exfalso; have := Y.out; omega)
          | (have z1 : (s : Int) < (m : Int) := by omega
             have z2 : ¬ (m : Int) < (t : Int) := by omega
             have z3 : (a : Int) < (s : Int) := by omega
             have z4 : (t : Int) < (b : Int) := by omega
             have z5 : ¬ (s : Int) < (mid : Int) := by omega
             have z6 : (mid : Int) < (t : Int) := by omega
             have Z := Lib.hid (And.intro MD (And.intro b1 (And.intro b2 (And.intro b3 b4)))); clear MD b1 b2 b3 b4
             have E := Lib.hid (show Rot d s m t d ∧ PermIn s t d d ∧ Pl w0 blk off n d wr from ⟨Rot.none d CUT.out.sm CUT.out.mt (by have := Z.out; have := CUT.out.sm; have := CUT.out.mt; omega), permIn_refl _ _ _, HS.out⟩)
             have V := Lib.hid (CUT.out.two HP.out E.out.1)
             have F := Lib.hid (show Post k a mid d d ∧ Pl w0 blk off n d wr from ⟨Post.refl (V.out.1.sorted (by have := Z.out; have := Y.out; omega)), E.out.2.2⟩)
             go_wp2_with fail
             refine (IH.out mid t b d _ (by omega) F.out.2 (V.out.2.1.other (by have := Z.out; have := Y.out; omega) CUT.out.tb F.out.1.1 (Or.inr (Nat.le_refl _))) (by have := Z.out; have := Y.out; omega) Z.out.2.2.2.2 hb).mono ?_
             rintro e w3 ⟨rfl, d3, r1, r2⟩
             have G := Lib.hid (show Post k mid b d d3 ∧ Pl w0 blk off n d3 w3 from ⟨r1, r2⟩)
             clear r1 r2
             go_wp2_with fail
             go_end0
             exact ⟨rfl, d3, CUT.out.done HP.out (by have := S0.out.2.2.1; omega) (by omega) (by omega) E.out.1 E.out.2.1 F.out.1 G.out.1, G.out.2⟩)
        · first
          | (exfalso; have := Y.out; omega)
          | (have z1 : (s : Int) < (m : Int) := by omega
             have z2 : ¬ (m : Int) < (t : Int) := by omega
             have z3 : (a : Int) < (s : Int) := by omega
             have z4 : ¬ (t : Int) < (b : Int) := by omega
             have z5 : ¬ (s : Int) < (mid : Int) := by omega
             have z6 : (mid : Int) < (t : Int) := by omega
             have Z := Lib.hid (And.intro MD (And.intro b1 (And.intro b2 (And.intro b3 b4)))); clear MD b1 b2 b3 b4
             have E := Lib.hid (show Rot d s m t d ∧ PermIn s t d d ∧ Pl w0 blk off n d wr from ⟨Rot.none d CUT.out.sm CUT.out.mt (by have := Z.out; have := CUT.out.sm; have := CUT.out.mt; omega), permIn_refl _ _ _, HS.out⟩)
             have V := Lib.hid (CUT.out.two HP.out E.out.1)
             have F := Lib.hid (show Post k a mid d d ∧ Pl w0 blk off n d wr from ⟨Post.refl (V.out.1.sorted (by have := Z.out; have := Y.out; omega)), E.out.2.2⟩)
             have G := Lib.hid (show Post k mid b d d ∧ Pl w0 blk off n d wr from ⟨Post.refl ((V.out.2.1.other (by have := Z.out; have := Y.out; omega) CUT.out.tb F.out.1.1 (Or.inr (Nat.le_refl _))).sorted (by have := Z.out; have := Y.out; omega)), F.out.2⟩)
             go_wp2_with fail
             go_end0
             exact ⟨rfl, d, CUT.out.done HP.out (by have := S0.out.2.2.1; omega) (by omega) (by omega) E.out.1 E.out.2.1 F.out.1 G.out.1, G.out.2⟩)
        · first
          | (exfalso; have := Y.out; omega)
          | (have z1 : (s : Int) < (m : Int) := by omega
             have z2 : ¬ (m : Int) < (t : Int) := by omega
             have z3 : ¬ (a : Int) < (s : Int) := by omega
             have z4 : (t : Int) < (b : Int) := by omega
             have z5 : ¬ (s : Int) < (mid : Int) := by omega
             have z6 : (mid : Int) < (t : Int) := by omega
             have Z := Lib.hid (And.intro MD (And.intro b1 (And.intro b2 (And.intro b3 b4)))); clear MD b1 b2 b3 b4
             have E := Lib.hid (show Rot d s m t d ∧ PermIn s t d d ∧ Pl w0 blk off n d wr from ⟨Rot.none d CUT.out.sm CUT.out.mt (by have := Z.out; have := CUT.out.sm; have := CUT.out.mt; omega), permIn_refl _ _ _, HS.out⟩)
             have V := Lib.hid (CUT.out.two HP.out E.out.1)
             have F := Lib.hid (show Post k a mid d d ∧ Pl w0 blk off n d wr from ⟨Post.refl (V.out.1.sorted (by have := Z.out; have := Y.out; omega)), E.out.2.2⟩)
             go_wp2_with fail
             refine (IH.out mid t b d _ (by omega) F.out.2 (V.out.2.1.other (by have := Z.out; have := Y.out; omega) CUT.out.tb F.out.1.1 (Or.inr (Nat.le_refl _))) (by have := Z.out; have := Y.out; omega) Z.out.2.2.2.2 hb).mono ?_
             rintro e w3 ⟨rfl, d3, r1, r2⟩
             have G := Lib.hid (show Post k mid b d d3 ∧ Pl w0 blk off n d3 w3 from ⟨r1, r2⟩)
             clear r1 r2
             go_wp2_with fail
             go_end0
             exact ⟨rfl, d3, CUT.out.done HP.out (by have := S0.out.2.2.1; omega) (by omega) (by omega) E.out.1 E.out.2.1 F.out.1 G.out.1, G.out.2⟩)
        · first
          | (exfalso; have := Y.out; omega)
          | (have z1 : (s : Int) < (m : Int) := by omega
             have z2 : ¬ (m : Int) < (t : Int) := by omega
             have z3 : ¬ (a : Int) < (s : Int) := by omega
             have z4 : ¬ (t : Int) < (b : Int) := by omega
             have z5 : ¬ (s : Int) < (mid : Int) := by omega
             have z6 : (mid : Int) < (t : Int) := by omega
             have Z := Lib.hid (And.intro MD (And.intro b1 (And.intro b2 (And.intro b3 b4)))); clear MD b1 b2 b3 b4
             have E := Lib.hid (show Rot d s m t d ∧ PermIn s t d d ∧ Pl w0 blk off n d wr from ⟨Rot.none d CUT.out.sm CUT.out.mt (by have := Z.out; have := CUT.out.sm; have := CUT.out.mt; omega), permIn_refl _ _ _, HS.out⟩)
             have V := Lib.hid (CUT.out.two HP.out E.out.1)
             have F := Lib.hid (show Post k a mid d d ∧ Pl w0 blk off n d wr from ⟨Post.refl (V.out.1.sorted (by have := Z.out; have := Y.out; omega)), E.out.2.2⟩)
             have G := Lib.hid (show Post k mid b d d ∧ Pl w0 blk off n d wr from ⟨Post.refl ((V.out.2.1.other (by have := Z.out; have := Y.out; omega) CUT.out.tb F.out.1.1 (Or.inr (Nat.le_refl _))).sorted (by have := Z.out; have := Y.out; omega)), F.out.2⟩)
             go_wp2_with fail
             go_end0
             exact ⟨rfl, d, CUT.out.done HP.out (by have := S0.out.2.2.1; omega) (by omega) (by omega) E.out.1 E.out.2.1 F.out.1 G.out.1, G.out.2⟩)
        · first
          | (exfalso; have := Y.out; omega)
          | (have z1 : ¬ (s : Int) < (m : Int) := by omega
             have z2 : (m : Int) < (t : Int) := by omega
             have z3 : (a : Int) < (s : Int) := by omega
             have z4 : (t : Int) < (b : Int) := by omega
             have z5 : (s : Int) < (mid : Int) := by omega
             have z6 : ¬ (mid : Int) < (t : Int) := by omega
             have Z := Lib.hid (And.intro MD (And.intro b1 (And.intro b2 (And.intro b3 b4)))); clear MD b1 b2 b3 b4
             have E := Lib.hid (show Rot d s m t d ∧ PermIn s t d d ∧ Pl w0 blk off n d wr from ⟨Rot.none d CUT.out.sm CUT.out.mt (by have := Z.out; have := CUT.out.sm; have := CUT.out.mt; omega), permIn_refl _ _ _, HS.out⟩)
             have V := Lib.hid (CUT.out.two HP.out E.out.1)
             go_wp2_with fail
             refine (IH.out a s mid d _ (by omega) E.out.2.2 V.out.1 Z.out.2.2.2.1 (by have := Z.out; have := Y.out; omega) (by omega)).mono ?_
             rintro e w2 ⟨rfl, d2, r1, r2⟩
             have F := Lib.hid (show Post k a mid d d2 ∧ Pl w0 blk off n d2 w2 from ⟨r1, r2⟩)
             clear r1 r2
             have G := Lib.hid (show Post k mid b d2 d2 ∧ Pl w0 blk off n d2 w2 from ⟨Post.refl ((V.out.2.1.other (by have := Z.out; have := Y.out; omega) CUT.out.tb F.out.1.1 (Or.inr (Nat.le_refl _))).sorted (by have := Z.out; have := Y.out; omega)), F.out.2⟩)
             go_wp2_with fail
             go_end0
             exact ⟨rfl, d2, CUT.out.done HP.out (by have := S0.out.2.2.1; omega) (by omega) (by omega) E.out.1 E.out.2.1 F.out.1 G.out.1, G.out.2⟩)
        · first
          | (exfalso; have := Y.out; omega)
          | (have z1 : ¬ (s : Int) < (m : Int) := by omega
             have z2 : (m : Int) < (t : Int) := by omega
             have z3 : (a : Int) < (s : Int) := by omega
             have z4 : ¬ (t : Int) < (b : Int) := by omega
             have z5 : (s : Int) < (mid : Int) := by omega
             have z6 : ¬ (mid : Int) < (t : Int) := by omega
             have Z := Lib.hid (And.intro MD (And.intro b1 (And.intro b2 (And.intro b3 b4)))); clear MD b1 b2 b3 b4
             have E := Lib.hid (show Rot d s m t d ∧ PermIn s t d d ∧ Pl w0 blk off n d wr from ⟨Rot.none d CUT.out.sm CUT.out.mt (by have := Z.out; have := CUT.out.sm; have := CUT.out.mt; omega), permIn_refl _ _ _, HS.out⟩)
             have V := Lib.hid (CUT.out.two HP.out E.out.1)
             go_wp2_with fail
             refine (IH.out a s mid d _ (by omega) E.out.2.2 V.out.1 Z.out.2.2.2.1 (by have := Z.out; have := Y.out; omega) (by omega)).mono ?_
             rintro e w2 ⟨rfl, d2, r1, r2⟩
             have F := Lib.hid (show Post k a mid d d2 ∧ Pl w0 blk off n d2 w2 from ⟨r1, r2⟩)
             clear r1 r2
             have G := Lib.hid (show Post k mid b d2 d2 ∧ Pl w0 blk off n d2 w2 from ⟨Post.refl ((V.out.2.1.other (by have := Z.out; have := Y.out; omega) CUT.out.tb F.out.1.1 (Or.inr (Nat.le_refl _))).sorted (by have := Z.out; have := Y.out; omega)), F.out.2⟩)
             go_wp2_with fail
             go_end0
             exact ⟨rfl, d2, CUT.out.done HP.out (by have := S0.out.2.2.1; omega) (by omega) (by omega) E.out.1 E.out.2.1 F.out.1 G.out.1, G.out.2⟩)
        · first
          | (exfalso; have := Y.out; omega)
          | (have z1 : ¬ (s : Int) < (m : Int) := by omega
             have z2 : (m : Int) < (t : Int) := by omega
             have z3 : ¬ (a : Int) < (s : Int) := by omega
             have z4 : (t : Int) < (b : Int) := by omega
             have z5 : (s : Int) < (mid : Int) := by omega
             have z6 : ¬ (mid : Int) < (t : Int) := by omega
             have Z := Lib.hid (And.intro MD (And.intro b1 (And.intro b2 (And.intro b3 b4)))); clear MD b1 b2 b3 b4
             have E := Lib.hid (show Rot d s m t d ∧ PermIn s t d d ∧ Pl w0 blk off n d wr from ⟨Rot.none d CUT.out.sm CUT.out.mt (by have := Z.out; have := CUT.out.sm; have := CUT.out.mt; omega), permIn_refl _ _ _, HS.out⟩)
             have V := Lib.hid (CUT.out.two HP.out E.out.1)
             have F := Lib.hid (show Post k a mid d d ∧ Pl w0 blk off n d wr from ⟨Post.refl (V.out.1.sorted (by have := Z.out; have := Y.out; omega)), E.out.2.2⟩)
             have G := Lib.hid (show Post k mid b d d ∧ Pl w0 blk off n d wr from ⟨Post.refl ((V.out.2.1.other (by have := Z.out; have := Y.out; omega) CUT.out.tb F.out.1.1 (Or.inr (Nat.le_refl _))).sorted (by have := Z.out; have := Y.out; omega)), F.out.2⟩)
             go_wp2_with fail
             go_end0
             exact ⟨rfl, d, CUT.out.done HP.out (by have := S0.out.2.2.1; omega) (by omega) (by omega) E.out.1 E.out.2.1 F.out.1 G.out.1, G.out.2⟩)
        · first
          | (exfalso; have := Y.out; omega)
          | (have z1 : ¬ (s : Int) < (m : Int) := by omega
             have z2 : (m : Int) < (t : Int) := by omega
             have z3 : ¬ (a : Int) < (s : Int) := by omega
             have z4 : ¬ (t : Int) < (b : Int) := by omega
             have z5 : (s : Int) < (mid : Int) := by omega
             have z6 : ¬ (mid : Int) < (t : Int) := by omega
             have Z := Lib.hid (And.intro MD (And.intro b1 (And.intro b2 (And.intro b3 b4)))); clear MD b1 b2 b3 b4
             have E := Lib.hid (show Rot d s m t d ∧ PermIn s t d d ∧ Pl w0 blk off n d wr from ⟨Rot.none d CUT.out.sm CUT.out.mt (by have := Z.out; have := CUT.out.sm; have := CUT.out.mt; omega), permIn_refl _ _ _, HS.out⟩)
             have V := Lib.hid (CUT.out.two HP.out E.out.1)
             have F := Lib.hid (show Post k a mid d d ∧ Pl w0 blk off n d wr from ⟨Post.refl (V.out.1.sorted (by have := Z.out; have := Y.out; omega)), E.out.2.2⟩)
             have G := Lib.hid (show Post k mid b d d ∧ Pl w0 blk off n d wr from ⟨Post.refl ((V.out.2.1.other (by have := Z.out; have := Y.out; omega) CUT.out.tb F.out.1.1 (Or.inr (Nat.le_refl _))).sorted (by have := Z.out; have := Y.out; omega)), F.out.2⟩)
             go_wp2_with fail
             go_end0
             exact ⟨rfl, d, CUT.out.done HP.out (by have := S0.out.2.2.1; omega) (by omega) (by omega) E.out.1 E.out.2.1 F.out.1 G.out.1, G.out.2⟩)
        · first
          | (exfalso; have := Y.out; omega)
          | (have z1 : ¬ (s : Int) < (m : Int) := by omega
             have z2 : ¬ (m : Int) < (t : Int) := by omega
             have z3 : (a : Int) < (s : Int) := by omega
             have z4 : (t : Int) < (b : Int) := by omega
             have z5 : ¬ (s : Int) < (mid : Int) := by omega
             have z6 : ¬ (mid : Int) < (t : Int) := by omega
             have Z := Lib.hid (And.intro MD (And.intro b1 (And.intro b2 (And.intro b3 b4)))); clear MD b1 b2 b3 b4
             have E := Lib.hid (show Rot d s m t d ∧ PermIn s t d d ∧ Pl w0 blk off n d wr from ⟨Rot.none d CUT.out.sm CUT.out.mt (by have := Z.out; have := CUT.out.sm; have := CUT.out.mt; omega), permIn_refl _ _ _, HS.out⟩)
             have V := Lib.hid (CUT.out.two HP.out E.out.1)
             have F := Lib.hid (show Post k a mid d d ∧ Pl w0 blk off n d wr from ⟨Post.refl (V.out.1.sorted (by have := Z.out; have := Y.out; omega)), E.out.2.2⟩)
             have G := Lib.hid (show Post k mid b d d ∧ Pl w0 blk off n d wr from ⟨Post.refl ((V.out.2.1.other (by have := Z.out; have := Y.out; omega) CUT.out.tb F.out.1.1 (Or.inr (Nat.le_refl _))).sorted (by have := Z.out; have := Y.out; omega)), F.out.2⟩)
             go_wp2_with fail
             go_end0
             exact ⟨rfl, d, CUT.out.done HP.out (by have := S0.out.2.2.1; omega) (by omega) (by omega) E.out.1 E.out.2.1 F.out.1 G.out.1, G.out.2⟩)
        · first
          | (exfalso; have := Y.out; omega)
          | (have z1 : ¬ (s : Int) < (m : Int) := by omega
             have z2 : ¬ (m : Int) < (t : Int) := by omega
             have z3 : (a : Int) < (s : Int) := by omega
             have z4 : ¬ (t : Int) < (b : Int) := by omega
             have z5 : ¬ (s : Int) < (mid : Int) := by omega
             have z6 : ¬ (mid : Int) < (t : Int) := by omega
             have Z := Lib.hid (And.intro MD (And.intro b1 (And.intro b2 (And.intro b3 b4)))); clear MD b1 b2 b3 b4
             have E := Lib.hid (show Rot d s m t d ∧ PermIn s t d d ∧ Pl w0 blk off n d wr from ⟨Rot.none d CUT.out.sm CUT.out.mt (by have := Z.out; have := CUT.out.sm; have := CUT.out.mt; omega), permIn_refl _ _ _, HS.out⟩)
             have V := Lib.hid (CUT.out.two HP.out E.out.1)
             have F := Lib.hid (show Post k a mid d d ∧ Pl w0 blk off n d wr from ⟨Post.refl (V.out.1.sorted (by have := Z.out; have := Y.out; omega)), E.out.2.2⟩)
             have G := Lib.hid (show Post k mid b d d ∧ Pl w0 blk off n d wr from ⟨Post.refl ((V.out.2.1.other (by have := Z.out; have := Y.out; omega) CUT.out.tb F.out.1.1 (Or.inr (Nat.le_refl _))).sorted (by have := Z.out; have := Y.out; omega)), F.out.2⟩)
             go_wp2_with fail
             go_end0
             exact ⟨rfl, d, CUT.out.done HP.out (by have := S0.out.2.2.1; omega) (by omega) (by omega) E.out.1 E.out.2.1 F.out.1 G.out.1, G.out.2⟩)
        · first
          | (exfalso; have := Y.out; omega)
          | (have z1 : ¬ (s : Int) < (m : Int) := by omega
             have z2 : ¬ (m : Int) < (t : Int) := by omega
             have z3 : ¬ (a : Int) < (s : Int) := by omega
             have z4 : (t : Int) < (b : Int) := by omega
             have z5 : ¬ (s : Int) < (mid : Int) := by omega
             have z6 : ¬ (mid : Int) < (t : Int) := by omega
             have Z := Lib.hid (And.intro MD (And.intro b1 (And.intro b2 (And.intro b3 b4)))); clear MD b1 b2 b3 b4
             have E := Lib.hid (show Rot d s m t d ∧ PermIn s t d d ∧ Pl w0 blk off n d wr from ⟨Rot.none d CUT.out.sm CUT.out.mt (by have := Z.out; have := CUT.out.sm; have := CUT.out.mt; omega), permIn_refl _ _ _, HS.out⟩)
             have V := Lib.hid (CUT.out.two HP.out E.out.1)
             have F := Lib.hid (show Post k a mid d d ∧ Pl w0 blk off n d wr from ⟨Post.refl (V.out.1.sorted (by have := Z.out; have := Y.out; omega)), E.out.2.2⟩)
             have G := Lib.hid (show Post k mid b d d ∧ Pl w0 blk off n d wr from ⟨Post.refl ((V.out.2.1.other (by have := Z.out; have := Y.out; omega) CUT.out.tb F.out.1.1 (Or.inr (Nat.le_refl _))).sorted (by have := Z.out; have := Y.out; omega)), F.out.2⟩)
             go_wp2_with fail
             go_end0
             exact ⟨rfl, d, CUT.out.done HP.out (by have := S0.out.2.2.1; omega) (by omega) (by omega) E.out.1 E.out.2.1 F.out.1 G.out.1, G.out.2⟩)
        · first
          | (exfalso; have := Y.out; omega)
          | (have z1 : ¬ (s : Int) < (m : Int) := by omega
             have z2 : ¬ (m : Int) < (t : Int) := by omega
             have z3 : ¬ (a : Int) < (s : Int) := by omega
             have z4 : ¬ (t : Int) < (b : Int) := by omega
             have z5 : ¬ (s : Int) < (mid : Int) := by omega
             have z6 : ¬ (mid : Int) < (t : Int) := by omega
             have Z := Lib.hid (And.intro MD (And.intro b1 (And.intro b2 (And.intro b3 b4)))); clear MD b1 b2 b3 b4
             have E := Lib.hid (show Rot d s m t d ∧ PermIn s t d d ∧ Pl w0 blk off n d wr from ⟨Rot.none d CUT.out.sm CUT.out.mt (by have := Z.out; have := CUT.out.sm; have := CUT.out.mt; omega), permIn_refl _ _ _, HS.out⟩)
             have V := Lib.hid (CUT.out.two HP.out E.out.1)
             have F := Lib.hid (show Post k a mid d d ∧ Pl w0 blk off n d wr from ⟨Post.refl (V.out.1.sorted (by have := Z.out; have := Y.out; omega)), E.out.2.2⟩)
             have G := Lib.hid (show Post k mid b d d ∧ Pl w0 blk off n d wr from ⟨Post.refl ((V.out.2.1.other (by have := Z.out; have := Y.out; omega) CUT.out.tb F.out.1.1 (Or.inr (Nat.le_refl _))).sorted (by have := Z.out; have := Y.out; omega)), F.out.2⟩)
             go_wp2_with fail
             go_end0
             exact ⟨rfl, d, CUT.out.done HP.out (by have := S0.out.2.2.1; omega) (by omega) (by omega) E.out.1 E.out.2.1 F.out.1 G.out.1, G.out.2⟩)
end Go.Proofs.Ytinimjejdkcodaa
