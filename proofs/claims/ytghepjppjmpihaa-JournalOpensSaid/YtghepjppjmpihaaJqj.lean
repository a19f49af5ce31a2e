/- The program's journal: how much may be appended. -/
import Derived.Test.YtghepjppjmpihaaJqh
namespace Go.Proofs.Ytghepjppjmpihaa
open Go.ChangeShapes Go.WideShapes Go.ChangeAt Go.RowKit Go.Lib

/-- a journal that isn't spoilt, its pointer at j, of a disk whose pointer is d; T: the memory that it has, besides the disk's -/
def Jq (T : Nat → Prop) (w : World) (j d _m : Nat) (_rs : List (List Int)) (_e : Nat) : Prop := (T = fun k => k = j) ∧ Jm w j d false
theorem Jq.but {T U : Nat → Prop} {w w' : World} {j d m e : Nat} {rs : List (List Int)} (h : Jq T w j d m rs e) (hb : But U w w') (hs : ∀ k, T k → ¬ U k) : Jq T w' j d m rs e := by
  obtain ⟨rfl, h⟩ := h
  exact ⟨rfl, h.but hb (hs _ rfl)⟩
theorem Jq.lt {T : Nat → Prop} {w : World} {j d m e : Nat} {rs : List (List Int)} (h : Jq T w j d m rs e) : ∀ k, T k → k < w.heap.size := by
  obtain ⟨rfl, h⟩ := h
  rintro k rfl; exact h.lt
/-- a disk and its journal: what is there is what stands; behind the journal's end nothing is; their memory is behind B0, and apart -/
structure Dj (B0 : Nat) (S T : Nat → Prop) (w : World) (d j m : Nat) (now : List Int) (rs : List (List Int)) (e : Nat) : Prop where
  dk : Dq S w d m now now (zs m)
  jn : Jq T w j d m rs e
  jj : Jk.J now rs e
  zz : Jk.Zb now e
  ss : ∀ k, S k → B0 ≤ k
  tt : ∀ k, T k → B0 ≤ k
  aa : ∀ k, S k → ¬ T k
  yy : Jk.By now
/-- may a record of L bytes be appended? The error's number; 0: it may -/
def mayN (m e L : Nat) : Int := if L < 1 ∨ 1024 < L then 1 else if Jk.fr (64 * m) e < L then 8 else 0
set_option maxHeartbeats 1000000 in
theorem pfree {S : Nat → Prop} {j d m e : Nat} {st now dr : List Int} {rs : List (List Int)} (w : World) (hm : Jm w j d false) (h : Dq S w d m st now dr) (hJ : Jk.J now rs e) (hY : Jk.By now) :
    Calls Try.prog 24 #[.pointer (some ⟨j, 0, none⟩)] w fun v w' => v = .returned (.int .i64 (Jk.fr (64 * m) e : Nat)) ∧ Below w.heap.size w w' := by
  have hs := h.sizes
  have hel := hJ.le
  have LS := Lib.hid (fun w' (hb : Below w.heap.size w w') => csize w' (h.below hb))
  have LE := Lib.hid (fun w' (hb : Below w.heap.size w w') => cend w' (hm.below hb) (h.below hb) hJ hY)
  have HJ := Lib.hid hm.lt
  have c0 := hm.c0
  have c1 := hm.c1
  have hR : Hid (Jk.fr (64 * m) e = if 64 * m - (e + 8) < 1024 then 64 * m - (e + 8) else 1024) := Lib.hid rfl
  have hq : 64 * m ≤ 65536 ∧ e ≤ 64 * m := by have := hs.2.2.2; omega
  clear hm h hs hel
  generalize Jk.fr (64 * m) e = f at *
  generalize 64 * m = q at *
  have HB0 := Lib.hid (Below.refl w.heap.size w)
  obtain ⟨hq1, hq2⟩ := hq
  have hz1 : (q : Int) ≤ 65536 := by omega
  have hz2 : (e : Int) ≤ (q : Int) := by omega
  have HE : Hid (min (max ((q : Int) - (e : Int) - 8) 0) 1024 = (f : Int)) := Lib.hid (by rw [hR.out]; split <;> omega)
  clear hq1 hq2 hR
  go_enter Try.func24, Try.ntmps24
  go_wp2_with fail
  refine (LS.out _ HB0.out).mono ?_; rintro e1 w1 ⟨rfl, hb1⟩
  have HB1 := Lib.hid hb1
  clear hb1 LS
  go_wp2_with fail
  refine (LE.out _ HB1.out).mono ?_; rintro e1 w2 ⟨rfl, hb2⟩
  have HB2 := Lib.hid (HB1.out.trans (hb2.mono HB1.out.size))
  clear hb2 LE HB1 HB0 c0 c1
  go_wp2_with fail
  go_ret
  refine ⟨?_, HB2.out⟩
  exact congrArg (fun x => Ending.returned (Value.int .i64 x)) HE.out
theorem cfree {S T : Nat → Prop} {B0 d j m e : Nat} {now : List Int} {rs : List (List Int)} (w : World) (h : Dj B0 S T w d j m now rs e) :
    Calls Try.prog 24 #[.pointer (some ⟨j, 0, none⟩)] w fun v w' => v = .returned (.int .i64 (Jk.fr (64 * m) e : Nat)) ∧ Below w.heap.size w w' := pfree w h.jn.2 h.dk h.jj h.yy
/-- why a record may not be appended, or nil -/
def mayV (m e L : Nat) : Value := if mayN m e L = 0 then .nilIface else vErr (mayN m e L)
theorem may_arg {m e L : Nat} (h : L < 1 ∨ 1024 < L) : mayV m e L = vErr 1 := by unfold mayV mayN; rw [if_pos h, if_neg (by decide)]
theorem may_full {m e L : Nat} (h : ¬ (L < 1 ∨ 1024 < L)) (h2 : Jk.fr (64 * m) e < L) : mayV m e L = vErr 8 := by unfold mayV mayN; rw [if_neg h, if_pos h2, if_neg (by decide)]
theorem may_yes {m e L : Nat} (h : ¬ (L < 1 ∨ 1024 < L)) (h2 : ¬ Jk.fr (64 * m) e < L) : mayV m e L = .nilIface := by unfold mayV mayN; rw [if_neg h, if_neg h2, if_pos rfl]
set_option maxHeartbeats 1000000 in
theorem cmay {S : Nat → Prop} {j d m e L c : Nat} {A : Option Addr} {st now dr : List Int} {rs : List (List Int)} (w : World) (hm : Jm w j d false) (h : Dq S w d m st now dr) (hJ : Jk.J now rs e) (hY : Jk.By now) (hL : L ≤ maxLen) :
    Calls Try.prog 33 #[.pointer (some ⟨j, 0, none⟩), .slice A L c] w fun v w' => v = .returned (mayV m e L) ∧ Below w.heap.size w w' := by
  have LF := Lib.hid (fun w' (hb : Below w.heap.size w w') => pfree w' (hm.below hb) (h.below hb) hJ hY)
  have c1 := hm.c1
  have HJ := Lib.hid hm.lt
  have HB0 := Lib.hid (Below.refl w.heap.size w)
  have : L ≤ maxLen := hL
  clear this
  clear hm h
  by_cases h1 : L < 1
  · have HV := Lib.hid (may_arg (m := m) (e := e) (.inl h1))
    have h1' : (L : Int) < 1 := by omega
    clear h1 hL
    go_enter Try.func33, Try.ntmps33
    go_wp2_with fail
    go_ret
    exact ⟨by rw [HV.out]; rfl, HB0.out⟩
  · by_cases h2 : 1024 < L
    · have HV := Lib.hid (may_arg (m := m) (e := e) (.inr h2))
      have h1' : ¬ (L : Int) < 1 := by omega
      have h2' : 1024 < (L : Int) := by omega
      clear h1 h2 hL
      go_enter Try.func33, Try.ntmps33
      go_wp2_with fail
      go_ret
      exact ⟨by rw [HV.out]; rfl, HB0.out⟩
    · have hno : ¬ (L < 1 ∨ 1024 < L) := by omega
      have h1' : ¬ (L : Int) < 1 := by omega
      have h2' : ¬ 1024 < (L : Int) := by omega
      by_cases h3 : Jk.fr (64 * m) e < L
      · have HV := Lib.hid (may_full hno h3)
        have h3' : (Jk.fr (64 * m) e : Int) < (L : Int) := by omega
        clear h1 h2 hno h3 hL
        generalize Jk.fr (64 * m) e = f at *
        go_enter Try.func33, Try.ntmps33
        go_wp2_with fail
        refine (LF.out _ HB0.out).mono ?_; rintro e1 w1 ⟨rfl, hb1⟩
        have HB1 := Lib.hid hb1
        clear hb1 LF
        go_wp2_with fail
        go_ret
        exact ⟨by rw [HV.out]; rfl, HB1.out⟩
      · have HV := Lib.hid (may_yes hno h3)
        have h3' : ¬ (Jk.fr (64 * m) e : Int) < (L : Int) := by omega
        clear h1 h2 hno h3 hL
        generalize Jk.fr (64 * m) e = f at *
        go_enter Try.func33, Try.ntmps33
        go_wp2_with fail
        refine (LF.out _ HB0.out).mono ?_; rintro e1 w1 ⟨rfl, hb1⟩
        have HB1 := Lib.hid hb1
        clear hb1 LF
        go_wp2_with fail
        go_ret
        exact ⟨by rw [HV.out]; rfl, HB1.out⟩
end Go.Proofs.Ytghepjppjmpihaa
