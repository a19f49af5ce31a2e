/- The program's journal: Append and Start. -/
import Derived.Test.YtghepjppjmpihaaJqk
namespace Go.Proofs.Ytghepjppjmpihaa
open Go.ChangeShapes Go.WideShapes Go.ChangeAt Go.RowKit Go.Lib

theorem may0 {m e L : Nat} (h : mayN m e L = 0) : 1 ≤ L ∧ L ≤ 1024 ∧ e + 8 + L ≤ 64 * m := by
  unfold mayN at h
  split at h
  · exact absurd h (by decide)
  · split at h
    · exact absurd h (by decide)
    · have := Jk.fr_ok (n := 64 * m) (e := e) (L := L) (by omega) (by omega)
      omega
theorem mayV0 {m e L : Nat} (h : mayN m e L = 0) : mayV m e L = .nilIface := by unfold mayV; rw [if_pos h]
theorem mayVn {m e L : Nat} (h : mayN m e L ≠ 0) : mayV m e L = vErr (mayN m e L) := by unfold mayV; rw [if_neg h]
theorem Dj.fits {B0 d j m e : Nat} {S T : Nat → Prop} {w : World} {now : List Int} {rs : List (List Int)} (h : Dj B0 S T w d j m now rs e) : now.length = 64 * m := h.dk.sizes.2.1
theorem Upto.dj {B0 d j m e L : Nat} {S T : Nat → Prop} {w w1 w2 : World} {now bs : List Int} {rs : List (List Int)} (h : Dj B0 S T w d j m now rs e) (hB : B0 ≤ w.heap.size) (hb : Below w.heap.size w w1) (hbl : bs.length = L) (hY : Jk.By bs) (h0 : mayN m e L = 0)
    (hu : Upto S w1 w2 j d m false (Jk.ap bs now e) (Jk.ap bs now e) (zs m)) : ∃ S' T', Dj B0 S' T' w2 d j m (Jk.ap bs now e) (rs ++ [bs]) (e + 8 + L) ∧ But (fun k => S k ∨ T k) w w2 ∧ ∀ k, S' k ∨ T' k → S k ∨ T k ∨ w.heap.size ≤ k := by
  obtain ⟨S', h1, h2, h3, h4⟩ := hu
  obtain ⟨l1, l2, l3⟩ := may0 h0
  obtain ⟨hT, hm⟩ := h.jn
  have hlen := h.fits
  have hjn : ¬ S j := fun e1 => h.aa j e1 (by rw [hT])
  have hap := Jk.ap_J (bs := bs) h.jj h.zz (by omega) (by omega) (by omega)
  rw [hbl] at hap
  subst hT
  have hsz := hb.size
  have hlt := hm.lt
  refine ⟨S', fun k => k = j, ⟨h1, ⟨rfl, h4⟩, hap.1, hap.2, fun k hk => ?_, h.tt, fun k hk e1 => ?_, Jk.By.ap hY h.yy (by omega)⟩, (But.of hb _).trans (h2.more fun k _ hk => .inl hk), fun k hk => ?_⟩
  · rcases h3 k hk with h5 | h5
    · exact h.ss k h5
    · omega
  · subst e1
    rcases h3 k hk with h5 | h5
    · exact hjn h5
    · omega
  · rcases hk with hk | hk
    · rcases h3 k hk with h5 | h5
      · exact .inl h5
      · exact .inr (.inr (by omega))
    · exact .inr (.inl hk)
set_option maxHeartbeats 1000000 in
theorem cappend_yes {S T : Nat → Prop} {B0 d j m e L c : Nat} {now bs : List Int} {rs : List (List Int)} {A : Option Addr} (w : World) (h : Dj B0 S T w d j m now rs e) (hB : B0 ≤ w.heap.size) (hr : RdK .u8 w w.heap.size A L bs) (hs : 0 < L → ∀ g off, A = some ⟨g, off, none⟩ → ¬ S g ∧ ¬ T g) (hc : L ≤ c ∧ c ≤ maxLen) (hY : Jk.By bs) (h0 : mayN m e L = 0) :
    Calls Try.prog 20 #[.pointer (some ⟨j, 0, none⟩), .slice A L c] w fun v w' => v = .returned .nilIface ∧ ∃ S' T', Dj B0 S' T' w' d j m (Jk.ap bs now e) (rs ++ [bs]) (e + 8 + L) ∧ But (fun k => S k ∨ T k) w w' ∧ ∀ k, S' k ∨ T' k → S k ∨ T k ∨ w.heap.size ≤ k := by
  have hT := h.jn.1
  have hjn : ¬ S j := fun e1 => h.aa j e1 (by rw [hT])
  have LM := Lib.hid (cmay (c := c) (A := A) w h.jn.2 h.dk h.jj h.yy (Nat.le_trans hc.1 hc.2))
  have LU := Lib.hid (fun w' (hb : Below w.heap.size w w') => cupto4 w' (h.jn.2.below hb) (h.dk.below hb) hjn h.jj h.yy ((hr.below hb).more hb.size) (fun h1 g off e1 => (hs h1 g off e1).1) hc (may0 h0).2.2 (may0 h0).2.1)
  have HD := Lib.hid h
  have HX := Lib.hid (And.intro hB (And.intro hr.1 (And.intro hY h0)))
  rw [mayV0 h0] at LM
  clear h hB hr hs hc hY h0 hT hjn
  go_enter Try.func20, Try.ntmps20
  go_wp2_with fail
  refine LM.out.mono ?_; rintro e1 w1 ⟨rfl, hb1⟩
  have HB1 := Lib.hid hb1
  clear hb1 LM
  go_wp2_with fail
  refine (LU.out _ HB1.out).mono ?_; rintro e1 w2 ⟨rfl, hu⟩
  have HU := Lib.hid hu
  clear hu LU
  go_wp2_with fail
  go_ret
  exact ⟨rfl, Upto.dj HD.out HX.out.1 HB1.out HX.out.2.1 HX.out.2.2.1 HX.out.2.2.2 HU.out⟩
set_option maxHeartbeats 1000000 in
theorem cappend_no {S T : Nat → Prop} {B0 d j m e L c : Nat} {now bs : List Int} {rs : List (List Int)} {A : Option Addr} (w : World) (h : Dj B0 S T w d j m now rs e) (_ : RdK .u8 w w.heap.size A L bs) (hc : L ≤ c ∧ c ≤ maxLen) (h0 : mayN m e L ≠ 0) :
    Calls Try.prog 20 #[.pointer (some ⟨j, 0, none⟩), .slice A L c] w fun v w' => v = .returned (vErr (mayN m e L)) ∧ Below w.heap.size w w' := by
  have LM := Lib.hid (cmay (c := c) (A := A) w h.jn.2 h.dk h.jj h.yy (Nat.le_trans hc.1 hc.2))
  rw [mayVn h0] at LM
  clear h hc h0
  generalize mayN m e L = q at *
  go_enter Try.func20, Try.ntmps20
  go_wp2_with fail
  refine LM.out.mono ?_; rintro e1 w1 ⟨rfl, hb1⟩
  have HB1 := Lib.hid hb1
  clear hb1 LM
  go_wp2_with fail
  go_ret
  exact ⟨rfl, HB1.out⟩
theorem spoil {w : World} {j d : Nat} (h : Jm w j d false) : Jm (w.setCell ⟨j, 1, none⟩ (.bool true)) j d true :=
  ⟨by simpa [World.setCell] using h.lt, (World.cell?_setCell_other _ _ _ _ (by intro e; simp at e)).trans h.c0, World.cell?_setCell_same _ _ _ h.c1, by rw [World.frozen?_setCell]; exact h.z1⟩
theorem Upto.began {B0 d j m e : Nat} {S T : Nat → Prop} {w w1 w2 w3 : World} {now st' now' dr' : List Int} {rs : List (List Int)} (h : Dj B0 S T w d j m now rs e) (hb : Below w.heap.size w w1) (hb2 : But (fun k => k = j) w1 w2) (hu : Upto S w2 w3 j d m true st' now' dr') :
    ∃ S', Dq S' w3 d m st' now' dr' ∧ But (fun k => S k ∨ T k) w w3 ∧ ∀ k, S' k → S k ∨ T k ∨ w.heap.size ≤ k := by
  obtain ⟨S', h1, h2, h3, h4⟩ := hu
  obtain ⟨hT, hm⟩ := h.jn
  subst hT
  refine ⟨S', h1, ((But.of hb _).trans (hb2.more fun k _ hk => .inr hk)).trans (h2.more fun k _ hk => .inl hk), fun k hk => ?_⟩
  rcases h3 k hk with h5 | h5
  · exact .inl h5
  · exact .inr (.inr (Nat.le_trans (Nat.le_trans hb.size hb2.size) h5))
set_option maxHeartbeats 1000000 in
theorem cstart1 {S T : Nat → Prop} {B0 d j m e L c : Nat} {now bs : List Int} {rs : List (List Int)} {A : Option Addr} (w : World) (h : Dj B0 S T w d j m now rs e) (_ : B0 ≤ w.heap.size) (hr : RdK .u8 w w.heap.size A L bs) (hs : 0 < L → ∀ g off, A = some ⟨g, off, none⟩ → ¬ S g ∧ ¬ T g) (hc : L ≤ c ∧ c ≤ maxLen) (_ : Jk.By bs) (h0 : mayN m e L = 0) :
    Calls Try.prog 22 #[.pointer (some ⟨j, 0, none⟩), .slice A L c, .int .i64 1] w fun v w' => v = .returned .nilIface ∧ ∃ S' st' now' dr', Dq S' w' d m st' now' dr' ∧ But (fun k => S k ∨ T k) w w' ∧ (∀ k, S' k → S k ∨ T k ∨ w.heap.size ≤ k) ∧
      (((1 : Int) = 1 ∧ st' = now ∧ now' = Dk.wr bs now (e + 8) L) ∨ ((1 : Int) = 2 ∧ st' = Dk.wr bs now (e + 8) L ∧ now' = st') ∨ ((1 : Int) = 3 ∧ st' = Dk.wr bs now (e + 8) L ∧ now' = Jk.ap bs now e)) := by
  have hT := h.jn.1
  have hjn : ¬ S j := fun e1 => h.aa j e1 (by rw [hT])
  have LM := Lib.hid (cmay (c := c) (A := A) w h.jn.2 h.dk h.jj h.yy (Nat.le_trans hc.1 hc.2))
  have LU := Lib.hid (fun w' w2 (hb : Below w.heap.size w w') (hb2 : But (fun k => k = j) w' w2) (hm : Jm w2 j d true) => cupto1 w2 hm ((h.dk.below hb).but hb2 (fun k hk e1 => hjn (e1 ▸ hk))) hjn h.jj h.yy (RdK.but ((hr.below hb).more hb.size) hb2 (fun h1 g off e1 e2 => (hs h1 g off e1).2 (by rw [hT]; exact e2))) (fun h1 g off e1 => (hs h1 g off e1).1) hc (may0 h0).2.2 (may0 h0).2.1)
  have HD := Lib.hid h
  rw [mayV0 h0] at LM
  clear h hr hs hc h0 hT hjn
  go_enter Try.func22, Try.ntmps22
  go_wp2_with fail
  refine LM.out.mono ?_; rintro e1 w1 ⟨rfl, hb1⟩
  have HB1 := Lib.hid hb1
  have M1 := Lib.hid (HD.out.jn.2.below hb1)
  obtain ⟨_, c0, c1, z1⟩ := M1.out
  clear hb1 LM
  go_wp2_with fail
  have BB := Lib.hid ((But.refl (fun k => k = j) w1).setCell (p := ⟨j, 1, none⟩) rfl (.bool true))
  refine (LU.out _ _ HB1.out BB.out (spoil M1.out)).mono ?_; rintro e1 w2 ⟨rfl, hu⟩
  have HU := Lib.hid (Upto.began HD.out HB1.out BB.out hu)
  clear hu LU c0 c1 z1
  go_wp2_with fail
  go_ret
  obtain ⟨S', h1, h2, h3⟩ := HU.out
  exact ⟨rfl, S', _, _, _, h1, h2, h3, .inl ⟨trivial, rfl, rfl⟩⟩
set_option maxHeartbeats 1000000 in
theorem cstart2 {S T : Nat → Prop} {B0 d j m e L c : Nat} {now bs : List Int} {rs : List (List Int)} {A : Option Addr} (w : World) (h : Dj B0 S T w d j m now rs e) (_ : B0 ≤ w.heap.size) (hr : RdK .u8 w w.heap.size A L bs) (hs : 0 < L → ∀ g off, A = some ⟨g, off, none⟩ → ¬ S g ∧ ¬ T g) (hc : L ≤ c ∧ c ≤ maxLen) (_ : Jk.By bs) (h0 : mayN m e L = 0) :
    Calls Try.prog 22 #[.pointer (some ⟨j, 0, none⟩), .slice A L c, .int .i64 2] w fun v w' => v = .returned .nilIface ∧ ∃ S' st' now' dr', Dq S' w' d m st' now' dr' ∧ But (fun k => S k ∨ T k) w w' ∧ (∀ k, S' k → S k ∨ T k ∨ w.heap.size ≤ k) ∧
      (((2 : Int) = 1 ∧ st' = now ∧ now' = Dk.wr bs now (e + 8) L) ∨ ((2 : Int) = 2 ∧ st' = Dk.wr bs now (e + 8) L ∧ now' = st') ∨ ((2 : Int) = 3 ∧ st' = Dk.wr bs now (e + 8) L ∧ now' = Jk.ap bs now e)) := by
  have hT := h.jn.1
  have hjn : ¬ S j := fun e1 => h.aa j e1 (by rw [hT])
  have LM := Lib.hid (cmay (c := c) (A := A) w h.jn.2 h.dk h.jj h.yy (Nat.le_trans hc.1 hc.2))
  have LU := Lib.hid (fun w' w2 (hb : Below w.heap.size w w') (hb2 : But (fun k => k = j) w' w2) (hm : Jm w2 j d true) => cupto2 w2 hm ((h.dk.below hb).but hb2 (fun k hk e1 => hjn (e1 ▸ hk))) hjn h.jj h.yy (RdK.but ((hr.below hb).more hb.size) hb2 (fun h1 g off e1 e2 => (hs h1 g off e1).2 (by rw [hT]; exact e2))) (fun h1 g off e1 => (hs h1 g off e1).1) hc (may0 h0).2.2 (may0 h0).2.1)
  have HD := Lib.hid h
  rw [mayV0 h0] at LM
  clear h hr hs hc h0 hT hjn
  go_enter Try.func22, Try.ntmps22
  go_wp2_with fail
  refine LM.out.mono ?_; rintro e1 w1 ⟨rfl, hb1⟩
  have HB1 := Lib.hid hb1
  have M1 := Lib.hid (HD.out.jn.2.below hb1)
  obtain ⟨_, c0, c1, z1⟩ := M1.out
  clear hb1 LM
  go_wp2_with fail
  have BB := Lib.hid ((But.refl (fun k => k = j) w1).setCell (p := ⟨j, 1, none⟩) rfl (.bool true))
  refine (LU.out _ _ HB1.out BB.out (spoil M1.out)).mono ?_; rintro e1 w2 ⟨rfl, hu⟩
  have HU := Lib.hid (Upto.began HD.out HB1.out BB.out hu)
  clear hu LU c0 c1 z1
  go_wp2_with fail
  go_ret
  obtain ⟨S', h1, h2, h3⟩ := HU.out
  exact ⟨rfl, S', _, _, _, h1, h2, h3, .inr (.inl ⟨trivial, rfl, rfl⟩)⟩
set_option maxHeartbeats 1000000 in
theorem cstart3 {S T : Nat → Prop} {B0 d j m e L c : Nat} {now bs : List Int} {rs : List (List Int)} {A : Option Addr} (w : World) (h : Dj B0 S T w d j m now rs e) (_ : B0 ≤ w.heap.size) (hr : RdK .u8 w w.heap.size A L bs) (hs : 0 < L → ∀ g off, A = some ⟨g, off, none⟩ → ¬ S g ∧ ¬ T g) (hc : L ≤ c ∧ c ≤ maxLen) (_ : Jk.By bs) (h0 : mayN m e L = 0) :
    Calls Try.prog 22 #[.pointer (some ⟨j, 0, none⟩), .slice A L c, .int .i64 3] w fun v w' => v = .returned .nilIface ∧ ∃ S' st' now' dr', Dq S' w' d m st' now' dr' ∧ But (fun k => S k ∨ T k) w w' ∧ (∀ k, S' k → S k ∨ T k ∨ w.heap.size ≤ k) ∧
      (((3 : Int) = 1 ∧ st' = now ∧ now' = Dk.wr bs now (e + 8) L) ∨ ((3 : Int) = 2 ∧ st' = Dk.wr bs now (e + 8) L ∧ now' = st') ∨ ((3 : Int) = 3 ∧ st' = Dk.wr bs now (e + 8) L ∧ now' = Jk.ap bs now e)) := by
  have hT := h.jn.1
  have hjn : ¬ S j := fun e1 => h.aa j e1 (by rw [hT])
  have LM := Lib.hid (cmay (c := c) (A := A) w h.jn.2 h.dk h.jj h.yy (Nat.le_trans hc.1 hc.2))
  have LU := Lib.hid (fun w' w2 (hb : Below w.heap.size w w') (hb2 : But (fun k => k = j) w' w2) (hm : Jm w2 j d true) => cupto3 w2 hm ((h.dk.below hb).but hb2 (fun k hk e1 => hjn (e1 ▸ hk))) hjn h.jj h.yy (RdK.but ((hr.below hb).more hb.size) hb2 (fun h1 g off e1 e2 => (hs h1 g off e1).2 (by rw [hT]; exact e2))) (fun h1 g off e1 => (hs h1 g off e1).1) hc (may0 h0).2.2 (may0 h0).2.1)
  have HD := Lib.hid h
  rw [mayV0 h0] at LM
  clear h hr hs hc h0 hT hjn
  go_enter Try.func22, Try.ntmps22
  go_wp2_with fail
  refine LM.out.mono ?_; rintro e1 w1 ⟨rfl, hb1⟩
  have HB1 := Lib.hid hb1
  have M1 := Lib.hid (HD.out.jn.2.below hb1)
  obtain ⟨_, c0, c1, z1⟩ := M1.out
  clear hb1 LM
  go_wp2_with fail
  have BB := Lib.hid ((But.refl (fun k => k = j) w1).setCell (p := ⟨j, 1, none⟩) rfl (.bool true))
  refine (LU.out _ _ HB1.out BB.out (spoil M1.out)).mono ?_; rintro e1 w2 ⟨rfl, hu⟩
  have HU := Lib.hid (Upto.began HD.out HB1.out BB.out hu)
  clear hu LU c0 c1 z1
  go_wp2_with fail
  go_ret
  obtain ⟨S', h1, h2, h3⟩ := HU.out
  exact ⟨rfl, S', _, _, _, h1, h2, h3, .inr (.inr ⟨trivial, rfl, rfl⟩)⟩
theorem cstart_yes {S T : Nat → Prop} {B0 d j m e L c : Nat} {now bs : List Int} {rs : List (List Int)} {A : Option Addr} {g : Int} (w : World) (h : Dj B0 S T w d j m now rs e) (hB : B0 ≤ w.heap.size) (hr : RdK .u8 w w.heap.size A L bs) (hs : 0 < L → ∀ g off, A = some ⟨g, off, none⟩ → ¬ S g ∧ ¬ T g) (hc : L ≤ c ∧ c ≤ maxLen) (hY : Jk.By bs) (h0 : mayN m e L = 0) (hg : 1 ≤ g ∧ g ≤ 3) :
    Calls Try.prog 22 #[.pointer (some ⟨j, 0, none⟩), .slice A L c, .int .i64 g] w fun v w' => v = .returned .nilIface ∧ ∃ S' st' now' dr', Dq S' w' d m st' now' dr' ∧ But (fun k => S k ∨ T k) w w' ∧ (∀ k, S' k → S k ∨ T k ∨ w.heap.size ≤ k) ∧
      ((g = 1 ∧ st' = now ∧ now' = Dk.wr bs now (e + 8) L) ∨ (g = 2 ∧ st' = Dk.wr bs now (e + 8) L ∧ now' = st') ∨ (g = 3 ∧ st' = Dk.wr bs now (e + 8) L ∧ now' = Jk.ap bs now e)) := by
  obtain rfl | rfl | rfl : g = 1 ∨ g = 2 ∨ g = 3 := by omega
  · exact cstart1 w h hB hr hs hc hY h0
  · exact cstart2 w h hB hr hs hc hY h0
  · exact cstart3 w h hB hr hs hc hY h0
set_option maxHeartbeats 1000000 in
theorem cstart_no {S T : Nat → Prop} {B0 d j m e L c : Nat} {now bs : List Int} {rs : List (List Int)} {A : Option Addr} {g : Int} (w : World) (h : Dj B0 S T w d j m now rs e) (_ : RdK .u8 w w.heap.size A L bs) (hc : L ≤ c ∧ c ≤ maxLen) (h0 : mayN m e L ≠ 0) (_ : 1 ≤ g ∧ g ≤ 3) :
    Calls Try.prog 22 #[.pointer (some ⟨j, 0, none⟩), .slice A L c, .int .i64 g] w fun v w' => v = .returned (vErr (mayN m e L)) ∧ Below w.heap.size w w' := by
  have LM := Lib.hid (cmay (c := c) (A := A) w h.jn.2 h.dk h.jj h.yy (Nat.le_trans hc.1 hc.2))
  rw [mayVn h0] at LM
  clear h hc h0
  generalize mayN m e L = q at *
  go_enter Try.func22, Try.ntmps22
  go_wp2_with fail
  refine LM.out.mono ?_; rintro e1 w1 ⟨rfl, hb1⟩
  have HB1 := Lib.hid hb1
  clear hb1 LM
  go_wp2_with fail
  go_ret
  exact ⟨rfl, HB1.out⟩
end Go.Proofs.Ytghepjppjmpihaa
