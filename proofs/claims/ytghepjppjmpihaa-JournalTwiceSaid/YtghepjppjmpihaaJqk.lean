/- The program's journal: appending, so far. -/
import Derived.Test.YtghepjppjmpihaaJqj
namespace Go.Proofs.Ytghepjppjmpihaa
open Go.ChangeShapes Go.WideShapes Go.ChangeAt Go.RowKit Go.Lib

/-- what an append leaves, of a disk and its journal's two cells -/
def Upto (S : Nat → Prop) (w w' : World) (j d m : Nat) (sp : Bool) (st now dr : List Int) : Prop := ∃ S', Dq S' w' d m st now dr ∧ But S w w' ∧ (∀ k, S' k → S k ∨ w.heap.size ≤ k) ∧ Jm w' j d sp
/-- a head's cells -/
def hdC (n : Nat) : Array Value := #[.int .u8 ((Jk.hd n)[0]?.getD 0), .int .u8 ((Jk.hd n)[1]?.getD 0), .int .u8 ((Jk.hd n)[2]?.getD 0), .int .u8 ((Jk.hd n)[3]?.getD 0), .int .u8 ((Jk.hd n)[4]?.getD 0), .int .u8 ((Jk.hd n)[5]?.getD 0), .int .u8 ((Jk.hd n)[6]?.getD 0), .int .u8 ((Jk.hd n)[7]?.getD 0)]
theorem hd_row (n : Nat) (w : World) : RdK .u8 (w.alloc (Obj.cells (hdC n) 83)) (w.alloc (Obj.cells (hdC n) 83)).heap.size (some ⟨w.heap.size, 0, none⟩) 8 (Jk.hd n) :=
  ⟨rfl, fun j hj => ⟨w.heap.size, 0, rfl, by simp, by
    rw [cell_of_row _ _ _ _ _ _ (World.alloc_heap_new w _), Nat.zero_add]
    obtain rfl | rfl | rfl | rfl | rfl | rfl | rfl | rfl : j = 0 ∨ j = 1 ∨ j = 2 ∨ j = 3 ∨ j = 4 ∨ j = 5 ∨ j = 6 ∨ j = 7 := by omega
    all_goals rfl⟩⟩
theorem Upto.of {S : Nat → Prop} {w w1 w2 : World} {j d m : Nat} {sp : Bool} {st now dr : List Int} (hm : Jm w1 j d sp) (hb : Below w.heap.size w w1) (hj : ¬ S j) (h : Left S w1 w2 d m st now dr) : Upto S w w2 j d m sp st now dr := by
  obtain ⟨S', h1, h2, h3⟩ := h
  exact ⟨S', h1, (But.of hb S).trans h2, fun k hk => (h3 k hk).elim .inl (fun h => .inr (Nat.le_trans hb.size h)), hm.but h2 hj⟩
theorem Upto.jm {S : Nat → Prop} {w w' : World} {j d m : Nat} {sp : Bool} {st now dr : List Int} (h : Upto S w w' j d m sp st now dr) : Jm w' j d sp := by
  obtain ⟨_, _, _, _, h⟩ := h; exact h
theorem Upto.go {S S' : Nat → Prop} {w w1 w2 : World} {j d m : Nat} {sp : Bool} {st' now' dr' : List Int} (k2 : But S w w1) (k3 : ∀ k, S' k → S k ∨ w.heap.size ≤ k) (k4 : Jm w1 j d sp) (hj : ¬ S j) (hlt : j < w.heap.size)
    (h2 : Left S' w1 w2 d m st' now' dr') : Upto S w w2 j d m sp st' now' dr' := by
  obtain ⟨S2, l1, l2, l3⟩ := h2
  have hj' : ¬ S' j := fun e => (k3 j e).elim hj (fun h => by omega)
  refine ⟨S2, l1, ⟨l2.os.trans k2.os, l2.tape.trans k2.tape, l2.output.trans k2.output, Nat.le_trans k2.size l2.size, fun k hk hn => (l2.block k (Nat.lt_of_lt_of_le hk k2.size) (fun e => (k3 k e).elim hn (fun h => by omega))).trans (k2.block k hk hn)⟩, fun k hk => ?_, k4.but l2 hj'⟩
  rcases l3 k hk with h | h
  · exact k3 k h
  · exact .inr (Nat.le_trans k2.size h)
theorem cwrite_end {S : Nat → Prop} {b m e : Nat} {st now dr bs : List Int} {A : Option Addr} {L c : Nat} (w : World) (h : Dq S w b m st now dr) (hr : RdK .u8 w w.heap.size A L bs) (hs : 0 < L → ∀ g off, A = some ⟨g, off, none⟩ → ¬ S g) (hp : e + 8 + L ≤ 64 * m) (hc : L ≤ c ∧ c ≤ maxLen) :
    Calls Try.prog 10 #[.pointer (some ⟨b, 0, none⟩), .int .i64 ((e : Int) + 8), .slice A L c] w fun e1 w' => e1 = .returned .nilIface ∧ Left S w w' b m st (Dk.wr bs now (e + 8) L) (Dk.dirt dr (e + 8) L) := by
  have h1 := cwrite_yes (p := e + 8) w h hr hs hp hc
  rwa [show ((e + 8 : Nat) : Int) = (e : Int) + 8 by omega] at h1
set_option maxHeartbeats 2000000 in
theorem cupto1 {S : Nat → Prop} {j d m e L c : Nat} {sp : Bool} {A : Option Addr} {now bs : List Int} {rs : List (List Int)} (w : World) (hm : Jm w j d sp) (h : Dq S w d m now now (zs m)) (hj : ¬ S j) (hJ : Jk.J now rs e) (hY : Jk.By now) (hr : RdK .u8 w w.heap.size A L bs) (hs : 0 < L → ∀ g off, A = some ⟨g, off, none⟩ → ¬ S g) (hc : L ≤ c ∧ c ≤ maxLen) (hp : e + 8 + L ≤ 64 * m) (hL : L ≤ 1024) :
    Calls Try.prog 34 #[.pointer (some ⟨j, 0, none⟩), .int .i64 1, .slice A L c] w fun v w' => v = .returned .nilIface ∧ Upto S w w' j d m sp now (Dk.wr bs now (e + 8) L) (Dk.dirt (zs m) (e + 8) L) := by
  have hsz := h.sizes
  have LE := Lib.hid (fun w' (hb : Below w.heap.size w w') => cend w' (hm.below hb) (h.below hb) hJ hY)
  have LW := Lib.hid (fun w' (hb : Below w.heap.size w w') => cwrite_end w' (h.below hb) ((hr.below hb).more hb.size) hs hp hc)
  have HM := Lib.hid hm
  have HJ := Lib.hid hj
  have HB0 := Lib.hid (Below.refl w.heap.size w)
  have HP := Lib.hid (And.intro hp (And.intro hL hsz))
  have HL1 := Lib.hid hr.1
  have he8 : (e : Int) + 8 ≤ 65536 := by omega
  clear hm h hj hr hs hc hp hL hsz
  go_enter Try.func34, Try.ntmps34
  go_wp2_with fail
  refine (LE.out _ HB0.out).mono ?_; rintro e1 w1 ⟨rfl, hb1⟩
  have HB1 := Lib.hid hb1
  have M1 := Lib.hid (HM.out.below hb1)
  have c0 := M1.out.c0
  clear hb1 LE
  go_wp2_with fail
  refine (LW.out _ HB1.out).mono ?_; rintro e1 w2 ⟨rfl, hl2⟩
  have U2 := Lib.hid (Upto.of M1.out HB1.out HJ.out hl2)
  clear hl2 LW c0
  go_wp2_with fail
  go_ret
  exact ⟨rfl, U2.out⟩
set_option maxHeartbeats 2000000 in
theorem cupto2 {S : Nat → Prop} {j d m e L c : Nat} {sp : Bool} {A : Option Addr} {now bs : List Int} {rs : List (List Int)} (w : World) (hm : Jm w j d sp) (h : Dq S w d m now now (zs m)) (hj : ¬ S j) (hJ : Jk.J now rs e) (hY : Jk.By now) (hr : RdK .u8 w w.heap.size A L bs) (hs : 0 < L → ∀ g off, A = some ⟨g, off, none⟩ → ¬ S g) (hc : L ≤ c ∧ c ≤ maxLen) (hp : e + 8 + L ≤ 64 * m) (hL : L ≤ 1024) :
    Calls Try.prog 34 #[.pointer (some ⟨j, 0, none⟩), .int .i64 2, .slice A L c] w fun v w' => v = .returned .nilIface ∧ Upto S w w' j d m sp (Dk.wr bs now (e + 8) L) (Dk.wr bs now (e + 8) L) (zs m) := by
  have hsz := h.sizes
  have LE := Lib.hid (fun w' (hb : Below w.heap.size w w') => cend w' (hm.below hb) (h.below hb) hJ hY)
  have LW := Lib.hid (fun w' (hb : Below w.heap.size w w') => cwrite_end w' (h.below hb) ((hr.below hb).more hb.size) hs hp hc)
  have HM := Lib.hid hm
  have HJ := Lib.hid hj
  have HB0 := Lib.hid (Below.refl w.heap.size w)
  have HP := Lib.hid (And.intro hp (And.intro hL hsz))
  have HL1 := Lib.hid hr.1
  have he8 : (e : Int) + 8 ≤ 65536 := by omega
  clear hm h hj hr hs hc hp hL hsz
  go_enter Try.func34, Try.ntmps34
  go_wp2_with fail
  refine (LE.out _ HB0.out).mono ?_; rintro e1 w1 ⟨rfl, hb1⟩
  have HB1 := Lib.hid hb1
  have M1 := Lib.hid (HM.out.below hb1)
  have c0 := M1.out.c0
  clear hb1 LE
  go_wp2_with fail
  refine (LW.out _ HB1.out).mono ?_; rintro e1 w2 ⟨rfl, hl2⟩
  have U2 := Lib.hid (Upto.of M1.out HB1.out HJ.out hl2)
  clear hl2 LW c0
  obtain ⟨S2, D2, B2, I2, M2⟩ := U2.out
  have LS := Lib.hid (csync w2 D2)
  have c0 := M2.c0
  have K2 := Lib.hid (And.intro B2 (And.intro I2 M2))
  clear D2 B2 I2 M2
  go_wp2_with fail
  refine LS.out.mono ?_; rintro e1 w3 ⟨rfl, hl3⟩
  have U3 := Lib.hid (Upto.go K2.out.1 K2.out.2.1 K2.out.2.2 HJ.out HM.out.lt hl3)
  clear hl3 LS c0 K2
  go_wp2_with fail
  go_ret
  exact ⟨rfl, U3.out⟩
set_option maxHeartbeats 2000000 in
theorem cupto3 {S : Nat → Prop} {j d m e L c : Nat} {sp : Bool} {A : Option Addr} {now bs : List Int} {rs : List (List Int)} (w : World) (hm : Jm w j d sp) (h : Dq S w d m now now (zs m)) (hj : ¬ S j) (hJ : Jk.J now rs e) (hY : Jk.By now) (hr : RdK .u8 w w.heap.size A L bs) (hs : 0 < L → ∀ g off, A = some ⟨g, off, none⟩ → ¬ S g) (hc : L ≤ c ∧ c ≤ maxLen) (hp : e + 8 + L ≤ 64 * m) (hL : L ≤ 1024) :
    Calls Try.prog 34 #[.pointer (some ⟨j, 0, none⟩), .int .i64 3, .slice A L c] w fun v w' => v = .returned .nilIface ∧ Upto S w w' j d m sp (Dk.wr bs now (e + 8) L) (Jk.ap bs now e) (Dk.dirt (zs m) e 8) := by
  have hsz := h.sizes
  have LE := Lib.hid (fun w' (hb : Below w.heap.size w w') => cend w' (hm.below hb) (h.below hb) hJ hY)
  have LW := Lib.hid (fun w' (hb : Below w.heap.size w w') => cwrite_end w' (h.below hb) ((hr.below hb).more hb.size) hs hp hc)
  have HM := Lib.hid hm
  have HJ := Lib.hid hj
  have HB0 := Lib.hid (Below.refl w.heap.size w)
  have HP := Lib.hid (And.intro hp (And.intro hL hsz))
  have HL1 := Lib.hid hr.1
  have he8 : (e : Int) + 8 ≤ 65536 := by omega
  clear hm h hj hr hs hc hp hL hsz
  go_enter Try.func34, Try.ntmps34
  go_wp2_with fail
  refine (LE.out _ HB0.out).mono ?_; rintro e1 w1 ⟨rfl, hb1⟩
  have HB1 := Lib.hid hb1
  have M1 := Lib.hid (HM.out.below hb1)
  have c0 := M1.out.c0
  clear hb1 LE
  go_wp2_with fail
  refine (LW.out _ HB1.out).mono ?_; rintro e1 w2 ⟨rfl, hl2⟩
  have U2 := Lib.hid (Upto.of M1.out HB1.out HJ.out hl2)
  clear hl2 LW c0
  obtain ⟨S2, D2, B2, I2, M2⟩ := U2.out
  have LS := Lib.hid (csync w2 D2)
  have c0 := M2.c0
  have K2 := Lib.hid (And.intro B2 (And.intro I2 M2))
  clear D2 B2 I2 M2
  go_wp2_with fail
  refine LS.out.mono ?_; rintro e1 w3 ⟨rfl, hl3⟩
  have U3 := Lib.hid (Upto.go K2.out.1 K2.out.2.1 K2.out.2.2 HJ.out HM.out.lt hl3)
  clear hl3 LS c0 K2
  have HH := Lib.hid (fun w' => phead_any L HP.out.2.1 w')
  have HV : Hid (hdV L = .agg #[.int .u8 ((Jk.hd L).getD 0 0), .int .u8 ((Jk.hd L).getD 1 0), .int .u8 ((Jk.hd L).getD 2 0), .int .u8 ((Jk.hd L).getD 3 0), .int .u8 ((Jk.hd L).getD 4 0), .int .u8 ((Jk.hd L).getD 5 0), .int .u8 ((Jk.hd L).getD 6 0), .int .u8 ((Jk.hd L).getD 7 0)]) := Lib.hid rfl
  go_wp2_with fail
  refine (HH.out _).mono ?_; rintro e1 w4 ⟨rfl, hb4⟩
  rw [HV.out]
  have HB4 := Lib.hid hb4
  clear hb4 HH HV
  go_wp2_with fail
  obtain ⟨S3, D3, B3, I3, M3⟩ := U3.out
  have hlt3 := D3.lt
  obtain ⟨W5, hW5⟩ : ∃ W5, W5 = w4.alloc (Obj.cells (hdC L) 83) := ⟨_, rfl⟩
  have R5 := hd_row L w4
  rw [← hW5] at R5
  have hb5 : Below w3.heap.size w3 W5 := by rw [hW5]; exact HB4.out.alloc HB4.out.size _
  have hb5' : Below w3.heap.size w3 W5.drew := hb5.drew
  have LW5 := Lib.hid (cwrite_yes (p := e) W5.drew (D3.below hb5') R5 (fun _ g off e2 => by injection e2 with e2; injection e2 with e3 _; intro hk; have := hlt3 _ hk; have := HB4.out.size; omega) (by have := HP.out.1; omega) ⟨Nat.le_refl _, by decide⟩)
  have K3 := Lib.hid (And.intro ((B3.trans (But.of hb5' S))) (And.intro I3 (M3.below hb5')))
  have c0 := (M3.below hb5).c0
  clear R5 hb5 hb5' hlt3 D3 B3 I3 M3
  change Code.wp _ _ _ _ (w4.alloc (Obj.cells (hdC L) 83))
  rw [← hW5]
  clear hW5
  go_region_held3 (fun w' => w'.cell? ⟨j, 0, none⟩ = some (.pointer (some ⟨d, 0, none⟩)))
    (first | assumption | go_keep)
    (first
    | (go_at_call 10; refine LW5.out.mono ?_; rintro e1 w6 ⟨rfl, hl6⟩; have c0 : w6.cell? ⟨j, 0, none⟩ = some (.pointer (some ⟨d, 0, none⟩)) := (Upto.go K3.out.1 K3.out.2.1 K3.out.2.2 HJ.out HM.out.lt hl6).jm.c0; have HL6 := Lib.hid hl6; clear hl6))
  have hap : Dk.wr (Jk.hd L) (Dk.wr bs now (e + 8) L) e 8 = Jk.ap bs now e := by unfold Jk.ap; rw [HL1.out]
  have U6 := Lib.hid (hap ▸ Upto.go K3.out.1 K3.out.2.1 K3.out.2.2 HJ.out HM.out.lt HL6.out)
  clear hap HL6 LW5 K3 c0
  go_wp2_with fail
  go_ret
  exact ⟨rfl, U6.out⟩
set_option maxHeartbeats 2000000 in
theorem cupto4 {S : Nat → Prop} {j d m e L c : Nat} {sp : Bool} {A : Option Addr} {now bs : List Int} {rs : List (List Int)} (w : World) (hm : Jm w j d sp) (h : Dq S w d m now now (zs m)) (hj : ¬ S j) (hJ : Jk.J now rs e) (hY : Jk.By now) (hr : RdK .u8 w w.heap.size A L bs) (hs : 0 < L → ∀ g off, A = some ⟨g, off, none⟩ → ¬ S g) (hc : L ≤ c ∧ c ≤ maxLen) (hp : e + 8 + L ≤ 64 * m) (hL : L ≤ 1024) :
    Calls Try.prog 34 #[.pointer (some ⟨j, 0, none⟩), .int .i64 4, .slice A L c] w fun v w' => v = .returned .nilIface ∧ Upto S w w' j d m sp (Jk.ap bs now e) (Jk.ap bs now e) (zs m) := by
  have hsz := h.sizes
  have LE := Lib.hid (fun w' (hb : Below w.heap.size w w') => cend w' (hm.below hb) (h.below hb) hJ hY)
  have LW := Lib.hid (fun w' (hb : Below w.heap.size w w') => cwrite_end w' (h.below hb) ((hr.below hb).more hb.size) hs hp hc)
  have HM := Lib.hid hm
  have HJ := Lib.hid hj
  have HB0 := Lib.hid (Below.refl w.heap.size w)
  have HP := Lib.hid (And.intro hp (And.intro hL hsz))
  have HL1 := Lib.hid hr.1
  have he8 : (e : Int) + 8 ≤ 65536 := by omega
  clear hm h hj hr hs hc hp hL hsz
  go_enter Try.func34, Try.ntmps34
  go_wp2_with fail
  refine (LE.out _ HB0.out).mono ?_; rintro e1 w1 ⟨rfl, hb1⟩
  have HB1 := Lib.hid hb1
  have M1 := Lib.hid (HM.out.below hb1)
  have c0 := M1.out.c0
  clear hb1 LE
  go_wp2_with fail
  refine (LW.out _ HB1.out).mono ?_; rintro e1 w2 ⟨rfl, hl2⟩
  have U2 := Lib.hid (Upto.of M1.out HB1.out HJ.out hl2)
  clear hl2 LW c0
  obtain ⟨S2, D2, B2, I2, M2⟩ := U2.out
  have LS := Lib.hid (csync w2 D2)
  have c0 := M2.c0
  have K2 := Lib.hid (And.intro B2 (And.intro I2 M2))
  clear D2 B2 I2 M2
  go_wp2_with fail
  refine LS.out.mono ?_; rintro e1 w3 ⟨rfl, hl3⟩
  have U3 := Lib.hid (Upto.go K2.out.1 K2.out.2.1 K2.out.2.2 HJ.out HM.out.lt hl3)
  clear hl3 LS c0 K2
  have HH := Lib.hid (fun w' => phead_any L HP.out.2.1 w')
  have HV : Hid (hdV L = .agg #[.int .u8 ((Jk.hd L).getD 0 0), .int .u8 ((Jk.hd L).getD 1 0), .int .u8 ((Jk.hd L).getD 2 0), .int .u8 ((Jk.hd L).getD 3 0), .int .u8 ((Jk.hd L).getD 4 0), .int .u8 ((Jk.hd L).getD 5 0), .int .u8 ((Jk.hd L).getD 6 0), .int .u8 ((Jk.hd L).getD 7 0)]) := Lib.hid rfl
  go_wp2_with fail
  refine (HH.out _).mono ?_; rintro e1 w4 ⟨rfl, hb4⟩
  rw [HV.out]
  have HB4 := Lib.hid hb4
  clear hb4 HH HV
  go_wp2_with fail
  obtain ⟨S3, D3, B3, I3, M3⟩ := U3.out
  have hlt3 := D3.lt
  obtain ⟨W5, hW5⟩ : ∃ W5, W5 = w4.alloc (Obj.cells (hdC L) 83) := ⟨_, rfl⟩
  have R5 := hd_row L w4
  rw [← hW5] at R5
  have hb5 : Below w3.heap.size w3 W5 := by rw [hW5]; exact HB4.out.alloc HB4.out.size _
  have hb5' : Below w3.heap.size w3 W5.drew := hb5.drew
  have LW5 := Lib.hid (cwrite_yes (p := e) W5.drew (D3.below hb5') R5 (fun _ g off e2 => by injection e2 with e2; injection e2 with e3 _; intro hk; have := hlt3 _ hk; have := HB4.out.size; omega) (by have := HP.out.1; omega) ⟨Nat.le_refl _, by decide⟩)
  have K3 := Lib.hid (And.intro ((B3.trans (But.of hb5' S))) (And.intro I3 (M3.below hb5')))
  have c0 := (M3.below hb5).c0
  clear R5 hb5 hb5' hlt3 D3 B3 I3 M3
  change Code.wp _ _ _ _ (w4.alloc (Obj.cells (hdC L) 83))
  rw [← hW5]
  clear hW5
  go_region_held3 (fun w' => w'.cell? ⟨j, 0, none⟩ = some (.pointer (some ⟨d, 0, none⟩)))
    (first | assumption | go_keep)
    (first
    | (go_at_call 10; refine LW5.out.mono ?_; rintro e1 w6 ⟨rfl, hl6⟩; have c0 : w6.cell? ⟨j, 0, none⟩ = some (.pointer (some ⟨d, 0, none⟩)) := (Upto.go K3.out.1 K3.out.2.1 K3.out.2.2 HJ.out HM.out.lt hl6).jm.c0; have HL6 := Lib.hid hl6; clear hl6))
  have hap : Dk.wr (Jk.hd L) (Dk.wr bs now (e + 8) L) e 8 = Jk.ap bs now e := by unfold Jk.ap; rw [HL1.out]
  have U6 := Lib.hid (hap ▸ Upto.go K3.out.1 K3.out.2.1 K3.out.2.2 HJ.out HM.out.lt HL6.out)
  clear hap HL6 LW5 K3 c0
  obtain ⟨S6, D6, B6, I6, M6⟩ := U6.out
  have LS := Lib.hid (csync w6 D6)
  have c0 := M6.c0
  have K6 := Lib.hid (And.intro B6 (And.intro I6 M6))
  clear D6 B6 I6 M6
  go_wp2_with fail
  refine LS.out.mono ?_; rintro e1 w7 ⟨rfl, hl7⟩
  have U7 := Lib.hid (Upto.go K6.out.1 K6.out.2.1 K6.out.2.2 HJ.out HM.out.lt hl7)
  clear hl7 LS c0 K6
  go_wp2_with fail
  go_ret
  exact ⟨rfl, U7.out⟩
end Go.Proofs.Ytghepjppjmpihaa
