import Derived.Test.YtbobaappilploaaPr
import Derived.StillTailTactics
namespace Go.Proofs.Ytbobaappilploaa.Pk
/-- numbers' bytes in front of others: what follows them -/
theorem flat_next : ∀ {vs hs : List Int} {r t : List Int}, vs.length < hs.length → vs.flatMap num ++ r = hs.flatMap num ++ t → r = num (hs.getD vs.length 0) ++ ((hs.drop (vs.length + 1)).flatMap num ++ t)
  | [], h :: hs, r, t, _, e => by simpa using e
  | [], [], _, _, hl, _ => by simp at hl
  | _ :: _, [], _, _, hl, _ => by simp at hl
  | v :: vs, h :: hs, r, t, hl, e => by
    simp only [List.flatMap_cons, List.append_assoc] at e
    have h1 := num_free e
    have := flat_next (vs := vs) (hs := hs) (by simpa using hl) h1.2
    simpa using this
/-- a command's bytes: four numbers, and as many as the fourth tells -/
theorem cb_flat (k key l : Int) (ns : List Int) : cb k key l ns = [k, key, l, (ns.length : Int)].flatMap num ++ ns.flatMap num := by
  unfold cb; simp
theorem flat_snoc (vs : List Int) (v : Int) : (vs ++ [v]).flatMap num = vs.flatMap num ++ num v := by simp [List.flatMap_append]
/-- one number more was read -/
theorem read_on {bs vs s : List Int} {v : Int} (h : bs = vs.flatMap num ++ bs.drop (vs.flatMap num).length) (e : bs.drop (vs.flatMap num).length = num v ++ s) :
    bs = (vs ++ [v]).flatMap num ++ bs.drop ((vs ++ [v]).flatMap num).length ∧ (vs.flatMap num).length + (num v).length = ((vs ++ [v]).flatMap num).length ∧ ((vs ++ [v]).flatMap num).length ≤ bs.length := by
  have e3 : ((vs ++ [v]).flatMap num).length = (vs.flatMap num).length + (num v).length := by rw [flat_snoc, List.length_append]
  have hl := congrArg List.length e
  rw [List.length_drop, List.length_append] at hl
  have := num_len v
  refine ⟨?_, e3.symm, by omega⟩
  rw [e3, ← List.drop_drop, e, List.drop_left, flat_snoc, List.append_assoc, ← e]; exact h
/-- no number follows: it is no command -/
theorem no_next {bs vs R : List Int} (h : bs = vs.flatMap num ++ R) (hl : vs.length < 4) (hno : ∀ v s, I64 v → R ≠ num v ++ s) :
    ∀ k key l ns, Ok k key l ns → ns.length ≤ 16 → bs ≠ cb k key l ns := fun k key l ns hok hn e => by
  have e2 := flat_next (vs := vs) (hs := [k, key, l, (ns.length : Int)]) (by simpa using hl) (h.symm.trans (e.trans (cb_flat k key l ns)))
  refine hno _ _ ?_ e2
  have : vs.length = 0 ∨ vs.length = 1 ∨ vs.length = 2 ∨ vs.length = 3 := by omega
  rcases this with x | x | x | x <;> rw [x]
  · exact hok.1
  · exact hok.2.1
  · exact hok.2.2.1
  · show I64 (ns.length : Int); unfold I64; omega
theorem heads_eq {a b c m k key l : Int} {xs R ns : List Int} (h : ([a, b, c, m] ++ xs).flatMap num ++ R = cb k key l ns) : a = k ∧ b = key ∧ c = l ∧ m = ns.length ∧ xs.flatMap num ++ R = ns.flatMap num := by
  rw [cb_flat] at h
  simp only [List.flatMap_cons, List.flatMap_append, List.flatMap_nil, List.append_nil, List.append_assoc] at h
  have h1 := num_free h
  have h2 := num_free h1.2
  have h3 := num_free h2.2
  have h4 := num_free h3.2
  exact ⟨h1.1, h2.1, h3.1, h4.1, h4.2⟩
theorem no_many {a b c m : Int} {bs R : List Int} (h : bs = [a, b, c, m].flatMap num ++ R) (hm : m < 0 ∨ 16 < m) : ∀ k key l ns, Ok k key l ns → ns.length ≤ 16 → bs ≠ cb k key l ns := fun k key l ns _ hn e => by
  have := (heads_eq (xs := []) (R := R) (by rw [List.append_nil, ← h]; exact e)).2.2.2.1
  omega
theorem no_tail {a b c m : Int} {bs xs R : List Int} (h : bs = ([a, b, c, m] ++ xs).flatMap num ++ R) (hx : (xs.length : Int) < m) (hno : ∀ v s, I64 v → R ≠ num v ++ s) : ∀ k key l ns, Ok k key l ns → ns.length ≤ 16 → bs ≠ cb k key l ns := fun k key l ns hok hn e => by
  have e1 := heads_eq (h.symm.trans e)
  have e2 := flat_next (vs := xs) (hs := ns) (r := R) (t := []) (by omega) (by rw [List.append_nil]; exact e1.2.2.2.2)
  refine hno _ _ (hok.2.2.2 _ ?_) e2
  rw [List.getD_eq_getElem?_getD, List.getElem?_eq_getElem (by omega)]
  exact List.getElem_mem _
theorem no_end {a b c m : Int} {bs xs R : List Int} (h : bs = ([a, b, c, m] ++ xs).flatMap num ++ R) (hx : (xs.length : Int) = m) (hR : R ≠ []) : ∀ k key l ns, Ok k key l ns → ns.length ≤ 16 → bs ≠ cb k key l ns := fun k key l ns _ _ e => by
  have e1 := heads_eq (h.symm.trans e)
  have e2 := flat_free (ns := xs) (ms := ns) (s := R) (t := []) (by omega) (by rw [List.append_nil]; exact e1.2.2.2.2)
  exact hR e2.2
theorem yes_end {a b c m : Int} {bs xs : List Int} (h : bs = ([a, b, c, m] ++ xs).flatMap num ++ []) (hx : (xs.length : Int) = m) : bs = cb a b c xs := by
  rw [h, cb_flat, hx, List.append_nil, List.flatMap_append]
end Go.Proofs.Ytbobaappilploaa.Pk
namespace Go.Proofs.Ytbobaappilploaa
open Go.RowKit Go.Lib Go.ChangeShapes Go.WideShapes Go.ChangeAt

theorem info64 : (Try.prog.info? 2).map (fun i => (i.zero, i.size, i.bytes)) = some (some (.int .i64 0), 1, 8) := by kernel_rfl
theorem one64i (z : Int) : ∀ u ∈ ([.int .i64 z] : List Value), u.oneCell' = true := fun u hu => by simp at hu; subst hu; rfl
/-- what Get hands back of bytes that are a command's, and of others -/
def GetPost (w : World) (bs : List Int) (yes : Value → Ending) (no : Ending → Prop) (e : Ending) (w' : World) : Prop :=
  ((∃ k key l ns A c, Pk.Ok k key l ns ∧ ns.length ≤ 16 ∧ bs = Pk.cb k key l ns ∧ e = yes (cmv k key l A ns.length c) ∧ RdK .i64 w' w'.heap.size A ns.length ns ∧ ns.length ≤ c ∧ c ≤ 9223372036854775807) ∨
   ((∀ k key l ns, Pk.Ok k key l ns → ns.length ≤ 16 → bs ≠ Pk.cb k key l ns) ∧ no e)) ∧ Below w.heap.size w w'
theorem CV.keep {wr wq : World} {B b : Nat} {k key l : Int} {A : Option Addr} {n c : Nat} (h : CV wr b k key l A n c) (hb : Below B wr wq) (hB : b < B) : CV wq b k key l A n c := by
  obtain ⟨h3, ⟨c0, c1, c2, c3⟩, f0, f1, f2, f3⟩ := h
  exact ⟨Nat.lt_of_lt_of_le h3 hb.size, ⟨(hb.cell (p := ⟨b, 0, none⟩) hB).trans c0, (hb.cell (p := ⟨b, 1, none⟩) hB).trans c1, (hb.cell (p := ⟨b, 2, none⟩) hB).trans c2, (hb.cell (p := ⟨b, 3, none⟩) hB).trans c3⟩, (hb.frozen (p := ⟨b, 0, none⟩) hB).trans f0, (hb.frozen (p := ⟨b, 1, none⟩) hB).trans f1, (hb.frozen (p := ⟨b, 2, none⟩) hB).trans f2, (hb.frozen (p := ⟨b, 3, none⟩) hB).trans f3⟩
theorem CV.set3 {wr : World} {b : Nat} {k key l : Int} {A : Option Addr} {n c : Nat} (h : CV wr b k key l A n c) (A' : Option Addr) (n' c' : Nat) : CV (wr.setCell ⟨b, 3, none⟩ (.slice A' n' c')) b k key l A' n' c' := by
  obtain ⟨h3, ⟨c0, c1, c2, c3⟩, f0, f1, f2, f3⟩ := h
  exact ⟨by simpa using h3, ⟨(World.cell?_setCell_other _ _ _ _ (by simp)).trans c0, (World.cell?_setCell_other _ _ _ _ (by simp)).trans c1, (World.cell?_setCell_other _ _ _ _ (by simp)).trans c2, World.cell?_setCell_same _ _ _ c3⟩, by simpa using f0, by simpa using f1, by simpa using f2, by simpa using f3⟩
def lenOf (v : Value) : Nat := match v with | .slice _ n _ => n | _ => 0
set_option maxHeartbeats 8000000 in
theorem refget_any (A : Option Addr) (n c : Nat) (bs : List Int) (w : World) (hr : RdK .u8 w w.heap.size A n bs) (hb : ∀ x ∈ bs, 0 ≤ x ∧ x < 256) (hn : n ≤ 1000) (hnc : n ≤ c) (hcc : c ≤ 9223372036854775807) :
    Calls Try.prog 11 #[.slice A n c] w (GetPost w bs (fun v => .returned (.tuple #[v, .bool true])) (fun e => ∃ k key l A n c, e = .returned (.tuple #[cmv k key l A n c, .bool false]))) := by
  obtain ⟨i0, hi, hz0, hz1, hz2⟩ := info_parts info64
  have HB := Lib.hid hb
  have HR := Lib.hid hr
  have HL := Lib.hid hr.1
  have HRD := Lib.hid (fun (w' : World) (hb : Below w.heap.size w w') (p : Nat) (hp : p ≤ n) => refread_any A n c bs p w' ((HR.out.below hb).more hb.size) HB.out hn hnc hcc hp)
  clear hb hr
  have V0 := Lib.hid (CV.new w 24 0 0 0 none 0 0)
  have B0 := Lib.hid ((Below.refl w.heap.size w).alloc (Nat.le_refl _) (.cells #[.int .i64 0, .int .i64 0, .int .i64 0, .slice none 0 0] 24))
  go_enter Try.func11, Try.ntmps11
  go_wp2_with fail
  generalize w.alloc (.cells #[.int .i64 0, .int .i64 0, .int .i64 0, .slice none 0 0] 24) = w1 at *
  go_loopw [4, 5, 6, 7] (fun l av s6 s7 wr => ∃ (N : Nat) (vs : List Int), Hid (vs.length = N) ∧ N ≤ 4 ∧ Hid (∀ v ∈ vs, Pk.I64 v) ∧ wr.ownsRow w1.heap.size 2 1 l N (vs.map (Value.int .i64)) ∧ Hid (Below w1.heap.size w1 wr) ∧ ∃ p : Nat, av = .int .i64 p ∧ p ≤ n ∧ Hid (p = (vs.flatMap Pk.num).length ∧ bs = vs.flatMap Pk.num ++ bs.drop p)) (fun l _ _ _ _ => 4 - lenOf l)
  case atStart => exact ⟨0, [], rfl, by decide, (fun v hv => nomatch hv), World.ownsRow_nil _ _ _ _, Below.refl _ _, 0, rfl, by omega, rfl, by simp⟩
  case round =>
    obtain ⟨N, vs, HN, hv4, HV, hown, HB1, p, rfl, hp, HP⟩ := hrel
    obtain ⟨A5, c5, rfl⟩ := own_form hown
    have HBw := Lib.hid (B0.out.trans (HB1.out.mono B0.out.size))
    by_cases h4 : N < 4
    · have h4z : (N : Int) < 4 := by omega
      go_wp2_with fail
      refine (HRD.out _ HBw.out p hp).mono ?_; rintro e w2 ⟨⟨v, s, hv, hs, rfl⟩ | ⟨hno, rfl⟩, hb⟩
      · have HON := Lib.hid (Pk.read_on (bs := bs) (vs := vs) (s := s) (v := v) (by rw [← HP.out.1]; exact HP.out.2) (by rw [← HP.out.1]; exact hs))
        obtain ⟨q, hq⟩ : ∃ q, p + (Pk.num v).length = q := ⟨_, rfl⟩
        rw [hq]
        have HQ := Lib.hid (show q = ((vs ++ [v]).flatMap Pk.num).length by rw [← hq, HP.out.1]; exact HON.out.2.1)
        have hqn : q ≤ n := by have := HON.out.2.2; rw [HQ.out, ← HL.out]; exact this
        have hqz : ¬ (q : Int) < 0 := by omega
        have HV2 := Lib.hid (show ∀ u ∈ vs ++ [v], Pk.I64 u from fun u hu => by
          rcases List.mem_append.1 hu with h | h
          · exact HV.out u h
          · rw [List.mem_singleton.1 h]; exact hv)
        have HN2 := Lib.hid (show (vs ++ [v]).length = N + 1 by rw [List.length_append, HN.out]; rfl)
        have hbw : Below wr.heap.size wr w2 := ⟨hb.1, hb.2, hb.3, hb.size, fun k hk => hb.block k hk⟩
        have hown2 := own_below hown hbw
        have HB2 := Lib.hid (HB1.out.trans (hbw.mono HB1.out.size))
        clear hb hbw hown hs hv hq
        go_wp2_with (at_builtin; refine wpList_append_own _ rfl _ _ 22 rfl w1.heap.size 2 i0 (.int .i64 0) 1 8 Try.underlying22 hi hz0 hz1 hz2 rfl (by decide) (.slice A5 N c5) N (vs.map (Value.int .i64)) rfl (hown2.alloc _) ⟨w2.heap.size, 0, none⟩ 1 1 [.int .i64 v] rfl rfl (news1 _ _ _) (one64i _) (by unfold maxLen; omega) (by omega) (le_alloc HB2.out (Nat.le_refl _) _) ?_; intro v' w3 hown' hgrow _; have HB9 := Lib.hid ((HB2.out.alloc HB2.out.size _).grown hgrow (le_alloc HB2.out (Nat.le_refl _) _) (own_block hown2)); clear hgrow)
        obtain ⟨A6, c6, rfl⟩ := own_form hown'
        exact ⟨⟨N + 1, vs ++ [v], HN2, by omega, HV2, by rw [List.map_append]; exact hown', HB9, q, rfl, hqn, ⟨HQ.out, by rw [HQ.out]; exact HON.out.1⟩⟩, by simp [lenOf]; omega⟩
      · have HNN := Lib.hid (Pk.no_next HP.out.2 (by rw [HN.out]; exact h4) hno)
        have hbw : Below wr.heap.size wr w2 := ⟨hb.1, hb.2, hb.3, hb.size, fun k hk => hb.block k hk⟩
        have HBw := Lib.hid (HBw.out.trans (hbw.mono HBw.out.size))
        obtain ⟨-, ⟨z0, z1, z2, z3⟩, y0, y1, y2, y3⟩ := V0.out.below (HB1.out.trans (hbw.mono HB1.out.size))
        clear hb hbw hno
        go_wp2_with fail
        exact bodyPost_ret (v := .tuple #[cmv 0 0 0 none 0 0, .bool false]) (by simp [results, Try.results11, go_sem, z0, z1, z2, z3]) rfl ⟨.inr ⟨HNN.out, _, _, _, _, _, _, rfl⟩, (((HBw.out.setCell (Nat.le_refl _) _).setCell (Nat.le_refl _) _).setCell (Nat.le_refl _) _).setCell (Nat.le_refl _) _⟩
    · obtain rfl : N = 4 := by omega
      obtain ⟨ka, kb, kc, m, rfl⟩ : ∃ a b c m, vs = [a, b, c, m] := by
        match vs, HN.out with
        | [a, b, c, m], _ => exact ⟨a, b, c, m, rfl⟩
      obtain ⟨g, c6, e6, hg1, hg2, hcell⟩ := own_some hown (by decide)
      injection e6 with e7 _ e8
      subst e7 e8
      have x0 : wr.cell? ⟨g, 0, none⟩ = some (.int .i64 ka) := by simpa [add_plain] using hcell 0 _ rfl
      have x1 : wr.cell? ⟨g, 1, none⟩ = some (.int .i64 kb) := by simpa [add_plain] using hcell 1 _ rfl
      have x2 : wr.cell? ⟨g, 2, none⟩ = some (.int .i64 kc) := by simpa [add_plain] using hcell 2 _ rfl
      have x3 : wr.cell? ⟨g, 3, none⟩ = some (.int .i64 m) := by simpa [add_plain] using hcell 3 _ rfl
      obtain ⟨-, ⟨z0, z1, z2, z3⟩, y0, y1, y2, y3⟩ := V0.out.below HB1.out
      clear hcell hown h4 hv4
      by_cases hm : m < 0 ∨ 16 < m
      · have HNN := Lib.hid (Pk.no_many HP.out.2 hm)
        by_cases hm1 : m < 0
        · go_wp2_with fail
          exact bodyPost_ret (v := .tuple #[cmv 0 0 0 none 0 0, .bool false]) (by simp [results, Try.results11, go_sem, z0, z1, z2, z3]) rfl ⟨.inr ⟨HNN.out, _, _, _, _, _, _, rfl⟩, (((HBw.out.setCell (Nat.le_refl _) _).setCell (Nat.le_refl _) _).setCell (Nat.le_refl _) _).setCell (Nat.le_refl _) _⟩
        · have hm2 : 16 < m := by omega
          have hm3 : decide (m < 0) = false := by simpa using hm1
          go_wp2_with fail
          exact bodyPost_ret (v := .tuple #[cmv 0 0 0 none 0 0, .bool false]) (by simp [results, Try.results11, go_sem, z0, z1, z2, z3]) rfl ⟨.inr ⟨HNN.out, _, _, _, _, _, _, rfl⟩, (((HBw.out.setCell (Nat.le_refl _) _).setCell (Nat.le_refl _) _).setCell (Nat.le_refl _) _).setCell (Nat.le_refl _) _⟩
      · have hm1 : 0 ≤ m := by omega
        have hm2 : m ≤ 16 := by omega
        have hm3 : decide (m < 0) = false := by simp; omega
        have hm4 : decide (16 < m) = false := by simp; omega
        go_wp2_with fail
        go_region_held3 (fun w' => w'.cell? ⟨g, 0, none⟩ = some (.int .i64 ka) ∧ w'.cell? ⟨g, 1, none⟩ = some (.int .i64 kb) ∧ w'.cell? ⟨g, 2, none⟩ = some (.int .i64 kc))
          (refine ⟨?_, ?_, ?_⟩ <;> (first | assumption | go_keep))
          (first | fail)
        obtain ⟨w4, e4⟩ : ∃ x, x = wr := ⟨_, rfl⟩
        subst e4
        have HB5 := Lib.hid (((Below.refl w4.heap.size w4).alloc (Nat.le_refl _) (.cells #[.int .i64 ka, .int .i64 kb, .int .i64 kc, .slice none 0 0] 24)).drew)
        have V5 := Lib.hid ((CV.new w4 24 ka kb kc none 0 0).below (Below.refl _ _).drew)
        have HS5 := Lib.hid (show w4.heap.size + 1 ≤ (w4.alloc (.cells #[.int .i64 ka, .int .i64 kb, .int .i64 kc, .slice none 0 0] 24)).drew.heap.size by simp)
        have X3 := Lib.hid x3
        clear x0 x1 x2 x3 z0 z1 z2 z3 y0 y1 y2 y3 hm hm3 hm4
        generalize (w4.alloc (.cells #[.int .i64 ka, .int .i64 kb, .int .i64 kc, .slice none 0 0] 24)).drew = w5 at *
        go_wp2_with fail
        go_loopw [5, 9, 10] (fun av s9 s10 wr => ∃ (K : Nat) (xs : List Int) (A7 : Option Addr) (c7 : Nat), Hid (xs.length = K) ∧ (K : Int) ≤ m ∧ Hid (∀ v ∈ xs, Pk.I64 v) ∧ Hid (CV wr w4.heap.size ka kb kc A7 K c7) ∧ wr.ownsRow (w4.heap.size + 1) 2 1 (.slice A7 K c7) K (xs.map (Value.int .i64)) ∧ Hid (Below w4.heap.size w4 wr) ∧ Hid (w4.heap.size + 1 ≤ wr.heap.size) ∧ ∃ p : Nat, av = .int .i64 p ∧ p ≤ n ∧ Hid (p = (([ka, kb, kc, m] ++ xs).flatMap Pk.num).length ∧ bs = ([ka, kb, kc, m] ++ xs).flatMap Pk.num ++ bs.drop p)) (fun av _ _ _ => n - (RowKit.intOf av).toNat)
        case atStart => exact ⟨0, [], none, 0, rfl, hm1, (fun v hv => nomatch hv), V5.out, World.ownsRow_nil _ _ _ _, HB5.out, HS5.out, p, rfl, hp, by rw [List.append_nil]; exact HP.out⟩
        case round =>
          clear hp HP
          obtain ⟨K, xs, A7, c7, HK, hKm, HXI, HCV, hrow, HBq, HSq, p, rfl, hp, HP⟩ := hrel
          have hK16 : K ≤ 16 := by omega
          have HBw2 := Lib.hid (HBw.out.trans (HBq.out.mono HBw.out.size))
          have x3 : wr.cell? ⟨g, 3, none⟩ = some (.int .i64 m) := by rw [HBq.out.cell (p := ⟨g, 3, none⟩) hg2]; exact X3.out
          obtain ⟨-, ⟨d0, d1, d2, d3⟩, -⟩ := HCV.out
          by_cases hlt : (K : Int) < m
          · go_wp2_with fail
            go_quiet (fail)
            have hd := below_drewN wr.heap.size wr nq
            have HCV := Lib.hid (HCV.out.below hd)
            have hrow := own_below hrow hd
            have HBq := Lib.hid (HBq.out.trans (hd.mono HBq.out.size))
            have HSq := Lib.hid (Nat.le_trans HSq.out hd.size)
            have HBw2 := Lib.hid (HBw2.out.trans (hd.mono HBw2.out.size))
            clear hd d0 d1 d2 d3 x3
            generalize wr.drewN nq = w6 at *
            go_wp2_with fail
            refine (HRD.out _ HBw2.out p hp).mono ?_; rintro e w7 ⟨⟨v, s, hv, hs, rfl⟩ | ⟨hno, rfl⟩, hb⟩
            · have HON := Lib.hid (Pk.read_on (bs := bs) (vs := [ka, kb, kc, m] ++ xs) (s := s) (v := v) (by rw [← HP.out.1]; exact HP.out.2) (by rw [← HP.out.1]; exact hs))
              rw [List.append_assoc] at HON
              obtain ⟨q, hq⟩ : ∃ q, p + (Pk.num v).length = q := ⟨_, rfl⟩
              rw [hq]
              have HQ := Lib.hid (show q = (([ka, kb, kc, m] ++ (xs ++ [v])).flatMap Pk.num).length by rw [← hq, HP.out.1]; exact HON.out.2.1)
              have hqp : p < q := by have := Pk.num_len v; omega
              have hqn : q ≤ n := by have := HON.out.2.2; rw [HQ.out, ← HL.out]; exact this
              have hqz : ¬ (q : Int) < 0 := by omega
              have HV2 := Lib.hid (show ∀ u ∈ xs ++ [v], Pk.I64 u from fun u hu => by
                rcases List.mem_append.1 hu with h | h
                · exact HXI.out u h
                · rw [List.mem_singleton.1 h]; exact hv)
              have HN2 := Lib.hid (show (xs ++ [v]).length = K + 1 by rw [List.length_append, HK.out]; rfl)
              have hbw : Below w6.heap.size w6 w7 := ⟨hb.1, hb.2, hb.3, hb.size, fun k hk => hb.block k hk⟩
              have HCV := Lib.hid (HCV.out.below hbw)
              have hrow := own_below hrow hbw
              have HBq := Lib.hid (HBq.out.trans (hbw.mono HBq.out.size))
              have HSq := Lib.hid (Nat.le_trans HSq.out hbw.size)
              obtain ⟨-, ⟨d0, d1, d2, d3⟩, -⟩ := HCV.out
              clear hb hbw hs hv hq
              go_wp2_with (at_builtin; refine wpList_append_own _ rfl _ _ 22 rfl (w4.heap.size + 1) 2 i0 (.int .i64 0) 1 8 Try.underlying22 hi hz0 hz1 hz2 rfl (by decide) (.slice A7 K c7) K (xs.map (Value.int .i64)) rfl (hrow.alloc _) ⟨w7.heap.size, 0, none⟩ 1 1 [.int .i64 v] rfl rfl (news1 _ _ _) (one64i _) (by unfold maxLen; omega) (by omega) (le_alloc (Below.refl (w4.heap.size + 1) w7) HSq.out _) ?_; intro v' w8 hrow' hgrow _; have HB8 := Lib.hid ((HBq.out.alloc HBq.out.size _).grown hgrow (le_alloc HBq.out (Nat.le_refl _) _) (fun k hk => Nat.le_of_succ_le (own_block hrow k hk))); have HB9 := Lib.hid (((Below.refl (w4.heap.size + 1) w7).alloc HSq.out _).grown hgrow (le_alloc (Below.refl (w4.heap.size + 1) w7) HSq.out _) (own_block hrow)); have HCV8 := Lib.hid (HCV.out.keep HB9.out (Nat.lt_succ_self _)); obtain ⟨-, ⟨d0, d1, d2, d3⟩, i0', i1', i2', i3'⟩ := HCV8.out; obtain ⟨A8, c8, rfl⟩ := own_form hrow'; clear hgrow)
              exact ⟨⟨K + 1, xs ++ [v], A8, c8, HN2, by omega, HV2, HCV8.out.set3 _ _ _, ownsRow_setCell_below (by rw [List.map_append]; exact hrow') (Nat.lt_succ_self _) _, HB8.out.setCell (Nat.le_refl _) _, Lib.hid (by simpa using Nat.le_trans HSq.out HB9.out.size), q, rfl, hqn, HQ.out, by rw [HQ.out]; exact HON.out.1⟩, by simp [RowKit.intOf]; omega⟩
            · have HNN := Lib.hid (Pk.no_tail HP.out.2 (by rw [HK.out]; exact hlt) hno)
              have hbw : Below w6.heap.size w6 w7 := ⟨hb.1, hb.2, hb.3, hb.size, fun k hk => hb.block k hk⟩
              have HBw := Lib.hid (HBw2.out.trans (hbw.mono HBw2.out.size))
              obtain ⟨-, ⟨z0, z1, z2, z3⟩, y0, y1, y2, y3⟩ := V0.out.below (HB1.out.trans ((HBq.out.trans (hbw.mono HBq.out.size)).mono HB1.out.size))
              clear hb hbw hno
              go_wp2_with fail
              exact bodyPost_ret (v := .tuple #[cmv 0 0 0 none 0 0, .bool false]) (by simp [results, Try.results11, go_sem, z0, z1, z2, z3]) rfl ⟨.inr ⟨HNN.out, _, _, _, _, _, _, rfl⟩, (((HBw.out.setCell (Nat.le_refl _) _).setCell (Nat.le_refl _) _).setCell (Nat.le_refl _) _).setCell (Nat.le_refl _) _⟩
          · have hKm2 : (K : Int) = m := by omega
            have hm3 : decide ((K : Int) < m) = false := by simpa using hlt
            go_wp2_with fail
            go_quiet (fail)
            have hd := below_drewN wr.heap.size wr nq
            have HCV := Lib.hid (HCV.out.below hd)
            have hrow := own_below hrow hd
            have HBw2 := Lib.hid (HBw2.out.trans (hd.mono HBw2.out.size))
            obtain ⟨-, ⟨z0, z1, z2, z3⟩, y0, y1, y2, y3⟩ := V0.out.below (HB1.out.trans ((HBq.out.trans (hd.mono HBq.out.size)).mono HB1.out.size))
            clear hd d0 d1 d2 d3 x3
            generalize wr.drewN nq = w6 at *
            obtain ⟨-, ⟨d0, d1, d2, d3⟩, -⟩ := HCV.out
            by_cases hpn : p = n
            · have HE := Lib.hid (Pk.yes_end (a := ka) (b := kb) (c := kc) (m := m) (bs := bs) (xs := xs) (by
                have := HP.out.2
                rw [List.drop_of_length_le (by rw [HL.out, hpn]; exact Nat.le_refl _)] at this; exact this) (by rw [HK.out]; exact hKm2))
              subst hpn
              go_wp2_with fail
              have hlow : w.heap.size < w4.heap.size + 1 := Nat.lt_succ_of_le (Nat.le_trans B0.out.size HB1.out.size)
              have HRR := Lib.hid (RdK.of_own (ownsRow_setCell_below (a := ⟨w.heap.size, 3, none⟩) (ownsRow_setCell_below (a := ⟨w.heap.size, 2, none⟩) (ownsRow_setCell_below (a := ⟨w.heap.size, 1, none⟩) (ownsRow_setCell_below (a := ⟨w.heap.size, 0, none⟩) hrow hlow (.int .i64 ka)) hlow (.int .i64 kb)) hlow (.int .i64 kc)) hlow (.slice A7 K c7)))
              have HOK := Lib.hid (show Pk.Ok ka kb kc xs from ⟨HV.out _ (by simp), HV.out _ (by simp), HV.out _ (by simp), HXI.out⟩)
              exact bodyPost_ret (v := .tuple #[cmv ka kb kc A7 K c7, .bool true]) (by simp [results, Try.results11, go_sem, z0, z1, z2, z3]) rfl ⟨.inl ⟨ka, kb, kc, xs, A7, c7, HOK.out, by rw [HK.out]; exact hK16, HE.out, by rw [HK.out], by rw [HK.out]; exact HRR.out, by rw [HK.out]; exact (own_caps hrow).1, (own_caps hrow).2⟩, (((HBw2.out.setCell (Nat.le_refl _) _).setCell (Nat.le_refl _) _).setCell (Nat.le_refl _) _).setCell (Nat.le_refl _) _⟩
            · have HNN := Lib.hid (Pk.no_end HP.out.2 (by rw [HK.out]; exact hKm2) (fun e => by
                have := congrArg List.length e
                rw [List.length_drop, HL.out] at this
                simp at this; omega))
              have hpz : ((p : Int) == (n : Int)) = false := by simp; omega
              go_wp2_with fail
              exact bodyPost_ret (v := .tuple #[cmv ka kb kc A7 K c7, .bool false]) (by simp [results, Try.results11, go_sem, z0, z1, z2, z3]) rfl ⟨.inr ⟨HNN.out, _, _, _, _, _, _, rfl⟩, (((HBw2.out.setCell (Nat.le_refl _) _).setCell (Nat.le_refl _) _).setCell (Nat.le_refl _) _).setCell (Nat.le_refl _) _⟩
end Go.Proofs.Ytbobaappilploaa
