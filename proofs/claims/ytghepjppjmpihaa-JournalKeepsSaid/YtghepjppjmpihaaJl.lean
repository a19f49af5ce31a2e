/- Law 8's head and pick; a journal opened, a record appended. -/
import Derived.Test.YtghepjppjmpihaaJs
import Derived.Test.YtghepjppjmpihaaDn
namespace Go.Proofs.Ytghepjppjmpihaa
open Go.ChangeShapes Go.WideShapes Go.ChangeAt Go.RowKit Go.Lib

theorem eqE1 (w : World) : (binOp .eql 26 (vErr 1) (vErr 1)).run Try.prog w = .ok (.bool true) w := by kernel_rfl
theorem infoR : (Try.prog.info? 22).map (fun i => (i.zero, i.size, i.bytes)) = some (some (.slice none 0 0), 1, 24) := by kernel_rfl
namespace Dj
variable {B0 : Nat} {S T : Nat → Prop} {w w' : World} {d j m e : Nat} {now : List Int} {rs : List (List Int)}
theorem below (h : Dj B0 S T w d j m now rs e) (hb : Below w.heap.size w w') : Dj B0 S T w' d j m now rs e :=
  ⟨h.dk.below hb, h.jn.but (But.of hb (fun _ => False)) (fun _ _ h => h), h.jj, h.zz, h.ss, h.tt, h.aa, h.yy⟩
theorem but {U : Nat → Prop} (h : Dj B0 S T w d j m now rs e) (hb : But U w w') (hs : ∀ k, S k ∨ T k → ¬ U k) : Dj B0 S T w' d j m now rs e :=
  ⟨h.dk.but hb (fun k hk => hs k (.inl hk)), h.jn.but hb (fun k hk => hs k (.inr hk)), h.jj, h.zz, h.ss, h.tt, h.aa, h.yy⟩
theorem alloc (h : Dj B0 S T w d j m now rs e) (o : Obj) : Dj B0 S T (w.alloc o) d j m now rs e := h.below ((Below.refl _ _).alloc (Nat.le_refl _) o)
theorem len (h : Dj B0 S T w d j m now rs e) : now.length = 64 * m := h.dk.sizes.2.1
theorem lt (h : Dj B0 S T w d j m now rs e) : ∀ k, S k ∨ T k → k < w.heap.size := fun k hk => hk.elim (h.dk.lt k) (h.jn.lt k)
theorem st (h : Dj B0 S T w d j m now rs e) : ∀ k, S k ∨ T k → B0 ≤ k := fun k hk => hk.elim (h.ss k) (h.tt k)
theorem new_not (h : Dj B0 S T w d j m now rs e) : ¬ S w.heap.size ∧ ¬ T w.heap.size := ⟨fun hk => absurd (h.lt _ (.inl hk)) (by omega), fun hk => absurd (h.lt _ (.inr hk)) (by omega)⟩
end Dj
/-- a disk of which all stands is opened -/
theorem copen_dj {B0 : Nat} {S : Nat → Prop} {d m e : Nat} {now : List Int} {rs : List (List Int)} (w : World) (h : Dq S w d m now now (zs m)) (hJ : Jk.J now rs e) (hY : Jk.By now) (hs : ∀ k, S k → B0 ≤ k) (hB : B0 ≤ w.heap.size) :
    Calls Try.prog 12 #[.pointer (some ⟨d, 0, none⟩)] w fun v w' => ∃ j S' T, v = .returned (.tuple #[.pointer (some ⟨j, 0, none⟩), .nilIface]) ∧ Dj B0 S' T w' d j m (Jk.zb now e) rs e ∧ Below B0 w w' ∧ But S w w' ∧ ∀ k, S' k ∨ T k → S k ∨ w.heap.size ≤ k :=
  (copen w h hJ hY).mono fun v w' ⟨j, S', T, st', dr', h1, h2, h3, h4, h5, h6, h7, h8⟩ => by
    have hz := Jk.zb_J hJ
    have key : Dq S' w' d m (Jk.zb now e) (Jk.zb now e) (zs m) := by
      rcases h8 with ⟨k1, k2, k3⟩ | ⟨k1, k2⟩
      · rw [k2, k3] at h3
        have := Jk.zb_same hJ.le k1
        rw [this] at h3 ⊢; exact h3
      · rw [k1, k2] at h3; exact h3
    exact ⟨j, S', T, h1, ⟨key, h2, hz.1, hz.2, fun k hk => (h5 k hk).elim (hs k) (Nat.le_trans hB), fun k hk => Nat.le_trans hB (h6 k hk), h7, hY.zb hJ.le⟩, h4.below hs hB, h4, fun k hk => hk.elim (h5 k) (fun h => .inr (h6 k h))⟩
/-- a record that came in is appended, or not -/
theorem append_any {B0 : Nat} {S T : Nat → Prop} {d j m e L c : Nat} {now bs : List Int} {rs : List (List Int)} {A : Option Addr} (w : World) (h : Dj B0 S T w d j m now rs e) (hB : B0 ≤ w.heap.size) (hr : RdK .u8 w B0 A L bs) (hc : L ≤ c ∧ c ≤ maxLen) (hY : Jk.By bs) :
    Calls Try.prog 20 #[.pointer (some ⟨j, 0, none⟩), .slice A L c] w fun v w' => ∃ u S' T' now' rs' e', v = .returned u ∧ Dj B0 S' T' w' d j m now' rs' e' ∧ (Below B0 w w' ∧ But (fun k => S k ∨ T k) w w' ∧ ∀ k, S' k ∨ T' k → S k ∨ T k ∨ w.heap.size ≤ k) ∧
      ((mayN m e L = 0 ∧ u = .nilIface ∧ now' = Jk.ap bs now e ∧ rs' = rs ++ [bs] ∧ e' = e + 8 + L) ∨ (mayN m e L ≠ 0 ∧ u = vErr (mayN m e L) ∧ now' = now ∧ rs' = rs ∧ e' = e)) := by
  by_cases h0 : mayN m e L = 0
  · exact (cappend_yes w h hB (hr.more hB) (fun hn g off he => ⟨hr.apart h.ss hn g off he, hr.apart h.tt hn g off he⟩) hc hY h0).mono fun v w' ⟨h1, S', T', h2, h3, h4⟩ =>
      ⟨_, S', T', _, _, _, h1, h2, ⟨h3.below h.st hB, h3, h4⟩, .inl ⟨h0, rfl, rfl, rfl, rfl⟩⟩
  · exact (cappend_no w h (hr.more hB) hc h0).mono fun v w' ⟨h1, h2⟩ => ⟨_, S, T, _, _, _, h1, h.below h2, ⟨h2.mono hB, But.of h2 _, fun k hk => hk.elim .inl (fun h => .inr (.inl h))⟩, .inr ⟨h0, rfl, rfl, rfl, rfl⟩⟩
theorem mayN_err {m e L : Nat} (h : mayN m e L ≠ 0) : mayN m e L = 1 ∨ mayN m e L = 8 := by
  unfold mayN at *; split
  · exact .inl rfl
  · split
    · exact .inr rfl
    · rename_i h1 h2; rw [if_neg h1, if_neg h2] at h; exact absurd rfl h
/-- which of n things a raw number speaks of -/
def pk (c n : Int) : Int := (if c < 0 then -(c + 1) else c) % n
theorem pk_bd (c : Int) {n : Int} (hn : 0 < n) : 0 ≤ pk c n ∧ pk c n < n := ⟨Int.emod_nonneg _ (by omega), Int.emod_lt_of_pos _ hn⟩
theorem pick_any (c n : Int) (hc : -9223372036854775808 ≤ c ∧ c ≤ 9223372036854775807) (hn : 0 < n) (w : World) : Calls Try.prog 21 #[.int .i64 c, .int .i64 n] w fun e w' => e = .returned (.int .i64 (pk c n)) ∧ w = w' := by
  obtain ⟨c1, c2⟩ := hc
  unfold pk
  by_cases h : c < 0
  · have e : (-(c + 1)).tmod n = -(c + 1) % n := Int.tmod_eq_emod_of_nonneg (by omega)
    rw [if_pos h]
    have H := Lib.hid e
    clear e
    go_enter Try.func21, Try.ntmps21
    go_wp2_with fail
    go_ret
    exact ⟨by have := H.out; simpa using this, rfl⟩
  · have e : c.tmod n = c % n := Int.tmod_eq_emod_of_nonneg (by omega)
    rw [if_neg h]
    have H := Lib.hid e
    clear e
    go_enter Try.func21, Try.ntmps21
    go_wp2_with fail
    go_ret
    exact ⟨by simp, rfl⟩
/-- one value is appended onto a row of the call's own -/
theorem wpList_push {P : Program} {ops : Array Oper} {rest : List Oper} {o : Oper} {a : Act} {Q : Exit → Act → World → Prop} (w : World) (hgd : o.guard = none) (s x : Operand) (t : TypeId)
    (ho : o.op = .call { callee := .builtin .append, args := #[s, x], argTypes := #[t, t] })
    (base : Nat) (e : TypeId) (i : TypeInfo) (z : Value) (bytes : Nat) (ht : P.underlying t = some (.slice e)) (hi : P.info? e = some i) (hz : i.zero = some z) (hsize : i.size = 1) (hby : i.bytes = bytes) (hzs : z.cells.size = 1)
    (v : Value) (n : Nat) (xs : List Value) (hs : a.eval s = v) (hown : w.ownsRow base e 1 v n xs)
    (g : Nat) (u : Value) (hx : a.eval x = .slice (some ⟨g, 0, none⟩) 1 1) (hc : w.cell? ⟨g, 0, none⟩ = some u) (h1 : u.oneCell' = true)
    (h63 : n + 1 ≤ maxLen) (hbytes : (n + 1) * bytes ≤ 140737488355328) (hbase : base ≤ w.heap.size)
    (h : ∀ v' w', w'.ownsRow base e 1 v' (n + 1) (xs ++ [u]) → Below base w w' → wpList P ops Q rest (a.put o.dst v') w') : wpList P ops Q (o :: rest) a w :=
  wpList_append_own w hgd s x t ho base e i z 1 bytes ht hi hz hsize hby hzs (by decide) v n xs hs hown ⟨g, 0, none⟩ 1 1 [u] hx rfl
    (fun j u' hu => by
      have hj : j = 0 := by
        rcases Nat.eq_zero_or_pos j with h | h
        · exact h
        · rw [List.getElem?_eq_none (by simp; omega)] at hu; cases hu
      subst hj
      simp at hu
      subst hu
      simpa [Addr.add] using hc)
    (fun u' hu => by simp at hu; subst hu; exact h1) h63 hbytes hbase fun v' w' h2 h3 _ => h v' w' h2 ((Below.refl base w).grown h3 hbase (own_block hown))
set_option maxHeartbeats 1000000 in
theorem up_any (w : World) : Calls Try.prog 8 #[] w fun e w' => e = .returned (.bool true) ∧ Below w.heap.size w w' := by
  have q1 := eqE1
  go_enter Try.func8, Try.ntmps8
  go_wp2_with fail
  refine (cnew_yes 1 (by decide) (by decide) _).mono ?_; rintro e w1 ⟨d, S, rfl, hD, hB, hS⟩
  have D := Lib.hid hD; have B := Lib.hid hB; have HS := Lib.hid hS
  clear hD hB hS
  go_wp2_with fail
  refine (copen_dj _ D.out (Jk.J_zero _) (Jk.By.zs _) HS.out B.out.size).mono ?_; rintro e w2 ⟨j, S2, T2, rfl, hD, hb, -, -⟩
  rw [Jk.zb_same (Nat.zero_le _) (Jk.Zb_zero _ _)] at hD
  have N := Lib.hid hD.new_not
  have D := Lib.hid (hD.alloc (.cells #[.int .u8 5] 5))
  have B := Lib.hid ((B.out.trans hb).alloc (B.out.trans hb).size (.cells #[.int .u8 5] 5))
  have R := Lib.hid (show RdK .u8 (w2.alloc (.cells #[.int .u8 5] 5)) (w2.alloc (.cells #[.int .u8 5] 5)).heap.size (some ⟨w2.heap.size, 0, none⟩) 1 [5] from lit_rd w2 5 [5])
  clear hD hb
  go_wp2_with fail
  refine (cappend_yes _ D.out B.out.size R.out (fun h g off e => ⟨not_at N.out.1 h g off e, not_at N.out.2 h g off e⟩) (by decide) (Jk.By.of (by decide)) (by decide)).mono ?_; rintro e w3 ⟨rfl, S3, T3, hD, hU, -⟩
  have hb := hU.below D.out.st B.out.size
  have D := Lib.hid hD
  have B := Lib.hid (B.out.trans hb)
  clear hD hU hb
  go_wp2_with fail
  refine (cread_yes (p := 0) (q := 9) _ D.out.dk (by decide)).mono ?_; rintro e w4 ⟨A, c, rfl, -, -, hT, hb⟩
  rw [show ((Jk.ap [5] (List.replicate (64 * 1) 0) 0).drop 0).take 9 = [1, 0, 0, 0, 254, 255, 255, 255, 5] by decide] at hT
  have T := Lib.hid hT.rd
  have B := Lib.hid (B.out.trans (hb.mono B.out.size))
  clear hT hb
  go_wp2_with fail
  refine (copen_nil _).mono ?_; rintro e w5 ⟨rfl, hb⟩
  have B := Lib.hid (B.out.trans (hb.mono B.out.size))
  have kA := rd_str (c := c) (T.out.below hb)
  clear hb
  have hs : (strOfNums [1, 0, 0, 0, 254, 255, 255, 255, 5]).toList = [1, 0, 0, 0, 254, 255, 255, 255, 5] := by rw [str_list]; rfl
  go_wp2_with fail
  go_ret
  exact ⟨by simp, B.out⟩
end Go.Proofs.Ytghepjppjmpihaa
