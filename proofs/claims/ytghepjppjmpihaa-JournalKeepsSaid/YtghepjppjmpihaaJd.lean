/- The law JournalKeeps. -/
import Derived.Test.YtghepjppjmpihaaJc
namespace Go.Proofs.Ytghepjppjmpihaa
open Go.ChangeShapes Go.WideShapes Go.ChangeAt Go.RowKit Go.Lib

theorem crash_or (st now dr picks : List Int) (m p : Nat) (h : 64 * m ≤ st.length) : (Dk.crash st now dr picks m).getD p 0 = now.getD p 0 ∨ (Dk.crash st now dr picks m).getD p 0 = st.getD p 0 := by
  rw [Dk.crash_get _ _ _ _ _ _ h]; split
  · exact .inl rfl
  · exact .inr rfl
theorem crash_id (now dr picks : List Int) (m : Nat) (h : 64 * m ≤ now.length) : Dk.crash now now dr picks m = now := Dk.ext (Dk.crash_len _ _ _ _ _) fun p _ => by
  rcases crash_or now now dr picks m p h with k | k <;> exact k
/-- behind a start and a crash the records are as they were, or, of a whole stage, one more -/
theorem start_J {now st' now' dr' bs picks : List Int} {rs : List (List Int)} {m e L : Nat} {g : Int} (hJ : Jk.J now rs e) (hZ : Jk.Zb now e) (hl : now.length = 64 * m) (h0 : mayN m e L = 0) (hL : bs.length = L)
    (hs : (g = 1 ∧ st' = now ∧ now' = Dk.wr bs now (e + 8) L) ∨ (g = 2 ∧ st' = Dk.wr bs now (e + 8) L ∧ now' = st') ∨ (g = 3 ∧ st' = Dk.wr bs now (e + 8) L ∧ now' = Jk.ap bs now e)) :
    Jk.J (Dk.crash st' now' dr' picks m) rs e ∨ (g = 3 ∧ Jk.J (Dk.crash st' now' dr' picks m) (rs ++ [bs]) (e + 8 + L)) := by
  subst hL
  unfold mayN at h0
  split at h0
  · exact absurd h0 (by decide)
  · rename_i k1
    split at h0
    · exact absurd h0 (by decide)
    · rename_i k2
      obtain ⟨k3, k4⟩ := Jk.fr_ok (n := 64 * m) (e := e) (L := bs.length) (by omega) (by omega)
      have hw : ∀ p, p < e + 8 → (Dk.wr bs now (e + 8) bs.length).getD p 0 = now.getD p 0 := fun p hp => by rw [Dk.wr_get _ _ _ _ _ (by omega), if_neg (by omega)]
      rcases hs with ⟨rfl, rfl, rfl⟩ | ⟨rfl, rfl, rfl⟩ | ⟨rfl, rfl, rfl⟩
      · refine .inl (Jk.stay_J hJ hZ (fun p hp => ?_) (Dk.crash_len _ _ _ _ _))
        rcases crash_or st' (Dk.wr bs st' (e + 8) bs.length) dr' picks m p (by omega) with k | k
        · rw [k, hw p hp]
        · exact k
      · refine .inl (Jk.stay_J hJ hZ (fun p hp => ?_) (by rw [Dk.crash_len, Dk.wr_len]))
        rcases crash_or (Dk.wr bs now (e + 8) bs.length) (Dk.wr bs now (e + 8) bs.length) dr' picks m p (by rw [Dk.wr_len]; omega) with k | k <;> rw [k, hw p hp]
      · rcases Jk.torn_J (X := Dk.crash (Dk.wr bs now (e + 8) bs.length) (Jk.ap bs now e) dr' picks m) hJ hZ (by omega) k4 (by omega) (by rw [Dk.crash_len, Dk.wr_len]) (fun p => by
          rcases crash_or (Dk.wr bs now (e + 8) bs.length) (Jk.ap bs now e) dr' picks m p (by rw [Dk.wr_len]; omega) with k | k
          · exact .inl k
          · by_cases hp : e ≤ p ∧ p < e + 8
            · exact .inr ⟨hp.1, hp.2, by rw [k, hw p hp.2]; exact hZ p hp.1⟩
            · left
              rw [k, Jk.ap_get (by omega), if_neg hp, Dk.wr_get _ _ _ _ _ (by omega)]) with k | k
        · exact .inl k
        · exact .inr ⟨rfl, k⟩
theorem start_By {now st' now' dr' bs picks : List Int} {m e L : Nat} {g : Int} (hy : Jk.By now) (hb : Jk.By bs) (hl : now.length = 64 * m) (h0 : mayN m e L = 0) (hL : bs.length = L)
    (hs : (g = 1 ∧ st' = now ∧ now' = Dk.wr bs now (e + 8) L) ∨ (g = 2 ∧ st' = Dk.wr bs now (e + 8) L ∧ now' = st') ∨ (g = 3 ∧ st' = Dk.wr bs now (e + 8) L ∧ now' = Jk.ap bs now e)) : Jk.By (Dk.crash st' now' dr' picks m) := by
  subst hL
  unfold mayN at h0
  split at h0
  · exact absurd h0 (by decide)
  · split at h0
    · exact absurd h0 (by decide)
    · obtain ⟨k3, k4⟩ := Jk.fr_ok (n := 64 * m) (e := e) (L := bs.length) (by omega) (by omega)
      have hw := hb.wr hy (p := e + 8) (L := bs.length) (by omega)
      rcases hs with ⟨rfl, rfl, rfl⟩ | ⟨rfl, rfl, rfl⟩ | ⟨rfl, rfl, rfl⟩
      · exact hy.crash hw (by omega)
      · exact hw.crash hw (by rw [Dk.wr_len]; omega)
      · exact hw.crash (hb.ap hy (by omega)) (by rw [Dk.wr_len]; omega)
/-- records that were told between two worlds, and that nothing has turned since -/
def RecB (a b : Nat) (w : World) (v : Value) (rs : List (List Int)) : Prop := ∃ vs : List Value, w.ownsRow a 22 1 v rs.length vs ∧ vs.length = rs.length ∧ (∀ k, v.ownBlock = some k → k < b) ∧ b ≤ w.heap.size ∧
  ∀ i, i < rs.length → ∃ A c, vs[i]? = some (.slice A (rs.getD i []).length c) ∧ RdK .u8 w b A (rs.getD i []).length (rs.getD i []) ∧ ∀ g off, A = some ⟨g, off, none⟩ → a ≤ g ∧ v.ownBlock ≠ some g
theorem RecV.b {w0 w : World} {v : Value} {rs : List (List Int)} (h : RecV w0 w v rs) : RecB w0.heap.size w.heap.size w v rs := by
  obtain ⟨vs, ho, hv⟩ := h
  exact ⟨vs, ho, by rw [ho.1, Nat.mul_one], fun k hk => (ho.lt k hk).2, Nat.le_refl _, fun i hi => by
    obtain ⟨A, c, e, _, _, _, ht, hn⟩ := hv i hi
    exact ⟨A, c, e, ht.rd, fun g off e => ⟨ht.new g off e, hn g off e⟩⟩⟩
theorem RecB.but {a b : Nat} {w w' : World} {v : Value} {rs : List (List Int)} {U : Nat → Prop} (h : RecB a b w v rs) (hb : But U w w') (hU : ∀ k, a ≤ k → k < b → ¬ U k) : RecB a b w' v rs := by
  obtain ⟨vs, ho, hl, h1, h2, hv⟩ := h
  refine ⟨vs, ownsRow_but ho hb (fun k hk => hU k (own_block ho k hk) (h1 k hk)), hl, h1, Nat.le_trans h2 hb.size, fun i hi => ?_⟩
  obtain ⟨A, c, e, hr, hn⟩ := hv i hi
  exact ⟨A, c, e, ⟨hr.1, fun j hj => by
    obtain ⟨g, off, e1, hg, hc⟩ := hr.2 j hj
    exact ⟨g, off, e1, hg, (hb.cell (p := ⟨g, off + j, none⟩) (Nat.lt_of_lt_of_le hg h2) (hU g (hn g off e1).1 hg)).trans hc⟩⟩, hn⟩
theorem RecB.rd {a b : Nat} {w : World} {v : Value} {rs : List (List Int)} (h : RecB a b w v rs) : ∃ A c, v = .slice A rs.length c ∧ RdRs w A rs.length rs := by
  obtain ⟨vs, ho, hl, h1, h2, hv⟩ := h
  obtain ⟨A, c, rfl⟩ := own_form ho
  exact ⟨A, c, rfl, rdrs_own ho rfl fun i hi => by
    obtain ⟨A', c', e, hr, _⟩ := hv i hi
    exact ⟨A', c', e, hr.more h2⟩⟩
/-- one more, that came in -/
theorem RecB.push {a b B0 c1 n1 : Nat} {w w' : World} {v v' : Value} {vs : List Value} {rs : List (List Int)} {A1 : Option Addr} {zs : List Int} (h : RecB a b w v rs) (hvs : w.ownsRow a 22 1 v rs.length vs) (ho : w'.ownsRow a 22 1 v' (rs.length + 1) (vs ++ [.slice A1 n1 c1])) (hb : But (fun k => v.ownBlock = some k) w w')
    (hr : RdK .u8 w' B0 A1 n1 zs) (hB : B0 ≤ w'.heap.size) : ∃ A c, v' = .slice A (rs.length + 1) c ∧ RdRs w' A (rs.length + 1) (rs ++ [zs]) := by
  obtain ⟨A, c, rfl⟩ := own_form ho
  obtain ⟨vs2, ho2, hl, h1, h2, hv⟩ := h
  have hvl : vs.length = rs.length := by rw [hvs.1, Nat.mul_one]
  have evs : vs2 = vs := by
    obtain ⟨_, ⟨k1, k2⟩ | ⟨g, cap, cur, k1, _, k3, _, _, _, k4⟩⟩ := ho2
    · exact (List.length_eq_zero_iff.1 (by omega)).trans (List.length_eq_zero_iff.1 (by omega)).symm
    · obtain ⟨_, ⟨m1, m2⟩ | ⟨g', cap', cur', m1, _, m3, _, _, _, m4⟩⟩ := hvs
      · rw [k1] at m1; cases m1
      · rw [k1] at m1; injection m1 with m1; injection m1 with m1; injection m1 with m1
        subst m1
        rw [k3] at m3; injection m3 with m3; injection m3 with m3
        subst m3
        rw [← k4, ← m4]
  subst evs
  refine ⟨A, c, rfl, rdrs_own ho (by simp) fun i hi => ?_⟩
  by_cases e : i = rs.length
  · subst e
    have e1 : (rs ++ [zs]).getD rs.length [] = zs := by rw [List.getD_eq_getElem?_getD, List.getElem?_append_right (Nat.le_refl _)]; simp
    rw [e1, hr.1]
    exact ⟨A1, c1, by rw [List.getElem?_append_right (by omega), hvl]; simp, hr.more hB⟩
  · obtain ⟨A', c', e1, e2, e3⟩ := hv i (by omega)
    have e4 : (rs ++ [zs]).getD i [] = rs.getD i [] := by rw [List.getD_eq_getElem?_getD, List.getElem?_append_left (by omega), ← List.getD_eq_getElem?_getD]
    rw [e4]
    exact ⟨A', c', by rw [List.getElem?_append_left (by omega)]; exact e1, ⟨e2.1, fun j hj => by
      obtain ⟨g, off, k1, k2, k3⟩ := e2.2 j hj
      exact ⟨g, off, k1, by have := hb.size; omega, (hb.cell (p := ⟨g, off + j, none⟩) (by show g < _; omega) (e3 g off k1).2).trans k3⟩⟩⟩
/-- a row of the call's own is appended to another one -/
theorem wpList_append_row {P : Program} {ops : Array Oper} {rest : List Oper} {o : Oper} {a : Act} {Q : Exit → Act → World → Prop} (w : World) (hgd : o.guard = none) (s x : Operand) (t : TypeId)
    (ho : o.op = .call { callee := .builtin .append, args := #[s, x], argTypes := #[t, t] })
    (base : Nat) (e : TypeId) (i : TypeInfo) (z : Value) (bytes : Nat) (ht : P.underlying t = some (.slice e)) (hi : P.info? e = some i) (hz : i.zero = some z) (hsize : i.size = 1) (hby : i.bytes = bytes) (hzs : z.cells.size = 1)
    (v : Value) (n : Nat) (xs : List Value) (hs : a.eval s = v) (hown : w.ownsRow base e 1 v n xs)
    (v2 : Value) (base2 m : Nat) (ys : List Value) (hx : a.eval x = v2) (hown2 : w.ownsRow base2 e 1 v2 m ys) (h1 : ∀ u ∈ ys, u.oneCell' = true)
    (h63 : n + m ≤ maxLen) (hbytes : (n + m) * bytes ≤ 140737488355328) (hbase : base ≤ w.heap.size)
    (h : ∀ v' w', w'.ownsRow base e 1 v' (n + m) (xs ++ ys) → Below base w w' → wpList P ops Q rest (a.put o.dst v') w') : wpList P ops Q (o :: rest) a w := by
  have hl := hown2.1
  have hcells := fun g (hg : v2.ownBlock = some g) => hown2.cells (g := g) hg
  rcases hown2.2 with ⟨rfl, rfl⟩ | ⟨g, cap, cur, rfl, _⟩
  · have hy : ys = [] := List.length_eq_zero_iff.1 (by omega)
    subst hy
    exact wpList_append_own_none hgd s x t ho base e i 1 ht hi v n xs hs hown hx (h v w (by simpa using hown) (Below.refl _ _))
  · refine wpList_append_own w hgd s x t ho base e i z 1 bytes ht hi hz hsize hby hzs (by decide) v n xs hs hown ⟨g, 0, none⟩ m cap ys hx hl (hcells g rfl) h1 h63 hbytes hbase ?_
    intro v' w' h2 h3 _
    exact h v' w' h2 ((Below.refl base w).grown h3 hbase (own_block hown))
theorem Kept.ones {w : World} {rs : List (List Int)} {cnt : Nat} {vs : List Value} (h : Kept w rs cnt vs) : ∀ u ∈ vs, u.oneCell' = true := fun u hu => by
  obtain ⟨k, hk, rfl⟩ := List.mem_iff_getElem.1 hu
  obtain ⟨A, c, e, _⟩ := h.2.2 k (by rw [← h.2.1]; exact hk)
  rw [List.getElem?_eq_getElem hk] at e
  injection e with e
  rw [e]; rfl
/-- a start, and what a crash behind it leaves -/
theorem start_any {B0 : Nat} {S T : Nat → Prop} {d j m e L c : Nat} {now bs : List Int} {rs : List (List Int)} {A : Option Addr} {g : Int} (w : World) (h : Dj B0 S T w d j m now rs e) (hB : B0 ≤ w.heap.size) (hr : RdK .u8 w B0 A L bs) (hc : L ≤ c ∧ c ≤ maxLen) (hY : Jk.By bs) (hg : 1 ≤ g ∧ g ≤ 3) :
    Calls Try.prog 22 #[.pointer (some ⟨j, 0, none⟩), .slice A L c, .int .i64 g] w fun v w' => ∃ u S' st' now' dr', v = .returned u ∧ Dq S' w' d m st' now' dr' ∧ (Below B0 w w' ∧ But (fun k => S k ∨ T k) w w' ∧ ∀ k, S' k → S k ∨ T k ∨ w.heap.size ≤ k) ∧
      (u = .nilIface ∨ u = vErr 1 ∨ u = vErr 8) ∧ ∀ picks, ∃ rs' e', Jk.J (Dk.crash st' now' dr' picks m) rs' e' ∧ Jk.By (Dk.crash st' now' dr' picks m) ∧ (rs' = rs ∨ (rs' = rs ++ [bs] ∧ u = .nilIface ∧ g = 3)) := by
  by_cases h0 : mayN m e L = 0
  · refine (cstart_yes w h hB (hr.more hB) (fun hn g off he => ⟨hr.apart h.ss hn g off he, hr.apart h.tt hn g off he⟩) hc hY h0 hg).mono fun v w' ⟨k1, S', st', now', dr', k2, k3, k4, k5⟩ => ⟨_, S', st', now', dr', k1, k2, ⟨k3.below h.st hB, k3, k4⟩, .inl rfl, fun picks => ?_⟩
    have hby := start_By (dr' := dr') (picks := picks) h.yy hY h.len h0 hr.1 k5
    rcases start_J (dr' := dr') (picks := picks) h.jj h.zz h.len h0 hr.1 k5 with k | ⟨rfl, k⟩
    · exact ⟨_, _, k, hby, .inl rfl⟩
    · exact ⟨_, _, k, hby, .inr ⟨rfl, rfl, rfl⟩⟩
  · refine (cstart_no w h (hr.more hB) hc h0 hg).mono fun v w' ⟨k1, k2⟩ => ⟨_, S, now, now, zs m, k1, (h.below k2).dk, ⟨k2.mono hB, But.of k2 _, fun k hk => .inl hk⟩, .inr ?_, fun picks => ⟨rs, e, ?_, ?_, .inl rfl⟩⟩
    · rcases mayN_err h0 with k | k <;> rw [k]
      · exact .inl rfl
      · exact .inr rfl
    · rw [crash_id _ _ _ _ (by rw [h.len]; exact Nat.le_refl _)]; exact h.jj
    · rw [crash_id _ _ _ _ (by rw [h.len]; exact Nat.le_refl _)]; exact h.yy
/-- a crash of a disk of which all stands -/
theorem ccrash_nil {B0 : Nat} {S T : Nat → Prop} {d j m e : Nat} {now : List Int} {rs : List (List Int)} (w : World) (h : Dj B0 S T w d j m now rs e) (hB : B0 ≤ w.heap.size) :
    Calls Try.prog 23 #[.pointer (some ⟨d, 0, none⟩), .slice none 0 0] w fun v w' => v = .returned (.tuple #[]) ∧ ∃ S', Dq S' w' d m now now (zs m) ∧ But S w w' ∧ Below B0 w w' ∧ (∀ k, S' k → B0 ≤ k) ∧ ∀ k, S' k → S k ∨ w.heap.size ≤ k := by
  refine (ccrash (picks := []) w h.dk ⟨rfl, fun j hj => absurd hj (Nat.not_lt_zero j)⟩ (fun h => absurd h (Nat.lt_irrefl 0)) (fun x hx => nomatch hx) (by decide)).mono fun v w' ⟨k1, k2⟩ => ⟨k1, ?_⟩
  obtain ⟨S', k3, k4, k5⟩ := k2
  rw [crash_id _ _ _ _ (by rw [h.len]; exact Nat.le_refl _)] at k3
  exact ⟨S', k3, k4, k4.below h.ss hB, fun k hk => (k5 k hk).elim (h.ss k) (Nat.le_trans hB), k5⟩
end Go.Proofs.Ytghepjppjmpihaa
