/- Rows that a call appends to, with the kind of their cells; what an append leaves as it was. -/
import Derived.Test.YtinimjejdkcodaaQuo
import Derived.Test.YtinimjejdkcodaaAw
namespace Go.Proofs.Ytinimjejdkcodaa
open Go.RowKit Go.Shelf Go.Lib Ar Dg

/-- a row of the call's own, all of whose cells are of a kind -/
def Own (w : World) (base : Nat) (e : TypeId) (size : Nat) (κ : Value → Prop) (v : Value) (n : Nat) (xs : List Value) : Prop :=
  w.ownsRow base e size v n xs ∧ ∀ g, v.ownBlock = some g → ∀ j u, w.cell? ⟨g, j, none⟩ = some u → κ u
theorem Own.none (w : World) (base : Nat) (e : TypeId) (size : Nat) (κ : Value → Prop) : Own w base e size κ (.slice none 0 0) 0 [] := ⟨World.ownsRow_nil w base e size, fun _ h => nomatch h⟩
theorem Own.lt {w : World} {base : Nat} {e : TypeId} {size : Nat} {κ : Value → Prop} {v : Value} {n : Nat} {xs : List Value} (h : Own w base e size κ v n xs) : ∀ g, v.ownBlock = some g → base ≤ g ∧ g < w.heap.size ∧ ∃ cur, w.heap[g]? = some (.cells cur e (0, 0)) := by
  intro g hg
  obtain ⟨_, ⟨rfl, _⟩ | ⟨g', cap, cur, rfl, hb, hh, _⟩⟩ := h.1
  · cases hg
  · have e1 : g' = g := by simpa [Value.ownBlock] using hg
    subst e1
    exact ⟨hb, (Array.getElem?_eq_some_iff.1 hh).1, cur, hh⟩
theorem Own.form {w : World} {base : Nat} {e : TypeId} {size : Nat} {κ : Value → Prop} {v : Value} {n : Nat} {xs : List Value} (h : Own w base e size κ v n xs) (hn : 0 < n) : ∃ g cap, v = .slice (some ⟨g, 0, .none⟩) n cap ∧ base ≤ g ∧ g < w.heap.size ∧ n ≤ cap := by
  obtain ⟨_, ⟨_, rfl⟩ | ⟨g', cap, cur, rfl, hb, hh, hc, _⟩⟩ := h.1
  · omega
  · exact ⟨g', cap, rfl, hb, (Array.getElem?_eq_some_iff.1 hh).1, hc⟩
theorem Own.below {w w' : World} {base : Nat} {e : TypeId} {size : Nat} {κ : Value → Prop} {v : Value} {n : Nat} {xs : List Value} (h : Own w base e size κ v n xs) (hb : Below w.heap.size w w') : Own w' base e size κ v n xs := by
  refine ⟨⟨h.1.1, ?_⟩, fun g hg j u hu => ?_⟩
  · rcases h.1.2 with hn | ⟨g, cap, cur, rfl, h1, hh, rest⟩
    · exact .inl hn
    · exact .inr ⟨g, cap, cur, rfl, h1, (hb.block g (Array.getElem?_eq_some_iff.1 hh).1).trans hh, rest⟩
  · rw [hb.cell (p := ⟨g, j, .none⟩) (h.lt g hg).2.1] at hu
    exact h.2 g hg j u hu
theorem Own.kept {w w' : World} {base : Nat} {e : TypeId} {size : Nat} {κ : Value → Prop} {v : Value} {n : Nat} {xs : List Value} {row : Option Nat} (h : Own w base e size κ v n xs) (hg : w.grownBy w' row) (hne : v.ownBlock = .none ∨ v.ownBlock ≠ row) : Own w' base e size κ v n xs := by
  refine ⟨h.1.kept hg hne, fun g hgg j u hu => ?_⟩
  have hl := (h.lt g hgg).2.1
  rw [World.cell?_of_block (w := w) (a := ⟨g, j, .none⟩) (hg.block g hl (by rcases hne with x | x; · rw [hgg] at x; cases x
                                                                            · rw [← hgg]; exact x))] at hu
  exact h.2 g hgg j u hu
theorem own_apart {w : World} {b1 b2 : Nat} {e1 e2 : TypeId} {s1 s2 : Nat} {κ1 κ2 : Value → Prop} {v1 v2 : Value} {n1 n2 : Nat} {x1 x2 : List Value} (h1 : Own w b1 e1 s1 κ1 v1 n1 x1) (h2 : Own w b2 e2 s2 κ2 v2 n2 x2) (he : e1 ≠ e2) : v1.ownBlock = .none ∨ v1.ownBlock ≠ v2.ownBlock := by
  rcases hv : v1.ownBlock with _ | g
  · exact .inl rfl
  · refine .inr fun e => ?_
    obtain ⟨_, _, c1, h3⟩ := h1.lt g hv
    obtain ⟨_, _, c2, h4⟩ := h2.lt g e.symm
    rw [h3] at h4
    injection h4 with h4
    injection h4 with _ h4
    exact he h4

section
variable {P : Program} {w : World} {base : Nat} {t ty e : TypeId} {i : TypeInfo} {z : Value} {size bytes : Nat} {κ : Value → Prop}
/-- an append of one leaves all cells of the row of the kind -/
theorem own_kinds (ht : P.underlying t = some (.slice e)) (hi : P.info? e = some i) (hz : i.zero = some z) (hsize : i.size = size) (hby : i.bytes = bytes) (hsz : 0 < size)
    {v : Value} {n : Nat} {xs : List Value} (hown : Own w base e size κ v n xs) {a : Addr} {c : Nat} {news : List Value} (hl : news.length = 1 * size) (hnews : ∀ j u, news[j]? = some u → w.cell? (a.add j) = some u) (h1 : ∀ u ∈ news, u.oneCell' = true)
    (h63 : n + 1 ≤ maxLen) (hbytes : (n + 1) * bytes ≤ 140737488355328) (hκ : ∀ u ∈ news, κ u) (hκz : ∀ m, ∀ u ∈ Builtin.zeroCells z.cells m, κ u)
    {v' : Value} {w' : World} (hr : (Builtin.append_ #[t, t] ty #[v, .slice (some a) 1 c]).run P w = .ok v' w') : ∀ g, v'.ownBlock = some g → ∀ j u, w'.cell? ⟨g, j, .none⟩ = some u → κ u := by
  subst hsize
  subst hby
  have hsmall : n + 1 ≤ 9223372036854775807 := by simp only [maxLen] at h63; omega
  have new : ∀ (w0 : World) (xs : List Value) (cap m : Nat) (g : Nat), (∀ u ∈ xs, κ u) → (Value.slice (some ⟨w0.heap.size, 0, .none⟩) (n + 1) cap).ownBlock = some g →
      ∀ j u, (w0.drew.alloc (.cells (xs.toArray ++ Builtin.zeroCells z.cells m) e)).cell? ⟨g, j, .none⟩ = some u → κ u := by
    intro w0 xs cap m g hx hg j u hu
    have e1 : w0.heap.size = g := by simpa [Value.ownBlock] using hg
    subst e1
    have hh : (w0.drew.alloc (.cells (xs.toArray ++ Builtin.zeroCells z.cells m) e)).heap[w0.heap.size]? = some (.cells (xs.toArray ++ Builtin.zeroCells z.cells m) e (0, 0)) := heap_alloc_new w0.drew _
    rw [cell_of_row _ _ _ _ _ _ hh] at hu
    rw [Array.getElem?_append] at hu
    split at hu
    · exact hx u (by have := Array.mem_of_getElem? hu; simpa using this)
    · exact hκz m u (Array.mem_of_getElem? hu)
  obtain ⟨hl0, ⟨rfl, rfl⟩ | ⟨g, cap, cur, rfl, hbg, hg, hnc, hcm, hcs, htake⟩⟩ := hown.1
  · rw [run_append_nil (P := P) w t ty e i z ht hi hz a 1 c news hl hnews (by omega) (by omega) (by have := hbytes; rw [Nat.zero_add] at this; omega)] at hr
    injection hr with hr1 hr2
    subst hr1 hr2
    exact fun g hg => new w news _ _ g hκ hg
  · have hold : ∀ u ∈ cur.toList, κ u := fun u hu => by
      obtain ⟨j, hj, e1⟩ := List.getElem_of_mem hu
      exact hown.2 g rfl j u (by rw [cell_of_row _ _ _ _ _ _ hg, ← e1, ← Array.getElem?_toList, List.getElem?_eq_getElem hj])
    by_cases hroom : n + 1 ≤ cap
    · have hfit : n * i.size + news.length ≤ cur.size := by rw [hl, hcs, ← Nat.add_mul]; exact Nat.mul_le_mul_right _ hroom
      rw [run_append_room (P := P) w t ty e i ht hi g n cap cur hg a 1 c news hl hnews h1 hroom hfit] at hr
      injection hr with hr1 hr2
      subst hr1 hr2
      intro g' hg' j u hu
      have e1 : g = g' := by simpa [Value.ownBlock] using hg'
      subst e1
      rw [cell_of_row _ _ _ _ _ _ (setRow_heap w g cur _ e _ hg)] at hu
      have hm := Array.mem_of_getElem? hu
      simp only [List.mem_toArray, List.mem_append] at hm
      rcases hm with (hm | hm) | hm
      · exact hold u (List.mem_of_mem_take hm)
      · exact hκ u hm
      · exact hold u (List.mem_of_mem_drop hm)
    · have holds : ∀ j u, xs[j]? = some u → w.cell? ((⟨g, 0, .none⟩ : Addr).add j) = some u := hown.1.cells (g := g) rfl
      rw [run_append_grow (P := P) w t ty e i z ht hi hz ⟨g, 0, .none⟩ n cap xs hl0 holds a 1 c news hl hnews (by omega) (by omega) (growslice_fits (by omega) hbytes)] at hr
      injection hr with hr1 hr2
      subst hr1 hr2
      intro g' hg'
      have := new w (xs ++ news) (grownCap w (n + 1) cap e) (grownCap w (n + 1) cap e - (n + 1)) g' (fun u hu => by
        rcases List.mem_append.1 hu with h | h
        · rw [← htake] at h; exact hold u (List.mem_of_mem_take h)
        · exact hκ u h) hg'
      simpa using this

theorem wp_own {o : Oper} {a : Act} {K : Act → World → Prop} {Q : Exit → Act → World → Prop} (s x : Operand)
    (ho : o.op = .call { callee := .builtin .append, args := #[s, x], argTypes := #[t, t] })
    (ht : P.underlying t = some (.slice e)) (hi : P.info? e = some i) (hz : i.zero = some z) (hsize : i.size = size) (hby : i.bytes = bytes) (hzs : z.cells.size = size) (hsz : 0 < size)
    (v : Value) (n : Nat) (xs : List Value) (hs : a.eval s = v) (hown : Own w base e size κ v n xs)
    (ad : Addr) (c : Nat) (news : List Value) (hx : a.eval x = .slice (some ad) 1 c) (hl : news.length = 1 * size) (hnews : ∀ j u, news[j]? = some u → w.cell? (ad.add j) = some u) (h1 : ∀ u ∈ news, u.oneCell' = true)
    (h63 : n + 1 ≤ maxLen) (hbytes : (n + 1) * bytes ≤ 140737488355328) (hbase : base ≤ w.heap.size) (hκ : ∀ u ∈ news, κ u) (hκz : ∀ m, ∀ u ∈ Builtin.zeroCells z.cells m, κ u)
    (h : ∀ v' w', Own w' base e size κ v' (n + 1) (xs ++ news) → w.grownBy w' v.ownBlock → K (a.put o.dst v') w') : o.wp P a w K Q := by
  obtain ⟨v', w', hr, h2, h3, _⟩ := run_append_own (P := P) w base t o.type e i z size bytes ht hi hz hsize hby hzs hsz v n xs hown.1 ad 1 c news hl hnews h1 h63 hbytes hbase
  have hk := own_kinds (P := P) ht hi hz hsize hby hsz hown hl hnews h1 h63 hbytes hκ hκz hr
  unfold Oper.wp execOp
  simp only [ho, resolve, invoke, builtin, Sem.run_bind, Sem.run_pure, Result.andThen_ok, List.map_toArray, List.map_cons, List.map_nil, hs, hx, hr]
  exact h v' w' ⟨h2, hk⟩ h3
theorem wpList_own {ops : Array Oper} {rest : List Oper} {o : Oper} {a : Act} {Q : Exit → Act → World → Prop} (hgd : o.guard = none) (s x : Operand)
    (ho : o.op = .call { callee := .builtin .append, args := #[s, x], argTypes := #[t, t] })
    (ht : P.underlying t = some (.slice e)) (hi : P.info? e = some i) (hz : i.zero = some z) (hsize : i.size = size) (hby : i.bytes = bytes) (hzs : z.cells.size = size) (hsz : 0 < size)
    (v : Value) (n : Nat) (xs : List Value) (hs : a.eval s = v) (hown : Own w base e size κ v n xs)
    (ad : Addr) (c : Nat) (news : List Value) (hx : a.eval x = .slice (some ad) 1 c) (hl : news.length = 1 * size) (hnews : ∀ j u, news[j]? = some u → w.cell? (ad.add j) = some u) (h1 : ∀ u ∈ news, u.oneCell' = true)
    (h63 : n + 1 ≤ maxLen) (hbytes : (n + 1) * bytes ≤ 140737488355328) (hbase : base ≤ w.heap.size) (hκ : ∀ u ∈ news, κ u) (hκz : ∀ m, ∀ u ∈ Builtin.zeroCells z.cells m, κ u)
    (h : ∀ v' w', Own w' base e size κ v' (n + 1) (xs ++ news) → w.grownBy w' v.ownBlock → wpList P ops Q rest (a.put o.dst v') w') : wpList P ops Q (o :: rest) a w :=
  wpList_plain hgd fun _ hK => wp_own s x ho ht hi hz hsize hby hzs hsz v n xs hs hown ad c news hx hl hnews h1 h63 hbytes hbase hκ hκz fun v' w' h2 h3 => hK _ _ (h v' w' h2 h3)
theorem step_own2 {ops : Array Oper} {o : Oper} {a : Act} {K : Act → World → Prop} {Q : Exit → Act → World → Prop} {E : Prop} (hgd : o.guard = none) (s x : Operand)
    (ho : o.op = .call { callee := .builtin .append, args := #[s, x], argTypes := #[t, t] })
    (ht : P.underlying t = some (.slice e)) (hi : P.info? e = some i) (hz : i.zero = some z) (hsize : i.size = size) (hby : i.bytes = bytes) (hzs : z.cells.size = size) (hsz : 0 < size)
    (v : Value) (n : Nat) (xs : List Value) (hs : a.eval s = v) (hown : Own w base e size κ v n xs)
    (ad : Addr) (c : Nat) (news : List Value) (hx : a.eval x = .slice (some ad) 1 c) (hl : news.length = 1 * size) (hnews : ∀ j u, news[j]? = some u → w.cell? (ad.add j) = some u) (h1 : ∀ u ∈ news, u.oneCell' = true)
    (h63 : n + 1 ≤ maxLen) (hbytes : (n + 1) * bytes ≤ 140737488355328) (hbase : base ≤ w.heap.size) (hκ : ∀ u ∈ news, κ u) (hκz : ∀ m, ∀ u ∈ Builtin.zeroCells z.cells m, κ u)
    (h : ∀ v' w', Own w' base e size κ v' (n + 1) (xs ++ news) → w.grownBy w' v.ownBlock → K (a.put o.dst v') w') : if Region.wanted o (yielded ops a.tmps) = true then Oper.wp P o a w K Q else E := by
  rw [if_pos (by simp [Region.wanted, hgd])]
  exact wp_own s x ho ht hi hz hsize hby hzs hsz v n xs hs hown ad c news hx hl hnews h1 h63 hbytes hbase hκ hκz h
end

/-! ### what an append leaves -/
/-- no cell of the row is a digit -/
def NoDig (w : World) (row : Option Nat) : Prop := ∀ g, row = some g → ∀ j z, w.cell? ⟨g, j, .none⟩ ≠ some (.int .u64 z)
theorem NumV.grown {w w' : World} {row : Option Nat} {v : Value} {x : Int} (h : NumV w w.heap.size v x) (hg : w.grownBy w' row) (hd : NoDig w row) : NumV w' w'.heap.size v x := by
  obtain ⟨A, n, c, ds, m, e, h1, h2, h3, h4⟩ := h
  refine ⟨A, n, c, ds, m, e, h1, h2, ⟨h3.1, fun j hj => ?_⟩, h4⟩
  obtain ⟨b, off, e2, hb, hc⟩ := h3.2 j hj
  exact ⟨b, off, e2, Nat.lt_of_lt_of_le hb hg.size, hg.cell hc (fun e3 => hd b e3.symm _ _ hc)⟩
theorem VarN.grown {w w' : World} {row : Option Nat} {g : Nat} {A : Option Addr} {n c : Nat} {m : Bool} {x : Int} (h : VarN w g A n c m x) (hg : w.grownBy w' row) (hne : some g ≠ row) (hd : NoDig w row) : VarN w' g A n c m x := by
  have hb : ∀ j, w'.cell? ⟨g, j, .none⟩ = w.cell? ⟨g, j, .none⟩ := fun j => World.cell?_of_block (w := w) (hg.block g h.lt hne)
  have hf : ∀ j, w'.frozen? ⟨g, j, .none⟩ = w.frozen? ⟨g, j, .none⟩ := fun j => World.frozen?_of_block (w := w) (hg.block g h.lt hne)
  obtain ⟨⟨a, ha⟩, ⟨b, hb2⟩, f0, f1, h5⟩ := h.v
  exact ⟨(hb 0).trans h.a0, (hb 1).trans h.a1, ⟨⟨a, (hb 0).trans ha⟩, ⟨b, (hb 1).trans hb2⟩, (hf 0).trans f0, (hf 1).trans f1, fun i k z => by rw [hb i]; exact h5 i k z⟩, h.num.grown hg hd, Nat.lt_of_lt_of_le h.lt hg.size⟩

/-- the cells of a long number -/
def KNum (u : Value) : Prop := ∀ k z, u ≠ .int k z
def KInt (u : Value) : Prop := ∃ z, u = .int .i64 z
theorem Own.noDig_num {w : World} {base : Nat} {e : TypeId} {size : Nat} {v : Value} {n : Nat} {xs : List Value} (h : Own w base e size KNum v n xs) : NoDig w v.ownBlock := fun g hg j _ hc => h.2 g hg j _ hc _ _ rfl
theorem Own.noDig_int {w : World} {base : Nat} {e : TypeId} {size : Nat} {v : Value} {n : Nat} {xs : List Value} (h : Own w base e size KInt v n xs) : NoDig w v.ownBlock := fun g hg j _ hc => by
  obtain ⟨y, e⟩ := h.2 g hg j _ hc; cases e
/-- a variable of a long number is none of a row of numbers -/
theorem VarN.not_int {w : World} {g : Nat} {A : Option Addr} {n c : Nat} {m : Bool} {x : Int} {base : Nat} {e : TypeId} {size : Nat} {v : Value} {k : Nat} {xs : List Value} (h : VarN w g A n c m x) (ho : Own w base e size KInt v k xs) : some g ≠ v.ownBlock := fun e => by
  obtain ⟨y, e2⟩ := ho.2 g e.symm 0 _ h.a0; cases e2

abbrev Nm := Option Addr × Nat × Nat × Bool
def nv (a : Nm) : Value := .agg #[.slice a.1 a.2.1 a.2.2.1, .bool a.2.2.2]
def nmCells (As : List Nm) : List Value := As.flatMap fun a => [.slice a.1 a.2.1 a.2.2.1, .bool a.2.2.2]
theorem nmCells_len : ∀ As : List Nm, (nmCells As).length = As.length * 2
  | [] => rfl
  | a :: As => by have := nmCells_len As; unfold nmCells at *; simp only [List.flatMap_cons, List.length_append, List.length_cons, this]; simp; omega
theorem nmCells_snoc (As : List Nm) (a : Nm) : nmCells (As ++ [a]) = nmCells As ++ [.slice a.1 a.2.1 a.2.2.1, .bool a.2.2.2] := by simp [nmCells, List.flatMap_append]
theorem nmCells_get : ∀ (As : List Nm) (j : Nat) (h : j < As.length), (nmCells As)[j * 2]? = some (.slice As[j].1 As[j].2.1 As[j].2.2.1) ∧ (nmCells As)[j * 2 + 1]? = some (.bool As[j].2.2.2)
  | a :: As, 0, _ => ⟨rfl, rfl⟩
  | a :: As, j + 1, h => by
    have := nmCells_get As j (by simpa using h)
    have e : nmCells (a :: As) = [.slice a.1 a.2.1 a.2.2.1, .bool a.2.2.2] ++ nmCells As := rfl
    rw [e]
    refine ⟨?_, ?_⟩
    · rw [show (j + 1) * 2 = j * 2 + 2 by omega, List.getElem?_append_right (by simp)]; simpa using this.1
    · rw [show (j + 1) * 2 + 1 = (j * 2 + 1) + 2 by omega, List.getElem?_append_right (by simp)]; simpa using this.2
/-- long numbers, one by one -/
def Nums (w : World) (As : List Nm) (r : Nat → Int) : Prop := ∀ j (h : j < As.length), NumV w w.heap.size (nv As[j]) (r j)
theorem Nums.below {w w' : World} {As : List Nm} {r : Nat → Int} (h : Nums w As r) (hb : Below w.heap.size w w') : Nums w' As r := fun j hj => ((h j hj).below hb).more hb.size
theorem Nums.grown {w w' : World} {row : Option Nat} {As : List Nm} {r : Nat → Int} (h : Nums w As r) (hg : w.grownBy w' row) (hd : NoDig w row) : Nums w' As r := fun j hj => (h j hj).grown hg hd
theorem Nums.snoc {w : World} {As : List Nm} {r : Nat → Int} {a : Nm} (h : Nums w As r) (ha : NumV w w.heap.size (nv a) (r As.length)) : Nums w (As ++ [a]) r := fun j hj => by
  rcases Nat.lt_or_ge j As.length with x | x
  · rw [List.getElem_append_left x]; exact h j x
  · have e : j = As.length := by simp at hj; omega
    subst e
    rw [List.getElem_append_right (Nat.le_refl _)]; simpa using ha
end Go.Proofs.Ytinimjejdkcodaa
