/- A range over a function whose iterator writes blocks of its own (what it has captured), and whose body always goes on: the law. -/
import Derived.Test.YtghepjppjmpihaaDr
import Derived.RangeFuncCalls
import Derived.RangeFuncBound
import Derived.RangeFuncLeaves
import Derived.RangeFuncOwn
namespace Go.Proofs.Ytghepjppjmpihaa
open Go.RowKit

theorem But.putObj {S : Nat → Prop} (W : World) (r : Nat) (o : Obj) (h : S r) : But S W (W.putObj r o) :=
  ⟨rfl, rfl, rfl, by simp, fun k _ hk => World.putObj_heap_other (fun e => hk (by rw [e]; exact h))⟩
/-- an iterator's word: in whatever world behind w in which what it needs is there (Nd), over whatever invariant J that abides writes to the blocks T alone, if each round keeps what lies outside U and the round's own record, all xs come, one by one -/
def Itr {α : Type} (F : Fence) (n : Nat) (P : Program) (g : Nat) (lb : Array Value) (enc : List α → α → World → Value → Prop) (xs : List α) (T U : Nat → Prop) (w : World) : Prop :=
  ∀ (l : Nat) (J : List α → World → Prop) (W : World), w.heap.size ≤ l → But (fun _ => False) w W →
    (∀ pre A B, J pre A → But T A B → J pre B) →
    (∀ pre x W1 v, (pre ++ [x]) <+: xs → enc pre x W1 v → J pre W1 → YieldAt F (n - 1) P l #[v] W1 fun e W' => e = .returned (.bool true) ∧ J (pre ++ [x]) W' ∧ But (fun k => U k ∨ k = l) W1 W') →
    J [] W →
    CallsIn F n P g (#[.func (.yield l) #[] #[]] ++ lb) W fun e W' => (∃ v, e = .returned v) ∧ J xs W'
variable {F : Fence} {n : Nat} {P : Program}
def goesOn {α : Type} (U : Nat → Prop) (I : List α → World → Prop) (xs : List α) (W : World) : Exit → Act → World → Prop
  | .normal, _, W' => But U W W' ∧ I xs W'
  | _, _, _ => False
theorem wpIn_range_but {α : Type} {g : Operand} {p : Tmp} {assign body : Code} {Q : Exit → Act → World → Prop} {a : Act} {w : World}
    (hro : F.round = none) (h1 : 1 ≤ n) {gf : Nat} {lb : Array Value} (hg : a.eval g = .func (.func gf) #[] lb) (hFg : F.fn gf) (eg : ∀ args w, (callFunc gf args).run P w = .ok (.enter gf args) w)
    {enc : List α → α → World → Value → Prop} {xs : List α} {T U : Nat → Prop} (hseq : Itr F (n - 1) P gf lb enc xs T U w)
    (hT : ∀ k, T k → k < w.heap.size) (hU : ∀ k, U k → k ≠ w.heap.size ∧ k ≠ w.heap.size + 1) (hE : ∀ pre x A v l o, enc pre x A v → w.heap.size ≤ l → enc pre x (A.putObj l o) v)
    (I : List α → World → Prop) (hI : ∀ pre A B, I pre A → But (fun k => T k ∨ w.heap.size ≤ k ∧ k ≤ w.heap.size + 1) A B → I pre B) (h0 : I [] w) (a₁ : Value → Act)
    (hassign : ∀ (l : Nat) (v : Value) (W : World) (K : Act → World → Prop), K (a₁ v) W →
      assign.wpIn (F.inRound l) (n - 1 - 1) P (Exit.then K (fun _ _ _ => False)) { tmps := a.tmps.setIfInBounds p v, defers := [] } W)
    (hbody : ∀ (l : Nat) (pre : List α) (x : α) (W : World) (v : Value), (pre ++ [x]) <+: xs → enc pre x W v → I pre W → w.heap.size + 1 < W.heap.size → body.wpIn (F.inRound l) (n - 1 - 1) P (goesOn U I (pre ++ [x]) W) (a₁ v) W)
    (hdone : ∀ (W : World), I xs W → W.heap[w.heap.size]? = some (.deferred (some [])) → Q .normal { a with defers := { target := .collected w.heap.size, args := #[] } :: a.defers } W) :
    (Code.rangeFunc g #[p] assign body).wpIn F n P Q a w := by
  refine wpIn_rangeFunc ?_
  intro fn hfn
  rw [hro]
  obtain ⟨rec, hrec⟩ : ∃ rec : LoopState → Loop, rec = fun st => { state := st, pending := none, fn, tmps := a.tmps, params := #[p], assign, body, defers := w.heap.size } := ⟨_, rfl⟩
  obtain ⟨W1, hW1⟩ : ∃ W1, (w.alloc (.deferred (some []))).alloc (.loop (rec .ready)) = W1 := ⟨_, rfl⟩
  have hL1 : W1.heap[w.heap.size + 1]? = some (.loop (rec .ready)) := by
    rw [← hW1]; have := World.alloc_heap_new (w.alloc (.deferred (some []))) (.loop (rec .ready)); rwa [World.size_alloc] at this
  have hK1 : W1.heap[w.heap.size]? = some (.deferred (some [])) := by
    rw [← hW1]; exact (Below.heap_alloc _ _ _ (by simp)).trans (World.alloc_heap_new w _)
  have hb1 : But (fun _ => False) w W1 := by rw [← hW1]; exact ((But.refl _ w).alloc _).alloc _
  have hI1 : I [] W1 := hI _ _ _ h0 (hb1.more fun _ _ h => h.elim)
  refine ⟨w.heap.size + 1, [{ target := .collected w.heap.size, args := #[] }], W1, { target := .fn (.func gf) lb, args := #[.func (.yield (w.heap.size + 1)) #[] #[]] }, W1, gf,
    #[.func (.yield (w.heap.size + 1)) #[] #[]] ++ lb, W1, ?_, ?_, ?_, ?_, fun _ => h1, ?_⟩
  · rw [← hW1, hrec]; exact run_enterLoop_outer _ _ _ _ _
  · simp only [resolve, hg]
    simp [go_sem]
  · intro f' hf'; simp [Target.leads] at hf'; subst hf'; exact hFg
  · simp [invoke, go_sem, eg]
  · refine (hseq (w.heap.size + 1)
      (fun pre W => I pre W ∧ W.heap[w.heap.size + 1]? = some (.loop (rec .ready)) ∧ W.heap[w.heap.size]? = some (.deferred (some [])))
      W1 (Nat.le_succ _) hb1 ?_ ?_ ⟨hI1, hL1, hK1⟩).mono ?_
    · rintro pre A B ⟨h2, h3, h4⟩ hb
      have l3 := (Array.getElem?_eq_some_iff.1 h3).1
      exact ⟨hI _ _ _ h2 (hb.more fun _ _ h => .inl h), (hb.block _ l3 (fun h => by have := hT _ h; omega)).trans h3, (hb.block _ (by omega) (fun h => by have := hT _ h; omega)).trans h4⟩
    · rintro pre x W v hpx hen ⟨hi, hl, hk⟩
      have hlt : w.heap.size + 1 < W.heap.size := (Array.getElem?_eq_some_iff.1 hl).1
      have hy := run_yield (P := P) (args := #[v]) hl (by rw [hrec]; rfl)
      rw [hrec] at hy
      dsimp only at hy
      rw [show (#[p].zip #[v]).foldl (fun tmps (t, a) => tmps.setIfInBounds t a) a.tmps = a.tmps.setIfInBounds p v by simp] at hy
      refine ⟨fn, _, assign, body, hy, roundIn_of_wpIn hfn ?_⟩
      refine hassign _ v W _ ?_
      refine ⟨_, run_beginRound hl (by rw [hrec]), ?_⟩
      have hB2 : But (fun k => k = w.heap.size + 1) W (W.putObj (w.heap.size + 1) (.loop { rec .ready with state := .busy })) := But.putObj _ _ _ rfl
      have hl2 : (W.putObj (w.heap.size + 1) (.loop { rec .ready with state := .busy })).heap[w.heap.size + 1]? = some (.loop { rec .ready with state := .busy }) := World.putObj_heap_same hlt
      have hk2 : (W.putObj (w.heap.size + 1) (.loop { rec .ready with state := .busy })).heap[w.heap.size]? = some (.deferred (some [])) := (World.putObj_heap_other (by omega)).trans hk
      refine wpIn_mono (hbody _ pre x _ v hpx (hE _ _ _ _ _ _ hen (Nat.le_succ _)) (hI _ _ _ hi (hB2.more fun k _ h => .inr (by omega))) (by simpa using hlt)) ?_
      rintro e a3 W3 hp
      cases e with
      | normal =>
        obtain ⟨hb3, hi3⟩ := hp
        have hl3 := (hb3.block _ (by simpa using hlt) (fun h => by have := hU _ h; omega)).trans hl2
        have hk3 := (hb3.block _ (by simp; omega) (fun h => by have := hU _ h; omega)).trans hk2
        have l3 := (Array.getElem?_eq_some_iff.1 hl3).1
        have hr := run_endRound (P := P) none hl3
        have hB4 : But (fun k => k = w.heap.size + 1) W3 (W3.putObj (w.heap.size + 1) (.loop { { rec .ready with state := .busy } with state := if (none : Option Code).isNone then .ready else .done, pending := none })) := But.putObj _ _ _ rfl
        refine ⟨_, _, hr, rfl, ⟨hI _ _ _ hi3 (hB4.more fun k _ h => .inr (by omega)), ?_, (World.putObj_heap_other (by omega)).trans hk3⟩, ?_⟩
        · rw [World.putObj_heap_same l3, hrec]; rfl
        · exact ((hB2.more fun k _ h => .inr h).trans (hb3.more fun k _ h => .inl h)).trans (hB4.more fun k _ h => .inr h)
      | ret => exact hp.elim
      | exit id => exact hp.elim
      | goto t => exact hp.elim
      | panic ch => exact hp.elim
      | outgrown => exact hp.elim
    · rintro e W2 ⟨⟨v, rfl⟩, hi, hl, hk⟩
      have hB4 : But (fun k => k = w.heap.size + 1) W2 (W2.putObj (w.heap.size + 1) (.loop { rec .ready with state := .exhausted })) := But.putObj _ _ _ rfl
      exact ⟨none, _, by have := run_endLoop (P := P) hl (by rw [hrec]; simp); rw [hrec] at this; rw [hrec]; exact this, hdone _ (hI _ _ _ hi (hB4.more fun k _ h => .inr (by omega))) ((World.putObj_heap_other (by omega)).trans hk)⟩
end Go.Proofs.Ytghepjppjmpihaa
