/- The program's disk: New, Sync. -/
import Derived.Test.YtghepjppjmpihaaDqb
import Derived.StillTailTactics
import Derived.ChangeMaps5
namespace Go.Proofs.Ytghepjppjmpihaa
open Go.ChangeShapes Go.WideShapes Go.ChangeAt Go.RowKit Go.Lib

/-- bytes u to v of src laid over dst -/
def cp (src dst : List Int) (u v : Nat) : List Int := Dk.wr ((src.drop u).take (v - u)) dst u (v - u)
theorem cp_len (src dst : List Int) (u v : Nat) : (cp src dst u v).length = dst.length := Dk.wr_len _ _ _ _
theorem cp_get {src dst : List Int} {u v p : Nat} (hd : v ≤ dst.length) (hu : u ≤ v) : (cp src dst u v).getD p 0 = if u ≤ p ∧ p < v then src.getD p 0 else dst.getD p 0 := by
  unfold cp
  rw [Dk.wr_get _ _ _ _ _ (by omega)]
  by_cases k : u ≤ p ∧ p < v
  · rw [if_pos (by omega), if_pos k, List.getD_eq_getElem?_getD, List.getElem?_take_of_lt (by omega), List.getElem?_drop, ← List.getD_eq_getElem?_getD]
    congr 1; omega
  · rw [if_neg (by omega), if_neg k]
/-- copy from row to row -/
theorem copy_rows {w : World} {d s n : Nat} {dst src : List Int} (hd : Arr (.int .u8) w d dst) (hs : Arr (.int .u8) w s src) (ld : dst.length = n) (lsr : src.length = n) (u v : Nat) (huv : u ≤ v) (hv : v ≤ n) :
    ∃ w2, (∀ (A A' : Addr) (ty : TypeId), (u < v → A = ⟨d, u, none⟩ ∧ A' = ⟨s, u, none⟩) → (Builtin.copy_ #[22, 22] ty #[.slice (some A) (v - u) (n - u), .slice (some A') (v - u) (n - u)]).run Try.prog w = .ok (.int .i64 ((v - u : Nat) : Int)) w2) ∧
      Arr (.int .u8) w2 d (cp src dst u v) ∧ But (fun k => k = d) w w2 := by
  have hlen : ((src.drop u).take (v - u)).length = v - u := by rw [List.length_take, List.length_drop, lsr]; omega
  have hlay := hd.lay ((src.drop u).take (v - u)) u (by rw [hlen]; omega)
  rw [hlen] at hlay
  refine ⟨_, fun A A' ty hA => ?_, hlay, But.setCells d _ u w⟩
  rcases Nat.lt_or_ge u v with h1 | h1
  · obtain ⟨rfl, rfl⟩ := hA h1
    have := run_copy8 hd ((src.drop u).take (v - u)) u s u (v - u) (n - u) (v - u) (n - u) (fun j hj => by
      rw [hlen] at hj
      rw [hs.c (u + j) (by omega), List.getD_eq_getElem?_getD, List.getD_eq_getElem?_getD, List.getElem?_take_of_lt hj, List.getElem?_drop]) (by rw [hlen]; simp) (by rw [hlen]; omega) ty
    rwa [hlen] at this
  · have e : v - u = 0 := by omega
    have hz : (src.drop u).take (v - u) = [] := by rw [e]; rfl
    rw [hz, e]
    exact run_copy0 w _ _ _ _ _ _ (by simp) ty
theorem grown_but {b : Nat} {w w' : World} (h : But (fun k => k = b) w w') : w.grownBy w' (some b) := ⟨h.os, h.tape, h.output, h.size, fun k hk hne => h.block k hk (fun e => hne (by rw [e]))⟩
theorem hmake (w : World) : (Instr.makeMap 59 none).run Try.prog w = .ok (.map (some w.heap.size)) (w.alloc (.map #[] 0)) := run_makeMap _ _
theorem cbounds (k : Nat) (hk : k < 1024) (w : World) : Calls Try.prog 26 #[.int .i64 (k : Nat)] w fun e w' => e = .returned (.tuple #[.int .i64 ((64 * k : Nat) : Int), .int .i64 ((64 * k + 64 : Nat) : Int)]) ∧ w = w' := by
  have r1 : IntKind.i64.wrap ((k : Int) * 64) = ((64 * k : Nat) : Int) := by rw [IntKind.wrap_i64]; omega
  have r2 : IntKind.i64.wrap ((k : Int) + 1) = (k : Int) + 1 := by rw [IntKind.wrap_i64]; omega
  have r3 : IntKind.i64.wrap (((k : Int) + 1) * 64) = ((64 * k + 64 : Nat) : Int) := by rw [IntKind.wrap_i64]; omega
  go_enter Try.func26, Try.ntmps26
  go_wp2_with fail
  exact bodyPost_ret (by simp [results, Try.results26, go_sem]) rfl ⟨rfl, rfl⟩
theorem run_clear {w : World} {b k : Nat} {D : DataW Unit} (h : w.ownsMap Try.prog 3 unitElem b k D) : ∃ w', (∀ ty, (Builtin.clear_ #[59] ty #[.map (some b)]).run Try.prog w = .ok (.tuple #[]) w') ∧
    w'.ownsMap Try.prog 3 (unitElem (H := Unit)) b 0 (.map []) ∧ But (fun k => k = b) w w' := by
  obtain ⟨es, clock, hb, F, hs, rfl⟩ := h
  refine ⟨ChangeMaps.setBlock w b (.map #[] clock), fun ty => ?_, ⟨#[], clock, ChangeMaps.heap_setBlock_same hb _, ⟨by simp, ⟨by simp, by simp, by simp⟩, by simp⟩, Nat.le_refl _, rfl⟩, ?_⟩
  · simp [Builtin.clear_, run_underlying Try.underlying59, MapKept.run_getObj_map hb, MapKept.run_setObj_map _ hb, Result.andThen]
    rfl
  · exact ⟨rfl, rfl, rfl, by simp [ChangeMaps.setBlock], fun i _ hi => ChangeMaps.heap_setBlock_other hb _ hi⟩
/-- what a sync has done, the blocks being left that are still to come -/
def Half (left : Lit → Bool) (X st now dr : List Int) : Prop := ∀ p, X.getD p 0 = if dr.getD (p / 64) 0 = 1 ∧ left (.int .i64 ((p / 64 : Nat) : Int)) = false then now.getD p 0 else st.getD p 0
end Go.Proofs.Ytghepjppjmpihaa
