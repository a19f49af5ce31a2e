/- The keys of a map, sorted (maps.Keys, slices.Sorted by their contracts). -/
import Derived.Test.YtghepjppjmpihaaKl
import Derived.Test.YtghepjppjmpihaaDqa
import Derived.Test.YtghepjppjmpihaaDd
namespace Go.Proofs.Ytghepjppjmpihaa
open Go.ChangeShapes Go.WideShapes Go.ChangeAt Go.RowKit Go.Lib Go.Maps Go.Sort Go.Shelf

/-- slices.Sort's two contracts at this dump, at the fence that asks nothing -/
theorem sortsA (m : Nat) : AnyZI.SortsIn Try.prog Try.sortedA_ren Fence.wide m :=
  ⟨fun blk off cap ss W hH hblk hsz => callsIn_wide.2 (AnyM.slices_Sort_int Try.sortA blk off cap ss W hH hblk hsz),
   fun p cap W => callsIn_wide.2 (AnyM.slices_Sort_int_none Try.sortA p cap W)⟩
theorem ckeys (mb : Option Nat) (W : World) : Calls Try.prog 36 #[.map mb] W fun e w' => e = .returned (.func (.func 47) #[] #[.pointer (some ⟨W.heap.size, 0, none⟩)]) ∧ w' = W.alloc (.cells #[.map mb] 59) :=
  (callsIn_wide (n := 5)).1 (AnyZI.keys_in Try.keysA Fence.wide 5 trivial rfl mb W)
/-- the blocks that were written, sorted -/
theorem csorted {b tb sb mb n m : Nat} {st now dr : List Int} {D : DataW Unit} (w : World) (h : Dm w b tb sb mb n m st now dr D) :
    Calls Try.prog 35 #[.func (.func 47) #[] #[.pointer (some ⟨w.heap.size, 0, none⟩)]] (w.alloc (.cells #[.map (some mb)] 59)) fun e w' =>
      ∃ A c, e = .returned (.slice A (Dk.many dr m) c) ∧ RdK .i64 w' w'.heap.size A (Dk.many dr m) ((Dk.dl dr m).map fun i : Nat => (i : Int)) ∧ (∀ g off, A = some ⟨g, off, none⟩ → w.heap.size < g) ∧ Below w.heap.size w w' := by
  have hown := h.own
  have hbl := hown.lt
  have hsz : Maps.size D ≤ 1024 := by rw [h.sz]; exact Nat.le_trans (Dk.many_le _ _) h.le
  have hseq : SeqGives Fence.wide 2 Try.prog 47 #[.pointer (some ⟨w.heap.size, 0, none⟩)] encZ (fun ss => ss.Perm (intKeys D)) (Maps.size D) (w.alloc (.cells #[.map (some mb)] 59)) :=
    AnyZI.keys_gives (ρ := Try.keysA_ren) { Try.keysA with } Fence.wide _ trivial rfl (by omega) w.heap.size mb (Maps.size D) D _ (by simp) (by simp) (by
      obtain ⟨es, clock, hb, Ft, hs, hD⟩ := hown
      exact ⟨es, clock, (Below.heap_alloc _ _ mb hbl).trans hb, Ft, hs, hD⟩)
  have cS := AnyZI.sorted_in Try.sortedA Fence.wide 5 trivial trivial trivial trivial rfl (by omega) (sortsA _) (enters_of Try.func46 (by kernel_rfl) rfl) 47 #[.pointer (some ⟨w.heap.size, 0, none⟩)] trivial (enters_of Try.func47 (by kernel_rfl) rfl) _ _ (by unfold maxLen; omega) (by omega) _ hseq
  change CallsIn _ _ Try.prog 35 _ _ _ at cS
  refine (callsIn_wide.1 cS).mono ?_
  rintro e w' ⟨v, ss, rfl, hS, hrow, hnil, hb⟩
  obtain ⟨es, hD, hp, _⟩ := hown.entries keyI
  have hki : ∀ p ∈ es, ∃ x, p.1 = .int .i64 x := by
    intro p hp'
    have hh : has D p.1 = true := by rw [hD, has_eq, List.any_eq_true]; exact ⟨p, hp', by
      obtain ⟨es2, hD2, _, hkl⟩ := hown.entries keyI
      obtain rfl : es = es2 := by rw [hD] at hD2; simpa using hD2
      exact WideAt.sameKey_self (hkl p hp')⟩
    obtain ⟨i, _, e, _⟩ := (h.hk _).1 hh
    exact ⟨_, e⟩
  have hsort := Dk.dl_sorted hD hp hki h.hk hS
  have hlen : ss.length = Dk.many dr m := by
    have h1 := congrArg List.length hsort
    rwa [List.length_mergeSort, List.length_map, Dk.dl_len] at h1
  have hrow' := hrow
  rw [show (fun x y => decide (x ≤ y)) = leI from rfl, hsort, hlen] at hrow
  have hB0 : Below w.heap.size w w' := ((Below.refl w.heap.size w).alloc (Nat.le_refl _) _).trans (hb.mono (by simp))
  rcases hrow'.2 with ⟨rfl, hz⟩ | ⟨g, cap, cur, rfl, hg, _⟩
  · have h0 : Dk.many dr m = 0 := by omega
    refine ⟨none, 0, by rw [h0], ?_, (fun g off e => nomatch e), hB0⟩
    rw [h0] at hrow ⊢
    exact RdK.of_own hrow
  · rw [hlen] at *
    exact ⟨some ⟨g, 0, none⟩, cap, rfl, RdK.of_own hrow, (fun g' off e => by injection e with e; injection e with e1 _; subst e1; simp at hg; omega), hB0⟩
end Go.Proofs.Ytghepjppjmpihaa
