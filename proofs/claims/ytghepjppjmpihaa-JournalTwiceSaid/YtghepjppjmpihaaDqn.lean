/- The program's disk: New. -/
import Derived.Test.YtghepjppjmpihaaDqs
namespace Go.Proofs.Ytghepjppjmpihaa
open Go.ChangeShapes Go.WideShapes Go.ChangeAt Go.RowKit Go.Lib

theorem own_to {W : World} {b s k : Nat} {D : DataW Unit} (h : W.ownsMap Try.prog 3 unitElem b k D) (e : s = b) : W.ownsMap Try.prog 3 unitElem s k D := e ▸ h
theorem many_zs0 (m : Nat) : Dk.many (zs m) m = 0 := by
  have h : ∀ i, Dk.many (zs m) i = 0 := fun i => by
    induction i with
    | zero => rfl
    | succ i ih => rw [Dk.many_no (by rw [List.getD_eq_getElem?_getD, List.getElem?_replicate]; split <;> simp), ih]
  exact h m
theorem keys_zs (m : Nat) (k : Lit) : Maps.has (.map [] : DataW Unit) k = true ↔ ∃ i : Nat, i < m ∧ k = .int .i64 i ∧ (zs m).getD i 0 = 1 := by
  constructor
  · intro h; cases h
  · rintro ⟨i, _, _, h⟩
    rw [List.getD_eq_getElem?_getD, List.getElem?_replicate] at h
    split at h <;> simp at h
theorem newD {w : World} {a b c : Nat} (h : a ≠ b ∧ a ≠ c ∧ b ≠ c ∧ a < w.heap.size + 3 ∧ b < w.heap.size + 3 ∧ c < w.heap.size + 3) : w.heap.size + 1 + 1 + 1 ≠ a ∧ w.heap.size + 1 + 1 + 1 ≠ b ∧ w.heap.size + 1 + 1 + 1 ≠ c ∧ a ≠ b ∧ a ≠ c ∧ b ≠ c := by omega
set_option maxRecDepth 100000 in
set_option maxHeartbeats 1000000 in
theorem cnew_yes (m : Nat) (h1 : 1 ≤ m) (h2 : m ≤ 1024) (w : World) : Calls Try.prog 9 #[.int .i64 m] w fun e w' => ∃ b S, e = .returned (.tuple #[.pointer (some ⟨b, 0, none⟩), .nilIface]) ∧ Dq S w' b m (zs (64 * m)) (zs (64 * m)) (zs m) ∧ Below w.heap.size w w' ∧ ∀ k, S k → w.heap.size ≤ k := by
  suffices H : Calls Try.prog 9 #[.int .i64 m] w fun e w' => ∃ b tb sb mb, e = .returned (.tuple #[.pointer (some ⟨b, 0, none⟩), .nilIface]) ∧ Dm w' b tb sb mb (64 * m) m (zs (64 * m)) (zs (64 * m)) (zs m) (.map []) ∧ Below w.heap.size w w' ∧ w.heap.size ≤ b ∧ w.heap.size ≤ tb ∧ w.heap.size ≤ sb ∧ w.heap.size ≤ mb by
    refine H.mono ?_
    rintro e w' ⟨b, tb, sb, mb, rfl, hD, hB, k1, k2, k3, k4⟩
    exact ⟨b, _, rfl, ⟨tb, sb, mb, _, _, rfl, hD, fun _ _ => rfl⟩, hB, fun k hk => by rcases hk with rfl | rfl | rfl | rfl <;> assumption⟩
  obtain ⟨i0, hi, hz0, hz1, hz2⟩ := info_parts infob8
  obtain ⟨n, hn⟩ : ∃ n, n = 64 * m := ⟨_, rfl⟩
  rw [← hn]
  have rm : IntKind.i64.wrap ((m : Int) * 64) = (n : Int) := by rw [IntKind.wrap_i64]; omega
  have k8 := fun w => run_make_eq (P := Try.prog) (t := 22) Try.underlying22 hi hz0 hz1 n (by rw [hz2]; omega) (by unfold maxLen; omega) w
  have A8 := Lib.hid (fun W : World => Arr.made (.int .u8) W 5 n rfl)
  have AM := Lib.hid (fun W : World => W.ownsMap_made Try.prog 3 (unitElem (H := Unit)))
  have hmm := hmake
  generalize Obj.cells (madeCells (Value.int .u8 0).cells n) 5 = O8 at *
  generalize hOM : Obj.map #[] 0 = OM at *
  clear hi hz0 hz1 hz2 hOM
  have HN := Lib.hid hn
  have hn2 : n ≤ 65536 := by omega
  clear hn
  go_enter Try.func9, Try.ntmps9
  go_wp2_with fail
  go_region
  all_goals go_wp2_with fail
  all_goals refine bodyPost_ret (by simp [results, Try.results9, go_sem]; rfl) rfl ?_
  all_goals first
    | (refine ⟨w.heap.size + 1 + 1 + 1, w.heap.size, w.heap.size + 1, w.heap.size + 1 + 1, rfl, ⟨?_, ?_, ?_, ?_, ?_, ?_, ?_, ?_, ?_, ?_, ?_, ?_, ?_, ?_, ?_⟩, ?_, ?_, ?_, ?_, ?_⟩ <;> (first
      | exact HN.out
      | exact h2
      | exact keys_zs _
      | exact (many_zs0 _).symm
      | (exact ((A8.out w).alloc _ |>.alloc _ |>.alloc _))
      | (exact ((AM.out w).alloc _ |>.alloc _ |>.alloc _))
      | (exact (((A8.out (w.alloc _)).alloc _ |>.alloc _).to (size1 w _)))
      | (exact (own_to ((AM.out (w.alloc _)).alloc _ |>.alloc _) (size1 w _)))
      | (exact (((A8.out ((w.alloc _).alloc _)).alloc _).to (size2 w _ _)))
      | (exact (own_to ((AM.out ((w.alloc _).alloc _)).alloc _) (size2 w _ _)))
      | exact below4 w _ _ _ _
      | exact (new3 (size3 w _ _ _)).1
      | exact (new3 (size3 w _ _ _)).2.1
      | exact (new3 (size3 w _ _ _)).2.2
      | exact newD (by omega)
      | (simp; done)
      | omega))
    | (refine ⟨w.heap.size + 1 + 1 + 1, w.heap.size, w.heap.size + 1 + 1, w.heap.size + 1, rfl, ⟨?_, ?_, ?_, ?_, ?_, ?_, ?_, ?_, ?_, ?_, ?_, ?_, ?_, ?_, ?_⟩, ?_, ?_, ?_, ?_, ?_⟩ <;> (first
      | exact HN.out
      | exact h2
      | exact keys_zs _
      | exact (many_zs0 _).symm
      | (exact ((A8.out w).alloc _ |>.alloc _ |>.alloc _))
      | (exact ((AM.out w).alloc _ |>.alloc _ |>.alloc _))
      | (exact (((A8.out (w.alloc _)).alloc _ |>.alloc _).to (size1 w _)))
      | (exact (own_to ((AM.out (w.alloc _)).alloc _ |>.alloc _) (size1 w _)))
      | (exact (((A8.out ((w.alloc _).alloc _)).alloc _).to (size2 w _ _)))
      | (exact (own_to ((AM.out ((w.alloc _).alloc _)).alloc _) (size2 w _ _)))
      | exact below4 w _ _ _ _
      | exact (new3 (size3 w _ _ _)).1
      | exact (new3 (size3 w _ _ _)).2.1
      | exact (new3 (size3 w _ _ _)).2.2
      | exact newD (by omega)
      | (simp; done)
      | omega))
    | (refine ⟨w.heap.size + 1 + 1 + 1, w.heap.size + 1, w.heap.size, w.heap.size + 1 + 1, rfl, ⟨?_, ?_, ?_, ?_, ?_, ?_, ?_, ?_, ?_, ?_, ?_, ?_, ?_, ?_, ?_⟩, ?_, ?_, ?_, ?_, ?_⟩ <;> (first
      | exact HN.out
      | exact h2
      | exact keys_zs _
      | exact (many_zs0 _).symm
      | (exact ((A8.out w).alloc _ |>.alloc _ |>.alloc _))
      | (exact ((AM.out w).alloc _ |>.alloc _ |>.alloc _))
      | (exact (((A8.out (w.alloc _)).alloc _ |>.alloc _).to (size1 w _)))
      | (exact (own_to ((AM.out (w.alloc _)).alloc _ |>.alloc _) (size1 w _)))
      | (exact (((A8.out ((w.alloc _).alloc _)).alloc _).to (size2 w _ _)))
      | (exact (own_to ((AM.out ((w.alloc _).alloc _)).alloc _) (size2 w _ _)))
      | exact below4 w _ _ _ _
      | exact (new3 (size3 w _ _ _)).1
      | exact (new3 (size3 w _ _ _)).2.1
      | exact (new3 (size3 w _ _ _)).2.2
      | exact newD (by omega)
      | (simp; done)
      | omega))
    | (refine ⟨w.heap.size + 1 + 1 + 1, w.heap.size + 1, w.heap.size + 1 + 1, w.heap.size, rfl, ⟨?_, ?_, ?_, ?_, ?_, ?_, ?_, ?_, ?_, ?_, ?_, ?_, ?_, ?_, ?_⟩, ?_, ?_, ?_, ?_, ?_⟩ <;> (first
      | exact HN.out
      | exact h2
      | exact keys_zs _
      | exact (many_zs0 _).symm
      | (exact ((A8.out w).alloc _ |>.alloc _ |>.alloc _))
      | (exact ((AM.out w).alloc _ |>.alloc _ |>.alloc _))
      | (exact (((A8.out (w.alloc _)).alloc _ |>.alloc _).to (size1 w _)))
      | (exact (own_to ((AM.out (w.alloc _)).alloc _ |>.alloc _) (size1 w _)))
      | (exact (((A8.out ((w.alloc _).alloc _)).alloc _).to (size2 w _ _)))
      | (exact (own_to ((AM.out ((w.alloc _).alloc _)).alloc _) (size2 w _ _)))
      | exact below4 w _ _ _ _
      | exact (new3 (size3 w _ _ _)).1
      | exact (new3 (size3 w _ _ _)).2.1
      | exact (new3 (size3 w _ _ _)).2.2
      | exact newD (by omega)
      | (simp; done)
      | omega))
    | (refine ⟨w.heap.size + 1 + 1 + 1, w.heap.size + 1 + 1, w.heap.size, w.heap.size + 1, rfl, ⟨?_, ?_, ?_, ?_, ?_, ?_, ?_, ?_, ?_, ?_, ?_, ?_, ?_, ?_, ?_⟩, ?_, ?_, ?_, ?_, ?_⟩ <;> (first
      | exact HN.out
      | exact h2
      | exact keys_zs _
      | exact (many_zs0 _).symm
      | (exact ((A8.out w).alloc _ |>.alloc _ |>.alloc _))
      | (exact ((AM.out w).alloc _ |>.alloc _ |>.alloc _))
      | (exact (((A8.out (w.alloc _)).alloc _ |>.alloc _).to (size1 w _)))
      | (exact (own_to ((AM.out (w.alloc _)).alloc _ |>.alloc _) (size1 w _)))
      | (exact (((A8.out ((w.alloc _).alloc _)).alloc _).to (size2 w _ _)))
      | (exact (own_to ((AM.out ((w.alloc _).alloc _)).alloc _) (size2 w _ _)))
      | exact below4 w _ _ _ _
      | exact (new3 (size3 w _ _ _)).1
      | exact (new3 (size3 w _ _ _)).2.1
      | exact (new3 (size3 w _ _ _)).2.2
      | exact newD (by omega)
      | (simp; done)
      | omega))
    | (refine ⟨w.heap.size + 1 + 1 + 1, w.heap.size + 1 + 1, w.heap.size + 1, w.heap.size, rfl, ⟨?_, ?_, ?_, ?_, ?_, ?_, ?_, ?_, ?_, ?_, ?_, ?_, ?_, ?_, ?_⟩, ?_, ?_, ?_, ?_, ?_⟩ <;> (first
      | exact HN.out
      | exact h2
      | exact keys_zs _
      | exact (many_zs0 _).symm
      | (exact ((A8.out w).alloc _ |>.alloc _ |>.alloc _))
      | (exact ((AM.out w).alloc _ |>.alloc _ |>.alloc _))
      | (exact (((A8.out (w.alloc _)).alloc _ |>.alloc _).to (size1 w _)))
      | (exact (own_to ((AM.out (w.alloc _)).alloc _ |>.alloc _) (size1 w _)))
      | (exact (((A8.out ((w.alloc _).alloc _)).alloc _).to (size2 w _ _)))
      | (exact (own_to ((AM.out ((w.alloc _).alloc _)).alloc _) (size2 w _ _)))
      | exact below4 w _ _ _ _
      | exact (new3 (size3 w _ _ _)).1
      | exact (new3 (size3 w _ _ _)).2.1
      | exact (new3 (size3 w _ _ _)).2.2
      | exact newD (by omega)
      | (simp; done)
      | omega))
theorem cnew_no (z : Int) (h : z < 1 ∨ 1024 < z) (w : World) : Calls Try.prog 9 #[.int .i64 z] w fun e w' => e = .returned (.tuple #[.pointer none, vErr 1]) ∧ Below w.heap.size w w' := by
  by_cases h1 : z < 1
  · go_enter Try.func9, Try.ntmps9
    go_wp2_with fail
    exact bodyPost_ret (by simp [results, Try.results9, go_sem]) rfl ⟨rfl, Below.refl _ _⟩
  · have h2 : 1024 < z := by omega
    have h3 : decide (z > 1024) = true := decide_eq_true h2
    have h4 : decide (z < 1) = false := decide_eq_false h1
    go_enter Try.func9, Try.ntmps9
    go_wp2_with fail
    exact bodyPost_ret (by simp [results, Try.results9, go_sem]) rfl ⟨rfl, Below.refl _ _⟩
end Go.Proofs.Ytghepjppjmpihaa
