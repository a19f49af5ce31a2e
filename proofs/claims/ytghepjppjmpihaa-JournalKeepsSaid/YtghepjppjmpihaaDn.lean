/- The reference's New. -/
import Derived.Test.YtghepjppjmpihaaDr
namespace Go.Proofs.Ytghepjppjmpihaa
open Go.ChangeShapes Go.WideShapes Go.ChangeAt Go.RowKit Go.Lib

theorem run_make_eq {P : Program} {t e : TypeId} {i : TypeInfo} {z : Value} (h1 : P.underlying t = some (.slice e)) (h2 : P.info? e = some i) (h3 : i.zero = some z) (h4 : i.size = 1)
    (n : Nat) (b2 : i.bytes * n ≤ 281474976710656) (b3 : n ≤ maxLen) (w : World) :
    (Instr.makeSlice t (.int .i64 (n : Int)) (.int .i64 (n : Int))).run P w = .ok (.slice (some ⟨w.heap.size, 0, none⟩) n n) (w.alloc (.cells (madeCells z.cells n) e)) := by
  have h63 : (n : Int) ≤ 9223372036854775807 := by
    have h := b3
    simp [maxLen] at h
    omega
  have hb' : (i.bytes : Int) * (n : Int) ≤ 281474976710656 := by
    have h : ((i.bytes * n : Nat) : Int) ≤ 281474976710656 := by omega
    rwa [Int.natCast_mul] at h
  have hrun := run_make (P := P) w t e i z h1 h2 h3 .i64 .i64 (n : Int) (n : Int) (by omega) (Int.le_refl _) hb' h63
  rwa [Int.toNat_natCast, h4, Nat.mul_one] at hrun
theorem Arr.to {f : Int → Value} {W : World} {b s : Nat} {l : List Int} (h : Arr f W b l) (e : s = b) : Arr f W s l := e ▸ h
theorem new3 {W : World} {t : TypeId} {a b c : Value} {s : Nat} (e : s = W.heap.size) : (W.alloc (.cells #[a, b, c] t)).drew.cell? ⟨s, 0, none⟩ = some a ∧ (W.alloc (.cells #[a, b, c] t)).drew.cell? ⟨s, 1, none⟩ = some b ∧ (W.alloc (.cells #[a, b, c] t)).drew.cell? ⟨s, 2, none⟩ = some c := by
  subst e
  exact ⟨by show (W.alloc _).cell? _ = _; simp, by show (W.alloc _).cell? _ = _; simp, by show (W.alloc _).cell? _ = _; simp⟩
theorem size1 (w : World) (a : Obj) : w.heap.size + 1 = (w.alloc a).heap.size := by simp
theorem size2 (w : World) (a b : Obj) : w.heap.size + 1 + 1 = ((w.alloc a).alloc b).heap.size := by simp
theorem size3 (w : World) (a b c : Obj) : w.heap.size + 1 + 1 + 1 = (((w.alloc a).alloc b).alloc c).heap.size := by simp
theorem below4 (w : World) (a b c d : Obj) : Below w.heap.size w ((((w.alloc a).alloc b).alloc c).alloc d).drew := by
  have h1 := (Below.refl w.heap.size w).alloc (Nat.le_refl _) a
  have h2 := h1.alloc h1.size b
  have h3 := h2.alloc h2.size c
  exact (h3.alloc h3.size d).drew
theorem infob8 : (Try.prog.info? 5).map (fun i => (i.zero, i.size, i.bytes)) = some (some (.int .u8 0), 1, 1) := by kernel_rfl
theorem infobb : (Try.prog.info? 4).map (fun i => (i.zero, i.size, i.bytes)) = some (some (.bool false), 1, 1) := by kernel_rfl
set_option maxHeartbeats 1000000 in
theorem refnew_any (m : Nat) (h1 : 1 ≤ m) (hm : m ≤ 1024) (w : World) :
    Calls Try.prog 13 #[.int .i64 (m : Int)] w fun e w' => ∃ b sb nb db, e = .returned (.pointer (some ⟨b, 0, none⟩)) ∧
      Md w' b sb nb db (64 * m) m (List.replicate (64 * m) 0) (List.replicate (64 * m) 0) (List.replicate m 0) ∧ Below w.heap.size w w' ∧ w.heap.size ≤ b ∧ w.heap.size ≤ sb ∧ w.heap.size ≤ nb ∧ w.heap.size ≤ db := by
  obtain ⟨i0, hi, hz0, hz1, hz2⟩ := info_parts infob8
  obtain ⟨i4, hi4, hz40, hz41, hz42⟩ := info_parts infobb
  obtain ⟨n, hn⟩ : ∃ n, n = 64 * m := ⟨_, rfl⟩
  rw [← hn]
  have rm : IntKind.i64.wrap ((m : Int) * 64) = (n : Int) := by rw [IntKind.wrap_i64]; omega
  have k8 := fun w => run_make_eq (P := Try.prog) (t := 22) Try.underlying22 hi hz0 hz1 n (by rw [hz2]; omega) (by unfold maxLen; omega) w
  have kb := fun w => run_make_eq (P := Try.prog) (t := 40) Try.underlying40 hi4 hz40 hz41 m (by rw [hz42]; omega) (by unfold maxLen; omega) w
  have A8 := Lib.hid (fun W : World => Arr.made (.int .u8) W 5 n rfl)
  have Ab := Lib.hid (fun W : World => Arr.made Bl W 4 m rfl)
  generalize Obj.cells (madeCells (Value.int .u8 0).cells n) 5 = O8 at *
  clear hi hz0 hz1 hz2 hi4 hz40 hz41 hz42
  have HN := Lib.hid hn
  have hn2 : n ≤ 65536 := by omega
  clear hn
  go_enter Try.func13, Try.ntmps13
  go_wp2_with fail
  go_region
  all_goals go_wp2_with fail
  all_goals go_ret
  all_goals first
    | (refine ⟨w.heap.size + 1 + 1 + 1, w.heap.size, w.heap.size + 1, w.heap.size + 1 + 1, rfl, ⟨?_, ?_, ?_, ?_, ?_, ?_, ?_, ?_, ?_, ?_, ?_, ?_, ?_⟩, ?_, ?_, ?_, ?_, ?_⟩ <;> (first
      | exact HN.out
      | exact hm
      | (exact ((A8.out w).alloc _ |>.alloc _ |>.alloc _))
      | (exact ((Ab.out w).alloc _ |>.alloc _ |>.alloc _))
      | (exact (((A8.out (w.alloc _)).alloc _ |>.alloc _).to (size1 w _)))
      | (exact (((Ab.out (w.alloc _)).alloc _ |>.alloc _).to (size1 w _)))
      | (exact (((A8.out ((w.alloc _).alloc _)).alloc _).to (size2 w _ _)))
      | (exact (((Ab.out ((w.alloc _).alloc _)).alloc _).to (size2 w _ _)))
      | exact below4 w _ _ _ _
      | exact (new3 (size3 w _ _ _)).1
      | exact (new3 (size3 w _ _ _)).2.1
      | exact (new3 (size3 w _ _ _)).2.2
      | (simp; done)
      | omega
      | (constructor <;> omega)))
    | (refine ⟨w.heap.size + 1 + 1 + 1, w.heap.size, w.heap.size + 1 + 1, w.heap.size + 1, rfl, ⟨?_, ?_, ?_, ?_, ?_, ?_, ?_, ?_, ?_, ?_, ?_, ?_, ?_⟩, ?_, ?_, ?_, ?_, ?_⟩ <;> (first
      | exact HN.out
      | exact hm
      | (exact ((A8.out w).alloc _ |>.alloc _ |>.alloc _))
      | (exact ((Ab.out w).alloc _ |>.alloc _ |>.alloc _))
      | (exact (((A8.out (w.alloc _)).alloc _ |>.alloc _).to (size1 w _)))
      | (exact (((Ab.out (w.alloc _)).alloc _ |>.alloc _).to (size1 w _)))
      | (exact (((A8.out ((w.alloc _).alloc _)).alloc _).to (size2 w _ _)))
      | (exact (((Ab.out ((w.alloc _).alloc _)).alloc _).to (size2 w _ _)))
      | exact below4 w _ _ _ _
      | exact (new3 (size3 w _ _ _)).1
      | exact (new3 (size3 w _ _ _)).2.1
      | exact (new3 (size3 w _ _ _)).2.2
      | (simp; done)
      | omega
      | (constructor <;> omega)))
    | (refine ⟨w.heap.size + 1 + 1 + 1, w.heap.size + 1, w.heap.size, w.heap.size + 1 + 1, rfl, ⟨?_, ?_, ?_, ?_, ?_, ?_, ?_, ?_, ?_, ?_, ?_, ?_, ?_⟩, ?_, ?_, ?_, ?_, ?_⟩ <;> (first
      | exact HN.out
      | exact hm
      | (exact ((A8.out w).alloc _ |>.alloc _ |>.alloc _))
      | (exact ((Ab.out w).alloc _ |>.alloc _ |>.alloc _))
      | (exact (((A8.out (w.alloc _)).alloc _ |>.alloc _).to (size1 w _)))
      | (exact (((Ab.out (w.alloc _)).alloc _ |>.alloc _).to (size1 w _)))
      | (exact (((A8.out ((w.alloc _).alloc _)).alloc _).to (size2 w _ _)))
      | (exact (((Ab.out ((w.alloc _).alloc _)).alloc _).to (size2 w _ _)))
      | exact below4 w _ _ _ _
      | exact (new3 (size3 w _ _ _)).1
      | exact (new3 (size3 w _ _ _)).2.1
      | exact (new3 (size3 w _ _ _)).2.2
      | (simp; done)
      | omega
      | (constructor <;> omega)))
    | (refine ⟨w.heap.size + 1 + 1 + 1, w.heap.size + 1, w.heap.size + 1 + 1, w.heap.size, rfl, ⟨?_, ?_, ?_, ?_, ?_, ?_, ?_, ?_, ?_, ?_, ?_, ?_, ?_⟩, ?_, ?_, ?_, ?_, ?_⟩ <;> (first
      | exact HN.out
      | exact hm
      | (exact ((A8.out w).alloc _ |>.alloc _ |>.alloc _))
      | (exact ((Ab.out w).alloc _ |>.alloc _ |>.alloc _))
      | (exact (((A8.out (w.alloc _)).alloc _ |>.alloc _).to (size1 w _)))
      | (exact (((Ab.out (w.alloc _)).alloc _ |>.alloc _).to (size1 w _)))
      | (exact (((A8.out ((w.alloc _).alloc _)).alloc _).to (size2 w _ _)))
      | (exact (((Ab.out ((w.alloc _).alloc _)).alloc _).to (size2 w _ _)))
      | exact below4 w _ _ _ _
      | exact (new3 (size3 w _ _ _)).1
      | exact (new3 (size3 w _ _ _)).2.1
      | exact (new3 (size3 w _ _ _)).2.2
      | (simp; done)
      | omega
      | (constructor <;> omega)))
    | (refine ⟨w.heap.size + 1 + 1 + 1, w.heap.size + 1 + 1, w.heap.size, w.heap.size + 1, rfl, ⟨?_, ?_, ?_, ?_, ?_, ?_, ?_, ?_, ?_, ?_, ?_, ?_, ?_⟩, ?_, ?_, ?_, ?_, ?_⟩ <;> (first
      | exact HN.out
      | exact hm
      | (exact ((A8.out w).alloc _ |>.alloc _ |>.alloc _))
      | (exact ((Ab.out w).alloc _ |>.alloc _ |>.alloc _))
      | (exact (((A8.out (w.alloc _)).alloc _ |>.alloc _).to (size1 w _)))
      | (exact (((Ab.out (w.alloc _)).alloc _ |>.alloc _).to (size1 w _)))
      | (exact (((A8.out ((w.alloc _).alloc _)).alloc _).to (size2 w _ _)))
      | (exact (((Ab.out ((w.alloc _).alloc _)).alloc _).to (size2 w _ _)))
      | exact below4 w _ _ _ _
      | exact (new3 (size3 w _ _ _)).1
      | exact (new3 (size3 w _ _ _)).2.1
      | exact (new3 (size3 w _ _ _)).2.2
      | (simp; done)
      | omega
      | (constructor <;> omega)))
    | (refine ⟨w.heap.size + 1 + 1 + 1, w.heap.size + 1 + 1, w.heap.size + 1, w.heap.size, rfl, ⟨?_, ?_, ?_, ?_, ?_, ?_, ?_, ?_, ?_, ?_, ?_, ?_, ?_⟩, ?_, ?_, ?_, ?_, ?_⟩ <;> (first
      | exact HN.out
      | exact hm
      | (exact ((A8.out w).alloc _ |>.alloc _ |>.alloc _))
      | (exact ((Ab.out w).alloc _ |>.alloc _ |>.alloc _))
      | (exact (((A8.out (w.alloc _)).alloc _ |>.alloc _).to (size1 w _)))
      | (exact (((Ab.out (w.alloc _)).alloc _ |>.alloc _).to (size1 w _)))
      | (exact (((A8.out ((w.alloc _).alloc _)).alloc _).to (size2 w _ _)))
      | (exact (((Ab.out ((w.alloc _).alloc _)).alloc _).to (size2 w _ _)))
      | exact below4 w _ _ _ _
      | exact (new3 (size3 w _ _ _)).1
      | exact (new3 (size3 w _ _ _)).2.1
      | exact (new3 (size3 w _ _ _)).2.2
      | (simp; done)
      | omega
      | (constructor <;> omega)))
end Go.Proofs.Ytghepjppjmpihaa
