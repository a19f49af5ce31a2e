/- The program's reader of so many numbers. -/
import Derived.Test.YtbobaappilploaaPd
import Derived.Test.YtbobaappilploaaAw
import Derived.StillTailTactics
namespace Go.Proofs.Ytbobaappilploaa
open Go.RowKit Go.Lib Go.ChangeShapes Go.WideShapes Go.ChangeAt

theorem info64m : (Try.prog.info? 2).map (fun i => (i.zero, i.size, i.bytes)) = some (some (.int .i64 0), 1, 8) := by kernel_rfl
theorem RdK.cut {k : IntKind} {w : World} {B n a : Nat} {A : Option Addr} {zs : List Int} (h : RdK k w B A n zs) (A' : Option Addr) (ha : a < n → ∃ b off, A = some ⟨b, off, none⟩ ∧ A' = some ⟨b, off + a, none⟩) : RdK k w B A' (n - a) (zs.drop a) := by
  rcases Nat.lt_or_ge a n with hl | hl
  · obtain ⟨b, off, rfl, rfl⟩ := ha hl
    exact h.drops
  · exact ⟨by rw [List.length_drop, h.1], fun j hj => by omega⟩
/-- what was read so far -/
def Tk (bs vs : List Int) (p : Nat) : Prop := (∀ v ∈ vs, Pk.I64 v) ∧ p = (vs.flatMap Pk.num).length ∧ bs = vs.flatMap Pk.num ++ bs.drop p
theorem Tk.next {bs vs s : List Int} {p : Nat} {v : Int} (h : Tk bs vs p) (hv : Pk.I64 v) (e : bs.drop p = Pk.num v ++ s) : Tk bs (vs ++ [v]) (p + (Pk.num v).length) ∧ p + (Pk.num v).length ≤ bs.length := by
  obtain ⟨h1, h2, h3⟩ := h
  have hl := congrArg List.length e
  rw [List.length_drop, List.length_append] at hl
  have hn := Pk.num_len v
  refine ⟨⟨fun u hu => ?_, ?_, ?_⟩, by omega⟩
  · rcases List.mem_append.1 hu with hu | hu
    · exact h1 u hu
    · rw [List.mem_singleton.1 hu]; exact hv
  · rw [List.flatMap_append, List.length_append, ← h2]; simp
  · have e2 : (vs ++ [v]).flatMap Pk.num = vs.flatMap Pk.num ++ Pk.num v := by simp [List.flatMap_append]
    rw [e2, List.append_assoc, ← List.drop_drop, e, List.drop_left, ← e]; exact h3
/-- a row of which the first ones were written -/
theorem set_next {vs : List Int} {i m : Nat} {v : Int} (hl : vs.length = i) (hi : i < m) : (vs ++ List.replicate (m - i) 0).set i v = (vs ++ [v]) ++ List.replicate (m - (i + 1)) 0 := by
  obtain ⟨k, hk⟩ : ∃ k, m - i = k + 1 := ⟨m - i - 1, by omega⟩
  have e : m - (i + 1) = k := by omega
  rw [hk, e, List.replicate_succ, List.set_append_right _ _ (by omega), hl]
  simp
def TakePost (w : World) (bs : List Int) (n c m : Nat) (e : Ending) (w' : World) : Prop :=
  ((∃ vs p A' , vs.length = m ∧ p ≤ n ∧ Tk bs vs p ∧ e = .returned (.tuple #[.slice (some ⟨w.heap.size, 0, none⟩) m m, .slice A' (n - p) (c - p), .bool true]) ∧ Arr (.int .i64) w' w.heap.size vs ∧ RdK .u8 w' w.heap.size A' (n - p) (bs.drop p)) ∨
   (∃ vs p, vs.length < m ∧ Tk bs vs p ∧ (∀ v s, Pk.I64 v → bs.drop p ≠ Pk.num v ++ s) ∧ e = .returned (.tuple #[.slice none 0 0, .slice none 0 0, .bool false]))) ∧ Below w.heap.size w w'
set_option maxHeartbeats 1000000 in
theorem ptake_any (A : Option Addr) (n c : Nat) (bs : List Int) (m : Nat) (w : World) (hr : RdK .u8 w w.heap.size A n bs) (hb : ∀ x ∈ bs, 0 ≤ x ∧ x < 256) (hn : n ≤ 1100) (hnc : n ≤ c) (hcc : c ≤ 9223372036854775807) (hm : m ≤ 16) :
    Calls Try.prog 15 #[.slice A n c, .int .i64 m] w (TakePost w bs n c m) := by
  obtain ⟨i0, hi, hz0, hz1, hz2⟩ := info_parts info64m
  have HB := Lib.hid hb
  have HR := Lib.hid hr
  have HL := Lib.hid hr.1
  have HM := Lib.hid (show Arr (.int .i64) (w.alloc (.cells (madeCells #[Value.int .i64 0] m) 2)) w.heap.size ([] ++ List.replicate (m - 0) 0) from Arr.made (.int .i64) w 2 m rfl)
  have B0 := Lib.hid ((Below.refl w.heap.size w).alloc (Nat.le_refl _) (.cells (madeCells #[Value.int .i64 0] m) 2))
  clear hb hr
  go_enter Try.func15, Try.ntmps15
  go_wp2_with (refine wpList_make_eq _ rfl _ _ 22 rfl 2 i0 (.int .i64 0) Try.underlying22 hi hz0 hz1 m rfl rfl (by rw [hz2]; omega) (by unfold maxLen; omega) ?_)
  generalize w.alloc (.cells (madeCells #[Value.int .i64 0] m) 2) = w1 at *
  go_loopw [0, 8, 9, 10, 15] (fun bv s8 s9 s10 iv wr => ∃ (i : Nat) (vs : List Int) (p : Nat) (A' : Option Addr), iv = .int .i64 i ∧ i ≤ m ∧ p ≤ n ∧ bv = .slice A' (n - p) (c - p) ∧ Hid (vs.length = i) ∧ Hid (Tk bs vs p) ∧ Hid (RdK .u8 w w.heap.size A' (n - p) (bs.drop p)) ∧ Hid (Arr (.int .i64) wr w.heap.size (vs ++ List.replicate (m - i) 0)) ∧ Hid (Below w.heap.size w wr)) (fun _ _ _ _ iv _ => m - (RowKit.intOf iv).toNat)
  case atStart => exact ⟨0, [], 0, A, rfl, Nat.zero_le _, Nat.zero_le _, rfl, rfl, ⟨(fun v hv => nomatch hv), rfl, rfl⟩, HR.out, HM.out, B0.out⟩
  case round =>
    obtain ⟨i, vs, p, A', rfl, him, hpn, rfl, HV, HT, HP, HA, HW⟩ := hrel
    by_cases hlt : i < m
    · have hltz : (i : Int) < (m : Int) := by omega
      go_wp2_with fail
      refine (pnumber_any A' (n - p) (c - p) (bs.drop p) _ ((HP.out.below HW.out).more HW.out.size) (fun x hx => HB.out x (List.mem_of_mem_drop hx)) (by omega) (by omega) (by omega)).mono ?_
      rintro e w2 ⟨⟨v, s, hv, hs, rfl⟩ | ⟨hno, rfl⟩, rfl⟩
      · have HN := Lib.hid (HT.out.next hv hs)
        have HNL := Lib.hid (Pk.num_len v)
        have HNA := Lib.hid HA.out
        have hlen : p + (Pk.num v).length ≤ n := by have := HN.out.2; rw [HL.out] at this; exact this
        have hpos := (Pk.num_len v).1
        have hp10 := (Pk.num_len v).2
        generalize (Pk.num v).length = q at *
        clear hs hv
        obtain ⟨xb, xo, rfl, hxb, _⟩ := HP.out.2 0 (by omega)
        have hqz : ((q : Int) == 0) = false := by simp; omega
        have h1 : (q : Int) ≤ ((c - p : Nat) : Int) := by omega
        have h2 : (q : Int) ≤ ((n - p : Nat) : Int) := by omega
        have h3 : (0 : Int) ≤ (q : Int) := by omega
        have hz2 : w2.frozen? ⟨w.heap.size, i, none⟩ = false := HA.out.z i (by rw [List.length_append, HV.out, List.length_replicate]; omega)
        have hc2 := HA.out.c i (by rw [List.length_append, HV.out, List.length_replicate]; omega)
        have HA2 := Lib.hid (HA.out.set i (by rw [List.length_append, HV.out, List.length_replicate]; omega) v)
        rw [set_next HV.out hlt] at HA2
        have HVN := Lib.hid (show (vs ++ [v]).length = i + 1 by rw [List.length_append, HV.out]; rfl)
        by_cases hcq : c - p = q
        · have HRN := Lib.hid (HP.out.cut (a := q) (some ⟨xb, xo, none⟩) (fun h => by omega))
          rw [Nat.sub_sub, List.drop_drop] at HRN
          have HCE := Lib.hid (show 0 = c - (p + q) by omega)
          go_wp2_with fail
          go_region_held3 (fun _ => True) (trivial) (first | fail)
          go_wp2_with fail
          exact ⟨⟨i + 1, vs ++ [v], p + q, some ⟨xb, xo, none⟩, by go_num, by omega, hlen, by rw [Nat.sub_sub, ← HCE.out], HVN.out, HN.out.1, HRN.out, HA2.out, (HW.out.setCell (Nat.le_refl _) _).drew⟩, by simp [RowKit.intOf]; omega⟩
        · have HRN := Lib.hid (HP.out.cut (a := q) (some ⟨xb, xo + q, none⟩) (fun h => ⟨_, _, rfl, rfl⟩))
          rw [Nat.sub_sub, List.drop_drop] at HRN
          go_wp2_with fail
          go_region_held3 (fun _ => True) (trivial) (first | fail)
          go_wp2_with fail
          exact ⟨⟨i + 1, vs ++ [v], p + q, some ⟨xb, xo + q, none⟩, by go_num, by omega, hlen, by rw [Nat.sub_sub, Nat.sub_sub], HVN.out, HN.out.1, HRN.out, HA2.out, (HW.out.setCell (Nat.le_refl _) _).drew⟩, by simp [RowKit.intOf]; omega⟩
      · have hno := Lib.hid hno
        go_wp2_with fail
        exact bodyPost_ret (v := .tuple #[.slice none 0 0, .slice none 0 0, .bool false]) (by simp [results, Try.results15, go_sem]) rfl ⟨.inr ⟨vs, p, by rw [HV.out]; exact hlt, HT.out, hno.out, rfl⟩, HW.out⟩
    · obtain rfl : i = m := by omega
      have hltz : ¬ (i : Int) < (i : Int) := by omega
      rw [Nat.sub_self, List.replicate_zero, List.append_nil] at HA
      go_wp2_with fail
      exact bodyPost_ret (v := .tuple #[.slice (some ⟨w.heap.size, 0, none⟩) i i, .slice A' (n - p) (c - p), .bool true]) (by simp [results, Try.results15, go_sem]) rfl ⟨.inl ⟨vs, p, A', HV.out, hpn, HT.out, rfl, HA.out, HP.out.below HW.out⟩, HW.out⟩
end Go.Proofs.Ytbobaappilploaa
