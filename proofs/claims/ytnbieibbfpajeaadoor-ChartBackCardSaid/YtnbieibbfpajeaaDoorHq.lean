/- strings.Cut at a dot, strconv.Atoi, strconv.Itoa in plain words: rows of bytes. -/
import Derived.Test.YtnbieibbfpajeaaDoorHd
import Derived.Test.YtnbieibbfpajeaaDoorHr
import Derived.Test.YtnbieibbfpajeaaDoorShelf
import Derived.Lib.AtoiAll
import Derived.Lib.ItoaMem
import Derived.Lib.IndexLaws
namespace Go.Proofs.YtnbieibbfpajeaaDoor
open Go.ChangeShapes Go.WideShapes Go.ChangeAt Go.RowKit Go.Lib

namespace Hp
/-- what stands ahead of the first dot -/
def front : List Int → List Int
  | [] => []
  | b :: l => if b = 46 then [] else b :: front l
/-- what stands behind the first dot -/
def back : List Int → List Int
  | [] => []
  | b :: l => if b = 46 then l else back l
theorem front_take : ∀ bs : List Int, front bs = bs.take (front bs).length
  | [] => rfl
  | b :: l => by
    unfold front
    split
    · rfl
    · simp only [List.length_cons, List.take_succ_cons]; rw [← front_take l]
theorem back_drop : ∀ bs : List Int, back bs = bs.drop ((front bs).length + 1)
  | [] => rfl
  | b :: l => by
    unfold front back
    split
    · rfl
    · simp only [List.length_cons, List.drop_succ_cons]; exact back_drop l
theorem front_none : ∀ {bs : List Int}, 46 ∉ bs → front bs = bs ∧ back bs = []
  | [], _ => ⟨rfl, rfl⟩
  | b :: l, h => by
    have h1 : b ≠ 46 := fun e => h (e ▸ List.mem_cons_self)
    obtain ⟨e1, e2⟩ := front_none (bs := l) (fun k => h (List.mem_cons_of_mem _ k))
    unfold front back
    rw [if_neg h1, if_neg h1, e1, e2]; exact ⟨rfl, rfl⟩
theorem front_len : ∀ {bs : List Int}, 46 ∈ bs → (front bs).length < bs.length
  | [], h => nomatch h
  | b :: l, h => by
    unfold front
    split
    · simp
    · rename_i h1
      have := front_len (bs := l) (by rcases List.mem_cons.1 h with e | e; exact absurd e.symm h1; exact e)
      simp; exact this
theorem front_of {a x : List Int} (ha : 46 ∉ a) : front (a ++ 46 :: x) = a ∧ back (a ++ 46 :: x) = x := by
  induction a with
  | nil => exact ⟨rfl, rfl⟩
  | cons b l ih =>
    have h1 : b ≠ 46 := fun e => ha (e ▸ List.mem_cons_self)
    obtain ⟨e1, e2⟩ := ih (fun k => ha (List.mem_cons_of_mem _ k))
    rw [List.cons_append]
    unfold front back
    rw [if_neg h1, if_neg h1, e1, e2]; exact ⟨rfl, rfl⟩
theorem front_mem {bs : List Int} {x : Int} (h : x ∈ front bs) : x ∈ bs := by
  rw [front_take] at h; exact List.mem_of_mem_take h
theorem back_mem {bs : List Int} {x : Int} (h : x ∈ back bs) : x ∈ bs := by
  rw [back_drop] at h; exact List.mem_of_mem_drop h
end Hp
theorem u8_dot {b : Int} (h : 0 ≤ b ∧ b < 256) : (UInt8.ofNat b.toNat == (46 : UInt8)) = decide (b = 46) := by
  by_cases e : b = 46
  · subst e; rfl
  · rw [decide_eq_false e]
    apply beq_eq_false_iff_ne.2
    intro k
    have := congrArg UInt8.toNat k
    rw [UInt8.toNat_ofNat'] at this
    have e46 : (46 : UInt8).toNat = 46 := rfl
    rw [e46] at this
    omega
theorem ix_dot : ∀ {bs : List Int}, (∀ x ∈ bs, 0 ≤ x ∧ x < 256) → Lib.indexByte (bs.map fun n => UInt8.ofNat n.toNat) 46 = if 46 ∈ bs then ((Hp.front bs).length : Int) else -1
  | [], _ => rfl
  | b :: l, h => by
    have ih := ix_dot (bs := l) (fun x hx => h x (List.mem_cons_of_mem _ hx))
    rw [List.map_cons]
    unfold Lib.indexByte
    rw [u8_dot (h b List.mem_cons_self), ih]
    by_cases e : b = 46
    · subst e; unfold Hp.front; simp
    · have e2 : ¬ 46 = b := fun k => e k.symm
      have ef : Hp.front (b :: l) = b :: Hp.front l := by rw [Hp.front, if_neg e]
      rw [ef]
      by_cases hl : 46 ∈ l
      · have h1 : (((Hp.front l).length : Int) == -1) = false := beq_eq_false_iff_ne.2 (by omega)
        rw [if_pos hl, if_pos (List.mem_cons_of_mem _ hl), h1, decide_eq_false e]
        simp
      · simp [e, e2, hl]
theorem str_drop (l : List Int) (n : Nat) : (strOfNums l).extract n (strOfNums l).size = strOfNums (l.drop n) := by
  rw [strOfNums_size]
  unfold strOfNums
  ext1
  simp [ByteArray.extract, ByteArray.copySlice]
  exact List.take_of_length_le (by simp)
theorem cut_dot (bs : List Int) (hb : ∀ x ∈ bs, 0 ≤ x ∧ x < 256) (hn : bs.length ≤ 2000) (w : World) : Calls Tryd.prog 23 #[.string (strOfNums bs), .string { data := #[46] }] w fun e w' => (∃ b : Bool, e = .returned (.tuple #[.string (strOfNums (Hp.front bs)), .string (strOfNums (Hp.back bs)), .bool b])) ∧ Below w.heap.size w w' := by
  have hI := Tryd.stringslite_Index_one (strOfNums bs) 46 w
  rw [show (strOfNums bs).data.toList = bs.map fun n => UInt8.ofNat n.toNat from by rw [strOfNums_data], ix_dot hb] at hI
  obtain ⟨N, hN⟩ : ∃ N, bs.length = N := ⟨_, rfl⟩
  have hz : (strOfNums bs).size = N := by rw [strOfNums_size, hN]
  have hN2 : N ≤ 2000 := by rw [← hN]; exact hn
  have HN := Lib.hid hN
  clear hN hn
  by_cases hd : 46 ∈ bs
  · rw [if_pos hd] at hI
    have hf := str_take bs (Hp.front bs).length
    have hg := str_drop bs ((Hp.front bs).length + 1)
    rw [← Hp.front_take] at hf
    rw [← Hp.back_drop, hz] at hg
    have hl := Hp.front_len hd
    rw [HN.out] at hl
    obtain ⟨F, hF⟩ : ∃ F, (Hp.front bs).length = F := ⟨_, rfl⟩
    rw [hF] at hI hf hg hl
    have HI := Lib.hid hI
    clear hI hd hF
    have g0 : (0 : Int) ≤ (F : Int) := by omega
    have g1 : (F : Int) ≤ (N : Int) := by omega
    have g2 : (0 : Int) ≤ (F : Int) + 1 := by omega
    have g3 : (F : Int) + 1 ≤ (N : Int) := by omega
    go_enter Tryd.func23, Tryd.ntmps23
    go_wp2_with fail
    refine HI.out.mono ?_; rintro e w' ⟨rfl, rfl⟩
    go_wp2_with fail
    go_quiet (fail)
    go_wp2_with fail
    exact bodyPost_ret (by simp [results, Tryd.results23, go_sem]) rfl ⟨⟨true, rfl⟩, below_drewN _ _ _⟩
  · rw [if_neg hd] at hI
    obtain ⟨e1, e2⟩ := Hp.front_none hd
    rw [e1, e2]
    have HI := Lib.hid hI
    clear hI hd e1 e2
    go_enter Tryd.func23, Tryd.ntmps23
    go_wp2_with fail
    refine HI.out.mono ?_; rintro e w' ⟨rfl, rfl⟩
    go_wp2_with fail
    exact bodyPost_ret (by simp [results, Tryd.results23, go_sem]; rfl) rfl ⟨⟨false, rfl⟩, Below.refl _ _⟩
/-- strings.Cut at a dot -/
theorem ccut (bs : List Int) (hb : ∀ x ∈ bs, 0 ≤ x ∧ x < 256) (hn : bs.length ≤ 2000) (w : World) : Calls Tryd.prog 19 #[.string (strOfNums bs), .string { data := #[46] }] w fun e w' => (∃ b : Bool, e = .returned (.tuple #[.string (strOfNums (Hp.front bs)), .string (strOfNums (Hp.back bs)), .bool b])) ∧ Below w.heap.size w w' := by
  have HI := Lib.hid (cut_dot bs hb hn w)
  clear hb hn
  go_enter Tryd.func19, Tryd.ntmps19
  go_wp2_with fail
  refine HI.out.mono ?_; rintro e w' ⟨⟨b, rfl⟩, hb⟩
  have B := Lib.hid hb
  clear hb HI
  go_wp2_with fail
  exact bodyPost_ret (by simp [results, Tryd.results19, go_sem]) rfl ⟨⟨b, rfl⟩, B.out⟩
/-- what Atoi wants of the memory: both errors' variables -/
def LaidE (w : World) : Prop := (∃ te pe, w.cell? ⟨2, 0, none⟩ = some (.iface te pe)) ∧ ∃ te pe, w.cell? ⟨3, 0, none⟩ = some (.iface te pe)
theorem LaidE.below {w w' : World} (h : LaidE w) (hb : Below w.heap.size w w') : LaidE w' := by
  obtain ⟨⟨t, p, h1⟩, t', p', h2⟩ := h
  exact ⟨⟨t, p, (hb.cell (p := ⟨2, 0, none⟩) (cell_lt h1)).trans h1⟩, t', p', (hb.cell (p := ⟨3, 0, none⟩) (cell_lt h2)).trans h2⟩
/-- digits are parsed -/
theorem parse_digits : ∀ (l : List Int) (acc : Nat), (∀ d ∈ l, 48 ≤ d ∧ d ≤ 57) → acc * 10 ^ l.length + 10 ^ l.length ≤ 10 ^ 18 → ∃ n : Nat, Hp.val acc l = n ∧ Lib.parseUint10 acc (l.map fun n => UInt8.ofNat n.toNat) = .ok n
  | [], acc, _, _ => ⟨acc, rfl, rfl⟩
  | d :: l, acc, hd, hl => by
    obtain ⟨d1, d2⟩ := hd d List.mem_cons_self
    have hp : 0 < 10 ^ l.length := Nat.pos_of_ne_zero (by simp)
    have e8 : (10 : Nat) ^ 18 = 1000000000000000000 := by decide
    have et : (UInt8.ofNat d.toNat).toNat = d.toNat := by rw [UInt8.toNat_ofNat']; omega
    have hl2 : (acc * 10 + (d.toNat - 48)) * 10 ^ l.length + 10 ^ l.length ≤ 10 ^ 18 := by
      rw [List.length_cons, Nat.pow_succ] at hl
      have h1 : (acc * 10 + (d.toNat - 48)) * 10 ^ l.length + 10 ^ l.length = (acc * 10 + (d.toNat - 48) + 1) * 10 ^ l.length := by rw [Nat.add_mul _ 1, Nat.one_mul]
      have h2 : acc * (10 ^ l.length * 10) + 10 ^ l.length * 10 = (acc * 10 + 10) * 10 ^ l.length := by rw [Nat.add_mul, Nat.mul_comm (10 ^ l.length) 10, Nat.mul_assoc]
      rw [h1]; rw [h2] at hl
      exact Nat.le_trans (Nat.mul_le_mul_right _ (by omega)) hl
    have hb : acc * 10 + (d.toNat - 48) + 1 ≤ 10 ^ 18 := by
      have h1 : (acc * 10 + (d.toNat - 48)) * 10 ^ l.length + 10 ^ l.length = (acc * 10 + (d.toNat - 48) + 1) * 10 ^ l.length := by rw [Nat.add_mul _ 1, Nat.one_mul]
      rw [h1] at hl2
      exact Nat.le_trans (Nat.le_mul_of_pos_right _ hp) hl2
    obtain ⟨n, e1, e2⟩ := parse_digits l (acc * 10 + (d.toNat - 48)) (fun x hx => hd x (List.mem_cons_of_mem _ hx)) hl2
    refine ⟨n, ?_, ?_⟩
    · rw [← e1]
      show Hp.val ((acc : Int) * 10 + (d - 48)) l = _
      congr 1; push_cast; omega
    · rw [List.map_cons, Lib.parseUint10, et, if_pos (by omega), if_neg (by omega), if_neg (by omega)]
      exact e2
theorem atoi_dg {o : Nat} (h : o ≠ 0) (h2 : o ≤ 65536) : Lib.atoiAll ((Hp.dg o).map fun n => UInt8.ofNat n.toNat) = .ok (o : Int) := by
  have hl := Hp.dg_len h (by omega)
  have hd := Hp.dg_digits o
  have hv := Hp.val_dg o
  obtain ⟨n, e1, e2⟩ := parse_digits (Hp.dg o) 0 hd (by
    have : 10 ^ (Hp.dg o).length ≤ 10 ^ 5 := Nat.pow_le_pow_right (by decide) hl.2
    have e8 : (10 : Nat) ^ 18 = 1000000000000000000 := by decide
    have e5 : (10 : Nat) ^ 5 = 100000 := by decide
    omega)
  have en : n = o := by
    have : Hp.val 0 (Hp.dg o) = n := e1
    rw [hv] at this; omega
  subst en
  cases hx : Hp.dg n with
  | nil => rw [hx] at hl; simp at hl
  | cons c l =>
    rw [hx] at hd e2
    have hc := hd c List.mem_cons_self
    have et : (UInt8.ofNat c.toNat).toNat = c.toNat := by rw [UInt8.toNat_ofNat']; omega
    rw [List.map_cons] at e2 ⊢
    unfold Lib.atoiAll
    simp only [et]
    rw [if_neg (by omega), Lib.parseMag, if_neg (by simp), e2]
    simp only
    rw [if_neg (by omega), if_neg (by omega), if_neg (by omega)]
/-- strconv.Atoi: of digits their number; of nothing 0; else some number -/
theorem catoi (bs : List Int) (hn : bs.length ≤ 2000) (w : World) (hL : LaidE w) : Calls Tryd.prog 20 #[.string (strOfNums bs)] w fun e w' => (∃ (v : Int) (er : Value), e = .returned (.tuple #[.int .i64 v, er]) ∧ (-9223372036854775808 ≤ v ∧ v ≤ 9223372036854775807) ∧ (bs = [] → v = 0) ∧ ∀ o : Nat, o ≠ 0 → o ≤ 65536 → bs = Hp.dg o → v = o) ∧ Below w.heap.size w w' := by
  have hz : (strOfNums bs).size = bs.length := strOfNums_size bs
  have hdt : (strOfNums bs).data.toList = bs.map fun n => UInt8.ofNat n.toNat := by rw [strOfNums_data]
  obtain ⟨⟨t, p, h1⟩, t', p', h2⟩ := hL
  rcases hc : Lib.atoiAll (strOfNums bs).data.toList with v | _ | _
  · refine (Tryd.strconv_Atoi_ok (strOfNums bs) (by omega) v hc w).mono ?_
    rintro e w' ⟨rfl, hw⟩
    refine ⟨⟨v, _, rfl, ?_, fun hb => ?_, fun o h0 ho hb => ?_⟩, ?_⟩
    · have := Lib.atoiAll_bounds hc; omega
    · rw [hdt, hb] at hc; cases hc
    · rw [hdt, hb, atoi_dg h0 ho] at hc; injection hc with hc; exact hc.symm
    · rcases hw with rfl | ⟨t, rfl⟩
      · exact Below.refl _ _
      · exact Lib.bytesWorld_below _ _ _
  · refine (Tryd.strconv_Atoi_faulty (strOfNums bs) (by omega) hc _ w h1 (.inr ⟨_, _, rfl⟩)).mono ?_
    rintro e w' ⟨M, rfl, -, -, hb⟩
    refine ⟨⟨0, _, rfl, by omega, fun _ => rfl, fun o h0 ho hb => ?_⟩, hb⟩
    rw [hdt, hb, atoi_dg h0 ho] at hc; cases hc
  · refine (Tryd.strconv_Atoi_range (strOfNums bs) (by omega) hc _ w h2 (.inr ⟨_, _, rfl⟩)).mono ?_
    rintro e w' ⟨M, rfl, -, -, hb⟩
    refine ⟨⟨_, _, rfl, ?_, fun hb => ?_, fun o h0 ho hb => ?_⟩, hb⟩
    · have := Lib.atoiSat_bounds (strOfNums bs).data.toList; omega
    · rw [hdt, hb] at hc; cases hc
    · rw [hdt, hb, atoi_dg h0 ho] at hc; cases hc
/-- what Itoa wants of the memory -/
def LaidP (w : World) : Prop := Lib.TabIs Tryd.prog w "internal/strconv.uint64pow10" .u64 Lib.pow10Tab
theorem LaidP.below {w w' : World} (h : LaidP w) (hb : Below w.heap.size w w') : LaidP w' := by
  have hg : Tryd.prog.globalNamed "internal/strconv.uint64pow10" = some 4 := by kernel_rfl
  unfold LaidP Lib.TabIs World.var? at *
  rw [hg] at h ⊢
  simp only [Option.bind_some] at h ⊢
  have hlt : 4 < w.heap.size := by
    rcases Nat.lt_or_ge 4 w.heap.size with h' | h'
    · exact h'
    · rw [Array.getElem?_eq_none h'] at h; simp at h
  rw [hb.block _ hlt]; exact h
theorem dec_dg {o : Nat} (h : o ≠ 0) : (⟨(Lib.decDigits o).toArray⟩ : ByteArray) = strOfNums (Hp.dg o) := by
  have key : ∀ o : Nat, o ≠ 0 → Lib.decDigits o = (Hp.dg o).map fun n => UInt8.ofNat n.toNat := by
    intro o
    induction o using Nat.strongRecOn with
    | _ o ih =>
      intro h
      have e48 : (48 + ((o % 10 : Nat) : Int)).toNat = 48 + o % 10 := by omega
      rw [Hp.dg_pos h, List.map_append, List.map_cons, List.map_nil, e48, Lib.decDigits]
      split
      · rename_i h10
        have e0 : o / 10 = 0 := by omega
        have e1 : o % 10 = o := by omega
        rw [e0, Hp.dg_zero, e1]; rfl
      · rename_i h10
        rw [ih (o / 10) (by omega) (by omega)]
  rw [key o h]; rfl
/-- strconv.Itoa of a number above 0 -/
theorem citoa (o : Nat) (h : o ≠ 0) (h2 : o ≤ 65536) (w : World) (hL : LaidP w) : Calls Tryd.prog 16 #[.int .i64 o] w fun e w' => e = .returned (.string (strOfNums (Hp.dg o))) ∧ Below w.heap.size w w' := by
  refine (Tryd.strconv_Itoa (o : Int) (by omega) (by omega) w hL).mono ?_
  rintro e w' ⟨rfl, k, os, rfl⟩
  rw [Lib.itoa_nonneg, dec_dg h]
  exact ⟨rfl, rfl, rfl, rfl, by simp [Go.Sort.grow, World.drewN], fun k hk => by simp only [Go.Sort.grow, World.drewN]; rw [Array.getElem?_append_left hk]⟩
end Go.Proofs.YtnbieibbfpajeaaDoor
