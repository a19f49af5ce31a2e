/- Bytes as strings, in any world in which they are read. -/
import Derived.Test.YtnbieibbfpajeaaDoorFr
import Derived.Test.YtnbieibbfpajeaaDoorProg
import Derived.Laws.BytesArg
import Derived.Shelf.Bytes.SlSmallAll
namespace Go.Proofs.YtnbieibbfpajeaaDoor
open Go.RowKit Go.Lib Go.ChangeShapes Go.WideShapes Go.ChangeAt

theorem bytes_loop (bs : ByteArray) : ∀ (k i : Nat) (r : List UInt8), bs.size - i = k → ByteArray.toList.loop bs i r = r.reverse ++ bs.data.toList.drop i := by
  intro k
  induction k with
  | zero =>
    intro i r h
    unfold ByteArray.toList.loop
    have hs : bs.data.toList.length = bs.size := Array.length_toList
    rw [if_neg (by omega), List.drop_of_length_le (by omega), List.append_nil]
  | succ k ih =>
    intro i r h
    have hi : i < bs.size := by omega
    unfold ByteArray.toList.loop
    rw [if_pos hi, ih (i + 1) _ (by omega)]
    have hs : bs.data.toList.length = bs.size := Array.length_toList
    have h2 : i < bs.data.toList.length := by omega
    rw [List.drop_eq_getElem_cons h2]
    have e : bs.get! i = bs.data.toList[i] := by
      cases bs with | mk d =>
      simp [ByteArray.get!]
      have h3 : i < d.size := by simpa [ByteArray.size] using hi
      simp [getElem!_pos, h3]
    rw [e]; simp
theorem bytes_toList (bs : ByteArray) : bs.toList = bs.data.toList := by
  unfold ByteArray.toList
  rw [bytes_loop bs _ 0 [] rfl]; simp
theorem str_list (l : List Int) : (strOfNums l).toList = l.map fun n => UInt8.ofNat n.toNat := by rw [bytes_toList, strOfNums_data]
theorem byte_inj {x y : Int} (hx : 0 ≤ x ∧ x < 256) (hy : 0 ≤ y ∧ y < 256) (h : UInt8.ofNat x.toNat = UInt8.ofNat y.toNat) : x = y := by
  have := congrArg UInt8.toNat h
  simp only [UInt8.toNat_ofNat'] at this
  omega
theorem bytes_inj : ∀ {l m : List Int}, (∀ x ∈ l, 0 ≤ x ∧ x < 256) → (∀ x ∈ m, 0 ≤ x ∧ x < 256) → (l.map fun n => UInt8.ofNat n.toNat) = (m.map fun n => UInt8.ofNat n.toNat) → l = m
  | [], [], _, _, _ => rfl
  | [], _ :: _, _, _, h => by simp at h
  | _ :: _, [], _, _, h => by simp at h
  | x :: l, y :: m, hl, hm, h => by
    simp only [List.map_cons, List.cons.injEq] at h
    rw [byte_inj (hl x List.mem_cons_self) (hm y List.mem_cons_self) h.1, bytes_inj (fun z hz => hl z (List.mem_cons_of_mem _ hz)) (fun z hz => hm z (List.mem_cons_of_mem _ hz)) h.2]
theorem str_ne {l m : List Int} (hl : ∀ x ∈ l, 0 ≤ x ∧ x < 256) (hm : ∀ x ∈ m, 0 ≤ x ∧ x < 256) (h : l ≠ m) : ((strOfNums l).toList == (strOfNums m).toList) = false := by
  rw [beq_eq_false_iff_ne, str_list, str_list]
  exact fun e => h (bytes_inj hl hm e)
/-- bytes that are read, as a string; of none too -/
theorem rd_str {w : World} {B : Nat} {A : Option Addr} {n c : Nat} {bs : List Int} (h : RdK .u8 w B A n bs) : (convert 51 9 (.slice A n c)).run Tryd.prog w = .ok (.string (strOfNums bs)) w := by
  rcases Nat.eq_zero_or_pos n with h0 | hn
  · subst h0
    have hb : bs = [] := List.length_eq_zero_iff.1 h.1
    subst hb
    exact run_convert_bytes_zero w 51 5 Tryd.underlying51 Tryd.underlying5 A c 9 Tryd.underlying9
  · obtain ⟨b, off, rfl, _, _⟩ := h.2 0 hn
    refine run_convert_bytes_arg (P := Tryd.prog) w 51 5 Tryd.underlying51 Tryd.underlying5 b off n c bs h.1 (fun i hi => ?_) 9 Tryd.underlying9
    obtain ⟨b2, off2, e, _, hc⟩ := h.2 i hi
    injection e with e
    injection e with e1 e2
    subst e1 e2
    exact hc
end Go.Proofs.YtnbieibbfpajeaaDoor
