/- The reference's Write, settle, Sync. -/
import Derived.Test.YtghepjppjmpihaaDr
namespace Go.Proofs.Ytghepjppjmpihaa
open Go.ChangeShapes Go.WideShapes Go.ChangeAt Go.RowKit Go.Lib

/-- bytes that are read while some blocks are written -/
theorem RdK.but {k : IntKind} {w w' : World} {A : Option Addr} {n : Nat} {zs : List Int} {S : Nat → Prop} (h : RdK k w w.heap.size A n zs) (hb : But S w w') (hs : 0 < n → ∀ g off, A = some ⟨g, off, none⟩ → ¬ S g) : RdK k w' w'.heap.size A n zs :=
  ⟨h.1, fun j hj => by
    obtain ⟨g, off, e, hg, hc⟩ := h.2 j hj
    exact ⟨g, off, e, Nat.lt_of_lt_of_le hg hb.size, (hb.cell (p := ⟨g, off + j, none⟩) hg (hs (by omega) g off e)).trans hc⟩⟩
/-! ### Write -/
set_option maxHeartbeats 1000000 in
theorem refwrite_any {b sb nb db n m : Nat} {st now dr bs : List Int} {A : Option Addr} {L c p : Nat} (w : World) (h : Md w b sb nb db n m st now dr)
    (hr : RdK .u8 w w.heap.size A L bs) (hs : 0 < L → ∀ g off, A = some ⟨g, off, none⟩ → ¬ (g = nb ∨ g = db)) (hp : p + L ≤ n) :
    Calls Try.prog 14 #[.pointer (some ⟨b, 0, none⟩), .int .i64 p, .slice A L c] w fun e w' => e = .returned (.tuple #[]) ∧
      Md w' b sb nb db n m st (Dk.wr bs now p L) (Dk.dirt dr p L) ∧ But (fun k => k = nb ∨ k = db) w w' := by
  have H := Lib.hid h
  have R := Lib.hid hr
  have HS := Lib.hid hs
  have hn : n ≤ 65536 := by have := h.e; have := h.le; omega
  have hm1 : n ≤ 64 * m := by have := h.e; omega
  have hm2 : 64 * m ≤ n := by have := h.e; omega
  clear h hr hs
  go_enter Try.func14, Try.ntmps14
  go_wp2_with fail
  go_loopw [6] (fun iv wr => ∃ i : Nat, iv = .int .i64 i ∧ i ≤ L ∧ Hid (Md wr b sb nb db n m st (Dk.wr bs now p i) (Dk.dirt dr p i)) ∧ Hid (But (fun k => k = nb ∨ k = db) w wr)) (fun iv _ => L - (RowKit.intOf iv).toNat)
  case atStart => exact ⟨0, rfl, Nat.zero_le _, H.out, But.refl _ _⟩
  case round =>
    obtain ⟨i, rfl, hi, HM, HB⟩ := hrel
    by_cases hlt : i < L
    · have hltz : (i : Int) < (L : Int) := by omega
      obtain ⟨g, off, rfl, hg, hc⟩ := (R.out.but HB.out HS.out).2 i hlt
      obtain ⟨iN, hiN⟩ : ∃ q, q = p + i := ⟨_, rfl⟩
      have ra : IntKind.i64.wrap ((p : Int) + (i : Int)) = (iN : Int) := by rw [IntKind.wrap_i64]; omega
      have ba : (iN : Int) < (n : Int) := by omega
      obtain ⟨z, hz⟩ : ∃ z, z = bs.getD i 0 := ⟨_, rfl⟩
      rw [← hz] at hc
      have M3 := Lib.hid (show Md (wr.setCell ⟨nb, iN, none⟩ (.int .u8 z)).drew b sb nb db n m st (Dk.wr bs now p (i + 1)) (Dk.dirt dr p i) by
        rw [show Dk.wr bs now p (i + 1) = (Dk.wr bs now p i).set iN z from by rw [hiN, hz]; rfl]
        exact (HM.out.setN iN (by omega) _).drew)
      have B3 := Lib.hid (HB.out.setCell (p := ⟨nb, iN, none⟩) (Or.inl rfl) (.int .u8 z)).drew
      have HD := Lib.hid (show Dk.dirt dr p (i + 1) = (Dk.dirt dr p i).set (iN / 64) 1 from by rw [hiN]; rfl)
      have c1 := HM.out.c1
      have cn := HM.out.rn.c iN (by rw [HM.out.ln]; omega)
      have fn := HM.out.rn.z iN (by rw [HM.out.ln]; omega)
      generalize (Dk.wr bs now p i).getD iN 0 = zo at cn
      have bq : (iN : Int) / 64 < (m : Int) := by omega
      have bqn : iN / 64 < m := by omega
      clear hiN hz HM HB hm1 hm2
      go_wp2_with fail
      go_region
      generalize (wr.setCell ⟨nb, iN, none⟩ (.int .u8 z)).drew = w3 at M3 B3 ⊢
      clear c1 cn fn hc hg
      have c2 := M3.out.c2
      have cd := M3.out.rd.c (iN / 64) (by rw [M3.out.ld]; exact bqn)
      have fd := M3.out.rd.z (iN / 64) (by rw [M3.out.ld]; exact bqn)
      generalize (Dk.dirt dr p i).getD (iN / 64) 0 = zd at cd
      have N1 := Lib.hid (M3.out.setD (iN / 64) bqn 1)
      rw [← HD.out] at N1
      have N2 := Lib.hid (B3.out.setCell (p := ⟨db, iN / 64, none⟩) (Or.inr rfl) (Bl 1))
      go_wp2_with fail
      exact ⟨⟨i + 1, by go_num, by omega, N1.out, N2.out⟩, by simp [RowKit.intOf]; omega⟩
    · obtain rfl : i = L := by omega
      go_wp2_with fail
      go_end0
      exact ⟨rfl, HM.out, HB.out⟩
end Go.Proofs.Ytghepjppjmpihaa
