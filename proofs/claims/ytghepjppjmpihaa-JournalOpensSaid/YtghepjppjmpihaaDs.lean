/- The reference's settle and Sync. -/
import Derived.Test.YtghepjppjmpihaaDw
namespace Go.Proofs.Ytghepjppjmpihaa
open Go.ChangeShapes Go.WideShapes Go.ChangeAt Go.RowKit Go.Lib

set_option maxHeartbeats 1000000 in
theorem refsettle_any {b sb nb db n m : Nat} {st now dr : List Int} (w : World) (h : Md w b sb nb db n m st now dr) :
    Calls Try.prog 28 #[.pointer (some ⟨b, 0, none⟩)] w fun e w' => e = .returned (.tuple #[]) ∧
      Md w' b sb nb db n m st st (List.replicate m 0) ∧ But (fun k => k = nb ∨ k = db) w w' := by
  have H := Lib.hid h
  have hn : n ≤ 65536 := by have := h.e; have := h.le; omega
  have hm : m ≤ 1024 := h.le
  clear h
  go_enter Try.func28, Try.ntmps28
  go_wp2_with fail
  go_loopw [2] (fun iv wr => ∃ i : Nat, iv = .int .i64 i ∧ i ≤ n ∧ Hid (Md wr b sb nb db n m st (Dk.wr st now 0 i) dr) ∧ Hid (But (fun k => k = nb ∨ k = db) w wr)) (fun iv _ => n - (RowKit.intOf iv).toNat)
  case atStart => exact ⟨0, rfl, Nat.zero_le _, H.out, But.refl _ _⟩
  case round =>
    obtain ⟨i, rfl, hi, HM, HB⟩ := hrel
    by_cases hlt : i < n
    · have hltz : (i : Int) < (n : Int) := by omega
      obtain ⟨z, hz⟩ : ∃ z, z = st.getD i 0 := ⟨_, rfl⟩
      have M3 := Lib.hid (show Md (wr.setCell ⟨nb, i, none⟩ (.int .u8 z)).drew b sb nb db n m st (Dk.wr st now 0 (i + 1)) dr by
        rw [show Dk.wr st now 0 (i + 1) = (Dk.wr st now 0 i).set i z from by rw [hz]; show List.set _ (0 + i) _ = _; rw [Nat.zero_add]]
        exact (HM.out.setN i hlt _).drew)
      have B3 := Lib.hid (HB.out.setCell (p := ⟨nb, i, none⟩) (Or.inl rfl) (.int .u8 z)).drew
      have c0 := HM.out.c0
      have c1 := HM.out.c1
      have hc := HM.out.rs.c i (by rw [HM.out.ls]; exact hlt)
      rw [← hz] at hc
      have cn := HM.out.rn.c i (by rw [HM.out.ln]; exact hlt)
      have fn := HM.out.rn.z i (by rw [HM.out.ln]; exact hlt)
      generalize (Dk.wr st now 0 i).getD i 0 = zo at cn
      clear hz HM HB
      go_wp2_with fail
      go_region
      generalize (wr.setCell ⟨nb, i, none⟩ (.int .u8 z)).drew = w3 at M3 B3 ⊢
      clear c0 c1 cn fn hc
      go_wp2_with fail
      exact ⟨⟨i + 1, by go_num, by omega, M3.out, B3.out⟩, by simp [RowKit.intOf]; omega⟩
    · obtain rfl : n = i := by omega
      have M3 := Lib.hid HM.out
      rw [Dk.wr_all H.out.ls H.out.ln] at M3
      have c1 := HM.out.c1
      obtain ⟨w2, e2⟩ : ∃ x, x = wr := ⟨_, rfl⟩
      subst e2
      clear HM hlt hi
      go_wp2_with fail
      clear c1
      go_loopw [3] (fun iv wr => ∃ i : Nat, iv = .int .i64 i ∧ i ≤ m ∧ Hid (Md wr b sb nb db n m st st (Dk.zr dr i)) ∧ Hid (But (fun k => k = nb ∨ k = db) w wr)) (fun iv _ => m - (RowKit.intOf iv).toNat)
      case atStart => exact ⟨0, rfl, Nat.zero_le _, M3.out, HB.out⟩
      case round =>
        clear M3 HB
        obtain ⟨i, rfl, hi, HM, HB⟩ := hrel
        have c2 := HM.out.c2
        by_cases hlt : i < m
        · have hltz : (i : Int) < (m : Int) := by omega
          have cd := HM.out.rd.c i (by rw [HM.out.ld]; exact hlt)
          have fd := HM.out.rd.z i (by rw [HM.out.ld]; exact hlt)
          generalize (Dk.zr dr i).getD i 0 = zd at cd
          have N1 := Lib.hid (show Md (wr.setCell ⟨db, i, none⟩ (Bl 0)) b sb nb db n m st st (Dk.zr dr (i + 1)) from HM.out.setD i hlt 0)
          have N2 := Lib.hid (HB.out.setCell (p := ⟨db, i, none⟩) (Or.inr rfl) (Bl 0))
          go_wp2_with fail
          exact ⟨⟨i + 1, by go_num, by omega, N1.out, N2.out⟩, by simp [RowKit.intOf]; omega⟩
        · obtain rfl : i = m := by omega
          have N1 := Lib.hid HM.out
          rw [Dk.zr_all H.out.ld] at N1
          go_wp2_with fail
          go_end0
          exact ⟨rfl, N1.out, HB.out⟩

set_option maxHeartbeats 1000000 in
theorem refsync_any {b sb nb db n m : Nat} {st now dr : List Int} (w : World) (h : Md w b sb nb db n m st now dr) :
    Calls Try.prog 15 #[.pointer (some ⟨b, 0, none⟩)] w fun e w' => e = .returned (.tuple #[]) ∧
      Md w' b sb nb db n m now now (List.replicate m 0) ∧ But (fun k => k = sb ∨ k = nb ∨ k = db) w w' := by
  have H := Lib.hid h
  have hn : n ≤ 65536 := by have := h.e; have := h.le; omega
  clear h
  go_enter Try.func15, Try.ntmps15
  go_wp2_with fail
  go_loopw [2] (fun iv wr => ∃ i : Nat, iv = .int .i64 i ∧ i ≤ n ∧ Hid (Md wr b sb nb db n m (Dk.wr now st 0 i) now dr) ∧ Hid (But (fun k => k = sb ∨ k = nb ∨ k = db) w wr)) (fun iv _ => n - (RowKit.intOf iv).toNat)
  case atStart => exact ⟨0, rfl, Nat.zero_le _, H.out, But.refl _ _⟩
  case round =>
    obtain ⟨i, rfl, hi, HM, HB⟩ := hrel
    by_cases hlt : i < n
    · have hltz : (i : Int) < (n : Int) := by omega
      obtain ⟨z, hz⟩ : ∃ z, z = now.getD i 0 := ⟨_, rfl⟩
      have M3 := Lib.hid (show Md (wr.setCell ⟨sb, i, none⟩ (.int .u8 z)).drew b sb nb db n m (Dk.wr now st 0 (i + 1)) now dr by
        rw [show Dk.wr now st 0 (i + 1) = (Dk.wr now st 0 i).set i z from by rw [hz]; show List.set _ (0 + i) _ = _; rw [Nat.zero_add]]
        exact (HM.out.setS i hlt _).drew)
      have B3 := Lib.hid (HB.out.setCell (p := ⟨sb, i, none⟩) (Or.inl rfl) (.int .u8 z)).drew
      have c0 := HM.out.c0
      have c1 := HM.out.c1
      have hc := HM.out.rn.c i (by rw [HM.out.ln]; exact hlt)
      rw [← hz] at hc
      have cn := HM.out.rs.c i (by rw [HM.out.ls]; exact hlt)
      have fn := HM.out.rs.z i (by rw [HM.out.ls]; exact hlt)
      generalize (Dk.wr now st 0 i).getD i 0 = zo at cn
      clear hz HM HB
      go_wp2_with fail
      go_region
      generalize (wr.setCell ⟨sb, i, none⟩ (.int .u8 z)).drew = w3 at M3 B3 ⊢
      clear c0 c1 cn fn hc
      go_wp2_with fail
      exact ⟨⟨i + 1, by go_num, by omega, M3.out, B3.out⟩, by simp [RowKit.intOf]; omega⟩
    · obtain rfl : n = i := by omega
      have M3 := Lib.hid HM.out
      rw [Dk.wr_all H.out.ln H.out.ls] at M3
      have c1 := HM.out.c1
      clear HM hlt hi
      go_wp2_with fail
      refine (refsettle_any _ M3.out).mono ?_; rintro e w3 ⟨rfl, h3, h4⟩
      have N2 := Lib.hid (HB.out.trans ((h4.more (T := fun k => k = sb ∨ k = nb ∨ k = db) (fun k _ hk => Or.inr hk)).more (fun _ _ h => h)))
      have N1 := Lib.hid h3
      go_wp2_with fail
      go_end0
      exact ⟨rfl, N1.out, N2.out⟩
end Go.Proofs.Ytghepjppjmpihaa
