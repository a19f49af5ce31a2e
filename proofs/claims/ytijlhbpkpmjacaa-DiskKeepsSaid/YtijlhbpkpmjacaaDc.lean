/- The reference's Crash. -/
import Derived.Test.YtijlhbpkpmjacaaDs
namespace Go.Proofs.Ytijlhbpkpmjacaa
open Go.ChangeShapes Go.WideShapes Go.ChangeAt Go.RowKit Go.Lib

set_option maxHeartbeats 1000000 in
theorem refcrash_any {b sb nb db n m : Nat} {st now dr picks : List Int} {A : Option Addr} {L c : Nat} (w : World) (h : Md w b sb nb db n m st now dr)
    (hr : RdK .i64 w w.heap.size A L picks) (hs : 0 < L → ∀ g off, A = some ⟨g, off, none⟩ → ¬ g = sb) :
    Calls Try.prog 23 #[.pointer (some ⟨b, 0, none⟩), .slice A L c] w fun e w' => e = .returned (.tuple #[]) ∧
      Md w' b sb nb db n m (Dk.crash st now dr picks m) (Dk.crash st now dr picks m) (List.replicate m 0) ∧ But (fun k => k = sb ∨ k = nb ∨ k = db) w w' := by
  have H := Lib.hid h
  have R := Lib.hid hr
  have HS := Lib.hid hs
  have hn : n ≤ 65536 := by have := h.e; have := h.le; omega
  have hm : m ≤ 1024 := h.le
  have hm2 : 64 * m ≤ n := by have := h.e; omega
  clear h hr hs
  go_enter Try.func23, Try.ntmps23
  go_wp2_with fail
  go_loopw [4, 5] (fun nv bv wr => ∃ bb : Nat, bv = .int .i64 bb ∧ nv = .int .i64 (Dk.many dr bb : Nat) ∧ bb ≤ m ∧ Hid (Md wr b sb nb db n m (Dk.crash st now dr picks bb) now dr) ∧ Hid (But (fun k => k = sb) w wr)) (fun _ bv _ => m - (RowKit.intOf bv).toNat)
  case atStart => exact ⟨0, rfl, rfl, Nat.zero_le _, H.out, But.refl _ _⟩
  case round =>
    obtain ⟨bb, rfl, rfl, hb, HM, HB⟩ := hrel
    have c2 := HM.out.c2
    have hle := Dk.many_le dr bb
    by_cases hlt : bb < m
    · have hltz : (bb : Int) < (m : Int) := by omega
      have cd := HM.out.rd.c bb (by rw [HM.out.ld]; exact hlt)
      by_cases hd : dr.getD bb 0 = 1
      · rw [hd] at cd
        simp only [Bl, decide_true] at cd
        have HMS := Lib.hid (Dk.many_yes hd)
        have HC := Lib.hid (show Dk.crash st now dr picks (bb + 1) = Dk.blk now (picks.getD (Dk.many dr bb) 0) bb (Dk.crash st now dr picks bb) 64 from if_pos hd)
        generalize hq : Dk.many dr bb = q at *
        generalize hX : Dk.crash st now dr picks bb = X at *
        clear hq hX hd
        obtain ⟨w2, e2⟩ : ∃ x, x = wr := ⟨_, rfl⟩
        subst e2
        go_wp2_with fail
        clear c2 cd
        go_loopw [6] (fun iv wr => ∃ k : Nat, iv = .int .i64 k ∧ k ≤ 64 ∧ Hid (Md wr b sb nb db n m (Dk.blk now (picks.getD q 0) bb X k) now dr) ∧ Hid (But (fun k => k = sb) w wr)) (fun iv _ => 64 - (RowKit.intOf iv).toNat)
        case atStart => exact ⟨0, rfl, Nat.zero_le _, HM.out, HB.out⟩
        case round =>
          clear HM HB
          obtain ⟨k, rfl, hk, HM, HB⟩ := hrel
          by_cases hk64 : k < 64
          · have hkz : (k : Int) < 64 := by omega
            by_cases hqL : q < L
            · have hqz : (q : Int) < (L : Int) := by omega
              obtain ⟨g, off, rfl, hg, hc⟩ := (R.out.but HB.out HS.out).2 q hqL
              by_cases hkp : (k : Int) < picks.getD q 0
              · have HBK := Lib.hid (show Dk.blk now (picks.getD q 0) bb X (k + 1) = (Dk.blk now (picks.getD q 0) bb X k).set (64 * bb + k) (now.getD (64 * bb + k) 0) from if_pos hkp)
                obtain ⟨uN, huN⟩ : ∃ q, q = 64 * bb := ⟨_, rfl⟩
                obtain ⟨jN, hjN⟩ : ∃ q, q = 64 * bb + k := ⟨_, rfl⟩
                rw [← hjN] at HBK
                have ra : IntKind.i64.wrap (64 * (bb : Int)) = (uN : Int) := by rw [IntKind.wrap_i64]; omega
                have rb : IntKind.i64.wrap ((uN : Int) + (k : Int)) = (jN : Int) := by rw [IntKind.wrap_i64]; omega
                have bj : (jN : Int) < (n : Int) := by omega
                have bjn : jN < n := by omega
                generalize hpk : picks.getD q 0 = pk at *
                obtain ⟨z, hz⟩ : ∃ z, z = now.getD jN 0 := ⟨_, rfl⟩
                have M3 := Lib.hid (show Md (wr.setCell ⟨sb, jN, none⟩ (.int .u8 z)).drew b sb nb db n m (Dk.blk now pk bb X (k + 1)) now dr by
                  rw [HBK.out, ← hz]
                  exact (HM.out.setS jN bjn _).drew)
                have B3 := Lib.hid (HB.out.setCell (p := ⟨sb, jN, none⟩) rfl (.int .u8 z)).drew
                have c0 := HM.out.c0
                have c1 := HM.out.c1
                have cn := HM.out.rn.c jN (by rw [HM.out.ln]; exact bjn)
                rw [← hz] at cn
                have cs := HM.out.rs.c jN (by rw [HM.out.ls]; exact bjn)
                have fs := HM.out.rs.z jN (by rw [HM.out.ls]; exact bjn)
                generalize (Dk.blk now pk bb X k).getD jN 0 = zo at cs
                clear hz HM HB HBK huN hjN hpk hm2
                go_wp2_with fail
                go_region
                generalize (wr.setCell ⟨sb, jN, none⟩ (.int .u8 z)).drew = w3 at M3 B3 ⊢
                clear c0 c1 cn cs fs hc
                go_wp2_with fail
                exact ⟨⟨k + 1, by go_num, by omega, M3.out, B3.out⟩, by simp [RowKit.intOf]; omega⟩
              · have HBK := Lib.hid (show Dk.blk now (picks.getD q 0) bb X (k + 1) = Dk.blk now (picks.getD q 0) bb X k from if_neg hkp)
                generalize hpk : picks.getD q 0 = pk at *
                clear hpk
                have hkb : decide ((k : Int) < pk) = false := decide_eq_false hkp
                rw [← HBK.out] at HM
                go_wp2_with fail
                exact ⟨⟨k + 1, by go_num, by omega, HM.out, HB.out⟩, by simp [RowKit.intOf]; omega⟩
            · have hqz : ¬ (q : Int) < (L : Int) := by omega
              have hp0 : picks.getD q 0 = 0 := by rw [List.getD_eq_getElem?_getD, List.getElem?_eq_none (by rw [R.out.1]; omega)]; rfl
              have HBK := Lib.hid (show Dk.blk now (picks.getD q 0) bb X (k + 1) = Dk.blk now (picks.getD q 0) bb X k from if_neg (by rw [hp0]; omega))
              rw [← HBK.out] at HM
              clear hp0
              go_wp2_with fail
              exact ⟨⟨k + 1, by go_num, by omega, HM.out, HB.out⟩, by simp [RowKit.intOf]; omega⟩
          · obtain rfl : k = 64 := by omega
            rw [← HC.out] at HM
            go_wp2_with fail
            exact ⟨⟨bb + 1, by go_num, by rw [HMS.out]; go_num, by omega, HM.out, HB.out⟩, by simp [RowKit.intOf]; omega⟩
      · have hdf : decide (dr.getD bb 0 = 1) = false := by simpa using hd
        rw [show Bl (dr.getD bb 0) = .bool false from congrArg Value.bool hdf] at cd
        have HMS := Lib.hid (Dk.many_no hd)
        have HC := Lib.hid (show Dk.crash st now dr picks (bb + 1) = Dk.crash st now dr picks bb from if_neg hd)
        rw [← HC.out] at HM
        clear hd hdf
        go_wp2_with fail
        exact ⟨⟨bb + 1, by go_num, by rw [HMS.out], by omega, HM.out, HB.out⟩, by simp [RowKit.intOf]; omega⟩
    · obtain rfl : m = bb := by omega
      go_wp2_with fail
      refine (refsettle_any _ HM.out).mono ?_; rintro e w3 ⟨rfl, h3, h4⟩
      have N2 := Lib.hid ((HB.out.more (T := fun k => k = sb ∨ k = nb ∨ k = db) (fun k _ hk => Or.inl hk)).trans (h4.more (T := fun k => k = sb ∨ k = nb ∨ k = db) (fun k _ hk => Or.inr hk)))
      have N1 := Lib.hid h3
      go_wp2_with fail
      go_end0
      exact ⟨rfl, N1.out, N2.out⟩
end Go.Proofs.Ytijlhbpkpmjacaa
