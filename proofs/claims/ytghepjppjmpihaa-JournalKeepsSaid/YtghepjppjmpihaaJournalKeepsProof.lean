/-
  For every records, bytes, stage and picks: JournalKeeps returns true and leaves its arguments as they were. No condition.
-/
import Derived.Test.YtghepjppjmpihaaRows
import Derived.Test.YtghepjppjmpihaaJx
import Derived.Test.YtghepjppjmpihaaFr
namespace Go.Proofs.Ytghepjppjmpihaa.journalKeeps
open Go.ChangeShapes Go.WideShapes Go.ChangeAt Go.RowKit
set_option linter.unusedVariables false

theorem own : ownKnob Try.prog.godebug = none := by kernel_rfl
theorem laid : laidOutB Try.prog = true := by kernel_rfl
theorem cells5 : Try.prog.cellsOf 5 = 1 := by kernel_rfl
theorem cells3 : Try.prog.cellsOf 3 = 1 := by kernel_rfl

set_option maxRecDepth 100000 in
theorem lifted (os : Os) (started : os.Started) (H : Type) (enc : TypeId × Value → H) :
    ReturnsInHanded {} Try.checked os 4 .any (Rows.journalKeepsSpec.pre6 enc Try.prog Try.f4 Rows.journalKeepsRow.domain false) (Rows.journalKeepsSpec.post enc Try.prog Try.f4 false true false false) := by
  refine returnsInHanded_of_change (C := Try.checked) own started (by kernel_rfl) Try.func4
    (ChangeSpec.witness6 (enc := enc) (C := Try.checked) false ⟨#[], #[.slice none 0 0, .slice none 0 0, .int .i64 0, .slice none 0 0, .slice none 0 0], []⟩ 8 (by kernel_rfl) (by kernel_rfl) (by kernel_rfl) (by kernel_rfl)) ?_
  intro W base args ds gs before hval0 hW hcnd _
  have hval : ∀ (j : Nat) t v, Try.f4.params[j]? = some t → args[j]? = some v → Value.okWide Try.prog W .any base t v := hval0
  have hW' := hW
  obtain ⟨p, q, hA0, hV, rfl, hfz, hnd⟩ := hW
  have hA : DataW.TrodAll enc Try.prog W 0 (fun _ => true) true Try.f4.params.toList args.toList ds p := hA0
  rw [Try.params4] at hA hval
  obtain ⟨v0, vs0, d0, ds0, p0, q0, hargs, rfl, rfl, h0, r0⟩ := trodAll_cons hA
  obtain ⟨v1, vs1, d1, ds1, p1, q1, rfl, rfl, rfl, h1, r1⟩ := trodAll_cons r0
  obtain ⟨v2, vs2, d2, ds2, p2, q2, rfl, rfl, rfl, h2, r2⟩ := trodAll_cons r1
  obtain ⟨v3, vs3, d3, ds3, p3, q3, rfl, rfl, rfl, h3, r3⟩ := trodAll_cons r2
  obtain ⟨v4, vs4, d4, ds4, p4, q4, rfl, rfl, rfl, h4, r4⟩ := trodAll_cons r3
  obtain ⟨rfl, rfl, rfl⟩ := trodAll_nil r4
  obtain rfl : args = #[v0, v1, v2, v3, v4] := by cases args; simp_all
  obtain ⟨rfl, rfl⟩ := trodVars_none hV
  obtain ⟨A0, n0, c0, rfl, hn0, hc0, hnil0, hr0⟩ := open_records (hval 0 44 v0 rfl rfl) h0
  obtain ⟨A1, n1, c1, zs1, rfl, hn1, hc1, hnil1, hr1, hz1⟩ := open_nums Try.underlying22 Try.underlying5 cells5 (hval 1 22 v1 rfl rfl) h1
  obtain ⟨a2, rfl, rfl, rfl, w2⟩ := open_int Try.underlying3 (hval 2 3 v2 rfl rfl) h2
  obtain ⟨A3, n3, c3, zs3, rfl, hn3, hc3, hnil3, hr3, hz3⟩ := open_nums Try.underlying49 Try.underlying3 cells3 (hval 3 49 v3 rfl rfl) h3
  obtain ⟨A4, n4, c4, zs4, rfl, hn4, hc4, hnil4, hr4, hz4⟩ := open_nums Try.underlying22 Try.underlying5 cells5 (hval 4 22 v4 rfl rfl) h4
  clear hA0 hval0
  refine (keeps_walk A0 n0 c0 A1 n1 c1 zs1 a2 A3 n3 c3 zs3 A4 n4 c4 zs4 (in64 w2) W hr0 hr1 hr3 hr4 ⟨hn0, hc0⟩ ⟨hn1, hc1⟩ ⟨hn3, hc3⟩ ⟨hn4, hc4⟩ (fun x hx => in64 (hz3 x hx)) (Jk.By.of fun x hx => u8_of (hz1 x hx)) (Jk.By.of fun x hx => u8_of (hz4 x hx))).mono fun e W' ⟨he, hb⟩ => ⟨_, he, law_post (P := Try.prog) (f := Try.f4) hW' laid (by kernel_rfl) rfl rfl rfl rfl rfl Try.underlying4 hb⟩

theorem proved : Rows.JournalKeepsSaid :=
  OpenClaim.holds_of_wide 4 Try.f4 rfl rfl rfl rfl rfl rfl rfl ⟨rfl, rfl, rfl, rfl, rfl⟩ rfl rfl rfl rfl rfl (by kernel_rfl) Try.func4 (by kernel_rfl)
    (of_decide_eq_true (by kernel_rfl)) (by unfold Func.isWrapper; first | (rw [if_pos (by decide +kernel)]; kernel_rfl) | (rw [if_neg (by decide +kernel)]; exact ⟨rfl, rfl⟩))
    (fun os started H enc _ => lifted os started H enc)
#print axioms proved
end Go.Proofs.Ytghepjppjmpihaa.journalKeeps
