import Derived.Test.YtedbfkpmffehaaaSum
namespace Go.Proofs.Ytedbfkpmffehaaa
open Go.RowKit Go.Shelf Go.Lib Ar

theorem sv_fit {s v : Int} (h : Fits s) (e : s = v) : sv s = v ∧ se s = .nilIface := ⟨by rw [← e]; exact if_pos h, if_pos h⟩
theorem sv_over {s : Int} (h : ¬ Fits s) : sv s = 0 ∧ se s = .iface 39 (.int .i64 3) := ⟨if_neg h, if_neg h⟩

theorem back_any (a b : Int) (ha : In a) (hb : In b) (w : World) :
    Calls Try.prog 10 #[.int .i64 a, .int .i64 b] w fun e w' => e = .returned (.bool true) ∧ Below w.heap.size w w' := by
  have H := Lib.hid (show In a ∧ In b from ⟨ha, hb⟩)
  by_cases f1 : Fits (a + b)
  · obtain ⟨s, hs⟩ : ∃ s, a + b = s := ⟨_, rfl⟩
    obtain ⟨p1, p2⟩ := sv_fit f1 hs
    obtain ⟨q1, q2⟩ := sv_fit (s := s - b) (v := a) (by rw [← hs]; unfold Fits; obtain ⟨_, _⟩ := ha; omega) (by omega)
    have HSI := Lib.hid (show In s from hs ▸ f1)
    clear hs
    by_cases f2 : Fits (a - b)
    · obtain ⟨d, hd⟩ : ∃ d, a - b = d := ⟨_, rfl⟩
      obtain ⟨r1, r2⟩ := sv_fit f2 hd
      obtain ⟨t1, t2⟩ := sv_fit (s := d + b) (v := a) (by rw [← hd]; unfold Fits; obtain ⟨_, _⟩ := ha; omega) (by omega)
      have HDI := Lib.hid (show In d from hd ▸ f2)
      clear hd f1 f2 ha hb
      go_enter Try.func10, Try.ntmps10
      go_wp2_with fail
      refine (up_any _).mono ?_; rintro e w1 ⟨rfl, n, rfl⟩
      go_wp2_with fail
      refine (add_any a b H.out.1 H.out.2 _).mono ?_; rintro e w2 ⟨rfl, g2⟩
      rw [p1, p2]
      go_wp2_with fail
      refine (sub_any s b HSI.out H.out.2 _).mono ?_; rintro e w3 ⟨rfl, rfl⟩
      rw [q1, q2]
      go_wp2_with fail
      refine (sub_any a b H.out.1 H.out.2 _).mono ?_; rintro e w3 ⟨rfl, rfl⟩
      rw [r1, r2]
      go_wp2_with fail
      refine (add_any d b HDI.out H.out.2 _).mono ?_; rintro e w3 ⟨rfl, g3⟩
      rw [t1, t2]
      go_wp2_with fail
      go_ret
      exact ⟨rfl, ((below_drewN _ w n).trans g2).trans (g3.mono g2.size)⟩
    · obtain ⟨r1, r2⟩ := sv_over f2
      clear f1 f2 ha hb
      go_enter Try.func10, Try.ntmps10
      go_wp2_with fail
      refine (up_any _).mono ?_; rintro e w1 ⟨rfl, n, rfl⟩
      go_wp2_with fail
      refine (add_any a b H.out.1 H.out.2 _).mono ?_; rintro e w2 ⟨rfl, g2⟩
      rw [p1, p2]
      go_wp2_with fail
      refine (sub_any s b HSI.out H.out.2 _).mono ?_; rintro e w3 ⟨rfl, rfl⟩
      rw [q1, q2]
      go_wp2_with fail
      refine (sub_any a b H.out.1 H.out.2 _).mono ?_; rintro e w3 ⟨rfl, rfl⟩
      rw [r1, r2]
      go_wp2_with fail
      go_ret
      exact ⟨rfl, (below_drewN _ w n).trans g2⟩
  · obtain ⟨p1, p2⟩ := sv_over f1
    by_cases f2 : Fits (a - b)
    · obtain ⟨d, hd⟩ : ∃ d, a - b = d := ⟨_, rfl⟩
      obtain ⟨r1, r2⟩ := sv_fit f2 hd
      obtain ⟨t1, t2⟩ := sv_fit (s := d + b) (v := a) (by rw [← hd]; unfold Fits; obtain ⟨_, _⟩ := ha; omega) (by omega)
      have HDI := Lib.hid (show In d from hd ▸ f2)
      clear hd f1 f2 ha hb
      go_enter Try.func10, Try.ntmps10
      go_wp2_with fail
      refine (up_any _).mono ?_; rintro e w1 ⟨rfl, n, rfl⟩
      go_wp2_with fail
      refine (add_any a b H.out.1 H.out.2 _).mono ?_; rintro e w2 ⟨rfl, g2⟩
      rw [p1, p2]
      go_wp2_with fail
      refine (sub_any a b H.out.1 H.out.2 _).mono ?_; rintro e w3 ⟨rfl, rfl⟩
      rw [r1, r2]
      go_wp2_with fail
      refine (add_any d b HDI.out H.out.2 _).mono ?_; rintro e w3 ⟨rfl, g3⟩
      rw [t1, t2]
      go_wp2_with fail
      go_ret
      exact ⟨rfl, ((below_drewN _ w n).trans g2).trans (g3.mono g2.size)⟩
    · obtain ⟨r1, r2⟩ := sv_over f2
      clear f1 f2 ha hb
      go_enter Try.func10, Try.ntmps10
      go_wp2_with fail
      refine (up_any _).mono ?_; rintro e w1 ⟨rfl, n, rfl⟩
      go_wp2_with fail
      refine (add_any a b H.out.1 H.out.2 _).mono ?_; rintro e w2 ⟨rfl, g2⟩
      rw [p1, p2]
      go_wp2_with fail
      refine (sub_any a b H.out.1 H.out.2 _).mono ?_; rintro e w3 ⟨rfl, rfl⟩
      rw [r1, r2]
      go_wp2_with fail
      go_ret
      exact ⟨rfl, (below_drewN _ w n).trans g2⟩
