import Derived.Test.YtedbfkpmffehaaaBack
import Derived.Laws.AppendOwn
import Derived.Laws.AppendOwnNone
import Derived.Laws.OwnMore
import Derived.OwnWalk
namespace Go.Proofs.Ytedbfkpmffehaaa
open Go.RowKit Go.Shelf Go.Lib Ar

theorem info2 : (Try.prog.info? 2).map (fun i => (i.zero, i.size, i.bytes)) = some (some (.int .i64 0), 1, 8) := by kernel_rfl

theorem stays_any (A : Option Addr) (n cap : Nat) (zs : List Int) (w : World) (hn : n ≤ cap) (hcap : cap ≤ 9223372036854775807) (hnil : A = none → cap = 0) (hr : RdK .i64 w w.heap.size A n zs) (hin : ∀ z ∈ zs, In z) :
    Calls Try.prog 8 #[.slice A n cap] w fun e w' => e = .returned (.bool true) ∧ Below w.heap.size w w' := by
  have HIN := Lib.hid hin; clear hin
  have HR := Lib.hid hr; clear hr
  by_cases hbig : 1000 < n
  · go_enter Try.func8, Try.ntmps8
    go_wp2_with fail
    refine (up_any _).mono ?_; rintro e w' ⟨rfl, m, rfl⟩
    go_wp2_with fail
    go_ret
    exact ⟨rfl, below_drewN _ w m⟩
  have hle : n ≤ 1000 := by omega
  obtain ⟨i0, hi, hz0, hz1, hz2⟩ := info_parts info2
  cases A with
  | none =>
    obtain ⟨rfl, rfl⟩ := HR.out.none_nil
    obtain rfl := hnil rfl
    go_enter Try.func8, Try.ntmps8
    go_wp2_with fail
    refine (up_any _).mono ?_; rintro e w' ⟨rfl, m, rfl⟩
    have hown : ((w.drewN m).alloc (.cells #[] 2)).ownsRow w.heap.size 2 1 (.slice (some ⟨w.heap.size, 0, none⟩) 0 0) 0 [] :=
      ⟨rfl, .inr ⟨w.heap.size, 0, #[], rfl, Nat.le_refl _, heap_alloc_new _ _, Nat.le_refl _, by decide, rfl, rfl⟩⟩
    have hb : Below w.heap.size w ((w.drewN m).alloc (.cells #[] 2)) := (below_drewN _ w m).alloc (Nat.le_refl _) _
    go_wp2_with (at_builtin; refine wpList_append_own_none rfl _ _ 35 rfl w.heap.size 2 i0 1 Try.underlying35 hi _ 0 [] rfl hown rfl ?_)
    have HO := Lib.hid (RdK.of_own (k := .i64) (zs := []) hown)
    clear hown
    generalize (w.drewN m).alloc (.cells #[] 2) = w1 at *
    have HB := Lib.hid hb; clear hb
    go_wp2_with fail
    refine (sum_any _ 0 0 [] _ _ HO.out HIN.out (by omega)).mono ?_; rintro e w2 ⟨rfl, rfl⟩
    go_wp2_with fail
    go_loopw [5] (fun i wr => i = .int .i64 0 ∧ wr = w1) (fun i _ => 0)
    case atStart => exact ⟨rfl, rfl⟩
    case round =>
      obtain ⟨rfl, rfl⟩ := hrel
      go_wp2_with fail
      go_ret
      exact ⟨rfl, HB.out⟩
  | some ad =>
    go_enter Try.func8, Try.ntmps8
    go_wp2_with fail
    refine (up_any _).mono ?_; rintro e w' ⟨rfl, m, rfl⟩
    have hown : ((w.drewN m).alloc (.cells #[] 2)).ownsRow w.heap.size 2 1 (.slice (some ⟨w.heap.size, 0, none⟩) 0 0) 0 [] :=
      ⟨rfl, .inr ⟨w.heap.size, 0, #[], rfl, Nat.le_refl _, heap_alloc_new _ _, Nat.le_refl _, by decide, rfl, rfl⟩⟩
    go_wp2_with (at_builtin; refine wpList_append_own _ rfl _ _ 35 rfl w.heap.size 2 i0 (.int .i64 0) 1 8 Try.underlying35 hi hz0 hz1 hz2 rfl (by decide) _ 0 [] rfl hown ad n cap (zs.map (Value.int .i64)) rfl ?c1 ?c2 ?c3 ?c4 ?c5 ?c6 ?_)
    case c1 => simp [HR.out.1]
    case c2 => exact (HR.out.below ((below_drewN _ w m).alloc (Nat.le_refl _) _)).cells
    case c3 => intro u hu; obtain ⟨z, _, rfl⟩ := List.mem_map.1 hu; rfl
    case c4 => unfold maxLen; omega
    case c5 => omega
    case c6 => simp
    intro v' w1 hown' hgrow _
    have hb : Below w.heap.size w w1 := (((below_drewN _ w m).alloc (Nat.le_refl _) _).grown hgrow (by simp) (by intro k hk; cases hk; exact Nat.le_refl _))
    clear hgrow
    have hform : ∃ A2 c2, v' = .slice A2 n c2 := by
      obtain ⟨_, ⟨rfl, rfl⟩ | ⟨g, c2, cur, rfl, _⟩⟩ := hown'
      · exact ⟨_, _, rfl⟩
      · exact ⟨_, _, rfl⟩
    obtain ⟨A2, c2, rfl⟩ := hform
    have HO := Lib.hid (RdK.of_own hown')
    clear hown' hown
    have HR1 := Lib.hid (HR.out.below hb)
    have HB := Lib.hid hb; clear hb
    go_wp2_with fail
    refine (sum_any A2 n c2 zs _ _ HO.out HIN.out (by omega)).mono ?_; rintro e w2 ⟨rfl, rfl⟩
    go_wp2_with fail
    go_loopw [5] (fun i wr => ∃ k q : Nat, k ≤ n ∧ i = .int .i64 k ∧ wr = w1.drewN q) (fun i _ => n - (RowKit.intOf i).toNat)
    case atStart => exact ⟨0, 0, Nat.zero_le _, rfl, rfl⟩
    case round =>
      obtain ⟨k, q, hk, rfl, rfl⟩ := hrel
      by_cases hlt : k < n
      · obtain ⟨b1, o1, rfl, _, x1⟩ := HO.out.2 k hlt
        obtain ⟨b2, o2, e2, _, x2⟩ := HR1.out.2 k hlt
        injection e2 with e2; subst e2
        generalize zs.getD k 0 = z at x1 x2
        go_wp2_with fail
        go_quiet (fail)
        go_wp2_with fail
        go_roundw
        case rel => exact ⟨k + 1, _, by omega, by go_num, rfl⟩
        case measure => simp [RowKit.intOf]; omega
      · go_wp2_with fail
        go_ret
        exact ⟨rfl, HB.out.trans (below_drewN _ _ _)⟩
