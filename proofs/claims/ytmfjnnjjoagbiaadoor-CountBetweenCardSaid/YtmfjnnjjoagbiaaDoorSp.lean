/- The plain arithmetic of rounded quotients: no program in sight. -/
namespace Go.Proofs.YtmfjnnjjoagbiaaDoor.Ar
def neg3 (a b c : Int) : Bool := (decide (a < 0) != decide (b < 0)) != decide (c < 0)
def rup (q r C : Int) (below : Bool) (mode : Int) : Bool :=
  if r = 0 then false else if mode = 1 then below else if mode = 2 then !below else if mode = 3 then decide (C - r ≤ r) else decide (C - r < r) || (decide (r = C - r) && decide (q % 2 = 1))
def abs (a : Int) : Int := if a < 0 then -a else a
def mag (a b c mode : Int) : Int := abs a * abs b / abs c + if rup (abs a * abs b / abs c) (abs a * abs b % abs c) (abs c) (neg3 a b c) mode then 1 else 0
def mdv (a b c mode : Int) : Int := if neg3 a b c then -mag a b c mode else mag a b c mode
def Fits (v : Int) : Prop := -9223372036854775808 ≤ v ∧ v ≤ 9223372036854775807
def In (v : Int) : Prop := -9223372036854775808 ≤ v ∧ v ≤ 9223372036854775807
theorem abs_in {a : Int} (h : In a) : 0 ≤ abs a ∧ abs a ≤ 9223372036854775808 := by unfold abs; obtain ⟨_, _⟩ := h; split <;> omega
theorem abs_pos {a : Int} (h : a ≠ 0) : 1 ≤ abs a := by unfold abs; split <;> omega
end Go.Proofs.YtmfjnnjjoagbiaaDoor.Ar
