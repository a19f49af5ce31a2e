/- The program's journal: what its functions come to. -/
import Derived.Test.YtghepjppjmpihaaJqo
namespace Go.Proofs.Ytghepjppjmpihaa
open Go.ChangeShapes Go.WideShapes Go.ChangeAt Go.RowKit Go.Lib

theorem crecords {S T : Nat → Prop} {B0 d j m e : Nat} {now : List Int} {rs : List (List Int)} (w : World) (h : Dj B0 S T w d j m now rs e) :
    Calls Try.prog 19 #[.pointer (some ⟨j, 0, none⟩)] w fun v w' => ∃ u, v = .returned u ∧ RecV w w' u rs ∧ Below w.heap.size w w' := precords w h.jn.2 h.dk h.jj h.yy
end Go.Proofs.Ytghepjppjmpihaa
