/- What dovetailref00.SameInts does (contracts; nothing is claimed here). -/
import Derived.Test.YtfhpgmlfgjfknaaGreatDoorJ4
namespace Go.Proofs.YtfhpgmlfgjfknaaGreatDoor
open Go.RowKit Go.Vf

theorem drop_getD (l : List Int) (k : Nat) (h : k < l.length) : l.drop k = (l[k]?.getD 0) :: l.drop (k + 1) := by
  rw [List.drop_eq_getElem_cons h, List.getElem?_eq_getElem h]; rfl

end Go.Proofs.YtfhpgmlfgjfknaaGreatDoor
