/-
  One round of a fold: paired.
-/
import Derived.Test.YtgaoeoijdpdjiaaGreatDoorPart3
import Derived.Test.YtgaoeoijdpdjiaaGreatDoorPart4
import Derived.RangeFuncNested
import Derived.OwnWalkIn
import Derived.Deep.RegionHeld3
import Derived.Test.YtgaoeoijdpdjiaaGreatDoorPart2
import Derived.Test.YtgaoeoijdpdjiaaGreatDoorPart18
namespace Go.Proofs.YtgaoeoijdpdjiaaGreatDoor
open Go.RowKit Go.Shelf
attribute [local go_sem] Oper.semAt_some
/-- The value that the q-th pair becomes, as the j-th of the round. -/
def pv (k b : Int) (pub : ByteArray) (p0 p1 p2 r : Int) (xs : List ByteArray) (j q : Nat) : ByteArray :=
  if 2 * q + 1 < xs.length then pairS k b pub p0 p1 p2 r j (xs.getD (2 * q) ⟨#[]⟩) (xs.getD (2 * q + 1) ⟨#[]⟩) else xs.getD (2 * q) ⟨#[]⟩
end Go.Proofs.YtgaoeoijdpdjiaaGreatDoor
