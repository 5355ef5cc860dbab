/-
  slices.Chunk at pairs of texts: what the loop over it is handed.
-/
import Derived.RangeFuncNested
import Derived.RangeFuncBound
import Derived.RangeFuncCalls
import Derived.RangeFuncLeaves
import Derived.RangeFuncBox
import Derived.Shelf.Abstract
import Derived.Shelf.RegionOpen
import Derived.WalkKit
import Derived.OwnWalkIn
import Derived.TacticsInMore
import Derived.LoopNIn
import Derived.LoopIn
import Derived.Maps.AppendAt
import Derived.Sort.QuietIn
import Derived.Test.YtgaoeoijdpdjiaaGreatDoorPart2
namespace Go.Proofs.YtgaoeoijdpdjiaaGreatDoor
open Go.RowKit Go.Shelf
attribute [local go_sem] Oper.semAt_some
/-- How long the q-th pair is. -/
def pl (N q : Nat) : Nat := min 2 (N - 2 * q)
end Go.Proofs.YtgaoeoijdpdjiaaGreatDoor
