/-
  The document's H, and the program's Value.
-/
import Derived.Test.YtgaoeoijdpdjiaaGreatDoorPart5
import Derived.Shelf.Strings.OnBuilder
import Derived.Test.YtgaoeoijdpdjiaaGreatDoorProg
import Derived.Test.YtgaoeoijdpdjiaaGreatDoorPart2
import Derived.Deep.RegionHeld3
import Derived.Deep.DrawnRows
import Derived.Test.YtgaoeoijdpdjiaaGreatDoorPart16
namespace Go.Proofs.YtgaoeoijdpdjiaaGreatDoor
open Go.RowKit
/-- The digest of a text, for words of the kind k, of b bytes. -/
def hv (k b : Int) (s : ByteArray) : ByteArray := (digAns k b s).1
end Go.Proofs.YtgaoeoijdpdjiaaGreatDoor
