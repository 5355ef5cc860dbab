/-
  The program's whole over words of 32 bits.
-/
import Derived.Test.YtgaoeoijdpdjiaaGreatDoorPart6
import Derived.Test.YtgaoeoijdpdjiaaGreatDoorPart3
import Derived.Test.YtgaoeoijdpdjiaaGreatDoorPart5
import Derived.Test.YtgaoeoijdpdjiaaGreatDoorPart7
import Derived.Test.YtgaoeoijdpdjiaaGreatDoorPart8
namespace Go.Proofs.YtgaoeoijdpdjiaaGreatDoor
open Go.RowKit
/-- The words behind m blocks. -/
def soak32 (BL : List Nat) : Nat → List Nat
  | 0 => [1, 2, 3, 4, 5, 6, 7, 8]
  | m + 1 => stirTo 32 (take32 BL (m * 16) (soak32 BL m) 4) 8
end Go.Proofs.YtgaoeoijdpdjiaaGreatDoor
