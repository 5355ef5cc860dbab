/-
  Chains: start, chain; and join.
-/
import Derived.Test.YtgaoeoijdpdjiaaGreatDoorPart17
namespace Go.Proofs.YtgaoeoijdpdjiaaGreatDoor
open Go.RowKit
def pairS (k b : Int) (pub : ByteArray) (p0 p1 p2 r i : Int) (y z : ByteArray) : ByteArray := hv k b (numB 1 3 ++ (pub ++ (numB 1 p0 ++ (numB 4 p1 ++ (numB 1 p2 ++ (numB 1 r ++ (numB 1 i ++ (y ++ z))))))))
end Go.Proofs.YtgaoeoijdpdjiaaGreatDoor
