/-
  What is kept from the walk; the bits of a check sum.
-/
import Derived.Test.YtgaoeoijdpdjiaaGreatDoorRows
import Derived.WalkKit
import Derived.WalkSpells
import Derived.WalkLawsBesides
import Derived.Laws.BitsAllLaws
import Derived.Handy
namespace Go.Proofs.YtgaoeoijdpdjiaaGreatDoor
open Go.RowKit
theorem hide {p : Prop} (h : p) : Hid p := h
end Go.Proofs.YtgaoeoijdpdjiaaGreatDoor
