/-
  The program's Of: ErrArg, ErrLong, or the first n bytes of the whole.
-/
import Derived.Test.YtgaoeoijdpdjiaaGreatDoorPart9
import Derived.Test.YtgaoeoijdpdjiaaGreatDoorPart15
namespace Go.Proofs.YtgaoeoijdpdjiaaGreatDoor
open Go.RowKit
def whole32 (s : ByteArray) : ByteArray := textOf (outs 4 (soak32 (padRow s ((s.size / 16 + 1) * 16)) (s.size / 16 + 1)) 16)
def whole64 (s : ByteArray) : ByteArray := textOf (outs 8 (soak64 (padRow s ((s.size / 32 + 1) * 32)) (s.size / 32 + 1)) 32)
/-- What signet.Digest answers. -/
def digAns (kind n : Int) (s : ByteArray) : ByteArray × Int :=
  if (kind = 1 ∨ kind = 2) ∧ 1 ≤ n ∧ n ≤ 16 then (if s.size ≤ 400 then (if kind = 1 then ((whole32 s).extract 0 n.toNat, 0) else ((whole64 s).extract 0 n.toNat, 0)) else (⟨#[]⟩, 3)) else (⟨#[]⟩, 2)
end Go.Proofs.YtgaoeoijdpdjiaaGreatDoor
