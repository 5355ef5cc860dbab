import Derived.Test.YtgaoeoijdpdjiabGreatDoorPart20
import Derived.Deep.CutRange
namespace Go.Proofs.YtgaoeoijdpdjiabGreatDoor
open Go.RowKit
theorem Cu {w w':World}{X:Nat->Prop}{b:Nat}{vs:List Value}{T:TypeId}(h:ma w b vs T)(hk:za X w w')(hn:¬X b):ma w' b vs T:=by
 unfold ma;rw[hk.block b h.lt hn];exact h
end Go.Proofs.YtgaoeoijdpdjiabGreatDoor
