/-
  What is kept from the walk; the bits of a check sum.
-/
import Derived.Test.YtgaoeoijdpdjiaaGreatDoorRows
import Derived.WalkKit
import Derived.WalkSpells
import Derived.WalkLawsBesides
import Derived.Laws.BitsAllLaws
import Derived.Handy
namespace Go.Proofs.YtgaoeoijdpdjiaaGreatDoor
open Go.RowKit
theorem hide {p : Prop} (h : p) : Hid p := h
theorem byte_lt (s : ByteArray) (k : Nat) : (s.data.toList.map UInt8.toNat).getD k 0 < 256 := by
  by_cases h : k < (s.data.toList.map UInt8.toNat).length
  · rw [List.getD_eq_getElem?_getD, List.getElem?_eq_getElem h]
    simp only [Option.getD_some, List.getElem_map]
    exact UInt8.toNat_lt _
  · rw [List.getD_eq_getElem?_getD, List.getElem?_eq_none (by omega)]
    decide
theorem byte_eq (s : ByteArray) (k : Nat) (h : k < s.size) : (s.data.toList.map UInt8.toNat).getD k 0 = (s[k]'h).toNat := by
  rw [List.getD_eq_getElem?_getD, List.getElem?_map, List.getElem?_eq_getElem (by simpa using h)]
  rfl
end Go.Proofs.YtgaoeoijdpdjiaaGreatDoor
