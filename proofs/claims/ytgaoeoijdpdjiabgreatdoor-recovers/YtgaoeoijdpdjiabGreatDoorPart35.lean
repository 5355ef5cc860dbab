/-
  The program's keys.In: the key that stands in a text.
-/
import Derived.Test.YtgaoeoijdpdjiabGreatDoorPart6
import Derived.Test.YtgaoeoijdpdjiabGreatDoorPart25
import Derived.Test.YtgaoeoijdpdjiabGreatDoorPart28
import Derived.Test.YtgaoeoijdpdjiabGreatDoorPart12
namespace Go.Proofs.YtgaoeoijdpdjiabGreatDoor
open Go.RowKit
theorem idxV (s : ByteArray) (i : Nat) (h : i < s.size) (w : World) : (Instr.index 9 (.string s) (.int .i64 (i : Int))).run Tryz.prog w = .ok (.int .u8 ((byt s i : Nat) : Int)) w := by
  have e1 : (i : Int) < (s.size : Int) := by omega
  have e2 : (0 : Int) ≤ (i : Int) := by omega
  have e3 : byt s i = (s[i]'h).toNat := byte_eq s i h
  rw [e3]
  simp [go_sem, e1, e2]
end Go.Proofs.YtgaoeoijdpdjiabGreatDoor
