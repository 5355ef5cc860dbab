/-
  The bytes of a text and its padding, as a list.
-/
import Derived.Test.YtgaoeoijdpdjiaaDoorDRead
namespace Go.Proofs.YtgaoeoijdpdjiaaDoor
open Go.RowKit

/-- A text's bytes, and a 1 behind them. -/
def padL (s : ByteArray) : List Nat := s.data.toList.map UInt8.toNat ++ [1]

theorem padL_length (s : ByteArray) : (padL s).length = s.size + 1 := by simp [padL]

theorem padL_in (s : ByteArray) (i : Nat) (h : i < s.size) : at0 (padL s) i = (s[i]'h).toNat := by
  unfold padL at0
  rw [List.getD_eq_getElem?_getD, List.getElem?_append_left (by simpa using h), List.getElem?_map, List.getElem?_eq_getElem (by simpa using h)]
  rfl

theorem padL_at (s : ByteArray) : at0 (padL s) s.size = 1 := by
  unfold padL at0
  rw [List.getD_eq_getElem?_getD, List.getElem?_append_right (by simp)]
  simp

theorem padL_past (s : ByteArray) (i : Nat) (h : s.size < i) : at0 (padL s) i = 0 := by
  unfold at0
  rw [List.getD_eq_getElem?_getD, List.getElem?_eq_none (by rw [padL_length]; omega)]
  rfl

theorem padL_lt (s : ByteArray) (i : Nat) : at0 (padL s) i < 256 := by
  rcases Nat.lt_trichotomy i s.size with h | h | h
  · rw [padL_in s i h]; exact UInt8.toNat_lt _
  · rw [h, padL_at]; decide
  · rw [padL_past s i h]; decide
end Go.Proofs.YtgaoeoijdpdjiaaDoor
