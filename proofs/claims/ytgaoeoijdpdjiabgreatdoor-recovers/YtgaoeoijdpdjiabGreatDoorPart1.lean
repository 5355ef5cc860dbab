/-
  What is kept from the walk; the bits of a check sum.
-/
import Derived.Test.YtgaoeoijdpdjiabGreatDoorRows
import Derived.WalkKit
import Derived.WalkSpells
import Derived.WalkLawsBesides
import Derived.Laws.BitsAllLaws
import Derived.Handy
namespace Go.Proofs.YtgaoeoijdpdjiabGreatDoor
open Go.RowKit
theorem hide {p : Prop} (h : p) : Hid p := h
/-- One bit's step. -/
def crcStep (v : Nat) : Nat := if v % 2 = 1 then (v / 2) ^^^ 3988292384 else v / 2
def crcN : Nat → Nat → Nat
  | 0, v => v
  | n + 1, v => crcStep (crcN n v)
theorem crcStep_lt (v : Nat) (h : v < 4294967296) : crcStep v < 4294967296 := by
  unfold crcStep
  split
  · exact Nat.xor_lt_two_pow (n := 32) (by omega) (by decide)
  · omega
theorem crcN_lt (n v : Nat) (h : v < 4294967296) : crcN n v < 4294967296 := by
  induction n with
  | zero => exact h
  | succ n ih => exact crcStep_lt _ ih
theorem and_one (u : Nat) (hu : u < 4294967296) : bits BinOp.and IntKind.u32 (u : Int) 1 = ((u % 2 : Nat) : Int) := by
  have h := u32_and_nat u 1 hu (by decide)
  rw [Nat.and_one_is_mod] at h
  exact h
theorem xor_pat (u : Nat) (hu : u < 4294967296) : bits BinOp.xor IntKind.u32 ((u : Int) / 2) 3988292384 = ((u / 2 ^^^ 3988292384 : Nat) : Int) := by
  have h := u32_xor_nat (u / 2) 3988292384 (by omega) (by decide)
  rw [Int.natCast_ediv] at h
  exact h
/-- The sum's state behind k bytes. -/
def crcTo (s : ByteArray) : Nat → Nat
  | 0 => 4294967295
  | k + 1 => crcN 8 (crcTo s k ^^^ (s.data.toList.map UInt8.toNat).getD k 0)
theorem byte_lt (s : ByteArray) (k : Nat) : (s.data.toList.map UInt8.toNat).getD k 0 < 256 := by
  by_cases h : k < (s.data.toList.map UInt8.toNat).length
  · rw [List.getD_eq_getElem?_getD, List.getElem?_eq_getElem h]
    simp only [Option.getD_some, List.getElem_map]
    exact UInt8.toNat_lt _
  · rw [List.getD_eq_getElem?_getD, List.getElem?_eq_none (by omega)]
    decide
theorem byte_eq (s : ByteArray) (k : Nat) (h : k < s.size) : (s.data.toList.map UInt8.toNat).getD k 0 = (s[k]'h).toNat := by
  rw [List.getD_eq_getElem?_getD, List.getElem?_map, List.getElem?_eq_getElem (by simpa using h)]
  rfl
theorem crcTo_lt (s : ByteArray) (k : Nat) : crcTo s k < 4294967296 := by
  cases k with
  | zero => show 4294967295 < 4294967296; decide
  | succ k =>
    have h1 := crcTo_lt s k
    exact crcN_lt _ _ (Nat.xor_lt_two_pow (n := 32) h1 (Nat.lt_trans (byte_lt s k) (by decide)))
theorem not_u32 (v : Nat) (h : v < 4294967296) : wrap64 (bits BinOp.xor IntKind.u32 IntKind.u32.max (v : Int)) = 4294967295 - (v : Int) := by
  have e : (4294967295 ^^^ v) = 4294967295 - v := by
    have h1 : (BitVec.allOnes 32 ^^^ BitVec.ofNat 32 v) = ~~~ BitVec.ofNat 32 v := BitVec.allOnes_xor
    have h2 := congrArg BitVec.toNat h1
    simp only [BitVec.toNat_xor, BitVec.toNat_allOnes, BitVec.toNat_not, BitVec.toNat_ofNat] at h2
    rw [Nat.mod_eq_of_lt (show v < 2 ^ 32 by omega)] at h2
    exact h2
  have h1 := u32_xor_nat 4294967295 v (by decide) h
  rw [e] at h1
  show wrap64 (bits BinOp.xor IntKind.u32 4294967295 (v : Int)) = _
  have h2 : bits BinOp.xor IntKind.u32 4294967295 (v : Int) = 4294967295 - (v : Int) := by
    refine h1.trans ?_
    omega
  rw [h2]
  exact IntWalk.wrap64_in _ ⟨by omega, by omega⟩
end Go.Proofs.YtgaoeoijdpdjiabGreatDoor
