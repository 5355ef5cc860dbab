/-
  The program's digest and the document's are one: the padded row and the padded text read alike, and the first n bytes of the whole are the n bytes.
-/
import Derived.Test.YtgaoeoijdpdjiaaDoorDOf
namespace Go.Proofs.YtgaoeoijdpdjiaaDoor
open Go.RowKit

theorem beN_congr (A B : List Nat) (h : ∀ i, at0 A i = at0 B i) (o k : Nat) : beN A o k = beN B o k := by
  induction k with
  | zero => rfl
  | succ k ih => rw [beN, beN, ih, h]
theorem take32_congr (A B : List Nat) (h : ∀ i, at0 A i = at0 B i) (o : Nat) (L : List Nat) (j : Nat) : take32 A o L j = take32 B o L j := by
  induction j with
  | zero => rfl
  | succ j ih => rw [take32, take32, ih, beN_congr A B h]
theorem take64_congr (A B : List Nat) (h : ∀ i, at0 A i = at0 B i) (o : Nat) (L : List Nat) (j : Nat) : take64 A o L j = take64 B o L j := by
  induction j with
  | zero => rfl
  | succ j ih => rw [take64, take64, ih, beN_congr A B h]
theorem soak32_congr (A B : List Nat) (h : ∀ i, at0 A i = at0 B i) (m : Nat) : soak32 A m = soak32 B m := by
  induction m with
  | zero => rfl
  | succ m ih => rw [soak32_succ, soak32_succ, ih, take32_congr A B h]
theorem soak64_congr (A B : List Nat) (h : ∀ i, at0 A i = at0 B i) (m : Nat) : soak64 A m = soak64 B m := by
  induction m with
  | zero => rfl
  | succ m ih => rw [soak64_succ, soak64_succ, ih, take64_congr A B h]

theorem outs_take (n : Nat) (L : List Nat) (m k : Nat) (h : k ≤ m) : (outs n L m).take k = outs n L k := by
  unfold outs
  rw [← List.map_take, List.take_range, Nat.min_eq_left h]
theorem textOf_cut (D : List Nat) (k : Nat) : (textOf D).extract 0 k = textOf (D.take k) := by
  apply ByteArray.ext
  simp [textOf, ByteArray.extract, ByteArray.copySlice, List.map_take]

theorem whole32_cut (s : ByteArray) (k : Nat) (h : k ≤ 16) : (whole32 s).extract 0 k = textOf (outs 4 (soak32 (padL s) (s.size / 16 + 1)) k) := by
  unfold whole32
  rw [textOf_cut, outs_take _ _ _ _ h, soak32_congr _ _ (padRow_at s _)]
theorem whole64_cut (s : ByteArray) (k : Nat) (h : k ≤ 32) : (whole64 s).extract 0 k = textOf (outs 8 (soak64 (padL s) (s.size / 32 + 1)) k) := by
  unfold whole64
  rw [textOf_cut, outs_take _ _ _ _ h, soak64_congr _ _ (padRow_at s _)]
end Go.Proofs.YtgaoeoijdpdjiaaDoor
