/-
  What the walks of sets.Digits share: the row of digits as it grows.
-/
import Derived.Test.YtgaoeoijdpdjiaaLay
import Derived.Test.YtgaoeoijdpdjiaaMeasure
import Derived.Deep.RegionHeld3
import Derived.Deep.DrawnRows
namespace Go.Proofs.Ytgaoeoijdpdjiaa
open Go.RowKit

/-- A text's bytes as numbers. -/
def bytesN (m : ByteArray) : List Nat := m.data.toList.map UInt8.toNat

theorem bytesN_length (m : ByteArray) : (bytesN m).length = m.size := by simp [bytesN]
theorem bytesN_lt (m : ByteArray) : ∀ c ∈ bytesN m, c < 256 := by
  intro c hc
  simp only [bytesN, List.mem_map] at hc
  obtain ⟨u, _, rfl⟩ := hc
  exact UInt8.toNat_lt u

/-- The row of n places behind k bytes. -/
def rowAt (x e n : Nat) (A : List Nat) (k : Nat) : List Int := (firsts x e (A.take k)).map Int.ofNat ++ List.replicate (n - k * e) 0

theorem rowAt_length (x e n : Nat) (A : List Nat) (k : Nat) (hk : k ≤ A.length) (hn : k * e ≤ n) : (rowAt x e n A k).length = n := by
  simp [rowAt, firsts_length, Nat.min_eq_left hk]; omega

theorem firsts_append (x e : Nat) (a b : List Nat) : firsts x e (a ++ b) = firsts x e a ++ firsts x e b := by
  induction a with
  | nil => rfl
  | cons c r ih => simp [firsts, ih]

theorem rowAt_step (x e n : Nat) (A : List Nat) (k : Nat) (hk : k < A.length) (hn : (k + 1) * e ≤ n) :
    laidTo (rowAt x e n A k) (k * e) e (digs x e (A[k]?.getD 0)) 0 = rowAt x e n A (k + 1) := by
  have e1 : A.take (k + 1) = A.take k ++ [A[k]] := List.take_succ_eq_append_getElem hk
  have h1 : ((firsts x e (A.take k)).map Int.ofNat).length = k * e := by simp [firsts_length, Nat.min_eq_left (Nat.le_of_lt hk)]
  have hke : (k + 1) * e = k * e + e := Nat.succ_mul k e
  unfold laidTo rowAt
  rw [e1, firsts_append, List.map_append]
  simp only [List.getElem?_eq_getElem hk, Option.getD_some, Nat.add_zero, List.drop_zero, firsts, List.append_nil]
  rw [List.take_left' h1, List.drop_append, List.drop_of_length_le (by rw [h1]; omega), List.nil_append, h1, List.drop_replicate]
  congr 2
  omega

theorem rowAt_last (x e f n : Nat) (A : List Nat) (hn : n = A.length * e + f) :
    laidTo (rowAt x e n A A.length) (A.length * e) f (digs x f (lackN x (firsts x e A))) 0 = (digitsN x e f A).map Int.ofNat := by
  have h1 : ((firsts x e A).map Int.ofNat).length = A.length * e := by simp [firsts_length]
  unfold laidTo rowAt digitsN
  rw [List.take_of_length_le (Nat.le_refl A.length)]
  simp only [Nat.add_zero, List.drop_zero]
  rw [List.take_left' h1, List.drop_of_length_le (by simp [firsts_length]; omega), List.append_nil, List.map_append]

theorem rowAt_take (x e n : Nat) (A : List Nat) : (rowAt x e n A A.length).take (A.length * e) = (firsts x e A).map Int.ofNat := by
  have h1 : ((firsts x e A).map Int.ofNat).length = A.length * e := by simp [firsts_length]
  unfold rowAt
  rw [List.take_of_length_le (Nat.le_refl A.length), List.take_left' h1]

theorem row_new (w : World) (c : Array Value) (x e n : Nat) (A : List Nat) (h : c = (List.replicate n (Value.int .i64 0)).toArray) : RowZ (w.alloc (.cells c 3)) w.heap.size (rowAt x e n A 0) := by
  subst h
  unfold RowZ rowAt
  rw [heap_alloc_new]
  simp [firsts]
theorem byte_at (m : ByteArray) (k : Nat) (h : k < m.size) : (bytesN m)[k]?.getD 0 = (m[k]'h).toNat := by
  simp only [bytesN, List.getElem?_map]
  rw [List.getElem?_eq_getElem (by simpa using h)]
  rfl
end Go.Proofs.Ytgaoeoijdpdjiaa
