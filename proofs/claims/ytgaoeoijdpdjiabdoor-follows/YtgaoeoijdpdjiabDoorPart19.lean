/-
  Texts one behind the other; strings.Join without a separator.
-/
import Derived.Test.YtgaoeoijdpdjiabDoorPart12
import Derived.Test.YtgaoeoijdpdjiabDoorPart1
namespace Go.Proofs.YtgaoeoijdpdjiabDoor
open Go.RowKit

/-- Texts, one behind the other. -/
def cat : List ByteArray → ByteArray
  | [] => ⟨#[]⟩
  | x :: r => x ++ cat r
theorem append_empty (x : ByteArray) : x ++ (⟨#[]⟩ : ByteArray) = x := by apply ByteArray.ext; simp
theorem empty_append (x : ByteArray) : (⟨#[]⟩ : ByteArray) ++ x = x := by apply ByteArray.ext; simp
theorem append_three (x y z : ByteArray) : x ++ y ++ z = x ++ (y ++ z) := by apply ByteArray.ext; simp
theorem cat_bytes (xs : List ByteArray) : (cat xs).data.toList = (xs.map (·.data.toList)).flatten := by
  induction xs with
  | nil => rfl
  | cons x r ih => simp [cat, ih]
theorem cat_join (xs : List ByteArray) : (⟨(Lib.join (xs.map (·.data.toList)) (⟨#[]⟩ : ByteArray).data.toList).toArray⟩ : ByteArray) = cat xs := by
  apply ByteArray.ext
  apply Array.ext'
  rw [cat_bytes]
  simp only [Lib.join]
  generalize xs.map (·.data.toList) = l
  induction l with
  | nil => rfl
  | cons a r ih =>
    cases r with
    | nil => simp [List.intercalate]
    | cons b r => simpa [List.intercalate] using ih
theorem cat_size (xs : List ByteArray) : (cat xs).size = (xs.map (·.size)).sum := by
  induction xs with
  | nil => rfl
  | cons x r ih => simp [cat, ByteArray.size_append, ih]

theorem join_any (bk o c : Nat) (xs : List ByteArray) (w : World) (hcells : ∀ (j : Nat) x, xs[j]? = some x → w.cell? ⟨bk, o + j, none⟩ = some (.string x)) (hbk : bk < w.heap.size) (hN : xs.length ≤ 1000) (hcap : xs.length ≤ c) (hlen : (cat xs).size ≤ 100000) :
    Calls Tryd.prog 33 #[.slice (some ⟨bk, o, none⟩) xs.length c, .string ⟨#[]⟩] w fun e w' => e = .returned (.string (cat xs)) ∧ Below w.heap.size w w' := by
  have h := strings_Join bk o c xs ⟨#[]⟩ w hcells hbk (by omega) hcap (by have h := congrArg ByteArray.size (cat_join xs); simp only [ByteArray.size, List.size_toArray] at h hlen; rw [h]; omega)
  rw [cat_join] at h
  exact h
end Go.Proofs.YtgaoeoijdpdjiabDoor
