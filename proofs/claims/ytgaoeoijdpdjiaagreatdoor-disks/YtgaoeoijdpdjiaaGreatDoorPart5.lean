/-
  A whole number in so many bytes, the highest first: the program's Number. The program's read over words of two kinds: the bytes of a word, the highest first. The stirring as a plain function of eight words.
-/
import Derived.Test.YtgaoeoijdpdjiaaGreatDoorPart3
import Derived.WalkSpells
import Derived.WalkLawsBesides
import Derived.Handy
import Derived.Laws.MakeOwn
namespace Go.Proofs.YtgaoeoijdpdjiaaGreatDoor
open Go.RowKit
/-- The k lowest bytes of a number, the highest first. -/
def numL : Nat → Int → List Nat
  | 0, _ => []
  | k + 1, v => (v / 256 ^ k % 256).toNat :: numL k v
theorem numL_length (k : Nat) (v : Int) : (numL k v).length = k := by induction k with | zero => rfl | succ k ih => simp [numL, ih]
/-- A number in k bytes. -/
def numB (k : Nat) (v : Int) : ByteArray := ⟨((numL k v).map UInt8.ofNat).toArray⟩
theorem numB_size (k : Nat) (v : Int) : (numB k v).size = k := by simp [numB, ByteArray.size, numL_length]
/-- The text of a row of bytes. -/
theorem textRow (w : World) (g k : Nat) (D : List Nat) (hD : ∀ d ∈ D, d < 256) (h : RowK w g .u8 5 D) (hk : D.length = k) :
    (convert 125 9 (.slice (some ⟨g, 0, none⟩) k k)).run Tryz.prog w = .ok (.string ⟨(D.map UInt8.ofNat).toArray⟩) w := by
  have hl : (D.map UInt8.ofNat).length = k := by simp [hk]
  have hc := run_convert_bytes_back (P := Tryz.prog) w 125 9 5 ⟨g, 0, none⟩ k (D.map UInt8.ofNat) Tryz.underlying125 Tryz.underlying5 Tryz.underlying9 (by
    intro j hj
    have hj' : j < D.length := by simpa using hj
    have hadd : (Addr.mk g 0 none).add j = ⟨g, j, none⟩ := by unfold Addr.add; split <;> simp_all
    rw [hadd, h.cell hj']
    have hd := hD D[j] (List.getElem_mem hj')
    simp [at0, hj', Nat.mod_eq_of_lt hd])
  rw [hl] at hc
  exact hc
end Go.Proofs.YtgaoeoijdpdjiaaGreatDoor

namespace Go.Proofs.YtgaoeoijdpdjiaaGreatDoor
open Go.RowKit
/-- The number of the first k bytes from place o on. -/
def beN (L : List Nat) (o : Nat) : Nat → Nat
  | 0 => 0
  | k + 1 => beN L o k * 256 + at0 L (o + k)
--GEN
end Go.Proofs.YtgaoeoijdpdjiaaGreatDoor

namespace Go.Proofs.YtgaoeoijdpdjiaaGreatDoor
/-- Behind the columns: the upper words move on, the round's number goes into the first. -/
def roundW (r : Nat) : List Nat → List Nat
  | [a0, a1, a2, a3, a4, a5, a6, a7] => [a0 ^^^ r, a1, a2, a3, a5, a6, a7, a4]
  | L => L
def stirTo (b : Nat) (L : List Nat) : Nat → List Nat
  | 0 => L
  | r + 1 => roundW (r + 1) (mixTo b (stirTo b L r) 4)
end Go.Proofs.YtgaoeoijdpdjiaaGreatDoor
