/-
  A number with one byte more.
-/
import Derived.Test.YtgaoeoijdpdjiaaRNumB
namespace Go.Proofs.Ytgaoeoijdpdjiaa
open Go.RowKit

theorem numB_succ (j : Nat) (v : Int) : numB (j + 1) v = ⟨#[UInt8.ofNat (v / 256 ^ j % 256).toNat]⟩ ++ numB j v := by
  apply ByteArray.ext
  simp [numB, numL]
end Go.Proofs.Ytgaoeoijdpdjiaa
