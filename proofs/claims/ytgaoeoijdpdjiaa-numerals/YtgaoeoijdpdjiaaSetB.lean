/-
  What a right set is.
-/
import Derived.WalkKit
namespace Go.Proofs.Ytgaoeoijdpdjiaa

/-- Is the set right? -/
def rightB (k b x t l : Int) : Bool := decide ((k = 1 ∨ k = 2) ∧ (b = 4 ∨ b = 8) ∧ (x = 4 ∨ x = 16) ∧ (1 ≤ t ∧ t ≤ 4) ∧ (1 ≤ l ∧ l ≤ 3))

end Go.Proofs.Ytgaoeoijdpdjiaa
