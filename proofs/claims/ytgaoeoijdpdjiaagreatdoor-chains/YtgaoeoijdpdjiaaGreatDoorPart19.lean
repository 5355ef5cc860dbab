/-
  The document's sizes, at every set. The document's own Number, beside the program's.
-/
import Derived.Test.YtgaoeoijdpdjiaaGreatDoorPart17
import Derived.Test.YtgaoeoijdpdjiaaGreatDoorPart13
import Derived.Test.YtgaoeoijdpdjiaaGreatDoorPart12
import Derived.Test.YtgaoeoijdpdjiaaGreatDoorPart3
import Derived.Test.YtgaoeoijdpdjiaaGreatDoorPart8
namespace Go.Proofs.YtgaoeoijdpdjiaaGreatDoor
open Go.RowKit

theorem refSizes_yes (b x e f t l : Nat) (hp : Pair b x e f) (k : Int) (w : World) (h1 : 1 ≤ t) (h2 : t ≤ 4) (h3 : 1 ≤ l) (h4 : l ≤ 3) :
    Calls Tryz.prog 89 #[.agg #[.int .i64 k, .int .i64 b, .int .i64 x, .int .i64 t, .int .i64 l]] w fun r w' =>
      r = .returned (.agg #[.int .i64 ((b * e : Nat) : Int), .int .i64 f, .int .i64 ((b * e + f : Nat) : Int), .int .i64 (totalZ t l), .int .i64 (sigZ b x t l), .int .i64 ((5 + 2 * b : Nat) : Int)]) ∧ Below w.heap.size w w' := by
  rcases hp with ⟨rfl, rfl, rfl, rfl⟩ | ⟨rfl, rfl, rfl, rfl⟩ | ⟨rfl, rfl, rfl, rfl⟩ | ⟨rfl, rfl, rfl, rfl⟩
  · exact refSizes_4_4 k t l w h1 h2 h3 h4
  · exact refSizes_8_4 k t l w h1 h2 h3 h4
  · exact refSizes_4_16 k t l w h1 h2 h3 h4
  · exact refSizes_8_16 k t l w h1 h2 h3 h4
end Go.Proofs.YtgaoeoijdpdjiaaGreatDoor
