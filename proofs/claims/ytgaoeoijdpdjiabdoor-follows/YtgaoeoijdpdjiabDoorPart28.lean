/-
  The program's within, Leaves, trees. From a leaf up to the root: what a climb makes.
-/
import Derived.Test.YtgaoeoijdpdjiabDoorPart27
import Derived.Test.YtgaoeoijdpdjiabDoorPart25
import Derived.Test.YtgaoeoijdpdjiabDoorPart4
namespace Go.Proofs.YtgaoeoijdpdjiabDoor
open Go.RowKit

theorem within_any (v n : Int) (w : World) : Calls Tryd.prog 47 #[.int .i64 v, .int .i64 n] w fun e w' => e = .returned (.bool (decide (0 ≤ v ∧ v < n))) ∧ w' = w := by
  by_cases h0 : 0 ≤ v
  · by_cases h1 : v < n
    · have e : decide (0 ≤ v ∧ v < n) = true := by simp [h0, h1]
      rw [e]
      go_enter Tryd.func47, Tryd.ntmps47
      go_wp2
      go_ret
      exact ⟨rfl, rfl⟩
    · have e : decide (0 ≤ v ∧ v < n) = false := by simp [h1]
      rw [e]
      go_enter Tryd.func47, Tryd.ntmps47
      go_wp2
      go_ret
      exact ⟨rfl, rfl⟩
  · have e : decide (0 ≤ v ∧ v < n) = false := by simp [h0]
    rw [e]
    go_enter Tryd.func47, Tryd.ntmps47
    go_wp2
    go_ret
    exact ⟨rfl, rfl⟩

theorem setsLeaves_any (k b x l : Int) (t : Nat) (w : World) (h1 : 1 ≤ t) (h2 : t ≤ 4) :
    Calls Tryd.prog 58 #[.agg #[.int .i64 k, .int .i64 b, .int .i64 x, .int .i64 t, .int .i64 l]] w fun e w' => e = .returned (.int .i64 ((2 ^ t : Nat) : Int)) ∧ Below w.heap.size w w' := by
  rcases (show t = 1 ∨ t = 2 ∨ t = 3 ∨ t = 4 by omega) with rfl | rfl | rfl | rfl
  all_goals
    go_enter Tryd.func58, Tryd.ntmps58
    go_wp2
    go_ret
    exact ⟨rfl, (Below.refl _ _).alloc (Nat.le_refl _) _⟩

set_option maxHeartbeats 4000000 in
theorem trees_any (k b x : Int) (t l q : Nat) (w : World) (h1 : 1 ≤ t) (h2 : t ≤ 4) (h3 : l ≤ 3) (h4 : q < l) :
    Calls Tryd.prog 92 #[.agg #[.int .i64 k, .int .i64 b, .int .i64 x, .int .i64 t, .int .i64 l], .int .i64 q] w fun e w' => e = .returned (.int .i64 ((2 ^ (t * (l - 1 - q)) : Nat) : Int)) ∧ Below w.heap.size w w' := by
  rcases (show t = 1 ∨ t = 2 ∨ t = 3 ∨ t = 4 by omega) with rfl | rfl | rfl | rfl <;> rcases (show (l = 1 ∧ q = 0) ∨ (l = 2 ∧ q = 0) ∨ (l = 2 ∧ q = 1) ∨ (l = 3 ∧ q = 0) ∨ (l = 3 ∧ q = 1) ∨ (l = 3 ∧ q = 2) by omega) with ⟨rfl, rfl⟩ | ⟨rfl, rfl⟩ | ⟨rfl, rfl⟩ | ⟨rfl, rfl⟩ | ⟨rfl, rfl⟩ | ⟨rfl, rfl⟩
  all_goals
    go_enter Tryd.func92, Tryd.ntmps92
    go_wp2
    go_ret
    exact ⟨rfl, (Below.refl _ _).alloc (Nat.le_refl _) _⟩

/-- Is it the place of a leaf of some tree, whatever its chain? -/
def leafB (t l : Nat) (p0 p1 p2 : Int) : Bool := decide (0 ≤ p0 ∧ p0 < l) && (decide (0 ≤ p1 ∧ p1 < ((2 ^ (t * (l - 1 - p0.toNat)) : Nat) : Int)) && decide (0 ≤ p2 ∧ p2 < ((2 ^ t : Nat) : Int)))

end Go.Proofs.YtgaoeoijdpdjiabDoor

namespace Go.Proofs.YtgaoeoijdpdjiabDoor
open Go.RowKit

/-- The value of height h over the leaf number F. -/
def climbS (k b : Int) (pub : ByteArray) (p0 p1 : Int) (F : Nat) (path : List ByteArray) (y : ByteArray) : Nat → ByteArray
  | 0 => y
  | h + 1 => if F / 2 ^ h % 2 = 0 then joinS k b pub p0 p1 (h + 1 : Nat) (F / 2 ^ (h + 1) : Nat) (climbS k b pub p0 p1 F path y h) (path.getD h ⟨#[]⟩) else joinS k b pub p0 p1 (h + 1 : Nat) (F / 2 ^ (h + 1) : Nat) (path.getD h ⟨#[]⟩) (climbS k b pub p0 p1 F path y h)

theorem climbS_size (k b : Int) (pub : ByteArray) (p0 p1 : Int) (F : Nat) (path : List ByteArray) (y : ByteArray) (hk : k = 1 ∨ k = 2) (h1 : 1 ≤ b) (h2 : b ≤ 16) (hp : pub.size ≤ 16) (hy : (y.size : Int) = b) (hx : ∀ z ∈ path, (z.size : Int) = b) : ∀ h, h ≤ path.length → ((climbS k b pub p0 p1 F path y h).size : Int) = b := by
  intro h
  induction h with
  | zero => intro _; exact hy
  | succ h ih =>
    intro hl
    have e0 := ih (by omega)
    have e1 : ((path.getD h ⟨#[]⟩).size : Int) = b := by
      rw [List.getD_eq_getElem?_getD, List.getElem?_eq_getElem (by omega)]
      exact hx _ (List.getElem_mem (by omega))
    rw [climbS]
    split
    · exact joinS_size k b pub p0 p1 _ _ _ _ hk h1 h2 hp (by omega) (by omega)
    · exact joinS_size k b pub p0 p1 _ _ _ _ hk h1 h2 hp (by omega) (by omega)

theorem tdiv_two (a : Nat) : Int.tdiv (a : Int) 2 = ((a / 2 : Nat) : Int) := by rw [Int.tdiv_eq_ediv_of_nonneg (by omega)]; omega
theorem tmod_two (a : Nat) : Int.tmod (a : Int) 2 = ((a % 2 : Nat) : Int) := by rw [Int.tmod_eq_emod_of_nonneg (by omega)]; omega
end Go.Proofs.YtgaoeoijdpdjiabDoor
