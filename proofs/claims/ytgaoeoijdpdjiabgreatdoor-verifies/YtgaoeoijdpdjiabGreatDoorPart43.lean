/-
  A set that is right. The statement's own verifies.
-/
import Derived.Test.YtgaoeoijdpdjiabGreatDoorPart4
import Derived.Test.YtgaoeoijdpdjiabGreatDoorPart38
import Derived.Test.YtgaoeoijdpdjiabGreatDoorPart23
namespace Go.Proofs.YtgaoeoijdpdjiabGreatDoor
open Go.RowKit

/-- A set that is right, as its pair of numbers. -/
structure RSet (k : Int) (b x e f t l : Nat) : Prop where
  pr : Pair b x e f
  kk : k = 1 ∨ k = 2
  t1 : 1 ≤ t
  t2 : t ≤ 4
  l1 : 1 ≤ l
  l2 : l ≤ 3
  r : rightB k b x t l = true

theorem pairB {b x e f : Nat} (h : Pair b x e f) : (b = 4 ∨ b = 8) ∧ (x = 4 ∨ x = 16) := by
  unfold Pair at h
  omega
end Go.Proofs.YtgaoeoijdpdjiabGreatDoor

namespace Go.Proofs.YtgaoeoijdpdjiabGreatDoor
open Go.RowKit

set_option maxRecDepth 20000 in
set_option maxHeartbeats 4000000 in
theorem verifies_on (key msg sig : ByteArray) (e : Int) (w : World) (hT : Tn w)
    (h1 : ∀ V : World, Tn V → Calls Tryz.prog 44 #[.string key, .string msg, .string sig] V fun r w' => r = .returned (.int .i64 e) ∧ Below V.heap.size V w')
    (h2 : ∀ V : World, Calls Tryz.prog 45 #[.string key, .string msg, .string sig] V fun r w' => r = .returned (.int .i64 e) ∧ Below V.heap.size V w') :
    Calls Tryz.prog 12 #[.string key, .string msg, .string sig] w fun r w' => r = .returned (.bool true) ∧ Below w.heap.size w w' := by
  have H1 := hide (h1 w hT)
  have H2 := hide h2
  clear h1 h2
  go_enter Tryz.func12, Tryz.ntmps12
  go_wp2_with fail
  refine H1.out.mono ?_
  rintro r w1 ⟨rfl, hb1⟩
  have HB1 := hide hb1
  clear hb1
  go_wp2_with fail
  refine (H2.out _).mono ?_
  rintro r w2 ⟨rfl, hb2⟩
  have HB2 := hide (heldB HB1.out hb2 (Nat.le_refl _))
  clear hb2
  go_wp2_with fail
  refine (numW_any _ _).mono ?_
  rintro r w3 ⟨rfl, hw3⟩
  obtain rfl := hw3.symm
  clear hw3
  go_wp2
  go_ret
  exact ⟨rfl, HB2.out⟩
end Go.Proofs.YtgaoeoijdpdjiabGreatDoor
