/-
  Small facts about sets, seeds, places.
-/
import Derived.Test.YtgaoeoijdpdjiabDoorPart37
import Derived.Test.YtgaoeoijdpdjiabDoorPart4
namespace Go.Proofs.YtgaoeoijdpdjiabDoor
open Go.RowKit

theorem chainB_bounds {t l ch : Nat} {p0 p1 p2 p3 : Int} (h : chainB t l ch p0 p1 p2 p3 = true) (h2 : t ≤ 4) (h4 : l ≤ 3) (hc : ch ≤ 64) : (0 ≤ p0 ∧ p0 ≤ 100000) ∧ (0 ≤ p1 ∧ p1 ≤ 100000) ∧ (0 ≤ p2 ∧ p2 ≤ 100000) ∧ (0 ≤ p3 ∧ p3 ≤ 100000) := by
  unfold chainB leafB at h
  simp only [Bool.and_eq_true, decide_eq_true_eq] at h
  obtain ⟨⟨⟨a0, a1⟩, ⟨b0, b1⟩, ⟨c0, c1⟩⟩, d0, d1⟩ := h
  have e1 : 2 ^ (t * (l - 1 - p0.toNat)) ≤ 2 ^ 8 := Nat.pow_le_pow_right (by decide) (Nat.le_trans (Nat.mul_le_mul h2 (show l - 1 - p0.toNat ≤ 2 by omega)) (by decide))
  have e2 : 2 ^ t ≤ 2 ^ 4 := Nat.pow_le_pow_right (by decide) h2
  have e3 : (2 : Nat) ^ 8 = 256 := by decide
  have e4 : (2 : Nat) ^ 4 = 16 := by decide
  rw [e3] at e1
  rw [e4] at e2
  generalize 2 ^ (t * (l - 1 - p0.toNat)) = u at e1 b1
  generalize 2 ^ t = v at e2 c1
  omega

theorem pair_small {b x e f : Nat} (h : Pair b x e f) : 1 ≤ b ∧ b ≤ 16 ∧ 1 ≤ b * e + f ∧ b * e + f ≤ 64 ∧ 1 ≤ x ∧ x ≤ 16 := by
  rcases h with ⟨rfl, rfl, rfl, rfl⟩ | ⟨rfl, rfl, rfl, rfl⟩ | ⟨rfl, rfl, rfl, rfl⟩ | ⟨rfl, rfl, rfl, rfl⟩ <;> decide
end Go.Proofs.YtgaoeoijdpdjiabDoor
