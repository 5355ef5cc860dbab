/-
  The right pairs of Bytes and Wide.
-/
import Derived.WalkKit
import Derived.Test.YtgaoeoijdpdjiaaSetB
namespace Go.Proofs.Ytgaoeoijdpdjiaa

/-- The pairs of Bytes and Wide, with the digits of a byte and of what they lack. -/
def Pair (b x e f : Nat) : Prop := (b = 4 ∧ x = 4 ∧ e = 4 ∧ f = 3) ∨ (b = 8 ∧ x = 4 ∧ e = 4 ∧ f = 4) ∨ (b = 4 ∧ x = 16 ∧ e = 2 ∧ f = 2) ∨ (b = 8 ∧ x = 16 ∧ e = 2 ∧ f = 2)

theorem pair_of_right {k b x t l : Int} (h : rightB k b x t l = true) : ∃ b' x' e f t' l' : Nat, Pair b' x' e f ∧ (k = 1 ∨ k = 2) ∧ b = (b' : Int) ∧ x = (x' : Int) ∧ t = (t' : Int) ∧ l = (l' : Int) ∧ 1 ≤ t' ∧ t' ≤ 4 ∧ 1 ≤ l' ∧ l' ≤ 3 := by
  simp only [rightB, decide_eq_true_eq] at h
  obtain ⟨hk, hb, hx, ⟨h1, h2⟩, h3, h4⟩ := h
  have et : t = ((t.toNat : Nat) : Int) := by omega
  have el : l = ((l.toNat : Nat) : Int) := by omega
  rcases hb with rfl | rfl <;> rcases hx with rfl | rfl
  · exact ⟨4, 4, 4, 3, t.toNat, l.toNat, by unfold Pair; omega, hk, rfl, rfl, et, el, by omega, by omega, by omega, by omega⟩
  · exact ⟨4, 16, 2, 2, t.toNat, l.toNat, by unfold Pair; omega, hk, rfl, rfl, et, el, by omega, by omega, by omega, by omega⟩
  · exact ⟨8, 4, 4, 4, t.toNat, l.toNat, by unfold Pair; omega, hk, rfl, rfl, et, el, by omega, by omega, by omega, by omega⟩
  · exact ⟨8, 16, 2, 2, t.toNat, l.toNat, by unfold Pair; omega, hk, rfl, rfl, et, el, by omega, by omega, by omega, by omega⟩
end Go.Proofs.Ytgaoeoijdpdjiaa
