/-
  The stirring as a plain function of eight words.
-/
import Derived.Test.YtgaoeoijdpdjiaaDoorDBase
namespace Go.Proofs.YtgaoeoijdpdjiaaDoor

/-- Behind the columns: the upper words move on, the round's number goes into the first. -/
def roundW (r : Nat) : List Nat → List Nat
  | [a0, a1, a2, a3, a4, a5, a6, a7] => [a0 ^^^ r, a1, a2, a3, a5, a6, a7, a4]
  | L => L
def stirTo (b : Nat) (L : List Nat) : Nat → List Nat
  | 0 => L
  | r + 1 => roundW (r + 1) (mixTo b (stirTo b L r) 4)

theorem eight_of {L : List Nat} (h : L.length = 8) : ∃ a0 a1 a2 a3 a4 a5 a6 a7, L = [a0, a1, a2, a3, a4, a5, a6, a7] := by
  match L, h with
  | [a0, a1, a2, a3, a4, a5, a6, a7], _ => exact ⟨a0, a1, a2, a3, a4, a5, a6, a7, rfl⟩
theorem roundW_length (r : Nat) (L : List Nat) (h : L.length = 8) : (roundW r L).length = 8 := by
  obtain ⟨a0, a1, a2, a3, a4, a5, a6, a7, rfl⟩ := eight_of h
  rfl
theorem stirTo_length (b : Nat) (L : List Nat) (r : Nat) (h : L.length = 8) : (stirTo b L r).length = 8 := by
  induction r with
  | zero => exact h
  | succ r ih => exact roundW_length _ _ (by rw [mixTo_length]; exact ih)
theorem stirTo_words (b : Nat) (L : List Nat) (r : Nat) (hl : L.length = 8) (h : Words b L) (hb : 4 ≤ b := by decide) (hr : r ≤ 8 := by omega) : Words b (stirTo b L r) := by
  induction r with
  | zero => exact h
  | succ r ih =>
    have hm := mixTo_words b (stirTo b L r) 4 (ih (by omega))
    obtain ⟨a0, a1, a2, a3, a4, a5, a6, a7, e⟩ := eight_of (show (mixTo b (stirTo b L r) 4).length = 8 by rw [mixTo_length]; exact stirTo_length b L r hl)
    show Words b (roundW (r + 1) (mixTo b (stirTo b L r) 4))
    rw [e] at hm ⊢
    have h16 : 2 ^ 4 ≤ 2 ^ b := Nat.pow_le_pow_right (by decide) hb
    intro x hx
    simp only [roundW, List.mem_cons, List.not_mem_nil, or_false] at hx
    rcases hx with rfl | rfl | rfl | rfl | rfl | rfl | rfl | rfl
    · exact Nat.xor_lt_two_pow (hm a0 (by simp)) (by omega)
    all_goals exact hm _ (by simp)

end Go.Proofs.YtgaoeoijdpdjiaaDoor
