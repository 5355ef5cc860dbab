/-
  The document's stirring lets the upper words stand: both stirrings come to the same eight words.
-/
import Derived.Test.YtgaoeoijdpdjiaaDoorDStirBase
namespace Go.Proofs.YtgaoeoijdpdjiaaDoor

/-- The columns of round r, the upper words standing. -/
def mixRef (b r : Nat) (L : List Nat) : Nat → List Nat
  | 0 => L
  | k + 1 => colW b k (4 + (k + r) % 4) (mixRef b r L k)
def refTo (b : Nat) (L : List Nat) : Nat → List Nat
  | 0 => L
  | r + 1 => (mixRef b r (refTo b L r) 4).set 0 (at0 (mixRef b r (refTo b L r) 4) 0 ^^^ (r + 1))

theorem mixRef_length (b r : Nat) (L : List Nat) (k : Nat) : (mixRef b r L k).length = L.length := by
  induction k with
  | zero => rfl
  | succ k ih => simp only [mixRef, colW_length, ih]
theorem mixRef_words (b r : Nat) (L : List Nat) (k : Nat) (h : Words b L) : Words b (mixRef b r L k) := by
  induction k with
  | zero => exact h
  | succ k ih => exact ih.col _ _
theorem refTo_length (b : Nat) (L : List Nat) (r : Nat) : (refTo b L r).length = L.length := by
  induction r with
  | zero => rfl
  | succ r ih => simp only [refTo, List.length_set, mixRef_length, ih]
theorem refTo_words (b : Nat) (L : List Nat) (r : Nat) (h : Words b L) (hb : 4 ≤ b := by decide) (hr : r ≤ 8 := by omega) : Words b (refTo b L r) := by
  induction r with
  | zero => exact h
  | succ r ih =>
    have hm := mixRef_words b r (refTo b L r) 4 (ih (by omega))
    have h16 : 2 ^ 4 ≤ 2 ^ b := Nat.pow_le_pow_right (by decide) hb
    exact hm.set 0 _ (Nat.xor_lt_two_pow (hm.at 0) (by omega))

/-- The words as the program has them behind r rounds. -/
def permW (r : Nat) (L : List Nat) : List Nat := [at0 L 0, at0 L 1, at0 L 2, at0 L 3, at0 L (4 + r % 4), at0 L (4 + (1 + r) % 4), at0 L (4 + (2 + r) % 4), at0 L (4 + (3 + r) % 4)]

theorem mixRef_mod (b r : Nat) (L : List Nat) (k : Nat) : mixRef b r L k = mixRef b (r % 4) L k := by
  induction k with
  | zero => rfl
  | succ k ih => simp only [mixRef]; rw [ih, show (k + r) % 4 = (k + r % 4) % 4 by omega]
theorem permW_mod (r c : Nat) (L : List Nat) (h : r % 4 = c % 4) : permW r L = permW c L := by
  unfold permW
  rw [h, show (1 + r) % 4 = (1 + c) % 4 by omega, show (2 + r) % 4 = (2 + c) % 4 by omega, show (3 + r) % 4 = (3 + c) % 4 by omega]

/-- A column, written out. -/
theorem col_0_4 (b q0 q1 q2 q3 q4 q5 q6 q7 : Nat) : colW b 0 4 [q0, q1, q2, q3, q4, q5, q6, q7] = [addW b q0 q4, q1, q2, q3, rotW b q4 (turnN 0) ^^^ addW b q0 q4, q5, q6, q7] := by
  simp only [colW, at0, List.set_cons_zero, List.set_cons_succ, List.getD_cons_zero, List.getD_cons_succ]
theorem col_0_5 (b q0 q1 q2 q3 q4 q5 q6 q7 : Nat) : colW b 0 5 [q0, q1, q2, q3, q4, q5, q6, q7] = [addW b q0 q5, q1, q2, q3, q4, rotW b q5 (turnN 0) ^^^ addW b q0 q5, q6, q7] := by
  simp only [colW, at0, List.set_cons_zero, List.set_cons_succ, List.getD_cons_zero, List.getD_cons_succ]
theorem col_0_6 (b q0 q1 q2 q3 q4 q5 q6 q7 : Nat) : colW b 0 6 [q0, q1, q2, q3, q4, q5, q6, q7] = [addW b q0 q6, q1, q2, q3, q4, q5, rotW b q6 (turnN 0) ^^^ addW b q0 q6, q7] := by
  simp only [colW, at0, List.set_cons_zero, List.set_cons_succ, List.getD_cons_zero, List.getD_cons_succ]
theorem col_0_7 (b q0 q1 q2 q3 q4 q5 q6 q7 : Nat) : colW b 0 7 [q0, q1, q2, q3, q4, q5, q6, q7] = [addW b q0 q7, q1, q2, q3, q4, q5, q6, rotW b q7 (turnN 0) ^^^ addW b q0 q7] := by
  simp only [colW, at0, List.set_cons_zero, List.set_cons_succ, List.getD_cons_zero, List.getD_cons_succ]
theorem col_1_4 (b q0 q1 q2 q3 q4 q5 q6 q7 : Nat) : colW b 1 4 [q0, q1, q2, q3, q4, q5, q6, q7] = [q0, addW b q1 q4, q2, q3, rotW b q4 (turnN 1) ^^^ addW b q1 q4, q5, q6, q7] := by
  simp only [colW, at0, List.set_cons_zero, List.set_cons_succ, List.getD_cons_zero, List.getD_cons_succ]
theorem col_1_5 (b q0 q1 q2 q3 q4 q5 q6 q7 : Nat) : colW b 1 5 [q0, q1, q2, q3, q4, q5, q6, q7] = [q0, addW b q1 q5, q2, q3, q4, rotW b q5 (turnN 1) ^^^ addW b q1 q5, q6, q7] := by
  simp only [colW, at0, List.set_cons_zero, List.set_cons_succ, List.getD_cons_zero, List.getD_cons_succ]
theorem col_1_6 (b q0 q1 q2 q3 q4 q5 q6 q7 : Nat) : colW b 1 6 [q0, q1, q2, q3, q4, q5, q6, q7] = [q0, addW b q1 q6, q2, q3, q4, q5, rotW b q6 (turnN 1) ^^^ addW b q1 q6, q7] := by
  simp only [colW, at0, List.set_cons_zero, List.set_cons_succ, List.getD_cons_zero, List.getD_cons_succ]
theorem col_1_7 (b q0 q1 q2 q3 q4 q5 q6 q7 : Nat) : colW b 1 7 [q0, q1, q2, q3, q4, q5, q6, q7] = [q0, addW b q1 q7, q2, q3, q4, q5, q6, rotW b q7 (turnN 1) ^^^ addW b q1 q7] := by
  simp only [colW, at0, List.set_cons_zero, List.set_cons_succ, List.getD_cons_zero, List.getD_cons_succ]
theorem col_2_4 (b q0 q1 q2 q3 q4 q5 q6 q7 : Nat) : colW b 2 4 [q0, q1, q2, q3, q4, q5, q6, q7] = [q0, q1, addW b q2 q4, q3, rotW b q4 (turnN 2) ^^^ addW b q2 q4, q5, q6, q7] := by
  simp only [colW, at0, List.set_cons_zero, List.set_cons_succ, List.getD_cons_zero, List.getD_cons_succ]
theorem col_2_5 (b q0 q1 q2 q3 q4 q5 q6 q7 : Nat) : colW b 2 5 [q0, q1, q2, q3, q4, q5, q6, q7] = [q0, q1, addW b q2 q5, q3, q4, rotW b q5 (turnN 2) ^^^ addW b q2 q5, q6, q7] := by
  simp only [colW, at0, List.set_cons_zero, List.set_cons_succ, List.getD_cons_zero, List.getD_cons_succ]
theorem col_2_6 (b q0 q1 q2 q3 q4 q5 q6 q7 : Nat) : colW b 2 6 [q0, q1, q2, q3, q4, q5, q6, q7] = [q0, q1, addW b q2 q6, q3, q4, q5, rotW b q6 (turnN 2) ^^^ addW b q2 q6, q7] := by
  simp only [colW, at0, List.set_cons_zero, List.set_cons_succ, List.getD_cons_zero, List.getD_cons_succ]
theorem col_2_7 (b q0 q1 q2 q3 q4 q5 q6 q7 : Nat) : colW b 2 7 [q0, q1, q2, q3, q4, q5, q6, q7] = [q0, q1, addW b q2 q7, q3, q4, q5, q6, rotW b q7 (turnN 2) ^^^ addW b q2 q7] := by
  simp only [colW, at0, List.set_cons_zero, List.set_cons_succ, List.getD_cons_zero, List.getD_cons_succ]
theorem col_3_4 (b q0 q1 q2 q3 q4 q5 q6 q7 : Nat) : colW b 3 4 [q0, q1, q2, q3, q4, q5, q6, q7] = [q0, q1, q2, addW b q3 q4, rotW b q4 (turnN 3) ^^^ addW b q3 q4, q5, q6, q7] := by
  simp only [colW, at0, List.set_cons_zero, List.set_cons_succ, List.getD_cons_zero, List.getD_cons_succ]
theorem col_3_5 (b q0 q1 q2 q3 q4 q5 q6 q7 : Nat) : colW b 3 5 [q0, q1, q2, q3, q4, q5, q6, q7] = [q0, q1, q2, addW b q3 q5, q4, rotW b q5 (turnN 3) ^^^ addW b q3 q5, q6, q7] := by
  simp only [colW, at0, List.set_cons_zero, List.set_cons_succ, List.getD_cons_zero, List.getD_cons_succ]
theorem col_3_6 (b q0 q1 q2 q3 q4 q5 q6 q7 : Nat) : colW b 3 6 [q0, q1, q2, q3, q4, q5, q6, q7] = [q0, q1, q2, addW b q3 q6, q4, q5, rotW b q6 (turnN 3) ^^^ addW b q3 q6, q7] := by
  simp only [colW, at0, List.set_cons_zero, List.set_cons_succ, List.getD_cons_zero, List.getD_cons_succ]
theorem col_3_7 (b q0 q1 q2 q3 q4 q5 q6 q7 : Nat) : colW b 3 7 [q0, q1, q2, q3, q4, q5, q6, q7] = [q0, q1, q2, addW b q3 q7, q4, q5, q6, rotW b q7 (turnN 3) ^^^ addW b q3 q7] := by
  simp only [colW, at0, List.set_cons_zero, List.set_cons_succ, List.getD_cons_zero, List.getD_cons_succ]
theorem mix_out (b q0 q1 q2 q3 q4 q5 q6 q7 : Nat) : mixTo b [q0, q1, q2, q3, q4, q5, q6, q7] 4 = [addW b q0 q4, addW b q1 q5, addW b q2 q6, addW b q3 q7, rotW b q4 (turnN 0) ^^^ addW b q0 q4, rotW b q5 (turnN 1) ^^^ addW b q1 q5, rotW b q6 (turnN 2) ^^^ addW b q2 q6, rotW b q7 (turnN 3) ^^^ addW b q3 q7] := by
  show colW b 3 7 (colW b 2 6 (colW b 1 5 (colW b 0 4 [q0, q1, q2, q3, q4, q5, q6, q7]))) = _
  rw [col_0_4, col_1_5, col_2_6, col_3_7]
theorem ref_out_0 (b q0 q1 q2 q3 q4 q5 q6 q7 : Nat) : mixRef b 0 [q0, q1, q2, q3, q4, q5, q6, q7] 4 = [addW b q0 q4, addW b q1 q5, addW b q2 q6, addW b q3 q7, rotW b q4 (turnN 0) ^^^ addW b q0 q4, rotW b q5 (turnN 1) ^^^ addW b q1 q5, rotW b q6 (turnN 2) ^^^ addW b q2 q6, rotW b q7 (turnN 3) ^^^ addW b q3 q7] := by
  show colW b 3 7 (colW b 2 6 (colW b 1 5 (colW b 0 4 [q0, q1, q2, q3, q4, q5, q6, q7]))) = _
  rw [col_0_4, col_1_5, col_2_6, col_3_7]
theorem ref_out_1 (b q0 q1 q2 q3 q4 q5 q6 q7 : Nat) : mixRef b 1 [q0, q1, q2, q3, q4, q5, q6, q7] 4 = [addW b q0 q5, addW b q1 q6, addW b q2 q7, addW b q3 q4, rotW b q4 (turnN 3) ^^^ addW b q3 q4, rotW b q5 (turnN 0) ^^^ addW b q0 q5, rotW b q6 (turnN 1) ^^^ addW b q1 q6, rotW b q7 (turnN 2) ^^^ addW b q2 q7] := by
  show colW b 3 4 (colW b 2 7 (colW b 1 6 (colW b 0 5 [q0, q1, q2, q3, q4, q5, q6, q7]))) = _
  rw [col_0_5, col_1_6, col_2_7, col_3_4]
theorem ref_out_2 (b q0 q1 q2 q3 q4 q5 q6 q7 : Nat) : mixRef b 2 [q0, q1, q2, q3, q4, q5, q6, q7] 4 = [addW b q0 q6, addW b q1 q7, addW b q2 q4, addW b q3 q5, rotW b q4 (turnN 2) ^^^ addW b q2 q4, rotW b q5 (turnN 3) ^^^ addW b q3 q5, rotW b q6 (turnN 0) ^^^ addW b q0 q6, rotW b q7 (turnN 1) ^^^ addW b q1 q7] := by
  show colW b 3 5 (colW b 2 4 (colW b 1 7 (colW b 0 6 [q0, q1, q2, q3, q4, q5, q6, q7]))) = _
  rw [col_0_6, col_1_7, col_2_4, col_3_5]
theorem ref_out_3 (b q0 q1 q2 q3 q4 q5 q6 q7 : Nat) : mixRef b 3 [q0, q1, q2, q3, q4, q5, q6, q7] 4 = [addW b q0 q7, addW b q1 q4, addW b q2 q5, addW b q3 q6, rotW b q4 (turnN 1) ^^^ addW b q1 q4, rotW b q5 (turnN 2) ^^^ addW b q2 q5, rotW b q6 (turnN 3) ^^^ addW b q3 q6, rotW b q7 (turnN 0) ^^^ addW b q0 q7] := by
  show colW b 3 6 (colW b 2 5 (colW b 1 4 (colW b 0 7 [q0, q1, q2, q3, q4, q5, q6, q7]))) = _
  rw [col_0_7, col_1_4, col_2_5, col_3_6]
theorem perm_at (b m c : Nat) (hc : c < 4) (q0 q1 q2 q3 q4 q5 q6 q7 : Nat) :
    roundW m (mixTo b (permW c [q0, q1, q2, q3, q4, q5, q6, q7]) 4) = permW (c + 1) ((mixRef b c [q0, q1, q2, q3, q4, q5, q6, q7] 4).set 0 (at0 (mixRef b c [q0, q1, q2, q3, q4, q5, q6, q7] 4) 0 ^^^ m)) := by
  rcases (show c = 0 ∨ c = 1 ∨ c = 2 ∨ c = 3 by omega) with rfl | rfl | rfl | rfl
  · rw [show permW 0 [q0, q1, q2, q3, q4, q5, q6, q7] = [q0, q1, q2, q3, q4, q5, q6, q7] from rfl, mix_out, ref_out_0]
    simp only [roundW, permW, at0, List.set_cons_zero, List.getD_cons_zero, List.getD_cons_succ, Nat.reduceAdd, Nat.reduceMod]
  · rw [show permW 1 [q0, q1, q2, q3, q4, q5, q6, q7] = [q0, q1, q2, q3, q5, q6, q7, q4] from rfl, mix_out, ref_out_1]
    simp only [roundW, permW, at0, List.set_cons_zero, List.getD_cons_zero, List.getD_cons_succ, Nat.reduceAdd, Nat.reduceMod]
  · rw [show permW 2 [q0, q1, q2, q3, q4, q5, q6, q7] = [q0, q1, q2, q3, q6, q7, q4, q5] from rfl, mix_out, ref_out_2]
    simp only [roundW, permW, at0, List.set_cons_zero, List.getD_cons_zero, List.getD_cons_succ, Nat.reduceAdd, Nat.reduceMod]
  · rw [show permW 3 [q0, q1, q2, q3, q4, q5, q6, q7] = [q0, q1, q2, q3, q7, q4, q5, q6] from rfl, mix_out, ref_out_3]
    simp only [roundW, permW, at0, List.set_cons_zero, List.getD_cons_zero, List.getD_cons_succ, Nat.reduceAdd, Nat.reduceMod]

theorem perm_step (b r : Nat) (q0 q1 q2 q3 q4 q5 q6 q7 : Nat) :
    roundW (r + 1) (mixTo b (permW r [q0, q1, q2, q3, q4, q5, q6, q7]) 4) = permW (r + 1) ((mixRef b r [q0, q1, q2, q3, q4, q5, q6, q7] 4).set 0 (at0 (mixRef b r [q0, q1, q2, q3, q4, q5, q6, q7] 4) 0 ^^^ (r + 1))) := by
  rw [mixRef_mod b r, permW_mod r (r % 4) _ (by omega), permW_mod (r + 1) (r % 4 + 1) _ (by omega)]
  exact perm_at b (r + 1) (r % 4) (Nat.mod_lt _ (by decide)) q0 q1 q2 q3 q4 q5 q6 q7

theorem stir_perm (b : Nat) (L : List Nat) (r : Nat) (hL : L.length = 8) : stirTo b L r = permW r (refTo b L r) := by
  induction r with
  | zero =>
    obtain ⟨a0, a1, a2, a3, a4, a5, a6, a7, rfl⟩ := eight_of hL
    rfl
  | succ r ih =>
    obtain ⟨q0, q1, q2, q3, q4, q5, q6, q7, e⟩ := eight_of (show (refTo b L r).length = 8 by rw [refTo_length]; exact hL)
    show roundW (r + 1) (mixTo b (stirTo b L r) 4) = permW (r + 1) ((mixRef b r (refTo b L r) 4).set 0 (at0 (mixRef b r (refTo b L r) 4) 0 ^^^ (r + 1)))
    rw [ih, e]
    exact perm_step b r q0 q1 q2 q3 q4 q5 q6 q7

/-- One stirring. -/
def stirW (b : Nat) (L : List Nat) : List Nat := stirTo b L 8

theorem stir_same (b : Nat) (L : List Nat) (hL : L.length = 8) : refTo b L 8 = stirW b L := by
  unfold stirW
  rw [stir_perm b L 8 hL]
  obtain ⟨q0, q1, q2, q3, q4, q5, q6, q7, e⟩ := eight_of (show (refTo b L 8).length = 8 by rw [refTo_length]; exact hL)
  rw [e]
  rfl
end Go.Proofs.YtgaoeoijdpdjiaaDoor
