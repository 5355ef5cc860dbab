/-
  sets.Measure at the sets that are right, by the two numbers that its digits hang on. The document's stirring lets the upper words stand: both stirrings come to the same eight words. The bytes of a text and its padding, as a list.
-/
import Derived.Test.YtgaoeoijdpdjiaaGreatDoorPart5
namespace Go.Proofs.YtgaoeoijdpdjiaaGreatDoor
open Go.RowKit

theorem wrap_sig_4_16 (t l : Int) (h1 : 1 ≤ t) (h2 : t ≤ 4) (h3 : 1 ≤ l) (h4 : l ≤ 3) : IntKind.i64.wrap (IntKind.i64.wrap 8 + IntKind.i64.wrap (IntKind.i64.wrap (l * IntKind.i64.wrap (10 + t)) * 4)) = sigZ 4 16 t l := by
  rcases (show t = 1 ∨ t = 2 ∨ t = 3 ∨ t = 4 by omega) with rfl | rfl | rfl | rfl <;> rcases (show l = 1 ∨ l = 2 ∨ l = 3 by omega) with rfl | rfl | rfl <;> rfl
set_option maxHeartbeats 1000000 in
theorem measure_4_16 (k t l : Int) (w : World) (hk : k = 1 ∨ k = 2) (h1 : 1 ≤ t) (h2 : t ≤ 4) (h3 : 1 ≤ l) (h4 : l ≤ 3) :
    Calls Tryz.prog 69 #[.agg #[.int .i64 k, .int .i64 4, .int .i64 16, .int .i64 t, .int .i64 l]] w fun e w' =>
      e = .returned (.tuple #[.agg #[.int .i64 8, .int .i64 2, .int .i64 10, .int .i64 (totalZ t l), .int .i64 (sigZ 4 16 t l), .int .i64 13], .int .i64 0]) ∧ Below w.heap.size w w' := by
  have HR : Hid (rightB k 4 16 t l = true) := by show rightB k 4 16 t l = true; simp [rightB, hk, h1, h2, h3, h4]
  have hsh := shift_total t l h1 h2 h3 h4
  go_enter Tryz.func69, Tryz.ntmps69
  go_wp2_with (go_at_call 86; refine (check_any _ _ _ _ _ _).mono ?_; rintro e w' ⟨rfl, hb⟩; rw [HR.out]; obtain ⟨hc, hf⟩ := bcell hb; have hz := hb.size; simp at hz; have c1 : w'.cell? ⟨w.heap.size, 1, none⟩ = some (.int .i64 4) := (hb.cell (by simp <;> omega)).trans (by simp [go_sem, World.cell?_alloc_past]); have c2 : w'.cell? ⟨w.heap.size, 2, none⟩ = some (.int .i64 16) := (hb.cell (by simp <;> omega)).trans (by simp [go_sem, World.cell?_alloc_past]); have c3 : w'.cell? ⟨w.heap.size, 3, none⟩ = some (.int .i64 t) := (hb.cell (by simp <;> omega)).trans (by simp [go_sem, World.cell?_alloc_past]); have c4 : w'.cell? ⟨w.heap.size, 4, none⟩ = some (.int .i64 l) := (hb.cell (by simp <;> omega)).trans (by simp [go_sem, World.cell?_alloc_past]))
  obtain ⟨z0, z1, z2, z3, z4, z5⟩ := six_zero hb
  have HB : Hid (Below w.heap.size w w') := ((((Below.refl _ _).alloc (Nat.le_refl _) _).alloc (by simp) _).trans (hb.mono (by simp; omega)))
  have f0 : ∀ o, w'.frozen? ⟨w.heap.size + 1, o, none⟩ = false := fun o => (hf _ o (by simp)).trans (by simp [go_sem])
  clear hb hc hf
  go_quiet ((go_at_call 148; exact Calls.quiet_of_same (perByte_16 _)))
  go_wp2_with fail
  refine (count_120 _).mono ?_
  rintro e w'' ⟨rfl, rfl⟩
  go_wp2
  go_region_held3 (fun w' => w'.cell? ⟨w.heap.size, 1, none⟩ = some (.int .i64 4) ∧ w'.cell? ⟨w.heap.size, 3, none⟩ = some (.int .i64 t) ∧ w'.cell? ⟨w.heap.size, 4, none⟩ = some (.int .i64 l)) (simp [go_sem, c1, c3, c4]) (fail)
  go_wp2
  rw [wrap_sig_4_16 t l h1 h2 h3 h4]
  refine bodyPost_ret (v := .tuple #[.agg #[.int .i64 8, .int .i64 2, .int .i64 10, .int .i64 (totalZ t l), .int .i64 (sigZ 4 16 t l), .int .i64 13], .int .i64 0]) (by simp [results, Tryz.results69, go_sem, z0, z1, z2, z3, z4, z5]; rfl) rfl ⟨rfl, ?_⟩
  repeat refine Below.setCell ?_ (by simp) _
  exact below_drewN HB.out _

end Go.Proofs.YtgaoeoijdpdjiaaGreatDoor

namespace Go.Proofs.YtgaoeoijdpdjiaaGreatDoor

/-- The columns of round r, the upper words standing. -/
def mixRef (b r : Nat) (L : List Nat) : Nat → List Nat
  | 0 => L
  | k + 1 => colW b k (4 + (k + r) % 4) (mixRef b r L k)
def refTo (b : Nat) (L : List Nat) : Nat → List Nat
  | 0 => L
  | r + 1 => (mixRef b r (refTo b L r) 4).set 0 (at0 (mixRef b r (refTo b L r) 4) 0 ^^^ (r + 1))

theorem mixRef_length (b r : Nat) (L : List Nat) (k : Nat) : (mixRef b r L k).length = L.length := by
  induction k with
  | zero => rfl
  | succ k ih => simp only [mixRef, colW_length, ih]
theorem mixRef_words (b r : Nat) (L : List Nat) (k : Nat) (h : Words b L) : Words b (mixRef b r L k) := by
  induction k with
  | zero => exact h
  | succ k ih => exact ih.col _ _
theorem refTo_length (b : Nat) (L : List Nat) (r : Nat) : (refTo b L r).length = L.length := by
  induction r with
  | zero => rfl
  | succ r ih => simp only [refTo, List.length_set, mixRef_length, ih]
theorem refTo_words (b : Nat) (L : List Nat) (r : Nat) (h : Words b L) (hb : 4 ≤ b := by decide) (hr : r ≤ 8 := by omega) : Words b (refTo b L r) := by
  induction r with
  | zero => exact h
  | succ r ih =>
    have hm := mixRef_words b r (refTo b L r) 4 (ih (by omega))
    have h16 : 2 ^ 4 ≤ 2 ^ b := Nat.pow_le_pow_right (by decide) hb
    exact hm.set 0 _ (Nat.xor_lt_two_pow (hm.at 0) (by omega))

/-- The words as the program has them behind r rounds. -/
def permW (r : Nat) (L : List Nat) : List Nat := [at0 L 0, at0 L 1, at0 L 2, at0 L 3, at0 L (4 + r % 4), at0 L (4 + (1 + r) % 4), at0 L (4 + (2 + r) % 4), at0 L (4 + (3 + r) % 4)]

theorem mixRef_mod (b r : Nat) (L : List Nat) (k : Nat) : mixRef b r L k = mixRef b (r % 4) L k := by
  induction k with
  | zero => rfl
  | succ k ih => simp only [mixRef]; rw [ih, show (k + r) % 4 = (k + r % 4) % 4 by omega]
theorem permW_mod (r c : Nat) (L : List Nat) (h : r % 4 = c % 4) : permW r L = permW c L := by
  unfold permW
  rw [h, show (1 + r) % 4 = (1 + c) % 4 by omega, show (2 + r) % 4 = (2 + c) % 4 by omega, show (3 + r) % 4 = (3 + c) % 4 by omega]

/-- A column, written out. -/
theorem col_0_4 (b q0 q1 q2 q3 q4 q5 q6 q7 : Nat) : colW b 0 4 [q0, q1, q2, q3, q4, q5, q6, q7] = [addW b q0 q4, q1, q2, q3, rotW b q4 (turnN 0) ^^^ addW b q0 q4, q5, q6, q7] := by
  simp only [colW, at0, List.set_cons_zero, List.set_cons_succ, List.getD_cons_zero, List.getD_cons_succ]
theorem col_0_5 (b q0 q1 q2 q3 q4 q5 q6 q7 : Nat) : colW b 0 5 [q0, q1, q2, q3, q4, q5, q6, q7] = [addW b q0 q5, q1, q2, q3, q4, rotW b q5 (turnN 0) ^^^ addW b q0 q5, q6, q7] := by
  simp only [colW, at0, List.set_cons_zero, List.set_cons_succ, List.getD_cons_zero, List.getD_cons_succ]
theorem col_0_6 (b q0 q1 q2 q3 q4 q5 q6 q7 : Nat) : colW b 0 6 [q0, q1, q2, q3, q4, q5, q6, q7] = [addW b q0 q6, q1, q2, q3, q4, q5, rotW b q6 (turnN 0) ^^^ addW b q0 q6, q7] := by
  simp only [colW, at0, List.set_cons_zero, List.set_cons_succ, List.getD_cons_zero, List.getD_cons_succ]
theorem col_0_7 (b q0 q1 q2 q3 q4 q5 q6 q7 : Nat) : colW b 0 7 [q0, q1, q2, q3, q4, q5, q6, q7] = [addW b q0 q7, q1, q2, q3, q4, q5, q6, rotW b q7 (turnN 0) ^^^ addW b q0 q7] := by
  simp only [colW, at0, List.set_cons_zero, List.set_cons_succ, List.getD_cons_zero, List.getD_cons_succ]
theorem col_1_4 (b q0 q1 q2 q3 q4 q5 q6 q7 : Nat) : colW b 1 4 [q0, q1, q2, q3, q4, q5, q6, q7] = [q0, addW b q1 q4, q2, q3, rotW b q4 (turnN 1) ^^^ addW b q1 q4, q5, q6, q7] := by
  simp only [colW, at0, List.set_cons_zero, List.set_cons_succ, List.getD_cons_zero, List.getD_cons_succ]
theorem col_1_5 (b q0 q1 q2 q3 q4 q5 q6 q7 : Nat) : colW b 1 5 [q0, q1, q2, q3, q4, q5, q6, q7] = [q0, addW b q1 q5, q2, q3, q4, rotW b q5 (turnN 1) ^^^ addW b q1 q5, q6, q7] := by
  simp only [colW, at0, List.set_cons_zero, List.set_cons_succ, List.getD_cons_zero, List.getD_cons_succ]
theorem col_1_6 (b q0 q1 q2 q3 q4 q5 q6 q7 : Nat) : colW b 1 6 [q0, q1, q2, q3, q4, q5, q6, q7] = [q0, addW b q1 q6, q2, q3, q4, q5, rotW b q6 (turnN 1) ^^^ addW b q1 q6, q7] := by
  simp only [colW, at0, List.set_cons_zero, List.set_cons_succ, List.getD_cons_zero, List.getD_cons_succ]
theorem col_1_7 (b q0 q1 q2 q3 q4 q5 q6 q7 : Nat) : colW b 1 7 [q0, q1, q2, q3, q4, q5, q6, q7] = [q0, addW b q1 q7, q2, q3, q4, q5, q6, rotW b q7 (turnN 1) ^^^ addW b q1 q7] := by
  simp only [colW, at0, List.set_cons_zero, List.set_cons_succ, List.getD_cons_zero, List.getD_cons_succ]
theorem col_2_4 (b q0 q1 q2 q3 q4 q5 q6 q7 : Nat) : colW b 2 4 [q0, q1, q2, q3, q4, q5, q6, q7] = [q0, q1, addW b q2 q4, q3, rotW b q4 (turnN 2) ^^^ addW b q2 q4, q5, q6, q7] := by
  simp only [colW, at0, List.set_cons_zero, List.set_cons_succ, List.getD_cons_zero, List.getD_cons_succ]
theorem col_2_5 (b q0 q1 q2 q3 q4 q5 q6 q7 : Nat) : colW b 2 5 [q0, q1, q2, q3, q4, q5, q6, q7] = [q0, q1, addW b q2 q5, q3, q4, rotW b q5 (turnN 2) ^^^ addW b q2 q5, q6, q7] := by
  simp only [colW, at0, List.set_cons_zero, List.set_cons_succ, List.getD_cons_zero, List.getD_cons_succ]
theorem col_2_6 (b q0 q1 q2 q3 q4 q5 q6 q7 : Nat) : colW b 2 6 [q0, q1, q2, q3, q4, q5, q6, q7] = [q0, q1, addW b q2 q6, q3, q4, q5, rotW b q6 (turnN 2) ^^^ addW b q2 q6, q7] := by
  simp only [colW, at0, List.set_cons_zero, List.set_cons_succ, List.getD_cons_zero, List.getD_cons_succ]
theorem col_2_7 (b q0 q1 q2 q3 q4 q5 q6 q7 : Nat) : colW b 2 7 [q0, q1, q2, q3, q4, q5, q6, q7] = [q0, q1, addW b q2 q7, q3, q4, q5, q6, rotW b q7 (turnN 2) ^^^ addW b q2 q7] := by
  simp only [colW, at0, List.set_cons_zero, List.set_cons_succ, List.getD_cons_zero, List.getD_cons_succ]
theorem col_3_4 (b q0 q1 q2 q3 q4 q5 q6 q7 : Nat) : colW b 3 4 [q0, q1, q2, q3, q4, q5, q6, q7] = [q0, q1, q2, addW b q3 q4, rotW b q4 (turnN 3) ^^^ addW b q3 q4, q5, q6, q7] := by
  simp only [colW, at0, List.set_cons_zero, List.set_cons_succ, List.getD_cons_zero, List.getD_cons_succ]
theorem col_3_5 (b q0 q1 q2 q3 q4 q5 q6 q7 : Nat) : colW b 3 5 [q0, q1, q2, q3, q4, q5, q6, q7] = [q0, q1, q2, addW b q3 q5, q4, rotW b q5 (turnN 3) ^^^ addW b q3 q5, q6, q7] := by
  simp only [colW, at0, List.set_cons_zero, List.set_cons_succ, List.getD_cons_zero, List.getD_cons_succ]
theorem col_3_6 (b q0 q1 q2 q3 q4 q5 q6 q7 : Nat) : colW b 3 6 [q0, q1, q2, q3, q4, q5, q6, q7] = [q0, q1, q2, addW b q3 q6, q4, q5, rotW b q6 (turnN 3) ^^^ addW b q3 q6, q7] := by
  simp only [colW, at0, List.set_cons_zero, List.set_cons_succ, List.getD_cons_zero, List.getD_cons_succ]
theorem col_3_7 (b q0 q1 q2 q3 q4 q5 q6 q7 : Nat) : colW b 3 7 [q0, q1, q2, q3, q4, q5, q6, q7] = [q0, q1, q2, addW b q3 q7, q4, q5, q6, rotW b q7 (turnN 3) ^^^ addW b q3 q7] := by
  simp only [colW, at0, List.set_cons_zero, List.set_cons_succ, List.getD_cons_zero, List.getD_cons_succ]
theorem mix_out (b q0 q1 q2 q3 q4 q5 q6 q7 : Nat) : mixTo b [q0, q1, q2, q3, q4, q5, q6, q7] 4 = [addW b q0 q4, addW b q1 q5, addW b q2 q6, addW b q3 q7, rotW b q4 (turnN 0) ^^^ addW b q0 q4, rotW b q5 (turnN 1) ^^^ addW b q1 q5, rotW b q6 (turnN 2) ^^^ addW b q2 q6, rotW b q7 (turnN 3) ^^^ addW b q3 q7] := by
  show colW b 3 7 (colW b 2 6 (colW b 1 5 (colW b 0 4 [q0, q1, q2, q3, q4, q5, q6, q7]))) = _
  rw [col_0_4, col_1_5, col_2_6, col_3_7]
theorem ref_out_0 (b q0 q1 q2 q3 q4 q5 q6 q7 : Nat) : mixRef b 0 [q0, q1, q2, q3, q4, q5, q6, q7] 4 = [addW b q0 q4, addW b q1 q5, addW b q2 q6, addW b q3 q7, rotW b q4 (turnN 0) ^^^ addW b q0 q4, rotW b q5 (turnN 1) ^^^ addW b q1 q5, rotW b q6 (turnN 2) ^^^ addW b q2 q6, rotW b q7 (turnN 3) ^^^ addW b q3 q7] := by
  show colW b 3 7 (colW b 2 6 (colW b 1 5 (colW b 0 4 [q0, q1, q2, q3, q4, q5, q6, q7]))) = _
  rw [col_0_4, col_1_5, col_2_6, col_3_7]
theorem ref_out_1 (b q0 q1 q2 q3 q4 q5 q6 q7 : Nat) : mixRef b 1 [q0, q1, q2, q3, q4, q5, q6, q7] 4 = [addW b q0 q5, addW b q1 q6, addW b q2 q7, addW b q3 q4, rotW b q4 (turnN 3) ^^^ addW b q3 q4, rotW b q5 (turnN 0) ^^^ addW b q0 q5, rotW b q6 (turnN 1) ^^^ addW b q1 q6, rotW b q7 (turnN 2) ^^^ addW b q2 q7] := by
  show colW b 3 4 (colW b 2 7 (colW b 1 6 (colW b 0 5 [q0, q1, q2, q3, q4, q5, q6, q7]))) = _
  rw [col_0_5, col_1_6, col_2_7, col_3_4]
theorem ref_out_2 (b q0 q1 q2 q3 q4 q5 q6 q7 : Nat) : mixRef b 2 [q0, q1, q2, q3, q4, q5, q6, q7] 4 = [addW b q0 q6, addW b q1 q7, addW b q2 q4, addW b q3 q5, rotW b q4 (turnN 2) ^^^ addW b q2 q4, rotW b q5 (turnN 3) ^^^ addW b q3 q5, rotW b q6 (turnN 0) ^^^ addW b q0 q6, rotW b q7 (turnN 1) ^^^ addW b q1 q7] := by
  show colW b 3 5 (colW b 2 4 (colW b 1 7 (colW b 0 6 [q0, q1, q2, q3, q4, q5, q6, q7]))) = _
  rw [col_0_6, col_1_7, col_2_4, col_3_5]
theorem ref_out_3 (b q0 q1 q2 q3 q4 q5 q6 q7 : Nat) : mixRef b 3 [q0, q1, q2, q3, q4, q5, q6, q7] 4 = [addW b q0 q7, addW b q1 q4, addW b q2 q5, addW b q3 q6, rotW b q4 (turnN 1) ^^^ addW b q1 q4, rotW b q5 (turnN 2) ^^^ addW b q2 q5, rotW b q6 (turnN 3) ^^^ addW b q3 q6, rotW b q7 (turnN 0) ^^^ addW b q0 q7] := by
  show colW b 3 6 (colW b 2 5 (colW b 1 4 (colW b 0 7 [q0, q1, q2, q3, q4, q5, q6, q7]))) = _
  rw [col_0_7, col_1_4, col_2_5, col_3_6]
theorem perm_at (b m c : Nat) (hc : c < 4) (q0 q1 q2 q3 q4 q5 q6 q7 : Nat) :
    roundW m (mixTo b (permW c [q0, q1, q2, q3, q4, q5, q6, q7]) 4) = permW (c + 1) ((mixRef b c [q0, q1, q2, q3, q4, q5, q6, q7] 4).set 0 (at0 (mixRef b c [q0, q1, q2, q3, q4, q5, q6, q7] 4) 0 ^^^ m)) := by
  rcases (show c = 0 ∨ c = 1 ∨ c = 2 ∨ c = 3 by omega) with rfl | rfl | rfl | rfl
  · rw [show permW 0 [q0, q1, q2, q3, q4, q5, q6, q7] = [q0, q1, q2, q3, q4, q5, q6, q7] from rfl, mix_out, ref_out_0]
    simp only [roundW, permW, at0, List.set_cons_zero, List.getD_cons_zero, List.getD_cons_succ, Nat.reduceAdd, Nat.reduceMod]
  · rw [show permW 1 [q0, q1, q2, q3, q4, q5, q6, q7] = [q0, q1, q2, q3, q5, q6, q7, q4] from rfl, mix_out, ref_out_1]
    simp only [roundW, permW, at0, List.set_cons_zero, List.getD_cons_zero, List.getD_cons_succ, Nat.reduceAdd, Nat.reduceMod]
  · rw [show permW 2 [q0, q1, q2, q3, q4, q5, q6, q7] = [q0, q1, q2, q3, q6, q7, q4, q5] from rfl, mix_out, ref_out_2]
    simp only [roundW, permW, at0, List.set_cons_zero, List.getD_cons_zero, List.getD_cons_succ, Nat.reduceAdd, Nat.reduceMod]
  · rw [show permW 3 [q0, q1, q2, q3, q4, q5, q6, q7] = [q0, q1, q2, q3, q7, q4, q5, q6] from rfl, mix_out, ref_out_3]
    simp only [roundW, permW, at0, List.set_cons_zero, List.getD_cons_zero, List.getD_cons_succ, Nat.reduceAdd, Nat.reduceMod]

theorem perm_step (b r : Nat) (q0 q1 q2 q3 q4 q5 q6 q7 : Nat) :
    roundW (r + 1) (mixTo b (permW r [q0, q1, q2, q3, q4, q5, q6, q7]) 4) = permW (r + 1) ((mixRef b r [q0, q1, q2, q3, q4, q5, q6, q7] 4).set 0 (at0 (mixRef b r [q0, q1, q2, q3, q4, q5, q6, q7] 4) 0 ^^^ (r + 1))) := by
  rw [mixRef_mod b r, permW_mod r (r % 4) _ (by omega), permW_mod (r + 1) (r % 4 + 1) _ (by omega)]
  exact perm_at b (r + 1) (r % 4) (Nat.mod_lt _ (by decide)) q0 q1 q2 q3 q4 q5 q6 q7

theorem stir_perm (b : Nat) (L : List Nat) (r : Nat) (hL : L.length = 8) : stirTo b L r = permW r (refTo b L r) := by
  induction r with
  | zero =>
    obtain ⟨a0, a1, a2, a3, a4, a5, a6, a7, rfl⟩ := eight_of hL
    rfl
  | succ r ih =>
    obtain ⟨q0, q1, q2, q3, q4, q5, q6, q7, e⟩ := eight_of (show (refTo b L r).length = 8 by rw [refTo_length]; exact hL)
    show roundW (r + 1) (mixTo b (stirTo b L r) 4) = permW (r + 1) ((mixRef b r (refTo b L r) 4).set 0 (at0 (mixRef b r (refTo b L r) 4) 0 ^^^ (r + 1)))
    rw [ih, e]
    exact perm_step b r q0 q1 q2 q3 q4 q5 q6 q7

/-- One stirring. -/
def stirW (b : Nat) (L : List Nat) : List Nat := stirTo b L 8

theorem stir_same (b : Nat) (L : List Nat) (hL : L.length = 8) : refTo b L 8 = stirW b L := by
  unfold stirW
  rw [stir_perm b L 8 hL]
  obtain ⟨q0, q1, q2, q3, q4, q5, q6, q7, e⟩ := eight_of (show (refTo b L 8).length = 8 by rw [refTo_length]; exact hL)
  rw [e]
  rfl
end Go.Proofs.YtgaoeoijdpdjiaaGreatDoor

namespace Go.Proofs.YtgaoeoijdpdjiaaGreatDoor
open Go.RowKit

/-- A text's bytes, and a 1 behind them. -/
def padL (s : ByteArray) : List Nat := s.data.toList.map UInt8.toNat ++ [1]

theorem padL_length (s : ByteArray) : (padL s).length = s.size + 1 := by simp [padL]

theorem padL_in (s : ByteArray) (i : Nat) (h : i < s.size) : at0 (padL s) i = (s[i]'h).toNat := by
  unfold padL at0
  rw [List.getD_eq_getElem?_getD, List.getElem?_append_left (by simpa using h), List.getElem?_map, List.getElem?_eq_getElem (by simpa using h)]
  rfl

theorem padL_at (s : ByteArray) : at0 (padL s) s.size = 1 := by
  unfold padL at0
  rw [List.getD_eq_getElem?_getD, List.getElem?_append_right (by simp)]
  simp

theorem padL_past (s : ByteArray) (i : Nat) (h : s.size < i) : at0 (padL s) i = 0 := by
  unfold at0
  rw [List.getD_eq_getElem?_getD, List.getElem?_eq_none (by rw [padL_length]; omega)]
  rfl

theorem padL_lt (s : ByteArray) (i : Nat) : at0 (padL s) i < 256 := by
  rcases Nat.lt_trichotomy i s.size with h | h | h
  · rw [padL_in s i h]; exact UInt8.toNat_lt _
  · rw [h, padL_at]; decide
  · rw [padL_past s i h]; decide
end Go.Proofs.YtgaoeoijdpdjiaaGreatDoor
