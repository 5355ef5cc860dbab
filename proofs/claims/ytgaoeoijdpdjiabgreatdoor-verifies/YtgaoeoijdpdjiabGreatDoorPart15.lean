/-
  The document's own sizes at the sets with Bytes 8 and Wide 4. The document's own sizes at the sets with Bytes 4 and Wide 4. A whole number in one byte: the program's one. The document's stirring lets the upper words stand: both stirrings come to the same eight words. Seeds and a place that come in by value, opened.
-/
import Derived.Test.YtgaoeoijdpdjiabGreatDoorPart6
import Derived.Test.YtgaoeoijdpdjiabGreatDoorPart7
import Derived.Handy
import Derived.Deep.RegionHeld3
import Derived.Deep.DrawnRows
import Derived.ShutString
namespace Go.Proofs.YtgaoeoijdpdjiabGreatDoor
open Go.RowKit

theorem wrap_ref_8_4 (t l : Nat) (h1 : 1 ≤ t) (h2 : t ≤ 4) (h3 : 1 ≤ l) (h4 : l ≤ 3) : wrap64 (12 + wrap64 (wrap64 ((l : Int) * (36 + (t : Int))) * 8)) = sigZ 8 4 t l := by
  rcases (show t = 1 ∨ t = 2 ∨ t = 3 ∨ t = 4 by omega) with rfl | rfl | rfl | rfl <;> rcases (show l = 1 ∨ l = 2 ∨ l = 3 by omega) with rfl | rfl | rfl <;> simp [wrap64, sigZ, chainsZ, firstZ, lastZ, each]

set_option maxHeartbeats 1000000 in
theorem refSizes_8_4 (k : Int) (t l : Nat) (w : World) (h1 : 1 ≤ t) (h2 : t ≤ 4) (h3 : 1 ≤ l) (h4 : l ≤ 3) :
    Calls Tryz.prog 83 #[.agg #[.int .i64 k, .int .i64 8, .int .i64 4, .int .i64 t, .int .i64 l]] w fun r w' =>
      r = .returned (.agg #[.int .i64 32, .int .i64 4, .int .i64 36, .int .i64 (totalZ t l), .int .i64 (sigZ 8 4 t l), .int .i64 21]) ∧ Below w.heap.size w w' := by
  go_enter Tryz.func83, Tryz.ntmps83
  go_wp2
  go_rounds 5
  go_rounds 5
  generalize hW : (((w.alloc (.cells #[.int .i64 k, .int .i64 8, .int .i64 4, .int .i64 t, .int .i64 l] 26)).alloc (.cells #[.int .i64 0, .int .i64 0, .int .i64 0, .int .i64 0, .int .i64 0, .int .i64 0] 158)).alloc (.cells #[.int .i64 32, .int .i64 4, .int .i64 36, .int .i64 0, .int .i64 0, .int .i64 0] 158)) = W
  have F5 : Five W w.heap.size k 8 4 t l := by subst hW; refine ⟨?_, ?_, ?_, ?_, ?_⟩ <;> simp [go_sem, World.cell?_alloc_past]
  have Z6 : Six W (w.heap.size + 1) 0 0 0 0 0 0 := by subst hW; refine ⟨?_, ?_, ?_, ?_, ?_, ?_⟩ <;> simp [go_sem, World.cell?_alloc_past]
  have S6 : Six W (w.heap.size + 1 + 1) 32 4 36 0 0 0 := by subst hW; refine ⟨?_, ?_, ?_, ?_, ?_, ?_⟩ <;> simp [go_sem, World.cell?_alloc_at]
  have fz : ∀ o, W.frozen? ⟨w.heap.size + 1, o, none⟩ = false := by subst hW; intro o; simp [go_sem]
  have fz2 : ∀ o, W.frozen? ⟨w.heap.size + 1 + 1, o, none⟩ = false := by subst hW; intro o; simp [go_sem]
  have hsz : w.heap.size + 3 = W.heap.size := by subst hW; simp
  have HB := hideM (by subst hW; exact (((Below.refl _ _).alloc (Nat.le_refl _) _).alloc (by simp) _).alloc (by simp; omega) _ : Below w.heap.size w W)
  clear hW
  have hl2 : 2 ^ t ≤ 16 := Nat.le_trans (Nat.pow_le_pow_right (by decide) h2) (by decide)
  have hpw : (2 ^ t) ^ l = 2 ^ (t * l) := (Nat.pow_mul 2 t l).symm
  have hpl : (2 ^ t) ^ l ≤ 65536 := Nat.le_trans (Nat.pow_le_pow_left hl2 l) (Nat.le_trans (Nat.pow_le_pow_right (by decide) h4) (by decide))
  have HT : Hid ((((2 ^ t) ^ l : Nat) : Int) = totalZ t l) := by show (((2 ^ t) ^ l : Nat) : Int) = totalZ t l; rw [hpw]; unfold totalZ; rw [show ((t : Int) * (l : Int)).toNat = t * l by rw [← Int.natCast_mul]; rfl]; simp
  have HC1 := hideM (fun w' : World => leaves_any t k 8 4 l w' h2)
  have HC2 := hideM (fun w' : World => power_any (2 ^ t) l w' hl2 (by omega) hpl (Nat.one_le_two_pow))
  clear hl2 hpw hpl
  generalize 2 ^ t = q at HT HC1 HC2
  generalize q ^ l = T at HT HC2
  obtain ⟨c0, c1, c2, c3, c4⟩ := F5
  obtain ⟨z0, z1, z2, z3, z4, z5⟩ := Z6
  obtain ⟨s0, s1, s2, s3, s4, s5⟩ := S6
  go_region_held3 (fun w' => w'.cell? ⟨w.heap.size, 0, none⟩ = some (.int .i64 k) ∧ w'.cell? ⟨w.heap.size, 1, none⟩ = some (.int .i64 8) ∧ w'.cell? ⟨w.heap.size, 2, none⟩ = some (.int .i64 4) ∧ w'.cell? ⟨w.heap.size, 3, none⟩ = some (.int .i64 t) ∧ w'.cell? ⟨w.heap.size, 4, none⟩ = some (.int .i64 l)) (first | exact hk1 | exact five_other hk1 _ (by omega) | (simp [go_sem, c0, c1, c2, c3, c4]; done)) (first | (go_at_call 92; refine (HC1.out _).mono ?_; rintro r w1 ⟨rfl, hb1⟩; have hk1 := five_below (show Five W.drew w.heap.size k 8 4 t l from ⟨c0, c1, c2, c3, c4⟩) hb1 (by simp; omega); have hz1 := six_below (show Six W.drew (w.heap.size + 1) 0 0 0 0 0 0 from ⟨z0, z1, z2, z3, z4, z5⟩) hb1 (by simp; omega); have hs1 := six_below (show Six W.drew (w.heap.size + 1 + 1) 32 4 36 0 0 0 from ⟨s0, s1, s2, s3, s4, s5⟩) hb1 (by simp; omega); have fy : ∀ o, w1.frozen? ⟨w.heap.size + 1, o, none⟩ = false := (fun o => (hb1.frozen (by simp; omega)).trans (fz o)); have fy2 : ∀ o, w1.frozen? ⟨w.heap.size + 1 + 1, o, none⟩ = false := (fun o => (hb1.frozen (by simp; omega)).trans (fz2 o)); obtain ⟨y0, y1, y2, y3, y4, y5⟩ := hz1; obtain ⟨x0, x1, x2, x3, x4, x5⟩ := hs1) | (go_at_call 91; refine (HC2.out _).mono ?_; rintro r w2 ⟨rfl, rfl⟩))
  obtain ⟨m0, m1, m2, m3, m4⟩ := hk1
  have HSG := hideM (wrap_ref_8_4 t l h1 h2 h3 h4)
  go_wp2
  rw [HSG.out, HT.out]
  refine bodyPost_ret (v := .agg #[.int .i64 32, .int .i64 4, .int .i64 36, .int .i64 (totalZ t l), .int .i64 (sigZ 8 4 t l), .int .i64 21]) (by simp [results, Tryz.results83, go_sem, y0, y1, y2, y3, y4, y5]) rfl ⟨rfl, ?_⟩
  iterate 9 refine Below.setCell ?_ (show w.heap.size ≤ _ by simp <;> omega) _
  exact HB.out.drew.trans (hb1.mono (by simp; omega))
end Go.Proofs.YtgaoeoijdpdjiabGreatDoor

namespace Go.Proofs.YtgaoeoijdpdjiabGreatDoor
open Go.RowKit

theorem wrap_ref_4_4 (t l : Nat) (h1 : 1 ≤ t) (h2 : t ≤ 4) (h3 : 1 ≤ l) (h4 : l ≤ 3) : wrap64 (8 + wrap64 (wrap64 ((l : Int) * (19 + (t : Int))) * 4)) = sigZ 4 4 t l := by
  rcases (show t = 1 ∨ t = 2 ∨ t = 3 ∨ t = 4 by omega) with rfl | rfl | rfl | rfl <;> rcases (show l = 1 ∨ l = 2 ∨ l = 3 by omega) with rfl | rfl | rfl <;> simp [wrap64, sigZ, chainsZ, firstZ, lastZ, each]

set_option maxHeartbeats 1000000 in
theorem refSizes_4_4 (k : Int) (t l : Nat) (w : World) (h1 : 1 ≤ t) (h2 : t ≤ 4) (h3 : 1 ≤ l) (h4 : l ≤ 3) :
    Calls Tryz.prog 83 #[.agg #[.int .i64 k, .int .i64 4, .int .i64 4, .int .i64 t, .int .i64 l]] w fun r w' =>
      r = .returned (.agg #[.int .i64 16, .int .i64 3, .int .i64 19, .int .i64 (totalZ t l), .int .i64 (sigZ 4 4 t l), .int .i64 13]) ∧ Below w.heap.size w w' := by
  go_enter Tryz.func83, Tryz.ntmps83
  go_wp2
  go_rounds 5
  go_rounds 4
  generalize hW : (((w.alloc (.cells #[.int .i64 k, .int .i64 4, .int .i64 4, .int .i64 t, .int .i64 l] 26)).alloc (.cells #[.int .i64 0, .int .i64 0, .int .i64 0, .int .i64 0, .int .i64 0, .int .i64 0] 158)).alloc (.cells #[.int .i64 16, .int .i64 3, .int .i64 19, .int .i64 0, .int .i64 0, .int .i64 0] 158)) = W
  have F5 : Five W w.heap.size k 4 4 t l := by subst hW; refine ⟨?_, ?_, ?_, ?_, ?_⟩ <;> simp [go_sem, World.cell?_alloc_past]
  have Z6 : Six W (w.heap.size + 1) 0 0 0 0 0 0 := by subst hW; refine ⟨?_, ?_, ?_, ?_, ?_, ?_⟩ <;> simp [go_sem, World.cell?_alloc_past]
  have S6 : Six W (w.heap.size + 1 + 1) 16 3 19 0 0 0 := by subst hW; refine ⟨?_, ?_, ?_, ?_, ?_, ?_⟩ <;> simp [go_sem, World.cell?_alloc_at]
  have fz : ∀ o, W.frozen? ⟨w.heap.size + 1, o, none⟩ = false := by subst hW; intro o; simp [go_sem]
  have fz2 : ∀ o, W.frozen? ⟨w.heap.size + 1 + 1, o, none⟩ = false := by subst hW; intro o; simp [go_sem]
  have hsz : w.heap.size + 3 = W.heap.size := by subst hW; simp
  have HB := hideM (by subst hW; exact (((Below.refl _ _).alloc (Nat.le_refl _) _).alloc (by simp) _).alloc (by simp; omega) _ : Below w.heap.size w W)
  clear hW
  have hl2 : 2 ^ t ≤ 16 := Nat.le_trans (Nat.pow_le_pow_right (by decide) h2) (by decide)
  have hpw : (2 ^ t) ^ l = 2 ^ (t * l) := (Nat.pow_mul 2 t l).symm
  have hpl : (2 ^ t) ^ l ≤ 65536 := Nat.le_trans (Nat.pow_le_pow_left hl2 l) (Nat.le_trans (Nat.pow_le_pow_right (by decide) h4) (by decide))
  have HT : Hid ((((2 ^ t) ^ l : Nat) : Int) = totalZ t l) := by show (((2 ^ t) ^ l : Nat) : Int) = totalZ t l; rw [hpw]; unfold totalZ; rw [show ((t : Int) * (l : Int)).toNat = t * l by rw [← Int.natCast_mul]; rfl]; simp
  have HC1 := hideM (fun w' : World => leaves_any t k 4 4 l w' h2)
  have HC2 := hideM (fun w' : World => power_any (2 ^ t) l w' hl2 (by omega) hpl (Nat.one_le_two_pow))
  clear hl2 hpw hpl
  generalize 2 ^ t = q at HT HC1 HC2
  generalize q ^ l = T at HT HC2
  obtain ⟨c0, c1, c2, c3, c4⟩ := F5
  obtain ⟨z0, z1, z2, z3, z4, z5⟩ := Z6
  obtain ⟨s0, s1, s2, s3, s4, s5⟩ := S6
  go_region_held3 (fun w' => w'.cell? ⟨w.heap.size, 0, none⟩ = some (.int .i64 k) ∧ w'.cell? ⟨w.heap.size, 1, none⟩ = some (.int .i64 4) ∧ w'.cell? ⟨w.heap.size, 2, none⟩ = some (.int .i64 4) ∧ w'.cell? ⟨w.heap.size, 3, none⟩ = some (.int .i64 t) ∧ w'.cell? ⟨w.heap.size, 4, none⟩ = some (.int .i64 l)) (first | exact hk1 | exact five_other hk1 _ (by omega) | (simp [go_sem, c0, c1, c2, c3, c4]; done)) (first | (go_at_call 92; refine (HC1.out _).mono ?_; rintro r w1 ⟨rfl, hb1⟩; have hk1 := five_below (show Five W.drew w.heap.size k 4 4 t l from ⟨c0, c1, c2, c3, c4⟩) hb1 (by simp; omega); have hz1 := six_below (show Six W.drew (w.heap.size + 1) 0 0 0 0 0 0 from ⟨z0, z1, z2, z3, z4, z5⟩) hb1 (by simp; omega); have hs1 := six_below (show Six W.drew (w.heap.size + 1 + 1) 16 3 19 0 0 0 from ⟨s0, s1, s2, s3, s4, s5⟩) hb1 (by simp; omega); have fy : ∀ o, w1.frozen? ⟨w.heap.size + 1, o, none⟩ = false := (fun o => (hb1.frozen (by simp; omega)).trans (fz o)); have fy2 : ∀ o, w1.frozen? ⟨w.heap.size + 1 + 1, o, none⟩ = false := (fun o => (hb1.frozen (by simp; omega)).trans (fz2 o)); obtain ⟨y0, y1, y2, y3, y4, y5⟩ := hz1; obtain ⟨x0, x1, x2, x3, x4, x5⟩ := hs1) | (go_at_call 91; refine (HC2.out _).mono ?_; rintro r w2 ⟨rfl, rfl⟩))
  obtain ⟨m0, m1, m2, m3, m4⟩ := hk1
  have HSG := hideM (wrap_ref_4_4 t l h1 h2 h3 h4)
  go_wp2
  rw [HSG.out, HT.out]
  refine bodyPost_ret (v := .agg #[.int .i64 16, .int .i64 3, .int .i64 19, .int .i64 (totalZ t l), .int .i64 (sigZ 4 4 t l), .int .i64 13]) (by simp [results, Tryz.results83, go_sem, y0, y1, y2, y3, y4, y5]) rfl ⟨rfl, ?_⟩
  iterate 9 refine Below.setCell ?_ (show w.heap.size ≤ _ by simp <;> omega) _
  exact HB.out.drew.trans (hb1.mono (by simp; omega))
end Go.Proofs.YtgaoeoijdpdjiabGreatDoor

namespace Go.Proofs.YtgaoeoijdpdjiabGreatDoor
open Go.RowKit

theorem one_any (v : Int) (w : World) :
    Calls Tryz.prog 312 #[.int .i64 v] w fun e w' => e = .returned (.string (numB 1 v)) ∧ Below w.heap.size w w' := by
  have HN := hide (number_any 1 v w (by decide))
  go_enter Tryz.func312, Tryz.ntmps312
  go_wp2_with fail
  refine HN.out.mono ?_
  rintro e w1 ⟨rfl, hb⟩
  go_wp2
  go_ret
  exact ⟨rfl, hb⟩
end Go.Proofs.YtgaoeoijdpdjiabGreatDoor

namespace Go.Proofs.YtgaoeoijdpdjiabGreatDoor

/-- The columns of round r, the upper words standing. -/
def mixRef (b r : Nat) (L : List Nat) : Nat → List Nat
  | 0 => L
  | k + 1 => colW b k (4 + (k + r) % 4) (mixRef b r L k)
def refTo (b : Nat) (L : List Nat) : Nat → List Nat
  | 0 => L
  | r + 1 => (mixRef b r (refTo b L r) 4).set 0 (at0 (mixRef b r (refTo b L r) 4) 0 ^^^ (r + 1))

theorem mixRef_length (b r : Nat) (L : List Nat) (k : Nat) : (mixRef b r L k).length = L.length := by
  induction k with
  | zero => rfl
  | succ k ih => simp only [mixRef, colW_length, ih]
theorem mixRef_words (b r : Nat) (L : List Nat) (k : Nat) (h : Words b L) : Words b (mixRef b r L k) := by
  induction k with
  | zero => exact h
  | succ k ih => exact ih.col _ _
theorem refTo_length (b : Nat) (L : List Nat) (r : Nat) : (refTo b L r).length = L.length := by
  induction r with
  | zero => rfl
  | succ r ih => simp only [refTo, List.length_set, mixRef_length, ih]
theorem refTo_words (b : Nat) (L : List Nat) (r : Nat) (h : Words b L) (hb : 4 ≤ b := by decide) (hr : r ≤ 8 := by omega) : Words b (refTo b L r) := by
  induction r with
  | zero => exact h
  | succ r ih =>
    have hm := mixRef_words b r (refTo b L r) 4 (ih (by omega))
    have h16 : 2 ^ 4 ≤ 2 ^ b := Nat.pow_le_pow_right (by decide) hb
    exact hm.set 0 _ (Nat.xor_lt_two_pow (hm.at 0) (by omega))

/-- The words as the program has them behind r rounds. -/
def permW (r : Nat) (L : List Nat) : List Nat := [at0 L 0, at0 L 1, at0 L 2, at0 L 3, at0 L (4 + r % 4), at0 L (4 + (1 + r) % 4), at0 L (4 + (2 + r) % 4), at0 L (4 + (3 + r) % 4)]

theorem mixRef_mod (b r : Nat) (L : List Nat) (k : Nat) : mixRef b r L k = mixRef b (r % 4) L k := by
  induction k with
  | zero => rfl
  | succ k ih => simp only [mixRef]; rw [ih, show (k + r) % 4 = (k + r % 4) % 4 by omega]
theorem permW_mod (r c : Nat) (L : List Nat) (h : r % 4 = c % 4) : permW r L = permW c L := by
  unfold permW
  rw [h, show (1 + r) % 4 = (1 + c) % 4 by omega, show (2 + r) % 4 = (2 + c) % 4 by omega, show (3 + r) % 4 = (3 + c) % 4 by omega]

/-- A column, written out. -/
theorem col_0_4 (b q0 q1 q2 q3 q4 q5 q6 q7 : Nat) : colW b 0 4 [q0, q1, q2, q3, q4, q5, q6, q7] = [addW b q0 q4, q1, q2, q3, rotW b q4 (turnN 0) ^^^ addW b q0 q4, q5, q6, q7] := by
  simp only [colW, at0, List.set_cons_zero, List.set_cons_succ, List.getD_cons_zero, List.getD_cons_succ]
theorem col_0_5 (b q0 q1 q2 q3 q4 q5 q6 q7 : Nat) : colW b 0 5 [q0, q1, q2, q3, q4, q5, q6, q7] = [addW b q0 q5, q1, q2, q3, q4, rotW b q5 (turnN 0) ^^^ addW b q0 q5, q6, q7] := by
  simp only [colW, at0, List.set_cons_zero, List.set_cons_succ, List.getD_cons_zero, List.getD_cons_succ]
theorem col_0_6 (b q0 q1 q2 q3 q4 q5 q6 q7 : Nat) : colW b 0 6 [q0, q1, q2, q3, q4, q5, q6, q7] = [addW b q0 q6, q1, q2, q3, q4, q5, rotW b q6 (turnN 0) ^^^ addW b q0 q6, q7] := by
  simp only [colW, at0, List.set_cons_zero, List.set_cons_succ, List.getD_cons_zero, List.getD_cons_succ]
theorem col_0_7 (b q0 q1 q2 q3 q4 q5 q6 q7 : Nat) : colW b 0 7 [q0, q1, q2, q3, q4, q5, q6, q7] = [addW b q0 q7, q1, q2, q3, q4, q5, q6, rotW b q7 (turnN 0) ^^^ addW b q0 q7] := by
  simp only [colW, at0, List.set_cons_zero, List.set_cons_succ, List.getD_cons_zero, List.getD_cons_succ]
theorem col_1_4 (b q0 q1 q2 q3 q4 q5 q6 q7 : Nat) : colW b 1 4 [q0, q1, q2, q3, q4, q5, q6, q7] = [q0, addW b q1 q4, q2, q3, rotW b q4 (turnN 1) ^^^ addW b q1 q4, q5, q6, q7] := by
  simp only [colW, at0, List.set_cons_zero, List.set_cons_succ, List.getD_cons_zero, List.getD_cons_succ]
theorem col_1_5 (b q0 q1 q2 q3 q4 q5 q6 q7 : Nat) : colW b 1 5 [q0, q1, q2, q3, q4, q5, q6, q7] = [q0, addW b q1 q5, q2, q3, q4, rotW b q5 (turnN 1) ^^^ addW b q1 q5, q6, q7] := by
  simp only [colW, at0, List.set_cons_zero, List.set_cons_succ, List.getD_cons_zero, List.getD_cons_succ]
theorem col_1_6 (b q0 q1 q2 q3 q4 q5 q6 q7 : Nat) : colW b 1 6 [q0, q1, q2, q3, q4, q5, q6, q7] = [q0, addW b q1 q6, q2, q3, q4, q5, rotW b q6 (turnN 1) ^^^ addW b q1 q6, q7] := by
  simp only [colW, at0, List.set_cons_zero, List.set_cons_succ, List.getD_cons_zero, List.getD_cons_succ]
theorem col_1_7 (b q0 q1 q2 q3 q4 q5 q6 q7 : Nat) : colW b 1 7 [q0, q1, q2, q3, q4, q5, q6, q7] = [q0, addW b q1 q7, q2, q3, q4, q5, q6, rotW b q7 (turnN 1) ^^^ addW b q1 q7] := by
  simp only [colW, at0, List.set_cons_zero, List.set_cons_succ, List.getD_cons_zero, List.getD_cons_succ]
theorem col_2_4 (b q0 q1 q2 q3 q4 q5 q6 q7 : Nat) : colW b 2 4 [q0, q1, q2, q3, q4, q5, q6, q7] = [q0, q1, addW b q2 q4, q3, rotW b q4 (turnN 2) ^^^ addW b q2 q4, q5, q6, q7] := by
  simp only [colW, at0, List.set_cons_zero, List.set_cons_succ, List.getD_cons_zero, List.getD_cons_succ]
theorem col_2_5 (b q0 q1 q2 q3 q4 q5 q6 q7 : Nat) : colW b 2 5 [q0, q1, q2, q3, q4, q5, q6, q7] = [q0, q1, addW b q2 q5, q3, q4, rotW b q5 (turnN 2) ^^^ addW b q2 q5, q6, q7] := by
  simp only [colW, at0, List.set_cons_zero, List.set_cons_succ, List.getD_cons_zero, List.getD_cons_succ]
theorem col_2_6 (b q0 q1 q2 q3 q4 q5 q6 q7 : Nat) : colW b 2 6 [q0, q1, q2, q3, q4, q5, q6, q7] = [q0, q1, addW b q2 q6, q3, q4, q5, rotW b q6 (turnN 2) ^^^ addW b q2 q6, q7] := by
  simp only [colW, at0, List.set_cons_zero, List.set_cons_succ, List.getD_cons_zero, List.getD_cons_succ]
theorem col_2_7 (b q0 q1 q2 q3 q4 q5 q6 q7 : Nat) : colW b 2 7 [q0, q1, q2, q3, q4, q5, q6, q7] = [q0, q1, addW b q2 q7, q3, q4, q5, q6, rotW b q7 (turnN 2) ^^^ addW b q2 q7] := by
  simp only [colW, at0, List.set_cons_zero, List.set_cons_succ, List.getD_cons_zero, List.getD_cons_succ]
theorem col_3_4 (b q0 q1 q2 q3 q4 q5 q6 q7 : Nat) : colW b 3 4 [q0, q1, q2, q3, q4, q5, q6, q7] = [q0, q1, q2, addW b q3 q4, rotW b q4 (turnN 3) ^^^ addW b q3 q4, q5, q6, q7] := by
  simp only [colW, at0, List.set_cons_zero, List.set_cons_succ, List.getD_cons_zero, List.getD_cons_succ]
theorem col_3_5 (b q0 q1 q2 q3 q4 q5 q6 q7 : Nat) : colW b 3 5 [q0, q1, q2, q3, q4, q5, q6, q7] = [q0, q1, q2, addW b q3 q5, q4, rotW b q5 (turnN 3) ^^^ addW b q3 q5, q6, q7] := by
  simp only [colW, at0, List.set_cons_zero, List.set_cons_succ, List.getD_cons_zero, List.getD_cons_succ]
theorem col_3_6 (b q0 q1 q2 q3 q4 q5 q6 q7 : Nat) : colW b 3 6 [q0, q1, q2, q3, q4, q5, q6, q7] = [q0, q1, q2, addW b q3 q6, q4, q5, rotW b q6 (turnN 3) ^^^ addW b q3 q6, q7] := by
  simp only [colW, at0, List.set_cons_zero, List.set_cons_succ, List.getD_cons_zero, List.getD_cons_succ]
theorem col_3_7 (b q0 q1 q2 q3 q4 q5 q6 q7 : Nat) : colW b 3 7 [q0, q1, q2, q3, q4, q5, q6, q7] = [q0, q1, q2, addW b q3 q7, q4, q5, q6, rotW b q7 (turnN 3) ^^^ addW b q3 q7] := by
  simp only [colW, at0, List.set_cons_zero, List.set_cons_succ, List.getD_cons_zero, List.getD_cons_succ]
theorem mix_out (b q0 q1 q2 q3 q4 q5 q6 q7 : Nat) : mixTo b [q0, q1, q2, q3, q4, q5, q6, q7] 4 = [addW b q0 q4, addW b q1 q5, addW b q2 q6, addW b q3 q7, rotW b q4 (turnN 0) ^^^ addW b q0 q4, rotW b q5 (turnN 1) ^^^ addW b q1 q5, rotW b q6 (turnN 2) ^^^ addW b q2 q6, rotW b q7 (turnN 3) ^^^ addW b q3 q7] := by
  show colW b 3 7 (colW b 2 6 (colW b 1 5 (colW b 0 4 [q0, q1, q2, q3, q4, q5, q6, q7]))) = _
  rw [col_0_4, col_1_5, col_2_6, col_3_7]
theorem ref_out_0 (b q0 q1 q2 q3 q4 q5 q6 q7 : Nat) : mixRef b 0 [q0, q1, q2, q3, q4, q5, q6, q7] 4 = [addW b q0 q4, addW b q1 q5, addW b q2 q6, addW b q3 q7, rotW b q4 (turnN 0) ^^^ addW b q0 q4, rotW b q5 (turnN 1) ^^^ addW b q1 q5, rotW b q6 (turnN 2) ^^^ addW b q2 q6, rotW b q7 (turnN 3) ^^^ addW b q3 q7] := by
  show colW b 3 7 (colW b 2 6 (colW b 1 5 (colW b 0 4 [q0, q1, q2, q3, q4, q5, q6, q7]))) = _
  rw [col_0_4, col_1_5, col_2_6, col_3_7]
theorem ref_out_1 (b q0 q1 q2 q3 q4 q5 q6 q7 : Nat) : mixRef b 1 [q0, q1, q2, q3, q4, q5, q6, q7] 4 = [addW b q0 q5, addW b q1 q6, addW b q2 q7, addW b q3 q4, rotW b q4 (turnN 3) ^^^ addW b q3 q4, rotW b q5 (turnN 0) ^^^ addW b q0 q5, rotW b q6 (turnN 1) ^^^ addW b q1 q6, rotW b q7 (turnN 2) ^^^ addW b q2 q7] := by
  show colW b 3 4 (colW b 2 7 (colW b 1 6 (colW b 0 5 [q0, q1, q2, q3, q4, q5, q6, q7]))) = _
  rw [col_0_5, col_1_6, col_2_7, col_3_4]
theorem ref_out_2 (b q0 q1 q2 q3 q4 q5 q6 q7 : Nat) : mixRef b 2 [q0, q1, q2, q3, q4, q5, q6, q7] 4 = [addW b q0 q6, addW b q1 q7, addW b q2 q4, addW b q3 q5, rotW b q4 (turnN 2) ^^^ addW b q2 q4, rotW b q5 (turnN 3) ^^^ addW b q3 q5, rotW b q6 (turnN 0) ^^^ addW b q0 q6, rotW b q7 (turnN 1) ^^^ addW b q1 q7] := by
  show colW b 3 5 (colW b 2 4 (colW b 1 7 (colW b 0 6 [q0, q1, q2, q3, q4, q5, q6, q7]))) = _
  rw [col_0_6, col_1_7, col_2_4, col_3_5]
theorem ref_out_3 (b q0 q1 q2 q3 q4 q5 q6 q7 : Nat) : mixRef b 3 [q0, q1, q2, q3, q4, q5, q6, q7] 4 = [addW b q0 q7, addW b q1 q4, addW b q2 q5, addW b q3 q6, rotW b q4 (turnN 1) ^^^ addW b q1 q4, rotW b q5 (turnN 2) ^^^ addW b q2 q5, rotW b q6 (turnN 3) ^^^ addW b q3 q6, rotW b q7 (turnN 0) ^^^ addW b q0 q7] := by
  show colW b 3 6 (colW b 2 5 (colW b 1 4 (colW b 0 7 [q0, q1, q2, q3, q4, q5, q6, q7]))) = _
  rw [col_0_7, col_1_4, col_2_5, col_3_6]
theorem perm_at (b m c : Nat) (hc : c < 4) (q0 q1 q2 q3 q4 q5 q6 q7 : Nat) :
    roundW m (mixTo b (permW c [q0, q1, q2, q3, q4, q5, q6, q7]) 4) = permW (c + 1) ((mixRef b c [q0, q1, q2, q3, q4, q5, q6, q7] 4).set 0 (at0 (mixRef b c [q0, q1, q2, q3, q4, q5, q6, q7] 4) 0 ^^^ m)) := by
  rcases (show c = 0 ∨ c = 1 ∨ c = 2 ∨ c = 3 by omega) with rfl | rfl | rfl | rfl
  · rw [show permW 0 [q0, q1, q2, q3, q4, q5, q6, q7] = [q0, q1, q2, q3, q4, q5, q6, q7] from rfl, mix_out, ref_out_0]
    simp only [roundW, permW, at0, List.set_cons_zero, List.getD_cons_zero, List.getD_cons_succ, Nat.reduceAdd, Nat.reduceMod]
  · rw [show permW 1 [q0, q1, q2, q3, q4, q5, q6, q7] = [q0, q1, q2, q3, q5, q6, q7, q4] from rfl, mix_out, ref_out_1]
    simp only [roundW, permW, at0, List.set_cons_zero, List.getD_cons_zero, List.getD_cons_succ, Nat.reduceAdd, Nat.reduceMod]
  · rw [show permW 2 [q0, q1, q2, q3, q4, q5, q6, q7] = [q0, q1, q2, q3, q6, q7, q4, q5] from rfl, mix_out, ref_out_2]
    simp only [roundW, permW, at0, List.set_cons_zero, List.getD_cons_zero, List.getD_cons_succ, Nat.reduceAdd, Nat.reduceMod]
  · rw [show permW 3 [q0, q1, q2, q3, q4, q5, q6, q7] = [q0, q1, q2, q3, q7, q4, q5, q6] from rfl, mix_out, ref_out_3]
    simp only [roundW, permW, at0, List.set_cons_zero, List.getD_cons_zero, List.getD_cons_succ, Nat.reduceAdd, Nat.reduceMod]

theorem perm_step (b r : Nat) (q0 q1 q2 q3 q4 q5 q6 q7 : Nat) :
    roundW (r + 1) (mixTo b (permW r [q0, q1, q2, q3, q4, q5, q6, q7]) 4) = permW (r + 1) ((mixRef b r [q0, q1, q2, q3, q4, q5, q6, q7] 4).set 0 (at0 (mixRef b r [q0, q1, q2, q3, q4, q5, q6, q7] 4) 0 ^^^ (r + 1))) := by
  rw [mixRef_mod b r, permW_mod r (r % 4) _ (by omega), permW_mod (r + 1) (r % 4 + 1) _ (by omega)]
  exact perm_at b (r + 1) (r % 4) (Nat.mod_lt _ (by decide)) q0 q1 q2 q3 q4 q5 q6 q7

theorem stir_perm (b : Nat) (L : List Nat) (r : Nat) (hL : L.length = 8) : stirTo b L r = permW r (refTo b L r) := by
  induction r with
  | zero =>
    obtain ⟨a0, a1, a2, a3, a4, a5, a6, a7, rfl⟩ := eight_of hL
    rfl
  | succ r ih =>
    obtain ⟨q0, q1, q2, q3, q4, q5, q6, q7, e⟩ := eight_of (show (refTo b L r).length = 8 by rw [refTo_length]; exact hL)
    show roundW (r + 1) (mixTo b (stirTo b L r) 4) = permW (r + 1) ((mixRef b r (refTo b L r) 4).set 0 (at0 (mixRef b r (refTo b L r) 4) 0 ^^^ (r + 1)))
    rw [ih, e]
    exact perm_step b r q0 q1 q2 q3 q4 q5 q6 q7

/-- One stirring. -/
def stirW (b : Nat) (L : List Nat) : List Nat := stirTo b L 8

theorem stir_same (b : Nat) (L : List Nat) (hL : L.length = 8) : refTo b L 8 = stirW b L := by
  unfold stirW
  rw [stir_perm b L 8 hL]
  obtain ⟨q0, q1, q2, q3, q4, q5, q6, q7, e⟩ := eight_of (show (refTo b L 8).length = 8 by rw [refTo_length]; exact hL)
  rw [e]
  rfl
end Go.Proofs.YtgaoeoijdpdjiabGreatDoor

namespace Go.Proofs.YtgaoeoijdpdjiabGreatDoor
open Go.ChangeShapes Go.WideShapes Go.ChangeAt Go.RowKit
open Go.ChangeMaps (open_string shut_string)

theorem array3 {a : Array Value} (h : a.size = 3) : ∃ c0 c1 c2, a = #[c0, c1, c2] := by
  obtain ⟨l⟩ := a
  match l, h with
  | [c0, c1, c2], _ => exact ⟨c0, c1, c2, rfl⟩
theorem array4 {a : Array Value} (h : a.size = 4) : ∃ c0 c1 c2 c3, a = #[c0, c1, c2, c3] := by
  obtain ⟨l⟩ := a
  match l, h with
  | [c0, c1, c2, c3], _ => exact ⟨c0, c1, c2, c3, rfl⟩
theorem cellsSeeds : Tryz.prog.cellsOf 42 = 3 := by kernel_rfl
theorem cellsPlace : Tryz.prog.cellsOf 91 = 4 := by kernel_rfl
theorem cellsStr : Tryz.prog.cellsOf 9 = 1 := by kernel_rfl

set_option maxRecDepth 100000 in
theorem open_place {H : Type} {enc : TypeId × Value → H} {W : World} {base b0 : Nat} {sp : Nat → Bool} {held : Bool} {r : Reach} {v : Value} {d : DataW H} {p : List MemPlace}
    (hv : Value.okWide Tryz.prog W r b0 91 v) (h : DataW.Trod enc Tryz.prog W base sp held 91 v d p) :
    ∃ a b c e : Int, v = .agg #[.int .i64 a, .int .i64 b, .int .i64 c, .int .i64 e] := by
  obtain ⟨cs, rfl, hsz⟩ := okWide_struct Tryz.underlying91 hv
  obtain ⟨c0, c1, c2, c3, rfl⟩ := array4 (hsz.trans cellsPlace)
  obtain ⟨fuel, hf⟩ := h
  obtain ⟨xs, n, _, _, _, hlen, hfs⟩ := DataW.trod_struct Tryz.underlying91 hf
  simp at hlen
  have g0 : DataW.trod enc Tryz.prog W base sp held n 3 [c0] = xs[0]? := by simpa [Value.cells, cellsInt] using hfs 0 _ rfl
  have g1 : DataW.trod enc Tryz.prog W base sp held n 3 [c1] = xs[1]? := by simpa [Value.cells, cellsInt] using hfs 1 _ rfl
  have g2 : DataW.trod enc Tryz.prog W base sp held n 3 [c2] = xs[2]? := by simpa [Value.cells, cellsInt] using hfs 2 _ rfl
  have g3 : DataW.trod enc Tryz.prog W base sp held n 3 [c3] = xs[3]? := by simpa [Value.cells, cellsInt] using hfs 3 _ rfl
  rw [List.getElem?_eq_getElem (by omega)] at g0 g1 g2 g3
  obtain ⟨k, e0, _, w0⟩ := DataW.trod_int Tryz.underlying3 g0
  obtain ⟨b, e1, _, w1⟩ := DataW.trod_int Tryz.underlying3 g1
  obtain ⟨x, e2, _, w2⟩ := DataW.trod_int Tryz.underlying3 g2
  obtain ⟨t, e3, _, w3⟩ := DataW.trod_int Tryz.underlying3 g3
  simp at e0 e1 e2 e3
  subst e0 e1 e2 e3
  exact ⟨k, b, x, t, rfl⟩

set_option maxRecDepth 100000 in
theorem open_seeds {H : Type} {enc : TypeId × Value → H} {W : World} {base b0 : Nat} {sp : Nat → Bool} {held : Bool} {r : Reach} {v : Value} {d : DataW H} {p : List MemPlace}
    (hv : Value.okWide Tryz.prog W r b0 42 v) (h : DataW.Trod enc Tryz.prog W base sp held 42 v d p) :
    ∃ a b c : ByteArray, v = .agg #[.string a, .string b, .string c] := by
  obtain ⟨cs, rfl, hsz⟩ := okWide_struct Tryz.underlying42 hv
  obtain ⟨c0, c1, c2, rfl⟩ := array3 (hsz.trans cellsSeeds)
  obtain ⟨fuel, hf⟩ := h
  obtain ⟨xs, n, _, _, _, hlen, hfs⟩ := DataW.trod_struct Tryz.underlying42 hf
  simp at hlen
  have g0 : DataW.trod enc Tryz.prog W base sp held n 9 [c0] = xs[0]? := by simpa [Value.cells, cellsStr] using hfs 0 _ rfl
  have g1 : DataW.trod enc Tryz.prog W base sp held n 9 [c1] = xs[1]? := by simpa [Value.cells, cellsStr] using hfs 1 _ rfl
  have g2 : DataW.trod enc Tryz.prog W base sp held n 9 [c2] = xs[2]? := by simpa [Value.cells, cellsStr] using hfs 2 _ rfl
  rw [List.getElem?_eq_getElem (by omega)] at g0 g1 g2
  obtain ⟨k, e0, _⟩ := DataW.trod_string Tryz.underlying9 g0
  obtain ⟨b, e1, _⟩ := DataW.trod_string Tryz.underlying9 g1
  obtain ⟨x, e2, _⟩ := DataW.trod_string Tryz.underlying9 g2
  simp at e0 e1 e2
  subst e0 e1 e2
  exact ⟨k, b, x, rfl⟩
end Go.Proofs.YtgaoeoijdpdjiabGreatDoor
