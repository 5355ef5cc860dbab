/-
  The program's mix over words of 64 bits. A whole number in so many bytes: the document's own Number. The document's stirring lets the upper words stand: both stirrings come to the same eight words.
-/
import Derived.Test.YtbncojflfnpikaaDoorPart7
import Derived.Test.YtbncojflfnpikaaDoorPart8
namespace Go.Proofs.YtbncojflfnpikaaDoor
open Go.RowKit

/-- The package's table of turns. -/
def Turns64 (w : World) : Prop := ∀ i, i < 4 → w.cell? ⟨0, i, none⟩ = some (.int .i64 ((turnN i : Nat) : Int))

theorem turn_or64 (i : Nat) (h : i < 4) : turnN i = 5 ∨ turnN i = 11 ∨ turnN i = 19 ∨ turnN i = 26 := by
  rcases (show i = 0 ∨ i = 1 ∨ i = 2 ∨ i = 3 by omega) with rfl | rfl | rfl | rfl <;> simp [turnN]

theorem add_64 (x y : Nat) : IntKind.u64.wrap ((x : Int) + (y : Int)) = ((addW 64 x y : Nat) : Int) := by
  rw [IntKind.wrap_u64]
  unfold addW
  omega

set_option maxHeartbeats 4000000 in
theorem mix_64 (g : Nat) (L : List Nat) (w : World) (hr : RowK w g .u64 152 L) (hL : L.length = 8) (hW : Words 64 L) (hT : Turns64 w) (hg : 0 < g) :
    Calls Tryd.prog 147 #[.pointer (some ⟨g, 0, none⟩)] w fun e w' => e = .returned (.tuple #[]) ∧ RowK w' g .u64 152 (mixTo 64 L 4) ∧ Only g w w' := by
  have HR := hide hr
  have HL := hide hL
  have HW := hide hW
  have HT := hide hT
  clear hr hL hW hT
  go_enter Tryd.func147, Tryd.ntmps147
  go_wp2
  go_loopw [4] (fun i wr => ∃ j : Nat, j ≤ 4 ∧ i = .int .i64 j ∧ Hid (RowK wr g .u64 152 (mixTo 64 L j)) ∧ Hid (Only g w wr)) (fun i _ => 4 - (intOf i).toNat)
  case atStart => exact ⟨0, by omega, rfl, HR, Only.refl _ _⟩
  case round =>
    obtain ⟨j, hj, rfl, hr, ho⟩ := hrel
    by_cases hlt : j < 4
    · have hlen : (mixTo 64 L j).length = 8 := by rw [mixTo_length]; exact HL.out
      have hwd := mixTo_words 64 L j HW.out
      have HS : Hid (mixTo 64 L (j + 1) = colW 64 j (j + 4) (mixTo 64 L j)) := rfl
      generalize mixTo 64 L j = K at hr hlen hwd HS
      have d1 := hr.out.cell (i := j) (by omega)
      have d2 := hr.out.cell (i := j + 4) (by omega)
      have f1 := hr.out.free j
      have x1 := hwd.at j
      have x2 := hwd.at (j + 4)
      have HA := hide (add_64 (at0 K j) (at0 K (j + 4)))
      have q0 : (0 : Int) ≤ (j : Int) := by omega
      have q1 : (j : Int) < 8 := by omega
      have q2 : (j : Int) + 4 < 8 := by omega
      have q3 : (0 : Int) ≤ (j : Int) + 4 := by omega
      have hlt8 : j < K.length := by omega
      have hk4 : j + 4 < K.length := by omega
      have t4 : ((j : Int) + 4).toNat = j + 4 := by omega
      clear hlen
      have HK := hide hwd
      clear hwd
      go_wp2
      go_region
      go_wp2
      have HT1 := hide (HT.out j hlt)
      have hgj : at0 (K.set j (addW 64 (at0 K j) (at0 K (j + 4)))) j = addW 64 (at0 K j) (at0 K (j + 4)) := at0_set_same _ _ _ hlt8
      have hgk : at0 (K.set j (addW 64 (at0 K j) (at0 K (j + 4)))) (j + 4) = at0 K (j + 4) := at0_set_other _ _ _ _ (by omega)
      have R1 := hide (hr.out.set j (addW 64 (at0 K j) (at0 K (j + 4))))
      rw [IntKind.wrap_u64]
      rw [show ((at0 K j : Nat) : Int) + ((at0 K (j + 4) : Nat) : Int) = (((at0 K j + at0 K (j + 4) : Nat)) : Int) from (Int.natCast_add _ _).symm, show (((at0 K j + at0 K (j + 4) : Nat)) : Int) % 18446744073709551616 = ((addW 64 (at0 K j) (at0 K (j + 4)) : Nat) : Int) from (Int.natCast_emod _ _).symm]
      have O1 := hide (ho.out.setCell j (.int .u64 ((addW 64 (at0 K j) (at0 K (j + 4)) : Nat) : Int)))
      generalize hV : wr.setCell ⟨g, j, none⟩ (.int .u64 ((addW 64 (at0 K j) (at0 K (j + 4)) : Nat) : Int)) = V at R1 O1 ⊢
      have e1 : V.cell? ⟨g, j, none⟩ = some (.int .u64 ((addW 64 (at0 K j) (at0 K (j + 4)) : Nat) : Int)) := by have h := R1.out.cell (i := j) (by rw [List.length_set]; omega); rwa [hgj] at h
      have e2 : V.cell? ⟨g, j + 4, none⟩ = some (.int .u64 ((at0 K (j + 4) : Nat) : Int)) := by have h := R1.out.cell (i := j + 4) (by rw [List.length_set]; omega); rwa [hgk] at h
      have e3 : V.cell? ⟨0, j, none⟩ = some (.int .i64 ((turnN j : Nat) : Int)) := (O1.out.cell (by simp; omega)).trans HT1.out
      have f2 : V.frozen? ⟨g, j + 4, none⟩ = false := R1.out.free _
      clear hV d1 d2 f1 hgj hgk
      have HTU := hide (fun w' : World => turned_64 (at0 K (j + 4)) (turnN j) w' (by simpa using x2) (turn_or64 j hlt))
      have HXO := hide (u64_xor_nat (rotW 64 (at0 K (j + 4)) (turnN j)) (addW 64 (at0 K j) (at0 K (j + 4))) (by have := rotW_lt 64 (at0 K (j + 4)) (turnN j) x2; simpa using this) (by have := addW_lt 64 (at0 K j) (at0 K (j + 4)); simpa using this))
      have HCO : Hid (colW 64 j (j + 4) K = (K.set j (addW 64 (at0 K j) (at0 K (j + 4)))).set (j + 4) (rotW 64 (at0 K (j + 4)) (turnN j) ^^^ addW 64 (at0 K j) (at0 K (j + 4)))) := rfl
      generalize rotW 64 (at0 K (j + 4)) (turnN j) = rt at HTU HXO HCO
      generalize addW 64 (at0 K j) (at0 K (j + 4)) = A at R1 O1 e1 HXO HCO
      generalize at0 K (j + 4) = y at e2 HTU x2
      generalize turnN j = tn at e3 HTU
      clear x1 HA
      go_region_with ((go_at_call 154; refine (HTU.out _).mono ?_; rintro e w' ⟨rfl, n, rfl⟩))
      all_goals
        go_wp2
        try rw [HXO.out]
        go_roundw
        case rel =>
          refine ⟨j + 1, by omega, by go_num, ?_, ?_⟩
          · unfold Hid
            rw [HS.out, HCO.out]
            exact R1.out.set (j + 4) (rt ^^^ A)
          · exact (O1.out.drewN _).setCell (j + 4) _
        case measure => simp [intOf]; omega
    · obtain rfl : j = 4 := by omega
      go_wp2
      go_end0
      exact ⟨rfl, hr.out, ho.out⟩
end Go.Proofs.YtbncojflfnpikaaDoor

namespace Go.Proofs.YtbncojflfnpikaaDoor
open Go.RowKit

theorem numB_succ (j : Nat) (v : Int) : numB (j + 1) v = ⟨#[UInt8.ofNat (v / 256 ^ j % 256).toNat]⟩ ++ numB j v := by
  apply ByteArray.ext
  simp [numB, numL]

set_option maxHeartbeats 1000000 in
theorem refNumber_any (k : Nat) (v : Int) (w : World) (hk : k ≤ 8) (hv : 0 ≤ v) (hv2 : v ≤ 9223372036854775807) :
    Calls Tryd.prog 106 #[.int .i64 v, .int .i64 k] w fun e w' => e = .returned (.string (numB k v)) ∧ Below w.heap.size w w' := by
  have HV := hide hv
  have HV2 := hide hv2
  clear hv hv2
  go_enter Tryd.func106, Tryd.ntmps106
  go_wp2
  go_loopw [0, 5, 6] (fun t s i wr => ∃ j : Nat, j ≤ k ∧ i = .int .i64 j ∧ t = .int .i64 (v / 256 ^ j) ∧ s = .string (numB j v) ∧ Hid (Below w.heap.size w wr)) (fun _ _ i _ => k - (intOf i).toNat)
  case atStart => exact ⟨0, Nat.zero_le _, rfl, by simp, rfl, Below.refl _ _⟩
  case round =>
    obtain ⟨j, hj, rfl, rfl, rfl, hb⟩ := hrel
    by_cases hlt : j < k
    · have HQ : Hid (0 ≤ v / 256 ^ j) := Int.ediv_nonneg HV.out (Int.le_of_lt (Int.pow_pos (by decide)))
      have HQ2 : Hid (v / 256 ^ j ≤ 9223372036854775807) := by
        refine Int.le_trans ?_ HV2.out
        exact Int.ediv_le_self _ HV.out
      have HD : Hid (v / 256 ^ j / 256 = v / 256 ^ (j + 1)) := by
        show v / 256 ^ j / 256 = v / 256 ^ (j + 1)
        rw [Int.ediv_ediv_of_nonneg (Int.le_of_lt (Int.pow_pos (by decide))), Int.pow_succ]
      have HS := hide (numB_succ j v)
      have hz : (numB j v).size ≤ 8 := by rw [numB_size]; omega
      generalize v / 256 ^ j = q at HQ HQ2 HD HS ⊢
      generalize numB j v = s at HS hz ⊢
      have hT := textRow (wr.alloc (.cells #[.int .u8 (q % 256)] 5)) wr.heap.size 1 [(q % 256).toNat] (by intro d hd; simp at hd; subst hd; omega) (by unfold RowK; rw [heap_alloc_new]; simp [Int.toNat_of_nonneg (Int.emod_nonneg q (show (256 : Int) ≠ 0 by decide))]) rfl
      have hdiv : (q.tdiv 256) = q / 256 := Int.tdiv_eq_ediv_of_nonneg HQ.out
      have hwr : wrap64 (q / 256) = q / 256 := by
        have := HQ.out
        have := HQ2.out
        unfold wrap64; omega
      go_wp2
      go_roundw
      case rel =>
        rw [hwr]
        exact ⟨j + 1, by omega, by go_num, by rw [HD.out], by rw [HS.out], hb.out.alloc hb.out.size _⟩
      case measure => simp [intOf]; omega
    · obtain rfl : j = k := by omega
      go_wp2
      go_ret
      exact ⟨rfl, hb.out⟩
end Go.Proofs.YtbncojflfnpikaaDoor

namespace Go.Proofs.YtbncojflfnpikaaDoor

/-- The columns of round r, the upper words standing. -/
def mixRef (b r : Nat) (L : List Nat) : Nat → List Nat
  | 0 => L
  | k + 1 => colW b k (4 + (k + r) % 4) (mixRef b r L k)
def refTo (b : Nat) (L : List Nat) : Nat → List Nat
  | 0 => L
  | r + 1 => (mixRef b r (refTo b L r) 4).set 0 (at0 (mixRef b r (refTo b L r) 4) 0 ^^^ (r + 1))

theorem mixRef_length (b r : Nat) (L : List Nat) (k : Nat) : (mixRef b r L k).length = L.length := by
  induction k with
  | zero => rfl
  | succ k ih => simp only [mixRef, colW_length, ih]
theorem mixRef_words (b r : Nat) (L : List Nat) (k : Nat) (h : Words b L) : Words b (mixRef b r L k) := by
  induction k with
  | zero => exact h
  | succ k ih => exact ih.col _ _
theorem refTo_length (b : Nat) (L : List Nat) (r : Nat) : (refTo b L r).length = L.length := by
  induction r with
  | zero => rfl
  | succ r ih => simp only [refTo, List.length_set, mixRef_length, ih]
theorem refTo_words (b : Nat) (L : List Nat) (r : Nat) (h : Words b L) (hb : 4 ≤ b := by decide) (hr : r ≤ 8 := by omega) : Words b (refTo b L r) := by
  induction r with
  | zero => exact h
  | succ r ih =>
    have hm := mixRef_words b r (refTo b L r) 4 (ih (by omega))
    have h16 : 2 ^ 4 ≤ 2 ^ b := Nat.pow_le_pow_right (by decide) hb
    exact hm.set 0 _ (Nat.xor_lt_two_pow (hm.at 0) (by omega))

/-- The words as the program has them behind r rounds. -/
def permW (r : Nat) (L : List Nat) : List Nat := [at0 L 0, at0 L 1, at0 L 2, at0 L 3, at0 L (4 + r % 4), at0 L (4 + (1 + r) % 4), at0 L (4 + (2 + r) % 4), at0 L (4 + (3 + r) % 4)]

theorem mixRef_mod (b r : Nat) (L : List Nat) (k : Nat) : mixRef b r L k = mixRef b (r % 4) L k := by
  induction k with
  | zero => rfl
  | succ k ih => simp only [mixRef]; rw [ih, show (k + r) % 4 = (k + r % 4) % 4 by omega]
theorem permW_mod (r c : Nat) (L : List Nat) (h : r % 4 = c % 4) : permW r L = permW c L := by
  unfold permW
  rw [h, show (1 + r) % 4 = (1 + c) % 4 by omega, show (2 + r) % 4 = (2 + c) % 4 by omega, show (3 + r) % 4 = (3 + c) % 4 by omega]

/-- A column, written out. -/
theorem col_0_4 (b q0 q1 q2 q3 q4 q5 q6 q7 : Nat) : colW b 0 4 [q0, q1, q2, q3, q4, q5, q6, q7] = [addW b q0 q4, q1, q2, q3, rotW b q4 (turnN 0) ^^^ addW b q0 q4, q5, q6, q7] := by
  simp only [colW, at0, List.set_cons_zero, List.set_cons_succ, List.getD_cons_zero, List.getD_cons_succ]
theorem col_0_5 (b q0 q1 q2 q3 q4 q5 q6 q7 : Nat) : colW b 0 5 [q0, q1, q2, q3, q4, q5, q6, q7] = [addW b q0 q5, q1, q2, q3, q4, rotW b q5 (turnN 0) ^^^ addW b q0 q5, q6, q7] := by
  simp only [colW, at0, List.set_cons_zero, List.set_cons_succ, List.getD_cons_zero, List.getD_cons_succ]
theorem col_0_6 (b q0 q1 q2 q3 q4 q5 q6 q7 : Nat) : colW b 0 6 [q0, q1, q2, q3, q4, q5, q6, q7] = [addW b q0 q6, q1, q2, q3, q4, q5, rotW b q6 (turnN 0) ^^^ addW b q0 q6, q7] := by
  simp only [colW, at0, List.set_cons_zero, List.set_cons_succ, List.getD_cons_zero, List.getD_cons_succ]
theorem col_0_7 (b q0 q1 q2 q3 q4 q5 q6 q7 : Nat) : colW b 0 7 [q0, q1, q2, q3, q4, q5, q6, q7] = [addW b q0 q7, q1, q2, q3, q4, q5, q6, rotW b q7 (turnN 0) ^^^ addW b q0 q7] := by
  simp only [colW, at0, List.set_cons_zero, List.set_cons_succ, List.getD_cons_zero, List.getD_cons_succ]
theorem col_1_4 (b q0 q1 q2 q3 q4 q5 q6 q7 : Nat) : colW b 1 4 [q0, q1, q2, q3, q4, q5, q6, q7] = [q0, addW b q1 q4, q2, q3, rotW b q4 (turnN 1) ^^^ addW b q1 q4, q5, q6, q7] := by
  simp only [colW, at0, List.set_cons_zero, List.set_cons_succ, List.getD_cons_zero, List.getD_cons_succ]
theorem col_1_5 (b q0 q1 q2 q3 q4 q5 q6 q7 : Nat) : colW b 1 5 [q0, q1, q2, q3, q4, q5, q6, q7] = [q0, addW b q1 q5, q2, q3, q4, rotW b q5 (turnN 1) ^^^ addW b q1 q5, q6, q7] := by
  simp only [colW, at0, List.set_cons_zero, List.set_cons_succ, List.getD_cons_zero, List.getD_cons_succ]
theorem col_1_6 (b q0 q1 q2 q3 q4 q5 q6 q7 : Nat) : colW b 1 6 [q0, q1, q2, q3, q4, q5, q6, q7] = [q0, addW b q1 q6, q2, q3, q4, q5, rotW b q6 (turnN 1) ^^^ addW b q1 q6, q7] := by
  simp only [colW, at0, List.set_cons_zero, List.set_cons_succ, List.getD_cons_zero, List.getD_cons_succ]
theorem col_1_7 (b q0 q1 q2 q3 q4 q5 q6 q7 : Nat) : colW b 1 7 [q0, q1, q2, q3, q4, q5, q6, q7] = [q0, addW b q1 q7, q2, q3, q4, q5, q6, rotW b q7 (turnN 1) ^^^ addW b q1 q7] := by
  simp only [colW, at0, List.set_cons_zero, List.set_cons_succ, List.getD_cons_zero, List.getD_cons_succ]
theorem col_2_4 (b q0 q1 q2 q3 q4 q5 q6 q7 : Nat) : colW b 2 4 [q0, q1, q2, q3, q4, q5, q6, q7] = [q0, q1, addW b q2 q4, q3, rotW b q4 (turnN 2) ^^^ addW b q2 q4, q5, q6, q7] := by
  simp only [colW, at0, List.set_cons_zero, List.set_cons_succ, List.getD_cons_zero, List.getD_cons_succ]
theorem col_2_5 (b q0 q1 q2 q3 q4 q5 q6 q7 : Nat) : colW b 2 5 [q0, q1, q2, q3, q4, q5, q6, q7] = [q0, q1, addW b q2 q5, q3, q4, rotW b q5 (turnN 2) ^^^ addW b q2 q5, q6, q7] := by
  simp only [colW, at0, List.set_cons_zero, List.set_cons_succ, List.getD_cons_zero, List.getD_cons_succ]
theorem col_2_6 (b q0 q1 q2 q3 q4 q5 q6 q7 : Nat) : colW b 2 6 [q0, q1, q2, q3, q4, q5, q6, q7] = [q0, q1, addW b q2 q6, q3, q4, q5, rotW b q6 (turnN 2) ^^^ addW b q2 q6, q7] := by
  simp only [colW, at0, List.set_cons_zero, List.set_cons_succ, List.getD_cons_zero, List.getD_cons_succ]
theorem col_2_7 (b q0 q1 q2 q3 q4 q5 q6 q7 : Nat) : colW b 2 7 [q0, q1, q2, q3, q4, q5, q6, q7] = [q0, q1, addW b q2 q7, q3, q4, q5, q6, rotW b q7 (turnN 2) ^^^ addW b q2 q7] := by
  simp only [colW, at0, List.set_cons_zero, List.set_cons_succ, List.getD_cons_zero, List.getD_cons_succ]
theorem col_3_4 (b q0 q1 q2 q3 q4 q5 q6 q7 : Nat) : colW b 3 4 [q0, q1, q2, q3, q4, q5, q6, q7] = [q0, q1, q2, addW b q3 q4, rotW b q4 (turnN 3) ^^^ addW b q3 q4, q5, q6, q7] := by
  simp only [colW, at0, List.set_cons_zero, List.set_cons_succ, List.getD_cons_zero, List.getD_cons_succ]
theorem col_3_5 (b q0 q1 q2 q3 q4 q5 q6 q7 : Nat) : colW b 3 5 [q0, q1, q2, q3, q4, q5, q6, q7] = [q0, q1, q2, addW b q3 q5, q4, rotW b q5 (turnN 3) ^^^ addW b q3 q5, q6, q7] := by
  simp only [colW, at0, List.set_cons_zero, List.set_cons_succ, List.getD_cons_zero, List.getD_cons_succ]
theorem col_3_6 (b q0 q1 q2 q3 q4 q5 q6 q7 : Nat) : colW b 3 6 [q0, q1, q2, q3, q4, q5, q6, q7] = [q0, q1, q2, addW b q3 q6, q4, q5, rotW b q6 (turnN 3) ^^^ addW b q3 q6, q7] := by
  simp only [colW, at0, List.set_cons_zero, List.set_cons_succ, List.getD_cons_zero, List.getD_cons_succ]
theorem col_3_7 (b q0 q1 q2 q3 q4 q5 q6 q7 : Nat) : colW b 3 7 [q0, q1, q2, q3, q4, q5, q6, q7] = [q0, q1, q2, addW b q3 q7, q4, q5, q6, rotW b q7 (turnN 3) ^^^ addW b q3 q7] := by
  simp only [colW, at0, List.set_cons_zero, List.set_cons_succ, List.getD_cons_zero, List.getD_cons_succ]
theorem mix_out (b q0 q1 q2 q3 q4 q5 q6 q7 : Nat) : mixTo b [q0, q1, q2, q3, q4, q5, q6, q7] 4 = [addW b q0 q4, addW b q1 q5, addW b q2 q6, addW b q3 q7, rotW b q4 (turnN 0) ^^^ addW b q0 q4, rotW b q5 (turnN 1) ^^^ addW b q1 q5, rotW b q6 (turnN 2) ^^^ addW b q2 q6, rotW b q7 (turnN 3) ^^^ addW b q3 q7] := by
  show colW b 3 7 (colW b 2 6 (colW b 1 5 (colW b 0 4 [q0, q1, q2, q3, q4, q5, q6, q7]))) = _
  rw [col_0_4, col_1_5, col_2_6, col_3_7]
theorem ref_out_0 (b q0 q1 q2 q3 q4 q5 q6 q7 : Nat) : mixRef b 0 [q0, q1, q2, q3, q4, q5, q6, q7] 4 = [addW b q0 q4, addW b q1 q5, addW b q2 q6, addW b q3 q7, rotW b q4 (turnN 0) ^^^ addW b q0 q4, rotW b q5 (turnN 1) ^^^ addW b q1 q5, rotW b q6 (turnN 2) ^^^ addW b q2 q6, rotW b q7 (turnN 3) ^^^ addW b q3 q7] := by
  show colW b 3 7 (colW b 2 6 (colW b 1 5 (colW b 0 4 [q0, q1, q2, q3, q4, q5, q6, q7]))) = _
  rw [col_0_4, col_1_5, col_2_6, col_3_7]
theorem ref_out_1 (b q0 q1 q2 q3 q4 q5 q6 q7 : Nat) : mixRef b 1 [q0, q1, q2, q3, q4, q5, q6, q7] 4 = [addW b q0 q5, addW b q1 q6, addW b q2 q7, addW b q3 q4, rotW b q4 (turnN 3) ^^^ addW b q3 q4, rotW b q5 (turnN 0) ^^^ addW b q0 q5, rotW b q6 (turnN 1) ^^^ addW b q1 q6, rotW b q7 (turnN 2) ^^^ addW b q2 q7] := by
  show colW b 3 4 (colW b 2 7 (colW b 1 6 (colW b 0 5 [q0, q1, q2, q3, q4, q5, q6, q7]))) = _
  rw [col_0_5, col_1_6, col_2_7, col_3_4]
theorem ref_out_2 (b q0 q1 q2 q3 q4 q5 q6 q7 : Nat) : mixRef b 2 [q0, q1, q2, q3, q4, q5, q6, q7] 4 = [addW b q0 q6, addW b q1 q7, addW b q2 q4, addW b q3 q5, rotW b q4 (turnN 2) ^^^ addW b q2 q4, rotW b q5 (turnN 3) ^^^ addW b q3 q5, rotW b q6 (turnN 0) ^^^ addW b q0 q6, rotW b q7 (turnN 1) ^^^ addW b q1 q7] := by
  show colW b 3 5 (colW b 2 4 (colW b 1 7 (colW b 0 6 [q0, q1, q2, q3, q4, q5, q6, q7]))) = _
  rw [col_0_6, col_1_7, col_2_4, col_3_5]
theorem ref_out_3 (b q0 q1 q2 q3 q4 q5 q6 q7 : Nat) : mixRef b 3 [q0, q1, q2, q3, q4, q5, q6, q7] 4 = [addW b q0 q7, addW b q1 q4, addW b q2 q5, addW b q3 q6, rotW b q4 (turnN 1) ^^^ addW b q1 q4, rotW b q5 (turnN 2) ^^^ addW b q2 q5, rotW b q6 (turnN 3) ^^^ addW b q3 q6, rotW b q7 (turnN 0) ^^^ addW b q0 q7] := by
  show colW b 3 6 (colW b 2 5 (colW b 1 4 (colW b 0 7 [q0, q1, q2, q3, q4, q5, q6, q7]))) = _
  rw [col_0_7, col_1_4, col_2_5, col_3_6]
theorem perm_at (b m c : Nat) (hc : c < 4) (q0 q1 q2 q3 q4 q5 q6 q7 : Nat) :
    roundW m (mixTo b (permW c [q0, q1, q2, q3, q4, q5, q6, q7]) 4) = permW (c + 1) ((mixRef b c [q0, q1, q2, q3, q4, q5, q6, q7] 4).set 0 (at0 (mixRef b c [q0, q1, q2, q3, q4, q5, q6, q7] 4) 0 ^^^ m)) := by
  rcases (show c = 0 ∨ c = 1 ∨ c = 2 ∨ c = 3 by omega) with rfl | rfl | rfl | rfl
  · rw [show permW 0 [q0, q1, q2, q3, q4, q5, q6, q7] = [q0, q1, q2, q3, q4, q5, q6, q7] from rfl, mix_out, ref_out_0]
    simp only [roundW, permW, at0, List.set_cons_zero, List.getD_cons_zero, List.getD_cons_succ, Nat.reduceAdd, Nat.reduceMod]
  · rw [show permW 1 [q0, q1, q2, q3, q4, q5, q6, q7] = [q0, q1, q2, q3, q5, q6, q7, q4] from rfl, mix_out, ref_out_1]
    simp only [roundW, permW, at0, List.set_cons_zero, List.getD_cons_zero, List.getD_cons_succ, Nat.reduceAdd, Nat.reduceMod]
  · rw [show permW 2 [q0, q1, q2, q3, q4, q5, q6, q7] = [q0, q1, q2, q3, q6, q7, q4, q5] from rfl, mix_out, ref_out_2]
    simp only [roundW, permW, at0, List.set_cons_zero, List.getD_cons_zero, List.getD_cons_succ, Nat.reduceAdd, Nat.reduceMod]
  · rw [show permW 3 [q0, q1, q2, q3, q4, q5, q6, q7] = [q0, q1, q2, q3, q7, q4, q5, q6] from rfl, mix_out, ref_out_3]
    simp only [roundW, permW, at0, List.set_cons_zero, List.getD_cons_zero, List.getD_cons_succ, Nat.reduceAdd, Nat.reduceMod]

theorem perm_step (b r : Nat) (q0 q1 q2 q3 q4 q5 q6 q7 : Nat) :
    roundW (r + 1) (mixTo b (permW r [q0, q1, q2, q3, q4, q5, q6, q7]) 4) = permW (r + 1) ((mixRef b r [q0, q1, q2, q3, q4, q5, q6, q7] 4).set 0 (at0 (mixRef b r [q0, q1, q2, q3, q4, q5, q6, q7] 4) 0 ^^^ (r + 1))) := by
  rw [mixRef_mod b r, permW_mod r (r % 4) _ (by omega), permW_mod (r + 1) (r % 4 + 1) _ (by omega)]
  exact perm_at b (r + 1) (r % 4) (Nat.mod_lt _ (by decide)) q0 q1 q2 q3 q4 q5 q6 q7

theorem stir_perm (b : Nat) (L : List Nat) (r : Nat) (hL : L.length = 8) : stirTo b L r = permW r (refTo b L r) := by
  induction r with
  | zero =>
    obtain ⟨a0, a1, a2, a3, a4, a5, a6, a7, rfl⟩ := eight_of hL
    rfl
  | succ r ih =>
    obtain ⟨q0, q1, q2, q3, q4, q5, q6, q7, e⟩ := eight_of (show (refTo b L r).length = 8 by rw [refTo_length]; exact hL)
    show roundW (r + 1) (mixTo b (stirTo b L r) 4) = permW (r + 1) ((mixRef b r (refTo b L r) 4).set 0 (at0 (mixRef b r (refTo b L r) 4) 0 ^^^ (r + 1)))
    rw [ih, e]
    exact perm_step b r q0 q1 q2 q3 q4 q5 q6 q7

/-- One stirring. -/
def stirW (b : Nat) (L : List Nat) : List Nat := stirTo b L 8

theorem stir_same (b : Nat) (L : List Nat) (hL : L.length = 8) : refTo b L 8 = stirW b L := by
  unfold stirW
  rw [stir_perm b L 8 hL]
  obtain ⟨q0, q1, q2, q3, q4, q5, q6, q7, e⟩ := eight_of (show (refTo b L 8).length = 8 by rw [refTo_length]; exact hL)
  rw [e]
  rfl
end Go.Proofs.YtbncojflfnpikaaDoor
