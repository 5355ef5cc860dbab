/-
  sets.Digits at the sets with Bytes 8 and Wide 4, and a text of that length. sets.Digits at the sets with Bytes 4 and Wide 16, and a text of that length.
-/
import Derived.Test.YtgaoeoijdpdjiabGreatDoorPart8
import Derived.Test.YtgaoeoijdpdjiabGreatDoorPart9
import Derived.Test.YtgaoeoijdpdjiabGreatDoorPart11
namespace Go.Proofs.YtgaoeoijdpdjiabGreatDoor
open Go.RowKit
theorem slice_8_4 (g j : Nat) (hj : j < 8) (wx : World) : (Instr.slice 56 (.slice (some ⟨g, 0, none⟩) 36 36) (some (.int .i64 ((j : Int) * 4))) (some (.int .i64 (((j : Int) + 1) * 4))) none).run Tryz.prog wx = .ok (.slice (some ⟨g, j * 4, none⟩) 4 (36 - j * 4)) wx := by
  rcases (show j = 0 ∨ j = 1 ∨ j = 2 ∨ j = 3 ∨ j = 4 ∨ j = 5 ∨ j = 6 ∨ j = 7 by omega) with rfl | rfl | rfl | rfl | rfl | rfl | rfl | rfl <;> simp [go_sem]
set_option maxHeartbeats 1000000 in
theorem digits_8_4 (k t l : Int) (m : ByteArray) (w : World) (hk : k = 1 ∨ k = 2) (h1 : 1 ≤ t) (h2 : t ≤ 4) (h3 : 1 ≤ l) (h4 : l ≤ 3) (hm : m.size = 8) :
    Calls Tryz.prog 241 #[.agg #[.int .i64 k, .int .i64 8, .int .i64 4, .int .i64 t, .int .i64 l], .string m] w fun r w' =>
      ∃ g, r = .returned (.tuple #[.slice (some ⟨g, 0, none⟩) 36 36, .int .i64 0]) ∧ w.heap.size ≤ g ∧ RowZ w' g ((digitsN 4 4 4 (bytesN m)).map Int.ofNat) ∧ Below w.heap.size w w' := by
  have hmk : ∀ w : World, (Instr.makeSlice 56 (.int .i64 36) (.int .i64 36)).run Tryz.prog w = .ok (.slice (some ⟨w.heap.size, 0, none⟩) 36 36) (w.alloc (.cells #[.int .i64 0, .int .i64 0, .int .i64 0, .int .i64 0, .int .i64 0, .int .i64 0, .int .i64 0, .int .i64 0, .int .i64 0, .int .i64 0, .int .i64 0, .int .i64 0, .int .i64 0, .int .i64 0, .int .i64 0, .int .i64 0, .int .i64 0, .int .i64 0, .int .i64 0, .int .i64 0, .int .i64 0, .int .i64 0, .int .i64 0, .int .i64 0, .int .i64 0, .int .i64 0, .int .i64 0, .int .i64 0, .int .i64 0, .int .i64 0, .int .i64 0, .int .i64 0, .int .i64 0, .int .i64 0, .int .i64 0, .int .i64 0] 3)) := fun _ => by kernel_rfl
  have HM : Hid (m.size = 8) := hm
  have hms : ((m.size : Int) != 8) = false := by simp [hm]
  clear hm
  have HMT := measure_8_4 k t l (w.alloc (.cells #[.int .i64 k, .int .i64 8, .int .i64 4, .int .i64 t, .int .i64 l] 26)) hk h1 h2 h3 h4
  go_enter Tryz.func241, Tryz.ntmps241
  go_wp2_with fail
  refine HMT.mono ?_
  clear HMT
  rintro r w1 ⟨rfl, hb1⟩
  have hz1 := hb1.size
  simp at hz1
  have hz2 : w.heap.size < w1.heap.size := by omega
  have hz3 : ¬ w.heap.size = w1.heap.size := by omega
  have cx : w1.cell? ⟨w.heap.size, 2, none⟩ = some (.int .i64 4) := (hb1.cell (by simp)).trans (by simp [go_sem])
  have cb : w1.cell? ⟨w.heap.size, 1, none⟩ = some (.int .i64 8) := (hb1.cell (by simp)).trans (by simp [go_sem])
  have HB1 : Hid (Below w.heap.size w w1) := ((Below.refl _ _).alloc (Nat.le_refl _) _).trans (hb1.mono (by simp))
  clear hb1
  go_wp2_with fail
  refine (perByte_4 _).mono ?_
  rintro r w2 ⟨rfl, rfl⟩
  go_wp2
  have HR0 : Hid (RowZ ((w1.alloc (.cells #[.int .i64 32, .int .i64 4, .int .i64 36, .int .i64 (totalZ t l), .int .i64 (sigZ 8 4 t l), .int .i64 21] 158)).alloc (.cells #[.int .i64 0, .int .i64 0, .int .i64 0, .int .i64 0, .int .i64 0, .int .i64 0, .int .i64 0, .int .i64 0, .int .i64 0, .int .i64 0, .int .i64 0, .int .i64 0, .int .i64 0, .int .i64 0, .int .i64 0, .int .i64 0, .int .i64 0, .int .i64 0, .int .i64 0, .int .i64 0, .int .i64 0, .int .i64 0, .int .i64 0, .int .i64 0, .int .i64 0, .int .i64 0, .int .i64 0, .int .i64 0, .int .i64 0, .int .i64 0, .int .i64 0, .int .i64 0, .int .i64 0, .int .i64 0, .int .i64 0, .int .i64 0] 3)) (w1.heap.size + 1) (rowAt 4 4 36 (bytesN m) 0)) := by have h := row_new (w1.alloc (.cells #[.int .i64 32, .int .i64 4, .int .i64 36, .int .i64 (totalZ t l), .int .i64 (sigZ 8 4 t l), .int .i64 21] 158)) #[.int .i64 0, .int .i64 0, .int .i64 0, .int .i64 0, .int .i64 0, .int .i64 0, .int .i64 0, .int .i64 0, .int .i64 0, .int .i64 0, .int .i64 0, .int .i64 0, .int .i64 0, .int .i64 0, .int .i64 0, .int .i64 0, .int .i64 0, .int .i64 0, .int .i64 0, .int .i64 0, .int .i64 0, .int .i64 0, .int .i64 0, .int .i64 0, .int .i64 0, .int .i64 0, .int .i64 0, .int .i64 0, .int .i64 0, .int .i64 0, .int .i64 0, .int .i64 0, .int .i64 0, .int .i64 0, .int .i64 0, .int .i64 0] 4 4 36 (bytesN m) rfl; rw [World.size_alloc] at h; exact h
  have HB0 : Hid (Below w.heap.size w ((w1.alloc (.cells #[.int .i64 32, .int .i64 4, .int .i64 36, .int .i64 (totalZ t l), .int .i64 (sigZ 8 4 t l), .int .i64 21] 158)).alloc (.cells #[.int .i64 0, .int .i64 0, .int .i64 0, .int .i64 0, .int .i64 0, .int .i64 0, .int .i64 0, .int .i64 0, .int .i64 0, .int .i64 0, .int .i64 0, .int .i64 0, .int .i64 0, .int .i64 0, .int .i64 0, .int .i64 0, .int .i64 0, .int .i64 0, .int .i64 0, .int .i64 0, .int .i64 0, .int .i64 0, .int .i64 0, .int .i64 0, .int .i64 0, .int .i64 0, .int .i64 0, .int .i64 0, .int .i64 0, .int .i64 0, .int .i64 0, .int .i64 0, .int .i64 0, .int .i64 0, .int .i64 0, .int .i64 0] 3))) := (HB1.out.alloc (by omega) _).alloc (by simp; omega) _
  go_loopw [32] (fun i wr => ∃ j : Nat, j ≤ 8 ∧ i = .int .i64 j ∧ Hid (RowZ wr (w1.heap.size + 1) (rowAt 4 4 36 (bytesN m) j)) ∧ wr.cell? ⟨w.heap.size, 2, none⟩ = some (.int .i64 4) ∧ wr.cell? ⟨w1.heap.size, 0, none⟩ = some (.int .i64 32) ∧ Hid (Below w.heap.size w wr)) (fun i _ => 8 - (intOf i).toNat)
  case atStart => exact ⟨0, by omega, rfl, HR0, by simp [go_sem, World.cell?_alloc_past, hz2, cx], by simp [go_sem], HB0⟩
  case round =>
    obtain ⟨j, hj, rfl, hr, cx', cf', hb'⟩ := hrel
    have hms2 : m.size ≤ 8 := Nat.le_of_eq HM.out
    have hms3 : 8 ≤ m.size := Nat.le_of_eq HM.out.symm
    by_cases hlt : j < 8
    · have hlt2 : j < m.size := by omega
      have q0 : (0 : Int) ≤ (j : Int) := by omega
      have q1 : (j : Int) < (m.size : Int) := by omega
      have v1 : IntKind.i64.wrap ((j : Int) * 4) = (j : Int) * 4 := by rw [IntKind.wrap_i64] <;> omega
      have v2 : IntKind.i64.wrap ((j : Int) + 1) = (j : Int) + 1 := by rw [IntKind.wrap_i64] <;> omega
      have v3 : IntKind.i64.wrap (((j : Int) + 1) * 4) = ((j : Int) + 1) * 4 := by rw [IntKind.wrap_i64] <;> omega
      have hsl : ∀ wx : World, (Instr.slice 56 (.slice (some ⟨w1.heap.size + 1, 0, none⟩) 36 36) (some (.int .i64 ((j : Int) * 4))) (some (.int .i64 (((j : Int) + 1) * 4))) none).run Tryz.prog wx = .ok (.slice (some ⟨w1.heap.size + 1, j * 4, none⟩) 4 (36 - j * 4)) wx := slice_8_4 _ j hlt
      have hcv : IntKind.i64.wrap ((m[j].toNat : Nat) : Int) = ((m[j].toNat : Nat) : Int) := by have := UInt8.toNat_lt m[j]; rw [IntKind.wrap_i64] <;> omega
      have HL := hideM (lay_any (w1.heap.size + 1) (j * 4) 4 (36 - j * 4) (m[j].toNat) 4 (rowAt 4 4 36 (bytesN m) j) wr.drew hr.out.drew (by rw [rowAt_length _ _ _ _ _ (by rw [bytesN_length]; omega) (by omega)]; omega) (by rw [rowAt_length _ _ _ _ _ (by rw [bytesN_length]; omega) (by omega)]; decide) (by decide) (by decide) (by have := UInt8.toNat_lt m[j]; omega))
      have HS := hideM (rowAt_step 4 4 36 (bytesN m) j (by rw [bytesN_length]; omega) (by omega))
      have HY := hideM (byte_at m j hlt2)
      go_wp2
      go_region_held3 (fun w' => w'.cell? ⟨w.heap.size, 2, none⟩ = some (.int .i64 4)) (first | exact cx3 | simp [go_sem, cx']) ((go_at_call 283; refine HL.out.mono ?_; rintro r w3 ⟨rfl, hr3, ho3⟩; have cx3 : w3.cell? ⟨w.heap.size, 2, none⟩ = some (.int .i64 4) := (ho3.cell (by simp; omega)).trans (by simp [go_sem, cx'])))
      have HR3 := hideM hr3
      have HO3 := hideM ho3
      clear hr3 ho3
      go_wp2
      go_roundw
      case rel =>
        have h := HR3.out
        rw [← HY.out, HS.out] at h
        have R : ∃ i : Nat, i ≤ 8 ∧ Value.int .i64 ((j : Int) + 1) = .int .i64 i ∧ Hid (RowZ w3 (w1.heap.size + 1) (rowAt 4 4 36 (bytesN m) i)) ∧ w3.cell? ⟨w.heap.size, 2, none⟩ = some (.int .i64 4) ∧ w3.cell? ⟨w1.heap.size, 0, none⟩ = some (.int .i64 32) ∧ Hid (Below w.heap.size w w3) :=
          ⟨j + 1, by omega, by go_num, h, cx3, (HO3.out.cell (by simp)).trans (by simp [go_sem, cf']), OnlyM.below hb'.out.drew HO3.out (by omega)⟩
        first | exact R | ((repeat apply Exists.intro); exact ⟨R, rfl⟩)
      case measure => simp [intOf]; omega
    · obtain rfl : j = 8 := by omega
      have e0 : (bytesN m).length = 8 := by rw [bytesN_length]; exact HM.out
      have ht := rowAt_take 4 4 36 (bytesN m)
      have hla := rowAt_last 4 4 4 36 (bytesN m) (by rw [e0])
      rw [e0] at ht hla
      have HLK := hideM (lack_any (w1.heap.size + 1) 32 36 4 (rowAt 4 4 36 (bytesN m) 8) (firsts 4 4 (bytesN m)) wr.drew hr.out.drew ht (by rw [firsts_length, e0]) (by decide) (by decide) (by decide) (firsts_lt _ _ _ (by decide)))
      have hlk : lackN 4 (firsts 4 4 (bytesN m)) ≤ 96 := by have := lackN_le 4 (firsts 4 4 (bytesN m)); rw [firsts_length, e0] at this; omega
      have HL := hideM (lay_any (w1.heap.size + 1) 32 4 4 (lackN 4 (firsts 4 4 (bytesN m))) 4 (rowAt 4 4 36 (bytesN m) 8) wr.drew hr.out.drew (by rw [rowAt_length _ _ _ _ _ (by rw [e0]; exact Nat.le_refl _) (by decide)]; decide) (by rw [rowAt_length _ _ _ _ _ (by rw [e0]; exact Nat.le_refl _) (by decide)]; decide) (by decide) (by decide) (by omega))
      have HLA := hideM hla
      clear hla ht hlk e0
      go_wp2
      go_region_held3 (fun w' => w'.cell? ⟨w.heap.size, 2, none⟩ = some (.int .i64 4) ∧ w'.cell? ⟨w1.heap.size, 0, none⟩ = some (.int .i64 32)) (first | exact ⟨cx3, cf3⟩ | simp [go_sem, cx', cf']) (first | (go_at_call 284; refine HLK.out.mono ?_; rintro r w3 ⟨rfl, rfl⟩) | (go_at_call 283; refine HL.out.mono ?_; rintro r w3 ⟨rfl, hr3, ho3⟩; have cx3 : w3.cell? ⟨w.heap.size, 2, none⟩ = some (.int .i64 4) := (ho3.cell (by simp; omega)).trans (by simp [go_sem, cx']); have cf3 : w3.cell? ⟨w1.heap.size, 0, none⟩ = some (.int .i64 32) := (ho3.cell (by simp)).trans (by simp [go_sem, cf'])))
      have HR3 := hideM hr3
      have HO3 := hideM ho3
      clear hr3 ho3
      go_wp2
      go_ret2
      refine ⟨w1.heap.size + 1, rfl, by omega, ?_, OnlyM.below hb'.out.drew HO3.out (by omega)⟩
      have h := HR3.out
      rw [HLA.out] at h
      exact h
end Go.Proofs.YtgaoeoijdpdjiabGreatDoor

namespace Go.Proofs.YtgaoeoijdpdjiabGreatDoor
open Go.RowKit
theorem slice_4_16 (g j : Nat) (hj : j < 4) (wx : World) : (Instr.slice 56 (.slice (some ⟨g, 0, none⟩) 10 10) (some (.int .i64 ((j : Int) * 2))) (some (.int .i64 (((j : Int) + 1) * 2))) none).run Tryz.prog wx = .ok (.slice (some ⟨g, j * 2, none⟩) 2 (10 - j * 2)) wx := by
  rcases (show j = 0 ∨ j = 1 ∨ j = 2 ∨ j = 3 by omega) with rfl | rfl | rfl | rfl <;> simp [go_sem]
set_option maxHeartbeats 1000000 in
theorem digits_4_16 (k t l : Int) (m : ByteArray) (w : World) (hk : k = 1 ∨ k = 2) (h1 : 1 ≤ t) (h2 : t ≤ 4) (h3 : 1 ≤ l) (h4 : l ≤ 3) (hm : m.size = 4) :
    Calls Tryz.prog 241 #[.agg #[.int .i64 k, .int .i64 4, .int .i64 16, .int .i64 t, .int .i64 l], .string m] w fun r w' =>
      ∃ g, r = .returned (.tuple #[.slice (some ⟨g, 0, none⟩) 10 10, .int .i64 0]) ∧ w.heap.size ≤ g ∧ RowZ w' g ((digitsN 16 2 2 (bytesN m)).map Int.ofNat) ∧ Below w.heap.size w w' := by
  have hmk : ∀ w : World, (Instr.makeSlice 56 (.int .i64 10) (.int .i64 10)).run Tryz.prog w = .ok (.slice (some ⟨w.heap.size, 0, none⟩) 10 10) (w.alloc (.cells #[.int .i64 0, .int .i64 0, .int .i64 0, .int .i64 0, .int .i64 0, .int .i64 0, .int .i64 0, .int .i64 0, .int .i64 0, .int .i64 0] 3)) := fun _ => by kernel_rfl
  have HM : Hid (m.size = 4) := hm
  have hms : ((m.size : Int) != 4) = false := by simp [hm]
  clear hm
  have HMT := measure_4_16 k t l (w.alloc (.cells #[.int .i64 k, .int .i64 4, .int .i64 16, .int .i64 t, .int .i64 l] 26)) hk h1 h2 h3 h4
  go_enter Tryz.func241, Tryz.ntmps241
  go_wp2_with fail
  refine HMT.mono ?_
  clear HMT
  rintro r w1 ⟨rfl, hb1⟩
  have hz1 := hb1.size
  simp at hz1
  have hz2 : w.heap.size < w1.heap.size := by omega
  have hz3 : ¬ w.heap.size = w1.heap.size := by omega
  have cx : w1.cell? ⟨w.heap.size, 2, none⟩ = some (.int .i64 16) := (hb1.cell (by simp)).trans (by simp [go_sem])
  have cb : w1.cell? ⟨w.heap.size, 1, none⟩ = some (.int .i64 4) := (hb1.cell (by simp)).trans (by simp [go_sem])
  have HB1 : Hid (Below w.heap.size w w1) := ((Below.refl _ _).alloc (Nat.le_refl _) _).trans (hb1.mono (by simp))
  clear hb1
  go_wp2_with fail
  refine (perByte_16 _).mono ?_
  rintro r w2 ⟨rfl, rfl⟩
  go_wp2
  have HR0 : Hid (RowZ ((w1.alloc (.cells #[.int .i64 8, .int .i64 2, .int .i64 10, .int .i64 (totalZ t l), .int .i64 (sigZ 4 16 t l), .int .i64 13] 158)).alloc (.cells #[.int .i64 0, .int .i64 0, .int .i64 0, .int .i64 0, .int .i64 0, .int .i64 0, .int .i64 0, .int .i64 0, .int .i64 0, .int .i64 0] 3)) (w1.heap.size + 1) (rowAt 16 2 10 (bytesN m) 0)) := by have h := row_new (w1.alloc (.cells #[.int .i64 8, .int .i64 2, .int .i64 10, .int .i64 (totalZ t l), .int .i64 (sigZ 4 16 t l), .int .i64 13] 158)) #[.int .i64 0, .int .i64 0, .int .i64 0, .int .i64 0, .int .i64 0, .int .i64 0, .int .i64 0, .int .i64 0, .int .i64 0, .int .i64 0] 16 2 10 (bytesN m) rfl; rw [World.size_alloc] at h; exact h
  have HB0 : Hid (Below w.heap.size w ((w1.alloc (.cells #[.int .i64 8, .int .i64 2, .int .i64 10, .int .i64 (totalZ t l), .int .i64 (sigZ 4 16 t l), .int .i64 13] 158)).alloc (.cells #[.int .i64 0, .int .i64 0, .int .i64 0, .int .i64 0, .int .i64 0, .int .i64 0, .int .i64 0, .int .i64 0, .int .i64 0, .int .i64 0] 3))) := (HB1.out.alloc (by omega) _).alloc (by simp; omega) _
  go_loopw [32] (fun i wr => ∃ j : Nat, j ≤ 4 ∧ i = .int .i64 j ∧ Hid (RowZ wr (w1.heap.size + 1) (rowAt 16 2 10 (bytesN m) j)) ∧ wr.cell? ⟨w.heap.size, 2, none⟩ = some (.int .i64 16) ∧ wr.cell? ⟨w1.heap.size, 0, none⟩ = some (.int .i64 8) ∧ Hid (Below w.heap.size w wr)) (fun i _ => 4 - (intOf i).toNat)
  case atStart => exact ⟨0, by omega, rfl, HR0, by simp [go_sem, World.cell?_alloc_past, hz2, cx], by simp [go_sem], HB0⟩
  case round =>
    obtain ⟨j, hj, rfl, hr, cx', cf', hb'⟩ := hrel
    have hms2 : m.size ≤ 4 := Nat.le_of_eq HM.out
    have hms3 : 4 ≤ m.size := Nat.le_of_eq HM.out.symm
    by_cases hlt : j < 4
    · have hlt2 : j < m.size := by omega
      have q0 : (0 : Int) ≤ (j : Int) := by omega
      have q1 : (j : Int) < (m.size : Int) := by omega
      have v1 : IntKind.i64.wrap ((j : Int) * 2) = (j : Int) * 2 := by rw [IntKind.wrap_i64] <;> omega
      have v2 : IntKind.i64.wrap ((j : Int) + 1) = (j : Int) + 1 := by rw [IntKind.wrap_i64] <;> omega
      have v3 : IntKind.i64.wrap (((j : Int) + 1) * 2) = ((j : Int) + 1) * 2 := by rw [IntKind.wrap_i64] <;> omega
      have hsl : ∀ wx : World, (Instr.slice 56 (.slice (some ⟨w1.heap.size + 1, 0, none⟩) 10 10) (some (.int .i64 ((j : Int) * 2))) (some (.int .i64 (((j : Int) + 1) * 2))) none).run Tryz.prog wx = .ok (.slice (some ⟨w1.heap.size + 1, j * 2, none⟩) 2 (10 - j * 2)) wx := slice_4_16 _ j hlt
      have hcv : IntKind.i64.wrap ((m[j].toNat : Nat) : Int) = ((m[j].toNat : Nat) : Int) := by have := UInt8.toNat_lt m[j]; rw [IntKind.wrap_i64] <;> omega
      have HL := hideM (lay_any (w1.heap.size + 1) (j * 2) 2 (10 - j * 2) (m[j].toNat) 16 (rowAt 16 2 10 (bytesN m) j) wr.drew hr.out.drew (by rw [rowAt_length _ _ _ _ _ (by rw [bytesN_length]; omega) (by omega)]; omega) (by rw [rowAt_length _ _ _ _ _ (by rw [bytesN_length]; omega) (by omega)]; decide) (by decide) (by decide) (by have := UInt8.toNat_lt m[j]; omega))
      have HS := hideM (rowAt_step 16 2 10 (bytesN m) j (by rw [bytesN_length]; omega) (by omega))
      have HY := hideM (byte_at m j hlt2)
      go_wp2
      go_region_held3 (fun w' => w'.cell? ⟨w.heap.size, 2, none⟩ = some (.int .i64 16)) (first | exact cx3 | simp [go_sem, cx']) ((go_at_call 283; refine HL.out.mono ?_; rintro r w3 ⟨rfl, hr3, ho3⟩; have cx3 : w3.cell? ⟨w.heap.size, 2, none⟩ = some (.int .i64 16) := (ho3.cell (by simp; omega)).trans (by simp [go_sem, cx'])))
      have HR3 := hideM hr3
      have HO3 := hideM ho3
      clear hr3 ho3
      go_wp2
      go_roundw
      case rel =>
        have h := HR3.out
        rw [← HY.out, HS.out] at h
        have R : ∃ i : Nat, i ≤ 4 ∧ Value.int .i64 ((j : Int) + 1) = .int .i64 i ∧ Hid (RowZ w3 (w1.heap.size + 1) (rowAt 16 2 10 (bytesN m) i)) ∧ w3.cell? ⟨w.heap.size, 2, none⟩ = some (.int .i64 16) ∧ w3.cell? ⟨w1.heap.size, 0, none⟩ = some (.int .i64 8) ∧ Hid (Below w.heap.size w w3) :=
          ⟨j + 1, by omega, by go_num, h, cx3, (HO3.out.cell (by simp)).trans (by simp [go_sem, cf']), OnlyM.below hb'.out.drew HO3.out (by omega)⟩
        first | exact R | ((repeat apply Exists.intro); exact ⟨R, rfl⟩)
      case measure => simp [intOf]; omega
    · obtain rfl : j = 4 := by omega
      have e0 : (bytesN m).length = 4 := by rw [bytesN_length]; exact HM.out
      have ht := rowAt_take 16 2 10 (bytesN m)
      have hla := rowAt_last 16 2 2 10 (bytesN m) (by rw [e0])
      rw [e0] at ht hla
      have HLK := hideM (lack_any (w1.heap.size + 1) 8 10 16 (rowAt 16 2 10 (bytesN m) 4) (firsts 16 2 (bytesN m)) wr.drew hr.out.drew ht (by rw [firsts_length, e0]) (by decide) (by decide) (by decide) (firsts_lt _ _ _ (by decide)))
      have hlk : lackN 16 (firsts 16 2 (bytesN m)) ≤ 120 := by have := lackN_le 16 (firsts 16 2 (bytesN m)); rw [firsts_length, e0] at this; omega
      have HL := hideM (lay_any (w1.heap.size + 1) 8 2 2 (lackN 16 (firsts 16 2 (bytesN m))) 16 (rowAt 16 2 10 (bytesN m) 4) wr.drew hr.out.drew (by rw [rowAt_length _ _ _ _ _ (by rw [e0]; exact Nat.le_refl _) (by decide)]; decide) (by rw [rowAt_length _ _ _ _ _ (by rw [e0]; exact Nat.le_refl _) (by decide)]; decide) (by decide) (by decide) (by omega))
      have HLA := hideM hla
      clear hla ht hlk e0
      go_wp2
      go_region_held3 (fun w' => w'.cell? ⟨w.heap.size, 2, none⟩ = some (.int .i64 16) ∧ w'.cell? ⟨w1.heap.size, 0, none⟩ = some (.int .i64 8)) (first | exact ⟨cx3, cf3⟩ | simp [go_sem, cx', cf']) (first | (go_at_call 284; refine HLK.out.mono ?_; rintro r w3 ⟨rfl, rfl⟩) | (go_at_call 283; refine HL.out.mono ?_; rintro r w3 ⟨rfl, hr3, ho3⟩; have cx3 : w3.cell? ⟨w.heap.size, 2, none⟩ = some (.int .i64 16) := (ho3.cell (by simp; omega)).trans (by simp [go_sem, cx']); have cf3 : w3.cell? ⟨w1.heap.size, 0, none⟩ = some (.int .i64 8) := (ho3.cell (by simp)).trans (by simp [go_sem, cf'])))
      have HR3 := hideM hr3
      have HO3 := hideM ho3
      clear hr3 ho3
      go_wp2
      go_ret2
      refine ⟨w1.heap.size + 1, rfl, by omega, ?_, OnlyM.below hb'.out.drew HO3.out (by omega)⟩
      have h := HR3.out
      rw [HLA.out] at h
      exact h
end Go.Proofs.YtgaoeoijdpdjiabGreatDoor
