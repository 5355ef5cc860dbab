/-
  sets.Digits at the sets with Bytes 4 and Wide 16, and a text of that length. sets.Digits at the sets with Bytes 8 and Wide 16, and a text of that length. The program's text over words of 32 bits: the bytes of the first four. The program's text over words of 64 bits: the bytes of the first four. Texts one behind the other; strings.Join without a separator. sets.Measure and the document's sizes, at every set. Seeds and a place that come in by value, with their bounds.
-/
import Derived.Test.YtgaoeoijdpdjiabGreatDoorPart8
import Derived.Test.YtgaoeoijdpdjiabGreatDoorPart11
import Derived.Test.YtgaoeoijdpdjiabGreatDoorPart10
import Derived.Test.YtgaoeoijdpdjiabGreatDoorPart1
import Derived.Test.YtgaoeoijdpdjiabGreatDoorPart9
import Derived.Test.YtgaoeoijdpdjiabGreatDoorPart3
namespace Go.Proofs.YtgaoeoijdpdjiabGreatDoor
open Go.RowKit

theorem slice_4_16 (g j : Nat) (hj : j < 4) (wx : World) : (Instr.slice 56 (.slice (some ⟨g, 0, none⟩) 10 10) (some (.int .i64 ((j : Int) * 2))) (some (.int .i64 (((j : Int) + 1) * 2))) none).run Tryz.prog wx = .ok (.slice (some ⟨g, j * 2, none⟩) 2 (10 - j * 2)) wx := by
  rcases (show j = 0 ∨ j = 1 ∨ j = 2 ∨ j = 3 by omega) with rfl | rfl | rfl | rfl <;> simp [go_sem]

set_option maxHeartbeats 1000000 in
theorem digits_4_16 (k t l : Int) (m : ByteArray) (w : World) (hk : k = 1 ∨ k = 2) (h1 : 1 ≤ t) (h2 : t ≤ 4) (h3 : 1 ≤ l) (h4 : l ≤ 3) (hm : m.size = 4) :
    Calls Tryz.prog 241 #[.agg #[.int .i64 k, .int .i64 4, .int .i64 16, .int .i64 t, .int .i64 l], .string m] w fun r w' =>
      ∃ g, r = .returned (.tuple #[.slice (some ⟨g, 0, none⟩) 10 10, .int .i64 0]) ∧ w.heap.size ≤ g ∧ RowZ w' g ((digitsN 16 2 2 (bytesN m)).map Int.ofNat) ∧ Below w.heap.size w w' := by
  have hmk : ∀ w : World, (Instr.makeSlice 56 (.int .i64 10) (.int .i64 10)).run Tryz.prog w = .ok (.slice (some ⟨w.heap.size, 0, none⟩) 10 10) (w.alloc (.cells #[.int .i64 0, .int .i64 0, .int .i64 0, .int .i64 0, .int .i64 0, .int .i64 0, .int .i64 0, .int .i64 0, .int .i64 0, .int .i64 0] 3)) := fun _ => by kernel_rfl
  have HM : Hid (m.size = 4) := hm
  have hms : ((m.size : Int) != 4) = false := by simp [hm]
  clear hm
  have HMT := measure_4_16 k t l (w.alloc (.cells #[.int .i64 k, .int .i64 4, .int .i64 16, .int .i64 t, .int .i64 l] 26)) hk h1 h2 h3 h4
  go_enter Tryz.func241, Tryz.ntmps241
  go_wp2_with fail
  refine HMT.mono ?_
  clear HMT
  rintro r w1 ⟨rfl, hb1⟩
  have hz1 := hb1.size
  simp at hz1
  have hz2 : w.heap.size < w1.heap.size := by omega
  have hz3 : ¬ w.heap.size = w1.heap.size := by omega
  have cx : w1.cell? ⟨w.heap.size, 2, none⟩ = some (.int .i64 16) := (hb1.cell (by simp)).trans (by simp [go_sem])
  have cb : w1.cell? ⟨w.heap.size, 1, none⟩ = some (.int .i64 4) := (hb1.cell (by simp)).trans (by simp [go_sem])
  have HB1 : Hid (Below w.heap.size w w1) := ((Below.refl _ _).alloc (Nat.le_refl _) _).trans (hb1.mono (by simp))
  clear hb1
  go_wp2_with fail
  refine (perByte_16 _).mono ?_
  rintro r w2 ⟨rfl, rfl⟩
  go_wp2
  have HR0 : Hid (RowZ ((w1.alloc (.cells #[.int .i64 8, .int .i64 2, .int .i64 10, .int .i64 (totalZ t l), .int .i64 (sigZ 4 16 t l), .int .i64 13] 158)).alloc (.cells #[.int .i64 0, .int .i64 0, .int .i64 0, .int .i64 0, .int .i64 0, .int .i64 0, .int .i64 0, .int .i64 0, .int .i64 0, .int .i64 0] 3)) (w1.heap.size + 1) (rowAt 16 2 10 (bytesN m) 0)) := by have h := row_new (w1.alloc (.cells #[.int .i64 8, .int .i64 2, .int .i64 10, .int .i64 (totalZ t l), .int .i64 (sigZ 4 16 t l), .int .i64 13] 158)) #[.int .i64 0, .int .i64 0, .int .i64 0, .int .i64 0, .int .i64 0, .int .i64 0, .int .i64 0, .int .i64 0, .int .i64 0, .int .i64 0] 16 2 10 (bytesN m) rfl; rw [World.size_alloc] at h; exact h
  have HB0 : Hid (Below w.heap.size w ((w1.alloc (.cells #[.int .i64 8, .int .i64 2, .int .i64 10, .int .i64 (totalZ t l), .int .i64 (sigZ 4 16 t l), .int .i64 13] 158)).alloc (.cells #[.int .i64 0, .int .i64 0, .int .i64 0, .int .i64 0, .int .i64 0, .int .i64 0, .int .i64 0, .int .i64 0, .int .i64 0, .int .i64 0] 3))) := (HB1.out.alloc (by omega) _).alloc (by simp; omega) _
  go_loopw [32] (fun i wr => ∃ j : Nat, j ≤ 4 ∧ i = .int .i64 j ∧ Hid (RowZ wr (w1.heap.size + 1) (rowAt 16 2 10 (bytesN m) j)) ∧ wr.cell? ⟨w.heap.size, 2, none⟩ = some (.int .i64 16) ∧ wr.cell? ⟨w1.heap.size, 0, none⟩ = some (.int .i64 8) ∧ Hid (Below w.heap.size w wr)) (fun i _ => 4 - (intOf i).toNat)
  case atStart => exact ⟨0, by omega, rfl, HR0, by simp [go_sem, World.cell?_alloc_past, hz2, cx], by simp [go_sem], HB0⟩
  case round =>
    obtain ⟨j, hj, rfl, hr, cx', cf', hb'⟩ := hrel
    have hms2 : m.size ≤ 4 := Nat.le_of_eq HM.out
    have hms3 : 4 ≤ m.size := Nat.le_of_eq HM.out.symm
    by_cases hlt : j < 4
    · have hlt2 : j < m.size := by omega
      have q0 : (0 : Int) ≤ (j : Int) := by omega
      have q1 : (j : Int) < (m.size : Int) := by omega
      have v1 : IntKind.i64.wrap ((j : Int) * 2) = (j : Int) * 2 := by rw [IntKind.wrap_i64] <;> omega
      have v2 : IntKind.i64.wrap ((j : Int) + 1) = (j : Int) + 1 := by rw [IntKind.wrap_i64] <;> omega
      have v3 : IntKind.i64.wrap (((j : Int) + 1) * 2) = ((j : Int) + 1) * 2 := by rw [IntKind.wrap_i64] <;> omega
      have hsl : ∀ wx : World, (Instr.slice 56 (.slice (some ⟨w1.heap.size + 1, 0, none⟩) 10 10) (some (.int .i64 ((j : Int) * 2))) (some (.int .i64 (((j : Int) + 1) * 2))) none).run Tryz.prog wx = .ok (.slice (some ⟨w1.heap.size + 1, j * 2, none⟩) 2 (10 - j * 2)) wx := slice_4_16 _ j hlt
      have hcv : IntKind.i64.wrap ((m[j].toNat : Nat) : Int) = ((m[j].toNat : Nat) : Int) := by have := UInt8.toNat_lt m[j]; rw [IntKind.wrap_i64] <;> omega
      have HL := hideM (lay_any (w1.heap.size + 1) (j * 2) 2 (10 - j * 2) (m[j].toNat) 16 (rowAt 16 2 10 (bytesN m) j) wr.drew hr.out.drew (by rw [rowAt_length _ _ _ _ _ (by rw [bytesN_length]; omega) (by omega)]; omega) (by rw [rowAt_length _ _ _ _ _ (by rw [bytesN_length]; omega) (by omega)]; decide) (by decide) (by decide) (by have := UInt8.toNat_lt m[j]; omega))
      have HS := hideM (rowAt_step 16 2 10 (bytesN m) j (by rw [bytesN_length]; omega) (by omega))
      have HY := hideM (byte_at m j hlt2)
      go_wp2
      go_region_held3 (fun w' => w'.cell? ⟨w.heap.size, 2, none⟩ = some (.int .i64 16)) (first | exact cx3 | simp [go_sem, cx']) ((go_at_call 283; refine HL.out.mono ?_; rintro r w3 ⟨rfl, hr3, ho3⟩; have cx3 : w3.cell? ⟨w.heap.size, 2, none⟩ = some (.int .i64 16) := (ho3.cell (by simp; omega)).trans (by simp [go_sem, cx'])))
      have HR3 := hideM hr3
      have HO3 := hideM ho3
      clear hr3 ho3
      go_wp2
      go_roundw
      case rel =>
        have h := HR3.out
        rw [← HY.out, HS.out] at h
        have R : ∃ i : Nat, i ≤ 4 ∧ Value.int .i64 ((j : Int) + 1) = .int .i64 i ∧ Hid (RowZ w3 (w1.heap.size + 1) (rowAt 16 2 10 (bytesN m) i)) ∧ w3.cell? ⟨w.heap.size, 2, none⟩ = some (.int .i64 16) ∧ w3.cell? ⟨w1.heap.size, 0, none⟩ = some (.int .i64 8) ∧ Hid (Below w.heap.size w w3) :=
          ⟨j + 1, by omega, by go_num, h, cx3, (HO3.out.cell (by simp)).trans (by simp [go_sem, cf']), OnlyM.below hb'.out.drew HO3.out (by omega)⟩
        first | exact R | ((repeat apply Exists.intro); exact ⟨R, rfl⟩)
      case measure => simp [intOf]; omega
    · obtain rfl : j = 4 := by omega
      have e0 : (bytesN m).length = 4 := by rw [bytesN_length]; exact HM.out
      have ht := rowAt_take 16 2 10 (bytesN m)
      have hla := rowAt_last 16 2 2 10 (bytesN m) (by rw [e0])
      rw [e0] at ht hla
      have HLK := hideM (lack_any (w1.heap.size + 1) 8 10 16 (rowAt 16 2 10 (bytesN m) 4) (firsts 16 2 (bytesN m)) wr.drew hr.out.drew ht (by rw [firsts_length, e0]) (by decide) (by decide) (by decide) (firsts_lt _ _ _ (by decide)))
      have hlk : lackN 16 (firsts 16 2 (bytesN m)) ≤ 120 := by have := lackN_le 16 (firsts 16 2 (bytesN m)); rw [firsts_length, e0] at this; omega
      have HL := hideM (lay_any (w1.heap.size + 1) 8 2 2 (lackN 16 (firsts 16 2 (bytesN m))) 16 (rowAt 16 2 10 (bytesN m) 4) wr.drew hr.out.drew (by rw [rowAt_length _ _ _ _ _ (by rw [e0]; exact Nat.le_refl _) (by decide)]; decide) (by rw [rowAt_length _ _ _ _ _ (by rw [e0]; exact Nat.le_refl _) (by decide)]; decide) (by decide) (by decide) (by omega))
      have HLA := hideM hla
      clear hla ht hlk e0
      go_wp2
      go_region_held3 (fun w' => w'.cell? ⟨w.heap.size, 2, none⟩ = some (.int .i64 16) ∧ w'.cell? ⟨w1.heap.size, 0, none⟩ = some (.int .i64 8)) (first | exact ⟨cx3, cf3⟩ | simp [go_sem, cx', cf']) (first | (go_at_call 284; refine HLK.out.mono ?_; rintro r w3 ⟨rfl, rfl⟩) | (go_at_call 283; refine HL.out.mono ?_; rintro r w3 ⟨rfl, hr3, ho3⟩; have cx3 : w3.cell? ⟨w.heap.size, 2, none⟩ = some (.int .i64 16) := (ho3.cell (by simp; omega)).trans (by simp [go_sem, cx']); have cf3 : w3.cell? ⟨w1.heap.size, 0, none⟩ = some (.int .i64 8) := (ho3.cell (by simp)).trans (by simp [go_sem, cf'])))
      have HR3 := hideM hr3
      have HO3 := hideM ho3
      clear hr3 ho3
      go_wp2
      go_ret2
      refine ⟨w1.heap.size + 1, rfl, by omega, ?_, OnlyM.below hb'.out.drew HO3.out (by omega)⟩
      have h := HR3.out
      rw [HLA.out] at h
      exact h
end Go.Proofs.YtgaoeoijdpdjiabGreatDoor

namespace Go.Proofs.YtgaoeoijdpdjiabGreatDoor
open Go.RowKit

theorem slice_8_16 (g j : Nat) (hj : j < 8) (wx : World) : (Instr.slice 56 (.slice (some ⟨g, 0, none⟩) 18 18) (some (.int .i64 ((j : Int) * 2))) (some (.int .i64 (((j : Int) + 1) * 2))) none).run Tryz.prog wx = .ok (.slice (some ⟨g, j * 2, none⟩) 2 (18 - j * 2)) wx := by
  rcases (show j = 0 ∨ j = 1 ∨ j = 2 ∨ j = 3 ∨ j = 4 ∨ j = 5 ∨ j = 6 ∨ j = 7 by omega) with rfl | rfl | rfl | rfl | rfl | rfl | rfl | rfl <;> simp [go_sem]

set_option maxHeartbeats 1000000 in
theorem digits_8_16 (k t l : Int) (m : ByteArray) (w : World) (hk : k = 1 ∨ k = 2) (h1 : 1 ≤ t) (h2 : t ≤ 4) (h3 : 1 ≤ l) (h4 : l ≤ 3) (hm : m.size = 8) :
    Calls Tryz.prog 241 #[.agg #[.int .i64 k, .int .i64 8, .int .i64 16, .int .i64 t, .int .i64 l], .string m] w fun r w' =>
      ∃ g, r = .returned (.tuple #[.slice (some ⟨g, 0, none⟩) 18 18, .int .i64 0]) ∧ w.heap.size ≤ g ∧ RowZ w' g ((digitsN 16 2 2 (bytesN m)).map Int.ofNat) ∧ Below w.heap.size w w' := by
  have hmk : ∀ w : World, (Instr.makeSlice 56 (.int .i64 18) (.int .i64 18)).run Tryz.prog w = .ok (.slice (some ⟨w.heap.size, 0, none⟩) 18 18) (w.alloc (.cells #[.int .i64 0, .int .i64 0, .int .i64 0, .int .i64 0, .int .i64 0, .int .i64 0, .int .i64 0, .int .i64 0, .int .i64 0, .int .i64 0, .int .i64 0, .int .i64 0, .int .i64 0, .int .i64 0, .int .i64 0, .int .i64 0, .int .i64 0, .int .i64 0] 3)) := fun _ => by kernel_rfl
  have HM : Hid (m.size = 8) := hm
  have hms : ((m.size : Int) != 8) = false := by simp [hm]
  clear hm
  have HMT := measure_8_16 k t l (w.alloc (.cells #[.int .i64 k, .int .i64 8, .int .i64 16, .int .i64 t, .int .i64 l] 26)) hk h1 h2 h3 h4
  go_enter Tryz.func241, Tryz.ntmps241
  go_wp2_with fail
  refine HMT.mono ?_
  clear HMT
  rintro r w1 ⟨rfl, hb1⟩
  have hz1 := hb1.size
  simp at hz1
  have hz2 : w.heap.size < w1.heap.size := by omega
  have hz3 : ¬ w.heap.size = w1.heap.size := by omega
  have cx : w1.cell? ⟨w.heap.size, 2, none⟩ = some (.int .i64 16) := (hb1.cell (by simp)).trans (by simp [go_sem])
  have cb : w1.cell? ⟨w.heap.size, 1, none⟩ = some (.int .i64 8) := (hb1.cell (by simp)).trans (by simp [go_sem])
  have HB1 : Hid (Below w.heap.size w w1) := ((Below.refl _ _).alloc (Nat.le_refl _) _).trans (hb1.mono (by simp))
  clear hb1
  go_wp2_with fail
  refine (perByte_16 _).mono ?_
  rintro r w2 ⟨rfl, rfl⟩
  go_wp2
  have HR0 : Hid (RowZ ((w1.alloc (.cells #[.int .i64 16, .int .i64 2, .int .i64 18, .int .i64 (totalZ t l), .int .i64 (sigZ 8 16 t l), .int .i64 21] 158)).alloc (.cells #[.int .i64 0, .int .i64 0, .int .i64 0, .int .i64 0, .int .i64 0, .int .i64 0, .int .i64 0, .int .i64 0, .int .i64 0, .int .i64 0, .int .i64 0, .int .i64 0, .int .i64 0, .int .i64 0, .int .i64 0, .int .i64 0, .int .i64 0, .int .i64 0] 3)) (w1.heap.size + 1) (rowAt 16 2 18 (bytesN m) 0)) := by have h := row_new (w1.alloc (.cells #[.int .i64 16, .int .i64 2, .int .i64 18, .int .i64 (totalZ t l), .int .i64 (sigZ 8 16 t l), .int .i64 21] 158)) #[.int .i64 0, .int .i64 0, .int .i64 0, .int .i64 0, .int .i64 0, .int .i64 0, .int .i64 0, .int .i64 0, .int .i64 0, .int .i64 0, .int .i64 0, .int .i64 0, .int .i64 0, .int .i64 0, .int .i64 0, .int .i64 0, .int .i64 0, .int .i64 0] 16 2 18 (bytesN m) rfl; rw [World.size_alloc] at h; exact h
  have HB0 : Hid (Below w.heap.size w ((w1.alloc (.cells #[.int .i64 16, .int .i64 2, .int .i64 18, .int .i64 (totalZ t l), .int .i64 (sigZ 8 16 t l), .int .i64 21] 158)).alloc (.cells #[.int .i64 0, .int .i64 0, .int .i64 0, .int .i64 0, .int .i64 0, .int .i64 0, .int .i64 0, .int .i64 0, .int .i64 0, .int .i64 0, .int .i64 0, .int .i64 0, .int .i64 0, .int .i64 0, .int .i64 0, .int .i64 0, .int .i64 0, .int .i64 0] 3))) := (HB1.out.alloc (by omega) _).alloc (by simp; omega) _
  go_loopw [32] (fun i wr => ∃ j : Nat, j ≤ 8 ∧ i = .int .i64 j ∧ Hid (RowZ wr (w1.heap.size + 1) (rowAt 16 2 18 (bytesN m) j)) ∧ wr.cell? ⟨w.heap.size, 2, none⟩ = some (.int .i64 16) ∧ wr.cell? ⟨w1.heap.size, 0, none⟩ = some (.int .i64 16) ∧ Hid (Below w.heap.size w wr)) (fun i _ => 8 - (intOf i).toNat)
  case atStart => exact ⟨0, by omega, rfl, HR0, by simp [go_sem, World.cell?_alloc_past, hz2, cx], by simp [go_sem], HB0⟩
  case round =>
    obtain ⟨j, hj, rfl, hr, cx', cf', hb'⟩ := hrel
    have hms2 : m.size ≤ 8 := Nat.le_of_eq HM.out
    have hms3 : 8 ≤ m.size := Nat.le_of_eq HM.out.symm
    by_cases hlt : j < 8
    · have hlt2 : j < m.size := by omega
      have q0 : (0 : Int) ≤ (j : Int) := by omega
      have q1 : (j : Int) < (m.size : Int) := by omega
      have v1 : IntKind.i64.wrap ((j : Int) * 2) = (j : Int) * 2 := by rw [IntKind.wrap_i64] <;> omega
      have v2 : IntKind.i64.wrap ((j : Int) + 1) = (j : Int) + 1 := by rw [IntKind.wrap_i64] <;> omega
      have v3 : IntKind.i64.wrap (((j : Int) + 1) * 2) = ((j : Int) + 1) * 2 := by rw [IntKind.wrap_i64] <;> omega
      have hsl : ∀ wx : World, (Instr.slice 56 (.slice (some ⟨w1.heap.size + 1, 0, none⟩) 18 18) (some (.int .i64 ((j : Int) * 2))) (some (.int .i64 (((j : Int) + 1) * 2))) none).run Tryz.prog wx = .ok (.slice (some ⟨w1.heap.size + 1, j * 2, none⟩) 2 (18 - j * 2)) wx := slice_8_16 _ j hlt
      have hcv : IntKind.i64.wrap ((m[j].toNat : Nat) : Int) = ((m[j].toNat : Nat) : Int) := by have := UInt8.toNat_lt m[j]; rw [IntKind.wrap_i64] <;> omega
      have HL := hideM (lay_any (w1.heap.size + 1) (j * 2) 2 (18 - j * 2) (m[j].toNat) 16 (rowAt 16 2 18 (bytesN m) j) wr.drew hr.out.drew (by rw [rowAt_length _ _ _ _ _ (by rw [bytesN_length]; omega) (by omega)]; omega) (by rw [rowAt_length _ _ _ _ _ (by rw [bytesN_length]; omega) (by omega)]; decide) (by decide) (by decide) (by have := UInt8.toNat_lt m[j]; omega))
      have HS := hideM (rowAt_step 16 2 18 (bytesN m) j (by rw [bytesN_length]; omega) (by omega))
      have HY := hideM (byte_at m j hlt2)
      go_wp2
      go_region_held3 (fun w' => w'.cell? ⟨w.heap.size, 2, none⟩ = some (.int .i64 16)) (first | exact cx3 | simp [go_sem, cx']) ((go_at_call 283; refine HL.out.mono ?_; rintro r w3 ⟨rfl, hr3, ho3⟩; have cx3 : w3.cell? ⟨w.heap.size, 2, none⟩ = some (.int .i64 16) := (ho3.cell (by simp; omega)).trans (by simp [go_sem, cx'])))
      have HR3 := hideM hr3
      have HO3 := hideM ho3
      clear hr3 ho3
      go_wp2
      go_roundw
      case rel =>
        have h := HR3.out
        rw [← HY.out, HS.out] at h
        have R : ∃ i : Nat, i ≤ 8 ∧ Value.int .i64 ((j : Int) + 1) = .int .i64 i ∧ Hid (RowZ w3 (w1.heap.size + 1) (rowAt 16 2 18 (bytesN m) i)) ∧ w3.cell? ⟨w.heap.size, 2, none⟩ = some (.int .i64 16) ∧ w3.cell? ⟨w1.heap.size, 0, none⟩ = some (.int .i64 16) ∧ Hid (Below w.heap.size w w3) :=
          ⟨j + 1, by omega, by go_num, h, cx3, (HO3.out.cell (by simp)).trans (by simp [go_sem, cf']), OnlyM.below hb'.out.drew HO3.out (by omega)⟩
        first | exact R | ((repeat apply Exists.intro); exact ⟨R, rfl⟩)
      case measure => simp [intOf]; omega
    · obtain rfl : j = 8 := by omega
      have e0 : (bytesN m).length = 8 := by rw [bytesN_length]; exact HM.out
      have ht := rowAt_take 16 2 18 (bytesN m)
      have hla := rowAt_last 16 2 2 18 (bytesN m) (by rw [e0])
      rw [e0] at ht hla
      have HLK := hideM (lack_any (w1.heap.size + 1) 16 18 16 (rowAt 16 2 18 (bytesN m) 8) (firsts 16 2 (bytesN m)) wr.drew hr.out.drew ht (by rw [firsts_length, e0]) (by decide) (by decide) (by decide) (firsts_lt _ _ _ (by decide)))
      have hlk : lackN 16 (firsts 16 2 (bytesN m)) ≤ 240 := by have := lackN_le 16 (firsts 16 2 (bytesN m)); rw [firsts_length, e0] at this; omega
      have HL := hideM (lay_any (w1.heap.size + 1) 16 2 2 (lackN 16 (firsts 16 2 (bytesN m))) 16 (rowAt 16 2 18 (bytesN m) 8) wr.drew hr.out.drew (by rw [rowAt_length _ _ _ _ _ (by rw [e0]; exact Nat.le_refl _) (by decide)]; decide) (by rw [rowAt_length _ _ _ _ _ (by rw [e0]; exact Nat.le_refl _) (by decide)]; decide) (by decide) (by decide) (by omega))
      have HLA := hideM hla
      clear hla ht hlk e0
      go_wp2
      go_region_held3 (fun w' => w'.cell? ⟨w.heap.size, 2, none⟩ = some (.int .i64 16) ∧ w'.cell? ⟨w1.heap.size, 0, none⟩ = some (.int .i64 16)) (first | exact ⟨cx3, cf3⟩ | simp [go_sem, cx', cf']) (first | (go_at_call 284; refine HLK.out.mono ?_; rintro r w3 ⟨rfl, rfl⟩) | (go_at_call 283; refine HL.out.mono ?_; rintro r w3 ⟨rfl, hr3, ho3⟩; have cx3 : w3.cell? ⟨w.heap.size, 2, none⟩ = some (.int .i64 16) := (ho3.cell (by simp; omega)).trans (by simp [go_sem, cx']); have cf3 : w3.cell? ⟨w1.heap.size, 0, none⟩ = some (.int .i64 16) := (ho3.cell (by simp)).trans (by simp [go_sem, cf'])))
      have HR3 := hideM hr3
      have HO3 := hideM ho3
      clear hr3 ho3
      go_wp2
      go_ret2
      refine ⟨w1.heap.size + 1, rfl, by omega, ?_, OnlyM.below hb'.out.drew HO3.out (by omega)⟩
      have h := HR3.out
      rw [HLA.out] at h
      exact h
end Go.Proofs.YtgaoeoijdpdjiabGreatDoor

namespace Go.Proofs.YtgaoeoijdpdjiabGreatDoor
open Go.RowKit

set_option maxHeartbeats 2000000 in
theorem text_32 (g : Nat) (L : List Nat) (w : World) (hr : RowK w g .u32 358 L) (hL : L.length = 8) (hW : Words 32 L) :
    Calls Tryz.prog 294 #[.pointer (some ⟨g, 0, none⟩)] w fun e w' => e = .returned (.string (textOf (outs 4 L 16))) ∧ Below w.heap.size w w' := by
  have hmk : ∀ w : World, (Instr.makeSlice 170 (.int .i64 0) (.int .i64 16)).run Tryz.prog w = .ok (.slice (some ⟨w.heap.size, 0, none⟩) 0 16) (w.alloc (.cells #[.int .u8 0, .int .u8 0, .int .u8 0, .int .u8 0, .int .u8 0, .int .u8 0, .int .u8 0, .int .u8 0, .int .u8 0, .int .u8 0, .int .u8 0, .int .u8 0, .int .u8 0, .int .u8 0, .int .u8 0, .int .u8 0] 5)) := fun _ => by kernel_rfl
  have HR := hide hr
  have HL := hide hL
  have HW := hide hW
  clear hr hL hW
  obtain ⟨i0, hi, hz0, hz1, hz2⟩ := info_parts infoByte
  go_enter Tryz.func294, Tryz.ntmps294
  go_wp2_with fail
  refine (size_32 _).mono ?_
  rintro e w1 ⟨rfl, rfl⟩
  go_wp2
  have HO0 := hide (show (w1.alloc (.cells #[.int .u8 0, .int .u8 0, .int .u8 0, .int .u8 0, .int .u8 0, .int .u8 0, .int .u8 0, .int .u8 0, .int .u8 0, .int .u8 0, .int .u8 0, .int .u8 0, .int .u8 0, .int .u8 0, .int .u8 0, .int .u8 0] 5)).ownsRow w1.heap.size 5 1 (.slice (some ⟨w1.heap.size, 0, none⟩) 0 16) 0 [] from ⟨rfl, Or.inr ⟨w1.heap.size, 16, _, rfl, Nat.le_refl _, heap_alloc_new _ _, by omega, by unfold maxLen; omega, rfl, rfl⟩⟩)
  have HB0 := hide ((Below.refl w1.heap.size w1).alloc (Nat.le_refl _) (.cells #[.int .u8 0, .int .u8 0, .int .u8 0, .int .u8 0, .int .u8 0, .int .u8 0, .int .u8 0, .int .u8 0, .int .u8 0, .int .u8 0, .int .u8 0, .int .u8 0, .int .u8 0, .int .u8 0, .int .u8 0, .int .u8 0] 5))
  go_loopw [4, 11] (fun v i wr => ∃ a : Nat, a ≤ 4 ∧ i = .int .i64 a ∧ Hid (wr.ownsRow w1.heap.size 5 1 v (a * 4) (cells8 (outs 4 L (a * 4)))) ∧ Hid (Below w1.heap.size w1 wr)) (fun _ i _ => 4 - (intOf i).toNat)
  case atStart => exact ⟨0, by omega, rfl, HO0, HB0⟩
  case round =>
    obtain ⟨a, ha, rfl, ho, hb⟩ := hrel
    by_cases hlt : a < 4
    · obtain ⟨wo, rfl⟩ : ∃ wo : World, wo = wr := ⟨_, rfl⟩
      have hda : decide ((a : Int) < 4) = true := by simp; omega
      go_wp2
      go_loopw [4, 6] (fun v i wr => ∃ q : Nat, q ≤ 4 ∧ i = .int .i64 ((q : Int) - 1) ∧ Hid (wr.ownsRow w1.heap.size 5 1 v (a * 4 + (4 - q)) (cells8 (outs 4 L (a * 4 + (4 - q))))) ∧ Hid (Below w1.heap.size w1 wr)) (fun _ i _ => (intOf i + 1).toNat)
      case atStart => exact ⟨4, by omega, by simp, by simpa using ho, hb⟩
      case round =>
        obtain ⟨q, hq, rfl, ho, hb⟩ := hrel
        by_cases hq0 : 0 < q
        · obtain ⟨q, rfl⟩ : ∃ p, q = p + 1 := ⟨q - 1, by omega⟩
          have c := (HR.out.below hb.out HR.out.lt).cell (i := a) (by have := HL.out; omega)
          have HX := hide (HW.out.at a)
          have HOB : Hid (outB 4 L (a * 4 + (4 - (q + 1))) = at0 L a / 2 ^ (8 * q) % 256) := by
            show outB 4 L (a * 4 + (4 - (q + 1))) = _
            unfold outB
            rw [show (a * 4 + (4 - (q + 1))) / 4 = a by omega, show 4 - 1 - (a * 4 + (4 - (q + 1))) % 4 = q by omega]
          have HSU := hide (outs_succ 4 L (a * 4 + (4 - (q + 1))))
          generalize at0 L a = u at c HX HOB
          go_wp2_with (at_builtin; refine wpList_append_own _ rfl _ _ 170 rfl w1.heap.size 5 i0 (.int .u8 0) 1 1 Tryz.underlying170 hi hz0 hz1 hz2 rfl (by decide) _ _ _ rfl (ho.out.alloc _) ⟨wr.heap.size, 0, none⟩ 1 1 [_] rfl rfl (one_new _ _ _) ?c2 ?c3 ?c4 ?c5 ?_)
          case c2 => intro y hy; simp at hy; subst hy; rfl
          case c3 => unfold maxLen; omega
          case c4 => omega
          case c5 => have := hb.out.size; simp; omega
          intro v' w3 ho3 hgrow _
          have HB3 := hide ((hb.out.alloc hb.out.size _).grown hgrow (by have := hb.out.size; simp; omega) (fun p hp => (owns_lt ho.out p hp).1))
          have HO3 := hide ho3
          clear ho3 hgrow
          go_wp2
          go_roundw
          case rel =>
            have hcs : cells8 (outs 4 L (a * 4 + (4 - q))) = cells8 (outs 4 L (a * 4 + (4 - (q + 1)))) ++ [.int .u8 ((u : Int) / 2 ^ (8 * q) % 256)] := by
              rw [show a * 4 + (4 - q) = a * 4 + (4 - (q + 1)) + 1 by omega, HSU.out, cells8_snoc, HOB.out, Int.natCast_emod, Int.natCast_ediv, Int.natCast_pow]
              rfl
            have R : ∃ p : Nat, p ≤ 4 ∧ Value.int .i64 ((q : Int) - 1) = .int .i64 ((p : Int) - 1) ∧ Hid (w3.ownsRow w1.heap.size 5 1 v' (a * 4 + (4 - p)) (cells8 (outs 4 L (a * 4 + (4 - p))))) ∧ Hid (Below w1.heap.size w1 w3) :=
              ⟨q, by omega, rfl, by rw [hcs]; have h := HO3.out; rw [show a * 4 + (3 - q) + 1 = a * 4 + (4 - q) by omega, show a * 4 + (3 - q) = a * 4 + (4 - (q + 1)) by omega] at h; exact h, HB3.out⟩
            first | exact R | ((repeat apply Exists.intro); exact ⟨R, rfl⟩)
          case measure => simp [intOf]
        · obtain rfl : q = 0 := by omega
          go_wp2
          go_roundw
          case rel => exact ⟨a + 1, by omega, by go_num, by have h := ho; rw [show a * 4 + (4 - 0) = (a + 1) * 4 by omega] at h; exact h, hb⟩
          case measure => simp [intOf]; omega
    · obtain rfl : a = 4 := by omega
      have HT := hide (run_text wr w1.heap.size _ (outs 4 L 16) (fun d hd => by simp only [outs, List.mem_map] at hd; obtain ⟨i, _, rfl⟩ := hd; exact outB_lt _ _ _) (by rw [outs_length]; exact ho.out) (by rw [outs_length]; decide))
      have hT := HT.out
      go_wp2
      go_ret
      exact ⟨rfl, hb.out⟩
end Go.Proofs.YtgaoeoijdpdjiabGreatDoor

namespace Go.Proofs.YtgaoeoijdpdjiabGreatDoor
open Go.RowKit

set_option maxHeartbeats 2000000 in
theorem text_64 (g : Nat) (L : List Nat) (w : World) (hr : RowK w g .u64 361 L) (hL : L.length = 8) (hW : Words 64 L) :
    Calls Tryz.prog 298 #[.pointer (some ⟨g, 0, none⟩)] w fun e w' => e = .returned (.string (textOf (outs 8 L 32))) ∧ Below w.heap.size w w' := by
  have hmk : ∀ w : World, (Instr.makeSlice 170 (.int .i64 0) (.int .i64 32)).run Tryz.prog w = .ok (.slice (some ⟨w.heap.size, 0, none⟩) 0 32) (w.alloc (.cells #[.int .u8 0, .int .u8 0, .int .u8 0, .int .u8 0, .int .u8 0, .int .u8 0, .int .u8 0, .int .u8 0, .int .u8 0, .int .u8 0, .int .u8 0, .int .u8 0, .int .u8 0, .int .u8 0, .int .u8 0, .int .u8 0, .int .u8 0, .int .u8 0, .int .u8 0, .int .u8 0, .int .u8 0, .int .u8 0, .int .u8 0, .int .u8 0, .int .u8 0, .int .u8 0, .int .u8 0, .int .u8 0, .int .u8 0, .int .u8 0, .int .u8 0, .int .u8 0] 5)) := fun _ => by kernel_rfl
  have HR := hide hr
  have HL := hide hL
  have HW := hide hW
  clear hr hL hW
  obtain ⟨i0, hi, hz0, hz1, hz2⟩ := info_parts infoByte
  go_enter Tryz.func298, Tryz.ntmps298
  go_wp2_with fail
  refine (size_64 _).mono ?_
  rintro e w1 ⟨rfl, rfl⟩
  go_wp2
  have HO0 := hide (show (w1.alloc (.cells #[.int .u8 0, .int .u8 0, .int .u8 0, .int .u8 0, .int .u8 0, .int .u8 0, .int .u8 0, .int .u8 0, .int .u8 0, .int .u8 0, .int .u8 0, .int .u8 0, .int .u8 0, .int .u8 0, .int .u8 0, .int .u8 0, .int .u8 0, .int .u8 0, .int .u8 0, .int .u8 0, .int .u8 0, .int .u8 0, .int .u8 0, .int .u8 0, .int .u8 0, .int .u8 0, .int .u8 0, .int .u8 0, .int .u8 0, .int .u8 0, .int .u8 0, .int .u8 0] 5)).ownsRow w1.heap.size 5 1 (.slice (some ⟨w1.heap.size, 0, none⟩) 0 32) 0 [] from ⟨rfl, Or.inr ⟨w1.heap.size, 32, _, rfl, Nat.le_refl _, heap_alloc_new _ _, by omega, by unfold maxLen; omega, rfl, rfl⟩⟩)
  have HB0 := hide ((Below.refl w1.heap.size w1).alloc (Nat.le_refl _) (.cells #[.int .u8 0, .int .u8 0, .int .u8 0, .int .u8 0, .int .u8 0, .int .u8 0, .int .u8 0, .int .u8 0, .int .u8 0, .int .u8 0, .int .u8 0, .int .u8 0, .int .u8 0, .int .u8 0, .int .u8 0, .int .u8 0, .int .u8 0, .int .u8 0, .int .u8 0, .int .u8 0, .int .u8 0, .int .u8 0, .int .u8 0, .int .u8 0, .int .u8 0, .int .u8 0, .int .u8 0, .int .u8 0, .int .u8 0, .int .u8 0, .int .u8 0, .int .u8 0] 5))
  go_loopw [4, 11] (fun v i wr => ∃ a : Nat, a ≤ 4 ∧ i = .int .i64 a ∧ Hid (wr.ownsRow w1.heap.size 5 1 v (a * 8) (cells8 (outs 8 L (a * 8)))) ∧ Hid (Below w1.heap.size w1 wr)) (fun _ i _ => 4 - (intOf i).toNat)
  case atStart => exact ⟨0, by omega, rfl, HO0, HB0⟩
  case round =>
    obtain ⟨a, ha, rfl, ho, hb⟩ := hrel
    by_cases hlt : a < 4
    · obtain ⟨wo, rfl⟩ : ∃ wo : World, wo = wr := ⟨_, rfl⟩
      have hda : decide ((a : Int) < 4) = true := by simp; omega
      go_wp2
      go_loopw [4, 6] (fun v i wr => ∃ q : Nat, q ≤ 8 ∧ i = .int .i64 ((q : Int) - 1) ∧ Hid (wr.ownsRow w1.heap.size 5 1 v (a * 8 + (8 - q)) (cells8 (outs 8 L (a * 8 + (8 - q))))) ∧ Hid (Below w1.heap.size w1 wr)) (fun _ i _ => (intOf i + 1).toNat)
      case atStart => exact ⟨8, by omega, by simp, by simpa using ho, hb⟩
      case round =>
        obtain ⟨q, hq, rfl, ho, hb⟩ := hrel
        by_cases hq0 : 0 < q
        · obtain ⟨q, rfl⟩ : ∃ p, q = p + 1 := ⟨q - 1, by omega⟩
          have c := (HR.out.below hb.out HR.out.lt).cell (i := a) (by have := HL.out; omega)
          have HX := hide (HW.out.at a)
          have HOB : Hid (outB 8 L (a * 8 + (8 - (q + 1))) = at0 L a / 2 ^ (8 * q) % 256) := by
            show outB 8 L (a * 8 + (8 - (q + 1))) = _
            unfold outB
            rw [show (a * 8 + (8 - (q + 1))) / 8 = a by omega, show 8 - 1 - (a * 8 + (8 - (q + 1))) % 8 = q by omega]
          have HSU := hide (outs_succ 8 L (a * 8 + (8 - (q + 1))))
          generalize at0 L a = u at c HX HOB
          go_wp2_with (at_builtin; refine wpList_append_own _ rfl _ _ 170 rfl w1.heap.size 5 i0 (.int .u8 0) 1 1 Tryz.underlying170 hi hz0 hz1 hz2 rfl (by decide) _ _ _ rfl (ho.out.alloc _) ⟨wr.heap.size, 0, none⟩ 1 1 [_] rfl rfl (one_new _ _ _) ?c2 ?c3 ?c4 ?c5 ?_)
          case c2 => intro y hy; simp at hy; subst hy; rfl
          case c3 => unfold maxLen; omega
          case c4 => omega
          case c5 => have := hb.out.size; simp; omega
          intro v' w3 ho3 hgrow _
          have HB3 := hide ((hb.out.alloc hb.out.size _).grown hgrow (by have := hb.out.size; simp; omega) (fun p hp => (owns_lt ho.out p hp).1))
          have HO3 := hide ho3
          clear ho3 hgrow
          go_wp2
          go_roundw
          case rel =>
            have hcs : cells8 (outs 8 L (a * 8 + (8 - q))) = cells8 (outs 8 L (a * 8 + (8 - (q + 1)))) ++ [.int .u8 ((u : Int) / 2 ^ (8 * q) % 256)] := by
              rw [show a * 8 + (8 - q) = a * 8 + (8 - (q + 1)) + 1 by omega, HSU.out, cells8_snoc, HOB.out, Int.natCast_emod, Int.natCast_ediv, Int.natCast_pow]
              rfl
            have R : ∃ p : Nat, p ≤ 8 ∧ Value.int .i64 ((q : Int) - 1) = .int .i64 ((p : Int) - 1) ∧ Hid (w3.ownsRow w1.heap.size 5 1 v' (a * 8 + (8 - p)) (cells8 (outs 8 L (a * 8 + (8 - p))))) ∧ Hid (Below w1.heap.size w1 w3) :=
              ⟨q, by omega, rfl, by rw [hcs]; have h := HO3.out; rw [show a * 8 + (7 - q) + 1 = a * 8 + (8 - q) by omega, show a * 8 + (7 - q) = a * 8 + (8 - (q + 1)) by omega] at h; exact h, HB3.out⟩
            first | exact R | ((repeat apply Exists.intro); exact ⟨R, rfl⟩)
          case measure => simp [intOf]
        · obtain rfl : q = 0 := by omega
          go_wp2
          go_roundw
          case rel => exact ⟨a + 1, by omega, by go_num, by have h := ho; rw [show a * 8 + (8 - 0) = (a + 1) * 8 by omega] at h; exact h, hb⟩
          case measure => simp [intOf]; omega
    · obtain rfl : a = 4 := by omega
      have HT := hide (run_text wr w1.heap.size _ (outs 8 L 32) (fun d hd => by simp only [outs, List.mem_map] at hd; obtain ⟨i, _, rfl⟩ := hd; exact outB_lt _ _ _) (by rw [outs_length]; exact ho.out) (by rw [outs_length]; decide))
      have hT := HT.out
      go_wp2
      go_ret
      exact ⟨rfl, hb.out⟩
end Go.Proofs.YtgaoeoijdpdjiabGreatDoor

namespace Go.Proofs.YtgaoeoijdpdjiabGreatDoor
open Go.RowKit

/-- Texts, one behind the other. -/
def cat : List ByteArray → ByteArray
  | [] => ⟨#[]⟩
  | x :: r => x ++ cat r
theorem append_empty (x : ByteArray) : x ++ (⟨#[]⟩ : ByteArray) = x := by apply ByteArray.ext; simp
theorem empty_append (x : ByteArray) : (⟨#[]⟩ : ByteArray) ++ x = x := by apply ByteArray.ext; simp
theorem append_three (x y z : ByteArray) : x ++ y ++ z = x ++ (y ++ z) := by apply ByteArray.ext; simp
theorem cat_bytes (xs : List ByteArray) : (cat xs).data.toList = (xs.map (·.data.toList)).flatten := by
  induction xs with
  | nil => rfl
  | cons x r ih => simp [cat, ih]
theorem cat_join (xs : List ByteArray) : (⟨(Lib.join (xs.map (·.data.toList)) (⟨#[]⟩ : ByteArray).data.toList).toArray⟩ : ByteArray) = cat xs := by
  apply ByteArray.ext
  apply Array.ext'
  rw [cat_bytes]
  simp only [Lib.join]
  generalize xs.map (·.data.toList) = l
  induction l with
  | nil => rfl
  | cons a r ih =>
    cases r with
    | nil => simp [List.intercalate]
    | cons b r => simpa [List.intercalate] using ih
theorem cat_size (xs : List ByteArray) : (cat xs).size = (xs.map (·.size)).sum := by
  induction xs with
  | nil => rfl
  | cons x r ih => simp [cat, ByteArray.size_append, ih]

theorem join_any (bk o c : Nat) (xs : List ByteArray) (w : World) (hcells : ∀ (j : Nat) x, xs[j]? = some x → w.cell? ⟨bk, o + j, none⟩ = some (.string x)) (hbk : bk < w.heap.size) (hN : xs.length ≤ 1000) (hcap : xs.length ≤ c) (hlen : (cat xs).size ≤ 100000) :
    Calls Tryz.prog 161 #[.slice (some ⟨bk, o, none⟩) xs.length c, .string ⟨#[]⟩] w fun e w' => e = .returned (.string (cat xs)) ∧ Below w.heap.size w w' := by
  have h := strings_Join bk o c xs ⟨#[]⟩ w hcells hbk (by omega) hcap (by have h := congrArg ByteArray.size (cat_join xs); simp only [ByteArray.size, List.size_toArray] at h hlen; rw [h]; omega)
  rw [cat_join] at h
  exact h
end Go.Proofs.YtgaoeoijdpdjiabGreatDoor

namespace Go.Proofs.YtgaoeoijdpdjiabGreatDoor
open Go.RowKit

theorem setsMeasure_yes (b x e f t l : Nat) (hp : Pair b x e f) (k : Int) (w : World) (hk : k = 1 ∨ k = 2) (h1 : 1 ≤ t) (h2 : t ≤ 4) (h3 : 1 ≤ l) (h4 : l ≤ 3) :
    Calls Tryz.prog 155 #[.agg #[.int .i64 k, .int .i64 b, .int .i64 x, .int .i64 t, .int .i64 l]] w fun r w' =>
      r = .returned (.tuple #[.agg #[.int .i64 ((b * e : Nat) : Int), .int .i64 f, .int .i64 ((b * e + f : Nat) : Int), .int .i64 (totalZ t l), .int .i64 (sigZ b x t l), .int .i64 ((5 + 2 * b : Nat) : Int)], .int .i64 0]) ∧ Below w.heap.size w w' := by
  rcases hp with ⟨rfl, rfl, rfl, rfl⟩ | ⟨rfl, rfl, rfl, rfl⟩ | ⟨rfl, rfl, rfl, rfl⟩ | ⟨rfl, rfl, rfl, rfl⟩
  · exact measure_4_4 k t l w hk (by omega) (by omega) (by omega) (by omega)
  · exact measure_8_4 k t l w hk (by omega) (by omega) (by omega) (by omega)
  · exact measure_4_16 k t l w hk (by omega) (by omega) (by omega) (by omega)
  · exact measure_8_16 k t l w hk (by omega) (by omega) (by omega) (by omega)

set_option maxHeartbeats 400000 in
theorem setsMeasure_no (k b x t l : Int) (w : World) (hr : rightB k b x t l = false) :
    Calls Tryz.prog 155 #[.agg #[.int .i64 k, .int .i64 b, .int .i64 x, .int .i64 t, .int .i64 l]] w fun r w' =>
      r = .returned (.tuple #[.agg #[.int .i64 0, .int .i64 0, .int .i64 0, .int .i64 0, .int .i64 0, .int .i64 0], .int .i64 1]) ∧ Below w.heap.size w w' := by
  have HR := hideM hr
  clear hr
  go_enter Tryz.func155, Tryz.ntmps155
  go_wp2_with fail
  refine (check_any k b x t l _).mono ?_
  rintro e w1 ⟨rfl, hb⟩
  rw [HR.out]
  obtain ⟨z0, z1, z2, z3, z4, z5⟩ := six_zero hb
  have fz : ∀ o, w1.frozen? ⟨w.heap.size + 1, o, none⟩ = false := fun o => (hb.frozen (by simp)).trans (by simp [go_sem])
  have HB := hideM ((((Below.refl _ _).alloc (Nat.le_refl _) _).alloc (by simp) _).trans (hb.mono (by simp; omega)) : Below w.heap.size w w1)
  clear hb
  go_wp2
  refine bodyPost_ret (v := .tuple #[.agg #[.int .i64 0, .int .i64 0, .int .i64 0, .int .i64 0, .int .i64 0, .int .i64 0], .int .i64 1]) (by simp [results, Tryz.results155, go_sem, z0, z1, z2, z3, z4, z5]) rfl ⟨rfl, ?_⟩
  iterate 6 refine Below.setCell ?_ (show w.heap.size ≤ _ by simp) _
  exact HB.out

end Go.Proofs.YtgaoeoijdpdjiabGreatDoor

namespace Go.Proofs.YtgaoeoijdpdjiabGreatDoor
open Go.ChangeShapes Go.WideShapes Go.ChangeAt Go.RowKit
open Go.ChangeMaps (open_string shut_string)

set_option maxRecDepth 100000 in
theorem open_place64 {H : Type} {enc : TypeId × Value → H} {W : World} {base b0 : Nat} {sp : Nat → Bool} {held : Bool} {r : Reach} {v : Value} {d : DataW H} {p : List MemPlace}
    (hv : Value.okWide Tryz.prog W r b0 91 v) (h : DataW.Trod enc Tryz.prog W base sp held 91 v d p) :
    ∃ a b c e : Int, v = .agg #[.int .i64 a, .int .i64 b, .int .i64 c, .int .i64 e] ∧ Int64 a ∧ Int64 b ∧ Int64 c ∧ Int64 e := by
  obtain ⟨cs, rfl, hsz⟩ := okWide_struct Tryz.underlying91 hv
  obtain ⟨c0, c1, c2, c3, rfl⟩ := array4 (hsz.trans cellsPlace)
  obtain ⟨fuel, hf⟩ := h
  obtain ⟨xs, n, _, _, _, hlen, hfs⟩ := DataW.trod_struct Tryz.underlying91 hf
  simp at hlen
  have g0 : DataW.trod enc Tryz.prog W base sp held n 3 [c0] = xs[0]? := by simpa [Value.cells, cellsInt] using hfs 0 _ rfl
  have g1 : DataW.trod enc Tryz.prog W base sp held n 3 [c1] = xs[1]? := by simpa [Value.cells, cellsInt] using hfs 1 _ rfl
  have g2 : DataW.trod enc Tryz.prog W base sp held n 3 [c2] = xs[2]? := by simpa [Value.cells, cellsInt] using hfs 2 _ rfl
  have g3 : DataW.trod enc Tryz.prog W base sp held n 3 [c3] = xs[3]? := by simpa [Value.cells, cellsInt] using hfs 3 _ rfl
  rw [List.getElem?_eq_getElem (by omega)] at g0 g1 g2 g3
  obtain ⟨k, e0, _, w0⟩ := DataW.trod_int Tryz.underlying3 g0
  obtain ⟨b, e1, _, w1⟩ := DataW.trod_int Tryz.underlying3 g1
  obtain ⟨x, e2, _, w2⟩ := DataW.trod_int Tryz.underlying3 g2
  obtain ⟨t, e3, _, w3⟩ := DataW.trod_int Tryz.underlying3 g3
  simp at e0 e1 e2 e3
  subst e0 e1 e2 e3
  exact ⟨k, b, x, t, rfl, int64_of_wf w0, int64_of_wf w1, int64_of_wf w2, int64_of_wf w3⟩

set_option maxRecDepth 100000 in
theorem open_seedsM {H : Type} {enc : TypeId × Value → H} {W : World} {base b0 : Nat} {sp : Nat → Bool} {held : Bool} {r : Reach} {v : Value} {d : DataW H} {p : List MemPlace}
    (hv : Value.okWide Tryz.prog W r b0 42 v) (h : DataW.Trod enc Tryz.prog W base sp held 42 v d p) :
    ∃ a b c : ByteArray, v = .agg #[.string a, .string b, .string c] ∧ a.size ≤ maxLen ∧ b.size ≤ maxLen ∧ c.size ≤ maxLen := by
  obtain ⟨cs, rfl, hsz⟩ := okWide_struct Tryz.underlying42 hv
  obtain ⟨c0, c1, c2, rfl⟩ := array3 (hsz.trans cellsSeeds)
  obtain ⟨fuel, hf⟩ := h
  obtain ⟨xs, n, _, _, _, hlen, hfs⟩ := DataW.trod_struct Tryz.underlying42 hf
  simp at hlen
  have g0 : DataW.trod enc Tryz.prog W base sp held n 9 [c0] = xs[0]? := by simpa [Value.cells, cellsStr] using hfs 0 _ rfl
  have g1 : DataW.trod enc Tryz.prog W base sp held n 9 [c1] = xs[1]? := by simpa [Value.cells, cellsStr] using hfs 1 _ rfl
  have g2 : DataW.trod enc Tryz.prog W base sp held n 9 [c2] = xs[2]? := by simpa [Value.cells, cellsStr] using hfs 2 _ rfl
  rw [List.getElem?_eq_getElem (by omega)] at g0 g1 g2
  obtain ⟨k, e0, _, m0⟩ := DataW.trod_string Tryz.underlying9 g0
  obtain ⟨b, e1, _, m1⟩ := DataW.trod_string Tryz.underlying9 g1
  obtain ⟨x, e2, _, m2⟩ := DataW.trod_string Tryz.underlying9 g2
  simp at e0 e1 e2
  subst e0 e1 e2
  exact ⟨k, b, x, rfl, m0, m1, m2⟩
end Go.Proofs.YtgaoeoijdpdjiabGreatDoor
