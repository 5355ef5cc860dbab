/-
  sets.Digits at the sets with Bytes 4 and Wide 4, and a text of that length. sets.Digits at the sets with Bytes 8 and Wide 4, and a text of that length. The document's own word of a text behind which a 1 and zeros lie.
-/
import Derived.Test.YtgaoeoijdpdjiabGreatDoorPart11
import Derived.Test.YtgaoeoijdpdjiabGreatDoorPart14
namespace Go.Proofs.YtgaoeoijdpdjiabGreatDoor
open Go.RowKit

theorem slice_4_4 (g j : Nat) (hj : j < 4) (wx : World) : (Instr.slice 56 (.slice (some ⟨g, 0, none⟩) 19 19) (some (.int .i64 ((j : Int) * 4))) (some (.int .i64 (((j : Int) + 1) * 4))) none).run Tryz.prog wx = .ok (.slice (some ⟨g, j * 4, none⟩) 4 (19 - j * 4)) wx := by
  rcases (show j = 0 ∨ j = 1 ∨ j = 2 ∨ j = 3 by omega) with rfl | rfl | rfl | rfl <;> simp [go_sem]

set_option maxHeartbeats 1000000 in
theorem digits_4_4 (k t l : Int) (m : ByteArray) (w : World) (hk : k = 1 ∨ k = 2) (h1 : 1 ≤ t) (h2 : t ≤ 4) (h3 : 1 ≤ l) (h4 : l ≤ 3) (hm : m.size = 4) :
    Calls Tryz.prog 241 #[.agg #[.int .i64 k, .int .i64 4, .int .i64 4, .int .i64 t, .int .i64 l], .string m] w fun r w' =>
      ∃ g, r = .returned (.tuple #[.slice (some ⟨g, 0, none⟩) 19 19, .int .i64 0]) ∧ w.heap.size ≤ g ∧ RowZ w' g ((digitsN 4 4 3 (bytesN m)).map Int.ofNat) ∧ Below w.heap.size w w' := by
  have hmk : ∀ w : World, (Instr.makeSlice 56 (.int .i64 19) (.int .i64 19)).run Tryz.prog w = .ok (.slice (some ⟨w.heap.size, 0, none⟩) 19 19) (w.alloc (.cells #[.int .i64 0, .int .i64 0, .int .i64 0, .int .i64 0, .int .i64 0, .int .i64 0, .int .i64 0, .int .i64 0, .int .i64 0, .int .i64 0, .int .i64 0, .int .i64 0, .int .i64 0, .int .i64 0, .int .i64 0, .int .i64 0, .int .i64 0, .int .i64 0, .int .i64 0] 3)) := fun _ => by kernel_rfl
  have HM : Hid (m.size = 4) := hm
  have hms : ((m.size : Int) != 4) = false := by simp [hm]
  clear hm
  have HMT := measure_4_4 k t l (w.alloc (.cells #[.int .i64 k, .int .i64 4, .int .i64 4, .int .i64 t, .int .i64 l] 26)) hk h1 h2 h3 h4
  go_enter Tryz.func241, Tryz.ntmps241
  go_wp2_with fail
  refine HMT.mono ?_
  clear HMT
  rintro r w1 ⟨rfl, hb1⟩
  have hz1 := hb1.size
  simp at hz1
  have hz2 : w.heap.size < w1.heap.size := by omega
  have hz3 : ¬ w.heap.size = w1.heap.size := by omega
  have cx : w1.cell? ⟨w.heap.size, 2, none⟩ = some (.int .i64 4) := (hb1.cell (by simp)).trans (by simp [go_sem])
  have cb : w1.cell? ⟨w.heap.size, 1, none⟩ = some (.int .i64 4) := (hb1.cell (by simp)).trans (by simp [go_sem])
  have HB1 : Hid (Below w.heap.size w w1) := ((Below.refl _ _).alloc (Nat.le_refl _) _).trans (hb1.mono (by simp))
  clear hb1
  go_wp2_with fail
  refine (perByte_4 _).mono ?_
  rintro r w2 ⟨rfl, rfl⟩
  go_wp2
  have HR0 : Hid (RowZ ((w1.alloc (.cells #[.int .i64 16, .int .i64 3, .int .i64 19, .int .i64 (totalZ t l), .int .i64 (sigZ 4 4 t l), .int .i64 13] 158)).alloc (.cells #[.int .i64 0, .int .i64 0, .int .i64 0, .int .i64 0, .int .i64 0, .int .i64 0, .int .i64 0, .int .i64 0, .int .i64 0, .int .i64 0, .int .i64 0, .int .i64 0, .int .i64 0, .int .i64 0, .int .i64 0, .int .i64 0, .int .i64 0, .int .i64 0, .int .i64 0] 3)) (w1.heap.size + 1) (rowAt 4 4 19 (bytesN m) 0)) := by have h := row_new (w1.alloc (.cells #[.int .i64 16, .int .i64 3, .int .i64 19, .int .i64 (totalZ t l), .int .i64 (sigZ 4 4 t l), .int .i64 13] 158)) #[.int .i64 0, .int .i64 0, .int .i64 0, .int .i64 0, .int .i64 0, .int .i64 0, .int .i64 0, .int .i64 0, .int .i64 0, .int .i64 0, .int .i64 0, .int .i64 0, .int .i64 0, .int .i64 0, .int .i64 0, .int .i64 0, .int .i64 0, .int .i64 0, .int .i64 0] 4 4 19 (bytesN m) rfl; rw [World.size_alloc] at h; exact h
  have HB0 : Hid (Below w.heap.size w ((w1.alloc (.cells #[.int .i64 16, .int .i64 3, .int .i64 19, .int .i64 (totalZ t l), .int .i64 (sigZ 4 4 t l), .int .i64 13] 158)).alloc (.cells #[.int .i64 0, .int .i64 0, .int .i64 0, .int .i64 0, .int .i64 0, .int .i64 0, .int .i64 0, .int .i64 0, .int .i64 0, .int .i64 0, .int .i64 0, .int .i64 0, .int .i64 0, .int .i64 0, .int .i64 0, .int .i64 0, .int .i64 0, .int .i64 0, .int .i64 0] 3))) := (HB1.out.alloc (by omega) _).alloc (by simp; omega) _
  go_loopw [32] (fun i wr => ∃ j : Nat, j ≤ 4 ∧ i = .int .i64 j ∧ Hid (RowZ wr (w1.heap.size + 1) (rowAt 4 4 19 (bytesN m) j)) ∧ wr.cell? ⟨w.heap.size, 2, none⟩ = some (.int .i64 4) ∧ wr.cell? ⟨w1.heap.size, 0, none⟩ = some (.int .i64 16) ∧ Hid (Below w.heap.size w wr)) (fun i _ => 4 - (intOf i).toNat)
  case atStart => exact ⟨0, by omega, rfl, HR0, by simp [go_sem, World.cell?_alloc_past, hz2, cx], by simp [go_sem], HB0⟩
  case round =>
    obtain ⟨j, hj, rfl, hr, cx', cf', hb'⟩ := hrel
    have hms2 : m.size ≤ 4 := Nat.le_of_eq HM.out
    have hms3 : 4 ≤ m.size := Nat.le_of_eq HM.out.symm
    by_cases hlt : j < 4
    · have hlt2 : j < m.size := by omega
      have q0 : (0 : Int) ≤ (j : Int) := by omega
      have q1 : (j : Int) < (m.size : Int) := by omega
      have v1 : IntKind.i64.wrap ((j : Int) * 4) = (j : Int) * 4 := by rw [IntKind.wrap_i64] <;> omega
      have v2 : IntKind.i64.wrap ((j : Int) + 1) = (j : Int) + 1 := by rw [IntKind.wrap_i64] <;> omega
      have v3 : IntKind.i64.wrap (((j : Int) + 1) * 4) = ((j : Int) + 1) * 4 := by rw [IntKind.wrap_i64] <;> omega
      have hsl : ∀ wx : World, (Instr.slice 56 (.slice (some ⟨w1.heap.size + 1, 0, none⟩) 19 19) (some (.int .i64 ((j : Int) * 4))) (some (.int .i64 (((j : Int) + 1) * 4))) none).run Tryz.prog wx = .ok (.slice (some ⟨w1.heap.size + 1, j * 4, none⟩) 4 (19 - j * 4)) wx := slice_4_4 _ j hlt
      have hcv : IntKind.i64.wrap ((m[j].toNat : Nat) : Int) = ((m[j].toNat : Nat) : Int) := by have := UInt8.toNat_lt m[j]; rw [IntKind.wrap_i64] <;> omega
      have HL := hideM (lay_any (w1.heap.size + 1) (j * 4) 4 (19 - j * 4) (m[j].toNat) 4 (rowAt 4 4 19 (bytesN m) j) wr.drew hr.out.drew (by rw [rowAt_length _ _ _ _ _ (by rw [bytesN_length]; omega) (by omega)]; omega) (by rw [rowAt_length _ _ _ _ _ (by rw [bytesN_length]; omega) (by omega)]; decide) (by decide) (by decide) (by have := UInt8.toNat_lt m[j]; omega))
      have HS := hideM (rowAt_step 4 4 19 (bytesN m) j (by rw [bytesN_length]; omega) (by omega))
      have HY := hideM (byte_at m j hlt2)
      go_wp2
      go_region_held3 (fun w' => w'.cell? ⟨w.heap.size, 2, none⟩ = some (.int .i64 4)) (first | exact cx3 | simp [go_sem, cx']) ((go_at_call 283; refine HL.out.mono ?_; rintro r w3 ⟨rfl, hr3, ho3⟩; have cx3 : w3.cell? ⟨w.heap.size, 2, none⟩ = some (.int .i64 4) := (ho3.cell (by simp; omega)).trans (by simp [go_sem, cx'])))
      have HR3 := hideM hr3
      have HO3 := hideM ho3
      clear hr3 ho3
      go_wp2
      go_roundw
      case rel =>
        have h := HR3.out
        rw [← HY.out, HS.out] at h
        have R : ∃ i : Nat, i ≤ 4 ∧ Value.int .i64 ((j : Int) + 1) = .int .i64 i ∧ Hid (RowZ w3 (w1.heap.size + 1) (rowAt 4 4 19 (bytesN m) i)) ∧ w3.cell? ⟨w.heap.size, 2, none⟩ = some (.int .i64 4) ∧ w3.cell? ⟨w1.heap.size, 0, none⟩ = some (.int .i64 16) ∧ Hid (Below w.heap.size w w3) :=
          ⟨j + 1, by omega, by go_num, h, cx3, (HO3.out.cell (by simp)).trans (by simp [go_sem, cf']), OnlyM.below hb'.out.drew HO3.out (by omega)⟩
        first | exact R | ((repeat apply Exists.intro); exact ⟨R, rfl⟩)
      case measure => simp [intOf]; omega
    · obtain rfl : j = 4 := by omega
      have e0 : (bytesN m).length = 4 := by rw [bytesN_length]; exact HM.out
      have ht := rowAt_take 4 4 19 (bytesN m)
      have hla := rowAt_last 4 4 3 19 (bytesN m) (by rw [e0])
      rw [e0] at ht hla
      have HLK := hideM (lack_any (w1.heap.size + 1) 16 19 4 (rowAt 4 4 19 (bytesN m) 4) (firsts 4 4 (bytesN m)) wr.drew hr.out.drew ht (by rw [firsts_length, e0]) (by decide) (by decide) (by decide) (firsts_lt _ _ _ (by decide)))
      have hlk : lackN 4 (firsts 4 4 (bytesN m)) ≤ 48 := by have := lackN_le 4 (firsts 4 4 (bytesN m)); rw [firsts_length, e0] at this; omega
      have HL := hideM (lay_any (w1.heap.size + 1) 16 3 3 (lackN 4 (firsts 4 4 (bytesN m))) 4 (rowAt 4 4 19 (bytesN m) 4) wr.drew hr.out.drew (by rw [rowAt_length _ _ _ _ _ (by rw [e0]; exact Nat.le_refl _) (by decide)]; decide) (by rw [rowAt_length _ _ _ _ _ (by rw [e0]; exact Nat.le_refl _) (by decide)]; decide) (by decide) (by decide) (by omega))
      have HLA := hideM hla
      clear hla ht hlk e0
      go_wp2
      go_region_held3 (fun w' => w'.cell? ⟨w.heap.size, 2, none⟩ = some (.int .i64 4) ∧ w'.cell? ⟨w1.heap.size, 0, none⟩ = some (.int .i64 16)) (first | exact ⟨cx3, cf3⟩ | simp [go_sem, cx', cf']) (first | (go_at_call 284; refine HLK.out.mono ?_; rintro r w3 ⟨rfl, rfl⟩) | (go_at_call 283; refine HL.out.mono ?_; rintro r w3 ⟨rfl, hr3, ho3⟩; have cx3 : w3.cell? ⟨w.heap.size, 2, none⟩ = some (.int .i64 4) := (ho3.cell (by simp; omega)).trans (by simp [go_sem, cx']); have cf3 : w3.cell? ⟨w1.heap.size, 0, none⟩ = some (.int .i64 16) := (ho3.cell (by simp)).trans (by simp [go_sem, cf'])))
      have HR3 := hideM hr3
      have HO3 := hideM ho3
      clear hr3 ho3
      go_wp2
      go_ret2
      refine ⟨w1.heap.size + 1, rfl, by omega, ?_, OnlyM.below hb'.out.drew HO3.out (by omega)⟩
      have h := HR3.out
      rw [HLA.out] at h
      exact h
end Go.Proofs.YtgaoeoijdpdjiabGreatDoor

namespace Go.Proofs.YtgaoeoijdpdjiabGreatDoor
open Go.RowKit

theorem slice_8_4 (g j : Nat) (hj : j < 8) (wx : World) : (Instr.slice 56 (.slice (some ⟨g, 0, none⟩) 36 36) (some (.int .i64 ((j : Int) * 4))) (some (.int .i64 (((j : Int) + 1) * 4))) none).run Tryz.prog wx = .ok (.slice (some ⟨g, j * 4, none⟩) 4 (36 - j * 4)) wx := by
  rcases (show j = 0 ∨ j = 1 ∨ j = 2 ∨ j = 3 ∨ j = 4 ∨ j = 5 ∨ j = 6 ∨ j = 7 by omega) with rfl | rfl | rfl | rfl | rfl | rfl | rfl | rfl <;> simp [go_sem]

set_option maxHeartbeats 1000000 in
theorem digits_8_4 (k t l : Int) (m : ByteArray) (w : World) (hk : k = 1 ∨ k = 2) (h1 : 1 ≤ t) (h2 : t ≤ 4) (h3 : 1 ≤ l) (h4 : l ≤ 3) (hm : m.size = 8) :
    Calls Tryz.prog 241 #[.agg #[.int .i64 k, .int .i64 8, .int .i64 4, .int .i64 t, .int .i64 l], .string m] w fun r w' =>
      ∃ g, r = .returned (.tuple #[.slice (some ⟨g, 0, none⟩) 36 36, .int .i64 0]) ∧ w.heap.size ≤ g ∧ RowZ w' g ((digitsN 4 4 4 (bytesN m)).map Int.ofNat) ∧ Below w.heap.size w w' := by
  have hmk : ∀ w : World, (Instr.makeSlice 56 (.int .i64 36) (.int .i64 36)).run Tryz.prog w = .ok (.slice (some ⟨w.heap.size, 0, none⟩) 36 36) (w.alloc (.cells #[.int .i64 0, .int .i64 0, .int .i64 0, .int .i64 0, .int .i64 0, .int .i64 0, .int .i64 0, .int .i64 0, .int .i64 0, .int .i64 0, .int .i64 0, .int .i64 0, .int .i64 0, .int .i64 0, .int .i64 0, .int .i64 0, .int .i64 0, .int .i64 0, .int .i64 0, .int .i64 0, .int .i64 0, .int .i64 0, .int .i64 0, .int .i64 0, .int .i64 0, .int .i64 0, .int .i64 0, .int .i64 0, .int .i64 0, .int .i64 0, .int .i64 0, .int .i64 0, .int .i64 0, .int .i64 0, .int .i64 0, .int .i64 0] 3)) := fun _ => by kernel_rfl
  have HM : Hid (m.size = 8) := hm
  have hms : ((m.size : Int) != 8) = false := by simp [hm]
  clear hm
  have HMT := measure_8_4 k t l (w.alloc (.cells #[.int .i64 k, .int .i64 8, .int .i64 4, .int .i64 t, .int .i64 l] 26)) hk h1 h2 h3 h4
  go_enter Tryz.func241, Tryz.ntmps241
  go_wp2_with fail
  refine HMT.mono ?_
  clear HMT
  rintro r w1 ⟨rfl, hb1⟩
  have hz1 := hb1.size
  simp at hz1
  have hz2 : w.heap.size < w1.heap.size := by omega
  have hz3 : ¬ w.heap.size = w1.heap.size := by omega
  have cx : w1.cell? ⟨w.heap.size, 2, none⟩ = some (.int .i64 4) := (hb1.cell (by simp)).trans (by simp [go_sem])
  have cb : w1.cell? ⟨w.heap.size, 1, none⟩ = some (.int .i64 8) := (hb1.cell (by simp)).trans (by simp [go_sem])
  have HB1 : Hid (Below w.heap.size w w1) := ((Below.refl _ _).alloc (Nat.le_refl _) _).trans (hb1.mono (by simp))
  clear hb1
  go_wp2_with fail
  refine (perByte_4 _).mono ?_
  rintro r w2 ⟨rfl, rfl⟩
  go_wp2
  have HR0 : Hid (RowZ ((w1.alloc (.cells #[.int .i64 32, .int .i64 4, .int .i64 36, .int .i64 (totalZ t l), .int .i64 (sigZ 8 4 t l), .int .i64 21] 158)).alloc (.cells #[.int .i64 0, .int .i64 0, .int .i64 0, .int .i64 0, .int .i64 0, .int .i64 0, .int .i64 0, .int .i64 0, .int .i64 0, .int .i64 0, .int .i64 0, .int .i64 0, .int .i64 0, .int .i64 0, .int .i64 0, .int .i64 0, .int .i64 0, .int .i64 0, .int .i64 0, .int .i64 0, .int .i64 0, .int .i64 0, .int .i64 0, .int .i64 0, .int .i64 0, .int .i64 0, .int .i64 0, .int .i64 0, .int .i64 0, .int .i64 0, .int .i64 0, .int .i64 0, .int .i64 0, .int .i64 0, .int .i64 0, .int .i64 0] 3)) (w1.heap.size + 1) (rowAt 4 4 36 (bytesN m) 0)) := by have h := row_new (w1.alloc (.cells #[.int .i64 32, .int .i64 4, .int .i64 36, .int .i64 (totalZ t l), .int .i64 (sigZ 8 4 t l), .int .i64 21] 158)) #[.int .i64 0, .int .i64 0, .int .i64 0, .int .i64 0, .int .i64 0, .int .i64 0, .int .i64 0, .int .i64 0, .int .i64 0, .int .i64 0, .int .i64 0, .int .i64 0, .int .i64 0, .int .i64 0, .int .i64 0, .int .i64 0, .int .i64 0, .int .i64 0, .int .i64 0, .int .i64 0, .int .i64 0, .int .i64 0, .int .i64 0, .int .i64 0, .int .i64 0, .int .i64 0, .int .i64 0, .int .i64 0, .int .i64 0, .int .i64 0, .int .i64 0, .int .i64 0, .int .i64 0, .int .i64 0, .int .i64 0, .int .i64 0] 4 4 36 (bytesN m) rfl; rw [World.size_alloc] at h; exact h
  have HB0 : Hid (Below w.heap.size w ((w1.alloc (.cells #[.int .i64 32, .int .i64 4, .int .i64 36, .int .i64 (totalZ t l), .int .i64 (sigZ 8 4 t l), .int .i64 21] 158)).alloc (.cells #[.int .i64 0, .int .i64 0, .int .i64 0, .int .i64 0, .int .i64 0, .int .i64 0, .int .i64 0, .int .i64 0, .int .i64 0, .int .i64 0, .int .i64 0, .int .i64 0, .int .i64 0, .int .i64 0, .int .i64 0, .int .i64 0, .int .i64 0, .int .i64 0, .int .i64 0, .int .i64 0, .int .i64 0, .int .i64 0, .int .i64 0, .int .i64 0, .int .i64 0, .int .i64 0, .int .i64 0, .int .i64 0, .int .i64 0, .int .i64 0, .int .i64 0, .int .i64 0, .int .i64 0, .int .i64 0, .int .i64 0, .int .i64 0] 3))) := (HB1.out.alloc (by omega) _).alloc (by simp; omega) _
  go_loopw [32] (fun i wr => ∃ j : Nat, j ≤ 8 ∧ i = .int .i64 j ∧ Hid (RowZ wr (w1.heap.size + 1) (rowAt 4 4 36 (bytesN m) j)) ∧ wr.cell? ⟨w.heap.size, 2, none⟩ = some (.int .i64 4) ∧ wr.cell? ⟨w1.heap.size, 0, none⟩ = some (.int .i64 32) ∧ Hid (Below w.heap.size w wr)) (fun i _ => 8 - (intOf i).toNat)
  case atStart => exact ⟨0, by omega, rfl, HR0, by simp [go_sem, World.cell?_alloc_past, hz2, cx], by simp [go_sem], HB0⟩
  case round =>
    obtain ⟨j, hj, rfl, hr, cx', cf', hb'⟩ := hrel
    have hms2 : m.size ≤ 8 := Nat.le_of_eq HM.out
    have hms3 : 8 ≤ m.size := Nat.le_of_eq HM.out.symm
    by_cases hlt : j < 8
    · have hlt2 : j < m.size := by omega
      have q0 : (0 : Int) ≤ (j : Int) := by omega
      have q1 : (j : Int) < (m.size : Int) := by omega
      have v1 : IntKind.i64.wrap ((j : Int) * 4) = (j : Int) * 4 := by rw [IntKind.wrap_i64] <;> omega
      have v2 : IntKind.i64.wrap ((j : Int) + 1) = (j : Int) + 1 := by rw [IntKind.wrap_i64] <;> omega
      have v3 : IntKind.i64.wrap (((j : Int) + 1) * 4) = ((j : Int) + 1) * 4 := by rw [IntKind.wrap_i64] <;> omega
      have hsl : ∀ wx : World, (Instr.slice 56 (.slice (some ⟨w1.heap.size + 1, 0, none⟩) 36 36) (some (.int .i64 ((j : Int) * 4))) (some (.int .i64 (((j : Int) + 1) * 4))) none).run Tryz.prog wx = .ok (.slice (some ⟨w1.heap.size + 1, j * 4, none⟩) 4 (36 - j * 4)) wx := slice_8_4 _ j hlt
      have hcv : IntKind.i64.wrap ((m[j].toNat : Nat) : Int) = ((m[j].toNat : Nat) : Int) := by have := UInt8.toNat_lt m[j]; rw [IntKind.wrap_i64] <;> omega
      have HL := hideM (lay_any (w1.heap.size + 1) (j * 4) 4 (36 - j * 4) (m[j].toNat) 4 (rowAt 4 4 36 (bytesN m) j) wr.drew hr.out.drew (by rw [rowAt_length _ _ _ _ _ (by rw [bytesN_length]; omega) (by omega)]; omega) (by rw [rowAt_length _ _ _ _ _ (by rw [bytesN_length]; omega) (by omega)]; decide) (by decide) (by decide) (by have := UInt8.toNat_lt m[j]; omega))
      have HS := hideM (rowAt_step 4 4 36 (bytesN m) j (by rw [bytesN_length]; omega) (by omega))
      have HY := hideM (byte_at m j hlt2)
      go_wp2
      go_region_held3 (fun w' => w'.cell? ⟨w.heap.size, 2, none⟩ = some (.int .i64 4)) (first | exact cx3 | simp [go_sem, cx']) ((go_at_call 283; refine HL.out.mono ?_; rintro r w3 ⟨rfl, hr3, ho3⟩; have cx3 : w3.cell? ⟨w.heap.size, 2, none⟩ = some (.int .i64 4) := (ho3.cell (by simp; omega)).trans (by simp [go_sem, cx'])))
      have HR3 := hideM hr3
      have HO3 := hideM ho3
      clear hr3 ho3
      go_wp2
      go_roundw
      case rel =>
        have h := HR3.out
        rw [← HY.out, HS.out] at h
        have R : ∃ i : Nat, i ≤ 8 ∧ Value.int .i64 ((j : Int) + 1) = .int .i64 i ∧ Hid (RowZ w3 (w1.heap.size + 1) (rowAt 4 4 36 (bytesN m) i)) ∧ w3.cell? ⟨w.heap.size, 2, none⟩ = some (.int .i64 4) ∧ w3.cell? ⟨w1.heap.size, 0, none⟩ = some (.int .i64 32) ∧ Hid (Below w.heap.size w w3) :=
          ⟨j + 1, by omega, by go_num, h, cx3, (HO3.out.cell (by simp)).trans (by simp [go_sem, cf']), OnlyM.below hb'.out.drew HO3.out (by omega)⟩
        first | exact R | ((repeat apply Exists.intro); exact ⟨R, rfl⟩)
      case measure => simp [intOf]; omega
    · obtain rfl : j = 8 := by omega
      have e0 : (bytesN m).length = 8 := by rw [bytesN_length]; exact HM.out
      have ht := rowAt_take 4 4 36 (bytesN m)
      have hla := rowAt_last 4 4 4 36 (bytesN m) (by rw [e0])
      rw [e0] at ht hla
      have HLK := hideM (lack_any (w1.heap.size + 1) 32 36 4 (rowAt 4 4 36 (bytesN m) 8) (firsts 4 4 (bytesN m)) wr.drew hr.out.drew ht (by rw [firsts_length, e0]) (by decide) (by decide) (by decide) (firsts_lt _ _ _ (by decide)))
      have hlk : lackN 4 (firsts 4 4 (bytesN m)) ≤ 96 := by have := lackN_le 4 (firsts 4 4 (bytesN m)); rw [firsts_length, e0] at this; omega
      have HL := hideM (lay_any (w1.heap.size + 1) 32 4 4 (lackN 4 (firsts 4 4 (bytesN m))) 4 (rowAt 4 4 36 (bytesN m) 8) wr.drew hr.out.drew (by rw [rowAt_length _ _ _ _ _ (by rw [e0]; exact Nat.le_refl _) (by decide)]; decide) (by rw [rowAt_length _ _ _ _ _ (by rw [e0]; exact Nat.le_refl _) (by decide)]; decide) (by decide) (by decide) (by omega))
      have HLA := hideM hla
      clear hla ht hlk e0
      go_wp2
      go_region_held3 (fun w' => w'.cell? ⟨w.heap.size, 2, none⟩ = some (.int .i64 4) ∧ w'.cell? ⟨w1.heap.size, 0, none⟩ = some (.int .i64 32)) (first | exact ⟨cx3, cf3⟩ | simp [go_sem, cx', cf']) (first | (go_at_call 284; refine HLK.out.mono ?_; rintro r w3 ⟨rfl, rfl⟩) | (go_at_call 283; refine HL.out.mono ?_; rintro r w3 ⟨rfl, hr3, ho3⟩; have cx3 : w3.cell? ⟨w.heap.size, 2, none⟩ = some (.int .i64 4) := (ho3.cell (by simp; omega)).trans (by simp [go_sem, cx']); have cf3 : w3.cell? ⟨w1.heap.size, 0, none⟩ = some (.int .i64 32) := (ho3.cell (by simp)).trans (by simp [go_sem, cf'])))
      have HR3 := hideM hr3
      have HO3 := hideM ho3
      clear hr3 ho3
      go_wp2
      go_ret2
      refine ⟨w1.heap.size + 1, rfl, by omega, ?_, OnlyM.below hb'.out.drew HO3.out (by omega)⟩
      have h := HR3.out
      rw [HLA.out] at h
      exact h
end Go.Proofs.YtgaoeoijdpdjiabGreatDoor

namespace Go.Proofs.YtgaoeoijdpdjiabGreatDoor
open Go.RowKit

set_option maxHeartbeats 400000 in
theorem word_4 (s : ByteArray) (q : Nat) (w : World) (hs : s.size ≤ 1000) (hq : q ≤ 1000) :
    Calls Tryz.prog 243 #[.string s, .int .i64 q, .int .i64 4] w fun e w' => e = .returned (.int .u64 ((beN (padL s) (q * 4) 4 : Nat) : Int)) ∧ w' = w := by
  go_enter Tryz.func243, Tryz.ntmps243
  go_wp2
  go_loop [7, 8] (fun x i => ∃ j : Nat, j ≤ 4 ∧ i = .int .i64 ((q : Int) * 4 + j) ∧ x = .int .u64 ((beN (padL s) (q * 4) j : Nat) : Int)) (fun _ i => (((q : Int) + 1) * 4 - intOf i).toNat)
  case atStart => exact ⟨0, by omega, by simp, rfl⟩
  case round =>
    obtain ⟨j, hj, rfl, rfl⟩ := hrel
    by_cases hlt : j < 4
    · have hv : beN (padL s) (q * 4) j < 16777216 := Nat.lt_of_lt_of_le (beN_lt _ _ j (padL_lt s)) (Nat.pow_le_pow_right (by decide) (show j ≤ 3 by omega))
      have HS : Hid (beN (padL s) (q * 4) (j + 1) = beN (padL s) (q * 4) j * 256 + at0 (padL s) (q * 4 + j)) := rfl
      have HV := hide hv
      generalize beN (padL s) (q * 4) j = v at hv HS HV ⊢
      have HC := hide (padL_lt s (q * 4 + j))
      rcases Nat.lt_trichotomy (q * 4 + j) s.size with h | h | h
      · have HX := hide (padL_in s (q * 4 + j) h)
        have t1 : ((q : Int) * 4 + (j : Int)).toNat = q * 4 + j := by omega
        have h1 : (q : Int) * 4 + (j : Int) < (s.size : Int) := by omega
        have h2 : (0 : Int) ≤ (q : Int) * 4 + (j : Int) := by omega
        have hcb : (((s[q * 4 + j]'h).toNat : Nat) : Int) ≤ 255 := by have := UInt8.toNat_lt (s[q * 4 + j]'h); omega
        clear hv
        go_wp2
        go_round
        case rel =>
          refine ⟨j + 1, by omega, by go_num, ?_⟩
          rw [HS.out, HX.out]
          have := HV.out
          refine congrArg (Value.int IntKind.u64) ?_
          try simp only [IntKind.wrap_u64]
          omega
        case measure => simp [intOf]; omega
      · have HX := hide (show at0 (padL s) (q * 4 + j) = 1 by rw [h]; exact padL_at s)
        have h1 : decide ((q : Int) * 4 + (j : Int) < (s.size : Int)) = false := by simp; omega
        have h2 : ((q : Int) * 4 + (j : Int) == (s.size : Int)) = true := by rw [beq_iff_eq]; omega
        have H := hide h
        clear hv h
        go_wp2
        go_round
        case rel =>
          refine ⟨j + 1, by omega, by go_num, ?_⟩
          rw [HS.out, HX.out]
          have := HV.out
          refine congrArg (Value.int IntKind.u64) ?_
          try simp only [IntKind.wrap_u64]
          omega
        case measure => simp [intOf]; omega
      · have HX := hide (padL_past s (q * 4 + j) h)
        have h1 : decide ((q : Int) * 4 + (j : Int) < (s.size : Int)) = false := by simp; omega
        have h2 : ((q : Int) * 4 + (j : Int) == (s.size : Int)) = false := by rw [beq_eq_false_iff_ne]; omega
        clear hv
        go_wp2
        go_round
        case rel =>
          refine ⟨j + 1, by omega, by go_num, ?_⟩
          rw [HS.out, HX.out]
          have := HV.out
          refine congrArg (Value.int IntKind.u64) ?_
          try simp only [IntKind.wrap_u64]
          omega
        case measure => simp [intOf]; omega
    · obtain rfl : j = 4 := by omega
      go_wp2
      go_ret
      exact ⟨rfl, rfl⟩

set_option maxHeartbeats 400000 in
theorem word_8 (s : ByteArray) (q : Nat) (w : World) (hs : s.size ≤ 1000) (hq : q ≤ 1000) :
    Calls Tryz.prog 243 #[.string s, .int .i64 q, .int .i64 8] w fun e w' => e = .returned (.int .u64 ((beN (padL s) (q * 8) 8 : Nat) : Int)) ∧ w' = w := by
  go_enter Tryz.func243, Tryz.ntmps243
  go_wp2
  go_loop [7, 8] (fun x i => ∃ j : Nat, j ≤ 8 ∧ i = .int .i64 ((q : Int) * 8 + j) ∧ x = .int .u64 ((beN (padL s) (q * 8) j : Nat) : Int)) (fun _ i => (((q : Int) + 1) * 8 - intOf i).toNat)
  case atStart => exact ⟨0, by omega, by simp, rfl⟩
  case round =>
    obtain ⟨j, hj, rfl, rfl⟩ := hrel
    by_cases hlt : j < 8
    · have hv : beN (padL s) (q * 8) j < 72057594037927936 := Nat.lt_of_lt_of_le (beN_lt _ _ j (padL_lt s)) (Nat.pow_le_pow_right (by decide) (show j ≤ 7 by omega))
      have HS : Hid (beN (padL s) (q * 8) (j + 1) = beN (padL s) (q * 8) j * 256 + at0 (padL s) (q * 8 + j)) := rfl
      have HV := hide hv
      generalize beN (padL s) (q * 8) j = v at hv HS HV ⊢
      have HC := hide (padL_lt s (q * 8 + j))
      rcases Nat.lt_trichotomy (q * 8 + j) s.size with h | h | h
      · have HX := hide (padL_in s (q * 8 + j) h)
        have t1 : ((q : Int) * 8 + (j : Int)).toNat = q * 8 + j := by omega
        have h1 : (q : Int) * 8 + (j : Int) < (s.size : Int) := by omega
        have h2 : (0 : Int) ≤ (q : Int) * 8 + (j : Int) := by omega
        have hcb : (((s[q * 8 + j]'h).toNat : Nat) : Int) ≤ 255 := by have := UInt8.toNat_lt (s[q * 8 + j]'h); omega
        clear hv
        go_wp2
        go_round
        case rel =>
          refine ⟨j + 1, by omega, by go_num, ?_⟩
          rw [HS.out, HX.out]
          have := HV.out
          refine congrArg (Value.int IntKind.u64) ?_
          try simp only [IntKind.wrap_u64]
          omega
        case measure => simp [intOf]; omega
      · have HX := hide (show at0 (padL s) (q * 8 + j) = 1 by rw [h]; exact padL_at s)
        have h1 : decide ((q : Int) * 8 + (j : Int) < (s.size : Int)) = false := by simp; omega
        have h2 : ((q : Int) * 8 + (j : Int) == (s.size : Int)) = true := by rw [beq_iff_eq]; omega
        have H := hide h
        clear hv h
        go_wp2
        go_round
        case rel =>
          refine ⟨j + 1, by omega, by go_num, ?_⟩
          rw [HS.out, HX.out]
          have := HV.out
          refine congrArg (Value.int IntKind.u64) ?_
          try simp only [IntKind.wrap_u64]
          omega
        case measure => simp [intOf]; omega
      · have HX := hide (padL_past s (q * 8 + j) h)
        have h1 : decide ((q : Int) * 8 + (j : Int) < (s.size : Int)) = false := by simp; omega
        have h2 : ((q : Int) * 8 + (j : Int) == (s.size : Int)) = false := by rw [beq_eq_false_iff_ne]; omega
        clear hv
        go_wp2
        go_round
        case rel =>
          refine ⟨j + 1, by omega, by go_num, ?_⟩
          rw [HS.out, HX.out]
          have := HV.out
          refine congrArg (Value.int IntKind.u64) ?_
          try simp only [IntKind.wrap_u64]
          omega
        case measure => simp [intOf]; omega
    · obtain rfl : j = 8 := by omega
      go_wp2
      go_ret
      exact ⟨rfl, rfl⟩

end Go.Proofs.YtgaoeoijdpdjiabGreatDoor
