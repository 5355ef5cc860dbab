/-
  sets.Digits at the sets with Bytes 4 and Wide 4, and a text of that length. The program's padded: the text, a 1 and zeros, in a new row. sets.Measure and the document's sizes, at every set. The statement's own 'some': the first n bytes of a text, zeros behind its end.
-/
import Derived.Test.YtgaoeoijdpdjiabDoorPart13
import Derived.Test.YtgaoeoijdpdjiabDoorPart9
import Derived.Test.YtgaoeoijdpdjiabDoorPart12
import Derived.Laws.MakeOwn
import Derived.Lib.BufferWrite
import Derived.Laws.CopyOwn
import Derived.Test.YtgaoeoijdpdjiabDoorPart11
import Derived.Test.YtgaoeoijdpdjiabDoorPart8
import Derived.Test.YtgaoeoijdpdjiabDoorPart10
import Derived.Test.YtgaoeoijdpdjiabDoorPart4
namespace Go.Proofs.YtgaoeoijdpdjiabDoor
open Go.RowKit

theorem slice_4_4 (g j : Nat) (hj : j < 4) (wx : World) : (Instr.slice 64 (.slice (some ⟨g, 0, none⟩) 19 19) (some (.int .i64 ((j : Int) * 4))) (some (.int .i64 (((j : Int) + 1) * 4))) none).run Tryd.prog wx = .ok (.slice (some ⟨g, j * 4, none⟩) 4 (19 - j * 4)) wx := by
  rcases (show j = 0 ∨ j = 1 ∨ j = 2 ∨ j = 3 by omega) with rfl | rfl | rfl | rfl <;> simp [go_sem]

set_option maxHeartbeats 1000000 in
theorem digits_4_4 (k t l : Int) (m : ByteArray) (w : World) (hk : k = 1 ∨ k = 2) (h1 : 1 ≤ t) (h2 : t ≤ 4) (h3 : 1 ≤ l) (h4 : l ≤ 3) (hm : m.size = 4) :
    Calls Tryd.prog 42 #[.agg #[.int .i64 k, .int .i64 4, .int .i64 4, .int .i64 t, .int .i64 l], .string m] w fun r w' =>
      ∃ g, r = .returned (.tuple #[.slice (some ⟨g, 0, none⟩) 19 19, .int .i64 0]) ∧ w.heap.size ≤ g ∧ RowZ w' g ((digitsN 4 4 3 (bytesN m)).map Int.ofNat) ∧ Below w.heap.size w w' := by
  have hmk : ∀ w : World, (Instr.makeSlice 64 (.int .i64 19) (.int .i64 19)).run Tryd.prog w = .ok (.slice (some ⟨w.heap.size, 0, none⟩) 19 19) (w.alloc (.cells #[.int .i64 0, .int .i64 0, .int .i64 0, .int .i64 0, .int .i64 0, .int .i64 0, .int .i64 0, .int .i64 0, .int .i64 0, .int .i64 0, .int .i64 0, .int .i64 0, .int .i64 0, .int .i64 0, .int .i64 0, .int .i64 0, .int .i64 0, .int .i64 0, .int .i64 0] 3)) := fun _ => by kernel_rfl
  have HM : Hid (m.size = 4) := hm
  have hms : ((m.size : Int) != 4) = false := by simp [hm]
  clear hm
  have HMT := measure_4_4 k t l (w.alloc (.cells #[.int .i64 k, .int .i64 4, .int .i64 4, .int .i64 t, .int .i64 l] 23)) hk h1 h2 h3 h4
  go_enter Tryd.func42, Tryd.ntmps42
  go_wp2_with fail
  refine HMT.mono ?_
  clear HMT
  rintro r w1 ⟨rfl, hb1⟩
  have hz1 := hb1.size
  simp at hz1
  have hz2 : w.heap.size < w1.heap.size := by omega
  have hz3 : ¬ w.heap.size = w1.heap.size := by omega
  have cx : w1.cell? ⟨w.heap.size, 2, none⟩ = some (.int .i64 4) := (hb1.cell (by simp)).trans (by simp [go_sem])
  have cb : w1.cell? ⟨w.heap.size, 1, none⟩ = some (.int .i64 4) := (hb1.cell (by simp)).trans (by simp [go_sem])
  have HB1 : Hid (Below w.heap.size w w1) := ((Below.refl _ _).alloc (Nat.le_refl _) _).trans (hb1.mono (by simp))
  clear hb1
  go_wp2_with fail
  refine (perByte_4 _).mono ?_
  rintro r w2 ⟨rfl, rfl⟩
  go_wp2
  have HR0 : Hid (RowZ ((w1.alloc (.cells #[.int .i64 16, .int .i64 3, .int .i64 19, .int .i64 (totalZ t l), .int .i64 (sigZ 4 4 t l), .int .i64 13] 56)).alloc (.cells #[.int .i64 0, .int .i64 0, .int .i64 0, .int .i64 0, .int .i64 0, .int .i64 0, .int .i64 0, .int .i64 0, .int .i64 0, .int .i64 0, .int .i64 0, .int .i64 0, .int .i64 0, .int .i64 0, .int .i64 0, .int .i64 0, .int .i64 0, .int .i64 0, .int .i64 0] 3)) (w1.heap.size + 1) (rowAt 4 4 19 (bytesN m) 0)) := by have h := row_new (w1.alloc (.cells #[.int .i64 16, .int .i64 3, .int .i64 19, .int .i64 (totalZ t l), .int .i64 (sigZ 4 4 t l), .int .i64 13] 56)) #[.int .i64 0, .int .i64 0, .int .i64 0, .int .i64 0, .int .i64 0, .int .i64 0, .int .i64 0, .int .i64 0, .int .i64 0, .int .i64 0, .int .i64 0, .int .i64 0, .int .i64 0, .int .i64 0, .int .i64 0, .int .i64 0, .int .i64 0, .int .i64 0, .int .i64 0] 4 4 19 (bytesN m) rfl; rw [World.size_alloc] at h; exact h
  have HB0 : Hid (Below w.heap.size w ((w1.alloc (.cells #[.int .i64 16, .int .i64 3, .int .i64 19, .int .i64 (totalZ t l), .int .i64 (sigZ 4 4 t l), .int .i64 13] 56)).alloc (.cells #[.int .i64 0, .int .i64 0, .int .i64 0, .int .i64 0, .int .i64 0, .int .i64 0, .int .i64 0, .int .i64 0, .int .i64 0, .int .i64 0, .int .i64 0, .int .i64 0, .int .i64 0, .int .i64 0, .int .i64 0, .int .i64 0, .int .i64 0, .int .i64 0, .int .i64 0] 3))) := (HB1.out.alloc (by omega) _).alloc (by simp; omega) _
  go_loopw [32] (fun i wr => ∃ j : Nat, j ≤ 4 ∧ i = .int .i64 j ∧ Hid (RowZ wr (w1.heap.size + 1) (rowAt 4 4 19 (bytesN m) j)) ∧ wr.cell? ⟨w.heap.size, 2, none⟩ = some (.int .i64 4) ∧ wr.cell? ⟨w1.heap.size, 0, none⟩ = some (.int .i64 16) ∧ Hid (Below w.heap.size w wr)) (fun i _ => 4 - (intOf i).toNat)
  case atStart => exact ⟨0, by omega, rfl, HR0, by simp [go_sem, World.cell?_alloc_past, hz2, cx], by simp [go_sem], HB0⟩
  case round =>
    obtain ⟨j, hj, rfl, hr, cx', cf', hb'⟩ := hrel
    have hms2 : m.size ≤ 4 := Nat.le_of_eq HM.out
    have hms3 : 4 ≤ m.size := Nat.le_of_eq HM.out.symm
    by_cases hlt : j < 4
    · have hlt2 : j < m.size := by omega
      have q0 : (0 : Int) ≤ (j : Int) := by omega
      have q1 : (j : Int) < (m.size : Int) := by omega
      have v1 : IntKind.i64.wrap ((j : Int) * 4) = (j : Int) * 4 := by rw [IntKind.wrap_i64] <;> omega
      have v2 : IntKind.i64.wrap ((j : Int) + 1) = (j : Int) + 1 := by rw [IntKind.wrap_i64] <;> omega
      have v3 : IntKind.i64.wrap (((j : Int) + 1) * 4) = ((j : Int) + 1) * 4 := by rw [IntKind.wrap_i64] <;> omega
      have hsl : ∀ wx : World, (Instr.slice 64 (.slice (some ⟨w1.heap.size + 1, 0, none⟩) 19 19) (some (.int .i64 ((j : Int) * 4))) (some (.int .i64 (((j : Int) + 1) * 4))) none).run Tryd.prog wx = .ok (.slice (some ⟨w1.heap.size + 1, j * 4, none⟩) 4 (19 - j * 4)) wx := slice_4_4 _ j hlt
      have hcv : IntKind.i64.wrap ((m[j].toNat : Nat) : Int) = ((m[j].toNat : Nat) : Int) := by have := UInt8.toNat_lt m[j]; rw [IntKind.wrap_i64] <;> omega
      have HL := hideM (lay_any (w1.heap.size + 1) (j * 4) 4 (19 - j * 4) (m[j].toNat) 4 (rowAt 4 4 19 (bytesN m) j) wr.drew hr.out.drew (by rw [rowAt_length _ _ _ _ _ (by rw [bytesN_length]; omega) (by omega)]; omega) (by rw [rowAt_length _ _ _ _ _ (by rw [bytesN_length]; omega) (by omega)]; decide) (by decide) (by decide) (by have := UInt8.toNat_lt m[j]; omega))
      have HS := hideM (rowAt_step 4 4 19 (bytesN m) j (by rw [bytesN_length]; omega) (by omega))
      have HY := hideM (byte_at m j hlt2)
      go_wp2
      go_region_held3 (fun w' => w'.cell? ⟨w.heap.size, 2, none⟩ = some (.int .i64 4)) (first | exact cx3 | simp [go_sem, cx']) ((go_at_call 59; refine HL.out.mono ?_; rintro r w3 ⟨rfl, hr3, ho3⟩; have cx3 : w3.cell? ⟨w.heap.size, 2, none⟩ = some (.int .i64 4) := (ho3.cell (by simp; omega)).trans (by simp [go_sem, cx'])))
      have HR3 := hideM hr3
      have HO3 := hideM ho3
      clear hr3 ho3
      go_wp2
      go_roundw
      case rel =>
        have h := HR3.out
        rw [← HY.out, HS.out] at h
        have R : ∃ i : Nat, i ≤ 4 ∧ Value.int .i64 ((j : Int) + 1) = .int .i64 i ∧ Hid (RowZ w3 (w1.heap.size + 1) (rowAt 4 4 19 (bytesN m) i)) ∧ w3.cell? ⟨w.heap.size, 2, none⟩ = some (.int .i64 4) ∧ w3.cell? ⟨w1.heap.size, 0, none⟩ = some (.int .i64 16) ∧ Hid (Below w.heap.size w w3) :=
          ⟨j + 1, by omega, by go_num, h, cx3, (HO3.out.cell (by simp)).trans (by simp [go_sem, cf']), OnlyM.below hb'.out.drew HO3.out (by omega)⟩
        first | exact R | ((repeat apply Exists.intro); exact ⟨R, rfl⟩)
      case measure => simp [intOf]; omega
    · obtain rfl : j = 4 := by omega
      have e0 : (bytesN m).length = 4 := by rw [bytesN_length]; exact HM.out
      have ht := rowAt_take 4 4 19 (bytesN m)
      have hla := rowAt_last 4 4 3 19 (bytesN m) (by rw [e0])
      rw [e0] at ht hla
      have HLK := hideM (lack_any (w1.heap.size + 1) 16 19 4 (rowAt 4 4 19 (bytesN m) 4) (firsts 4 4 (bytesN m)) wr.drew hr.out.drew ht (by rw [firsts_length, e0]) (by decide) (by decide) (by decide) (firsts_lt _ _ _ (by decide)))
      have hlk : lackN 4 (firsts 4 4 (bytesN m)) ≤ 48 := by have := lackN_le 4 (firsts 4 4 (bytesN m)); rw [firsts_length, e0] at this; omega
      have HL := hideM (lay_any (w1.heap.size + 1) 16 3 3 (lackN 4 (firsts 4 4 (bytesN m))) 4 (rowAt 4 4 19 (bytesN m) 4) wr.drew hr.out.drew (by rw [rowAt_length _ _ _ _ _ (by rw [e0]; exact Nat.le_refl _) (by decide)]; decide) (by rw [rowAt_length _ _ _ _ _ (by rw [e0]; exact Nat.le_refl _) (by decide)]; decide) (by decide) (by decide) (by omega))
      have HLA := hideM hla
      clear hla ht hlk e0
      go_wp2
      go_region_held3 (fun w' => w'.cell? ⟨w.heap.size, 2, none⟩ = some (.int .i64 4) ∧ w'.cell? ⟨w1.heap.size, 0, none⟩ = some (.int .i64 16)) (first | exact ⟨cx3, cf3⟩ | simp [go_sem, cx', cf']) (first | (go_at_call 60; refine HLK.out.mono ?_; rintro r w3 ⟨rfl, rfl⟩) | (go_at_call 59; refine HL.out.mono ?_; rintro r w3 ⟨rfl, hr3, ho3⟩; have cx3 : w3.cell? ⟨w.heap.size, 2, none⟩ = some (.int .i64 4) := (ho3.cell (by simp; omega)).trans (by simp [go_sem, cx']); have cf3 : w3.cell? ⟨w1.heap.size, 0, none⟩ = some (.int .i64 16) := (ho3.cell (by simp)).trans (by simp [go_sem, cf'])))
      have HR3 := hideM hr3
      have HO3 := hideM ho3
      clear hr3 ho3
      go_wp2
      go_ret2
      refine ⟨w1.heap.size + 1, rfl, by omega, ?_, OnlyM.below hb'.out.drew HO3.out (by omega)⟩
      have h := HR3.out
      rw [HLA.out] at h
      exact h
end Go.Proofs.YtgaoeoijdpdjiabDoor

namespace Go.Proofs.YtgaoeoijdpdjiabDoor
open Go.RowKit

def zerosB (n : Nat) : Array Value := (List.replicate n (Value.int .u8 0)).toArray
theorem zerosB_size (n : Nat) : (zerosB n).size = n := by simp [zerosB]
theorem made_zeros (n : Nat) : madeCells (Value.int .u8 0).cells n = zerosB n := by
  apply Array.ext
  · simp [size_madeCells, zerosB_size]
  · intro i h1 h2
    simp [madeCells, zerosB, Value.cells, Nat.mod_one]

/-- The padded row of N bytes. -/
def padRow (s : ByteArray) (N : Nat) : List Nat := padL s ++ List.replicate (N - (s.size + 1)) 0
theorem padRow_at (s : ByteArray) (N i : Nat) : at0 (padRow s N) i = at0 (padL s) i := by
  unfold padRow at0
  by_cases h : i < (padL s).length
  · rw [List.getD_eq_getElem?_getD, List.getD_eq_getElem?_getD, List.getElem?_append_left h]
  · rw [List.getD_eq_getElem?_getD, List.getD_eq_getElem?_getD, List.getElem?_append_right (by omega), List.getElem?_eq_none (by omega : (padL s).length ≤ i)]
    by_cases h2 : i - (padL s).length < N - (s.size + 1)
    · simp [h2]
    · rw [List.getElem?_eq_none (by simp; omega)]
theorem pad_small (s : ByteArray) (N i : Nat) : at0 (padRow s N) i < 256 := by
  rw [padRow_at]; exact padL_lt s i
theorem padRow_length (s : ByteArray) (N : Nat) (h : s.size < N) : (padRow s N).length = N := by
  simp [padRow, padL_length]; omega
theorem infoByte2 : (Tryd.prog.info? 5).map (fun i => (i.zero, i.size, i.bytes)) = some (some (.int .u8 0), 1, 1) := by kernel_rfl

set_option maxRecDepth 20000 in
set_option maxHeartbeats 1000000 in
theorem padded_16 (s : ByteArray) (w : World) (hs : s.size ≤ 400) :
    Calls Tryd.prog 70 #[.string s, .int .i64 16] w fun e w' => e = .returned (.slice (some ⟨w.heap.size, 0, none⟩) ((s.size / 16 + 1) * 16) ((s.size / 16 + 1) * 16)) ∧ RowK w' w.heap.size .u8 5 (padRow s ((s.size / 16 + 1) * 16)) ∧ Below w.heap.size w w' := by
  obtain ⟨i0, hi, hz0, hz1, hz2⟩ := info_parts infoByte2
  have hmk : ∀ w : World, (Instr.makeSlice 41 (.int .i64 (((s.size : Int) / 16 + 1) * 16)) (.int .i64 (((s.size : Int) / 16 + 1) * 16))).run Tryd.prog w = .ok (.slice (some ⟨w.heap.size, 0, none⟩) ((s.size / 16 + 1) * 16) ((s.size / 16 + 1) * 16)) (w.alloc (.cells (zerosB ((s.size / 16 + 1) * 16)) 5)) := by
    intro w
    have h := run_make (P := Tryd.prog) w 41 5 i0 (.int .u8 0) Tryd.underlying41 hi hz0 .i64 .i64 (((s.size : Int) / 16 + 1) * 16) (((s.size : Int) / 16 + 1) * 16) (by omega) (by omega) (by rw [hz2]; omega) (by omega)
    rw [hz1, Nat.mul_one, made_zeros, show (((s.size : Int) / 16 + 1) * 16).toNat = (s.size / 16 + 1) * 16 by omega] at h
    exact h
  have hN : s.size < (s.size / 16 + 1) * 16 := by omega
  have hN2 : (s.size / 16 + 1) * 16 ≤ 1000 := by omega
  have hcp := Lib.run_copy_row_string (P := Tryd.prog) (w.alloc (.cells (zerosB ((s.size / 16 + 1) * 16)) 5)) 41 9 3 5 w.heap.size 0 ((s.size / 16 + 1) * 16) ((s.size / 16 + 1) * 16) s (zerosB ((s.size / 16 + 1) * 16)) 5 Tryd.underlying41 (by kernel_rfl) (heap_alloc_new _ _) (by omega) (by rw [zerosB_size]; omega)
  generalize hM : (s.size / 16 + 1) * 16 = N at hmk hN hN2 hcp ⊢
  clear hM
  have HROW := hide (show RowK ((w.alloc (.cells (zerosB N) 5)).setRow w.heap.size ((zerosB N).toList.take 0 ++ Lib.byteCells s.data.toList ++ (zerosB N).toList.drop (0 + s.size)).toArray) w.heap.size .u8 5 (s.data.toList.map UInt8.toNat ++ List.replicate (N - s.size) 0) by
    unfold RowK
    rw [setRow_heap _ _ _ _ 5 _ (heap_alloc_new _ _)]
    congr 2
    simp [zerosB, Lib.byteCells])
  have HBEL := hide (below_setRow ((Below.refl w.heap.size w).alloc (Nat.le_refl _) (.cells (zerosB N) 5)) (Nat.le_refl w.heap.size) ((zerosB N).toList.take 0 ++ Lib.byteCells s.data.toList ++ (zerosB N).toList.drop (0 + s.size)).toArray)
  generalize (w.alloc (.cells (zerosB N) 5)).setRow w.heap.size ((zerosB N).toList.take 0 ++ Lib.byteCells s.data.toList ++ (zerosB N).toList.drop (0 + s.size)).toArray = V at hcp HROW HBEL
  have hlen : (s.data.toList.map UInt8.toNat ++ List.replicate (N - s.size) 0).length = N := by simp; omega
  have cV := HROW.out.cell (i := s.size) (by omega)
  have fV := HROW.out.free s.size
  have HSET := hide (HROW.out.set s.size 1)
  have HPAD := hide (show (s.data.toList.map UInt8.toNat ++ List.replicate (N - s.size) 0).set s.size 1 = padRow s N by
    unfold padRow padL
    rw [List.set_append_right _ _ (by simp), show s.size - (s.data.toList.map UInt8.toNat).length = 0 by simp, show N - s.size = (N - (s.size + 1)) + 1 by omega, List.replicate_succ, List.set_cons_zero]
    simp)
  clear hlen
  go_enter Tryd.func70, Tryd.ntmps70
  go_wp2
  go_ret
  refine ⟨rfl, ?_, HBEL.out.setCell (Nat.le_refl _) _⟩
  have h := HSET.out
  rw [HPAD.out] at h
  exact h

set_option maxRecDepth 20000 in
set_option maxHeartbeats 1000000 in
theorem padded_32 (s : ByteArray) (w : World) (hs : s.size ≤ 400) :
    Calls Tryd.prog 70 #[.string s, .int .i64 32] w fun e w' => e = .returned (.slice (some ⟨w.heap.size, 0, none⟩) ((s.size / 32 + 1) * 32) ((s.size / 32 + 1) * 32)) ∧ RowK w' w.heap.size .u8 5 (padRow s ((s.size / 32 + 1) * 32)) ∧ Below w.heap.size w w' := by
  obtain ⟨i0, hi, hz0, hz1, hz2⟩ := info_parts infoByte2
  have hmk : ∀ w : World, (Instr.makeSlice 41 (.int .i64 (((s.size : Int) / 32 + 1) * 32)) (.int .i64 (((s.size : Int) / 32 + 1) * 32))).run Tryd.prog w = .ok (.slice (some ⟨w.heap.size, 0, none⟩) ((s.size / 32 + 1) * 32) ((s.size / 32 + 1) * 32)) (w.alloc (.cells (zerosB ((s.size / 32 + 1) * 32)) 5)) := by
    intro w
    have h := run_make (P := Tryd.prog) w 41 5 i0 (.int .u8 0) Tryd.underlying41 hi hz0 .i64 .i64 (((s.size : Int) / 32 + 1) * 32) (((s.size : Int) / 32 + 1) * 32) (by omega) (by omega) (by rw [hz2]; omega) (by omega)
    rw [hz1, Nat.mul_one, made_zeros, show (((s.size : Int) / 32 + 1) * 32).toNat = (s.size / 32 + 1) * 32 by omega] at h
    exact h
  have hN : s.size < (s.size / 32 + 1) * 32 := by omega
  have hN2 : (s.size / 32 + 1) * 32 ≤ 1000 := by omega
  have hcp := Lib.run_copy_row_string (P := Tryd.prog) (w.alloc (.cells (zerosB ((s.size / 32 + 1) * 32)) 5)) 41 9 3 5 w.heap.size 0 ((s.size / 32 + 1) * 32) ((s.size / 32 + 1) * 32) s (zerosB ((s.size / 32 + 1) * 32)) 5 Tryd.underlying41 (by kernel_rfl) (heap_alloc_new _ _) (by omega) (by rw [zerosB_size]; omega)
  generalize hM : (s.size / 32 + 1) * 32 = N at hmk hN hN2 hcp ⊢
  clear hM
  have HROW := hide (show RowK ((w.alloc (.cells (zerosB N) 5)).setRow w.heap.size ((zerosB N).toList.take 0 ++ Lib.byteCells s.data.toList ++ (zerosB N).toList.drop (0 + s.size)).toArray) w.heap.size .u8 5 (s.data.toList.map UInt8.toNat ++ List.replicate (N - s.size) 0) by
    unfold RowK
    rw [setRow_heap _ _ _ _ 5 _ (heap_alloc_new _ _)]
    congr 2
    simp [zerosB, Lib.byteCells])
  have HBEL := hide (below_setRow ((Below.refl w.heap.size w).alloc (Nat.le_refl _) (.cells (zerosB N) 5)) (Nat.le_refl w.heap.size) ((zerosB N).toList.take 0 ++ Lib.byteCells s.data.toList ++ (zerosB N).toList.drop (0 + s.size)).toArray)
  generalize (w.alloc (.cells (zerosB N) 5)).setRow w.heap.size ((zerosB N).toList.take 0 ++ Lib.byteCells s.data.toList ++ (zerosB N).toList.drop (0 + s.size)).toArray = V at hcp HROW HBEL
  have hlen : (s.data.toList.map UInt8.toNat ++ List.replicate (N - s.size) 0).length = N := by simp; omega
  have cV := HROW.out.cell (i := s.size) (by omega)
  have fV := HROW.out.free s.size
  have HSET := hide (HROW.out.set s.size 1)
  have HPAD := hide (show (s.data.toList.map UInt8.toNat ++ List.replicate (N - s.size) 0).set s.size 1 = padRow s N by
    unfold padRow padL
    rw [List.set_append_right _ _ (by simp), show s.size - (s.data.toList.map UInt8.toNat).length = 0 by simp, show N - s.size = (N - (s.size + 1)) + 1 by omega, List.replicate_succ, List.set_cons_zero]
    simp)
  clear hlen
  go_enter Tryd.func70, Tryd.ntmps70
  go_wp2
  go_ret
  refine ⟨rfl, ?_, HBEL.out.setCell (Nat.le_refl _) _⟩
  have h := HSET.out
  rw [HPAD.out] at h
  exact h

end Go.Proofs.YtgaoeoijdpdjiabDoor

namespace Go.Proofs.YtgaoeoijdpdjiabDoor
open Go.RowKit

theorem setsMeasure_yes (b x e f t l : Nat) (hp : Pair b x e f) (k : Int) (w : World) (hk : k = 1 ∨ k = 2) (h1 : 1 ≤ t) (h2 : t ≤ 4) (h3 : 1 ≤ l) (h4 : l ≤ 3) :
    Calls Tryd.prog 27 #[.agg #[.int .i64 k, .int .i64 b, .int .i64 x, .int .i64 t, .int .i64 l]] w fun r w' =>
      r = .returned (.tuple #[.agg #[.int .i64 ((b * e : Nat) : Int), .int .i64 f, .int .i64 ((b * e + f : Nat) : Int), .int .i64 (totalZ t l), .int .i64 (sigZ b x t l), .int .i64 ((5 + 2 * b : Nat) : Int)], .int .i64 0]) ∧ Below w.heap.size w w' := by
  rcases hp with ⟨rfl, rfl, rfl, rfl⟩ | ⟨rfl, rfl, rfl, rfl⟩ | ⟨rfl, rfl, rfl, rfl⟩ | ⟨rfl, rfl, rfl, rfl⟩
  · exact measure_4_4 k t l w hk (by omega) (by omega) (by omega) (by omega)
  · exact measure_8_4 k t l w hk (by omega) (by omega) (by omega) (by omega)
  · exact measure_4_16 k t l w hk (by omega) (by omega) (by omega) (by omega)
  · exact measure_8_16 k t l w hk (by omega) (by omega) (by omega) (by omega)

set_option maxHeartbeats 400000 in
theorem setsMeasure_no (k b x t l : Int) (w : World) (hr : rightB k b x t l = false) :
    Calls Tryd.prog 27 #[.agg #[.int .i64 k, .int .i64 b, .int .i64 x, .int .i64 t, .int .i64 l]] w fun r w' =>
      r = .returned (.tuple #[.agg #[.int .i64 0, .int .i64 0, .int .i64 0, .int .i64 0, .int .i64 0, .int .i64 0], .int .i64 1]) ∧ Below w.heap.size w w' := by
  have HR := hideM hr
  clear hr
  go_enter Tryd.func27, Tryd.ntmps27
  go_wp2_with fail
  refine (check_any k b x t l _).mono ?_
  rintro e w1 ⟨rfl, hb⟩
  rw [HR.out]
  obtain ⟨z0, z1, z2, z3, z4, z5⟩ := six_zero hb
  have fz : ∀ o, w1.frozen? ⟨w.heap.size + 1, o, none⟩ = false := fun o => (hb.frozen (by simp)).trans (by simp [go_sem])
  have HB := hideM ((((Below.refl _ _).alloc (Nat.le_refl _) _).alloc (by simp) _).trans (hb.mono (by simp; omega)) : Below w.heap.size w w1)
  clear hb
  go_wp2
  refine bodyPost_ret (v := .tuple #[.agg #[.int .i64 0, .int .i64 0, .int .i64 0, .int .i64 0, .int .i64 0, .int .i64 0], .int .i64 1]) (by simp [results, Tryd.results27, go_sem, z0, z1, z2, z3, z4, z5]) rfl ⟨rfl, ?_⟩
  iterate 6 refine Below.setCell ?_ (show w.heap.size ≤ _ by simp) _
  exact HB.out

end Go.Proofs.YtgaoeoijdpdjiabDoor

namespace Go.Proofs.YtgaoeoijdpdjiabDoor
open Go.RowKit

theorem makeU8g (k : Nat) (hk : k ≤ 1000) (w : World) : (Instr.makeSlice 41 (.int .i64 k) (.int .i64 k)).run Tryd.prog w = .ok (.slice (some ⟨w.heap.size, 0, none⟩) k k) (w.alloc (.cells ((List.replicate k 0).map (fun n => Value.int .u8 ((n : Nat) : Int))).toArray 5)) := by
  obtain ⟨i0, hi, hz0, hz1, hz2⟩ := info_parts infoU8
  have h := run_make (P := Tryd.prog) w 41 5 i0 (.int .u8 0) Tryd.underlying41 hi hz0 .i64 .i64 k k (by omega) (by omega) (by rw [hz2]; omega) (by omega)
  rw [hz1, Nat.mul_one, Int.toNat_natCast, madeU8] at h
  exact h

/-- The first n bytes, of which j are laid. -/
def someJ (s : ByteArray) (n j : Nat) : List Nat := (List.range n).map (fun i => if i < j then byt s i else 0)
def someL (s : ByteArray) (n : Nat) : List Nat := (List.range n).map (fun i => byt s i)
def someB (s : ByteArray) (n : Nat) : ByteArray := ⟨((someL s n).map UInt8.ofNat).toArray⟩
theorem someB_size (s : ByteArray) (n : Nat) : (someB s n).size = n := by simp [someB, ByteArray.size, someL]
theorem someJ_length (s : ByteArray) (n j : Nat) : (someJ s n j).length = n := by simp [someJ]
theorem someJ_zero (s : ByteArray) (n : Nat) : someJ s n 0 = List.replicate n 0 := by
  apply List.ext_getElem
  · simp [someJ]
  · intro i h1 h2; simp [someJ]
theorem someJ_step (s : ByteArray) (n j : Nat) : (someJ s n j).set j (byt s j) = someJ s n (j + 1) := by
  apply List.ext_getElem
  · simp [someJ]
  · intro i h1 h2
    rw [List.getElem_set]
    simp only [someJ, List.getElem_map, List.getElem_range]
    by_cases e : j = i
    · subst e; simp
    · rw [if_neg e]
      by_cases hi : i < j
      · rw [if_pos hi, if_pos (by omega)]
      · rw [if_neg hi, if_neg (by omega)]
theorem byt_end (s : ByteArray) (k : Nat) (h : s.size ≤ k) : byt s k = 0 := by
  unfold byt
  rw [List.getD_eq_getElem?_getD, List.getElem?_eq_none (by rw [List.length_map]; exact h)]
  rfl
theorem someJ_all (s : ByteArray) (n j : Nat) (h : n ≤ j ∨ s.size ≤ j) : someJ s n j = someL s n := by
  unfold someJ someL
  apply List.map_congr_left
  intro i hi
  have hi := List.mem_range.1 hi
  by_cases hlt : i < j
  · rw [if_pos hlt]
  · rw [if_neg hlt]
    rcases h with h | h
    · omega
    · rw [byt_end s i (by omega)]
theorem someL_lt (s : ByteArray) (n : Nat) : ∀ d ∈ someL s n, d < 256 := by
  intro d hd
  obtain ⟨i, _, rfl⟩ := List.mem_map.1 hd
  exact byt_lt s i

set_option maxRecDepth 20000 in
set_option maxHeartbeats 1000000 in
theorem someN_any (s : ByteArray) (n : Nat) (w : World) (hs : s.size ≤ maxLen) (hn : n ≤ 1000) :
    Calls Tryd.prog 5 #[.string s, .int .i64 n] w fun e w' => e = .returned (.string (someB s n)) ∧ Below w.heap.size w w' := by
  have hmk := makeU8g n hn
  unfold maxLen at hs
  go_enter Tryd.func5, Tryd.ntmps5
  go_wp2
  clear hmk
  go_loopw [6] (fun i wr => ∃ j : Nat, j ≤ n ∧ i = .int .i64 j ∧ Hid (RowK wr w.heap.size .u8 5 (someJ s n j)) ∧ Hid (Below w.heap.size w wr)) (fun i _ => n - (intOf i).toNat)
  case atStart =>
    refine ⟨0, Nat.zero_le _, rfl, ?_, (Below.refl _ _).alloc (Nat.le_refl _) _⟩
    show RowK _ _ _ _ _
    unfold RowK
    rw [heap_alloc_new, someJ_zero]
    simp
  case round =>
    obtain ⟨j, hj, rfl, hr, hb⟩ := hrel
    by_cases h1 : j < n
    · by_cases h2 : j < s.size
      · have hby : byt s j = (s[j]'h2).toNat := byt_of s j h2
        have HS := hide (someJ_step s n j)
        have hl := someJ_length s n j
        have hc := hr.out.cell (i := j) (by omega)
        have hf := hr.out.free j
        clear hl
        go_wp2
        go_roundw
        case rel =>
          refine ⟨j + 1, by omega, by go_num, ?_, hb.out.setCell (Nat.le_refl _) _⟩
          have := hr.out.set j (byt s j)
          rw [HS.out, hby] at this
          exact this
        case measure => simp [intOf]; omega
      · have HT := textRow wr w.heap.size n (someL s n) (someL_lt s n) (by rw [← someJ_all s n j (.inr (by omega))]; exact hr.out) (by simp [someL])
        go_wp2
        go_ret
        exact ⟨rfl, hb.out⟩
    · obtain rfl : j = n := by omega
      have HT := textRow wr w.heap.size j (someL s j) (someL_lt s j) (by rw [← someJ_all s j j (.inl (by omega))]; exact hr.out) (by simp [someL])
      go_wp2
      go_ret
      exact ⟨rfl, hb.out⟩
end Go.Proofs.YtgaoeoijdpdjiabDoor
