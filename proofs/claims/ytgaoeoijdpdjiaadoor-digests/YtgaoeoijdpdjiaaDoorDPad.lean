/-
  The program's padded: the text, a 1 and zeros, in a new row.
-/
import Derived.Test.YtgaoeoijdpdjiaaDoorDPadL
import Derived.Laws.MakeOwn
import Derived.Lib.BufferWrite
import Derived.Laws.CopyOwn
namespace Go.Proofs.YtgaoeoijdpdjiaaDoor
open Go.RowKit

def zerosB (n : Nat) : Array Value := (List.replicate n (Value.int .u8 0)).toArray
theorem zerosB_size (n : Nat) : (zerosB n).size = n := by simp [zerosB]
theorem made_zeros (n : Nat) : madeCells (Value.int .u8 0).cells n = zerosB n := by
  apply Array.ext
  · simp [size_madeCells, zerosB_size]
  · intro i h1 h2
    simp [madeCells, zerosB, Value.cells, Nat.mod_one]

/-- The padded row of N bytes. -/
def padRow (s : ByteArray) (N : Nat) : List Nat := padL s ++ List.replicate (N - (s.size + 1)) 0
theorem padRow_at (s : ByteArray) (N i : Nat) : at0 (padRow s N) i = at0 (padL s) i := by
  unfold padRow at0
  by_cases h : i < (padL s).length
  · rw [List.getD_eq_getElem?_getD, List.getD_eq_getElem?_getD, List.getElem?_append_left h]
  · rw [List.getD_eq_getElem?_getD, List.getD_eq_getElem?_getD, List.getElem?_append_right (by omega), List.getElem?_eq_none (by omega : (padL s).length ≤ i)]
    by_cases h2 : i - (padL s).length < N - (s.size + 1)
    · simp [h2]
    · rw [List.getElem?_eq_none (by simp; omega)]
theorem pad_small (s : ByteArray) (N i : Nat) : at0 (padRow s N) i < 256 := by
  rw [padRow_at]; exact padL_lt s i
theorem padRow_length (s : ByteArray) (N : Nat) (h : s.size < N) : (padRow s N).length = N := by
  simp [padRow, padL_length]; omega
theorem infoByte2 : (Tryd.prog.info? 5).map (fun i => (i.zero, i.size, i.bytes)) = some (some (.int .u8 0), 1, 1) := by kernel_rfl

set_option maxRecDepth 20000 in
set_option maxHeartbeats 1000000 in
theorem padded_16 (s : ByteArray) (w : World) (hs : s.size ≤ 400) :
    Calls Tryd.prog 76 #[.string s, .int .i64 16] w fun e w' => e = .returned (.slice (some ⟨w.heap.size, 0, none⟩) ((s.size / 16 + 1) * 16) ((s.size / 16 + 1) * 16)) ∧ RowK w' w.heap.size .u8 5 (padRow s ((s.size / 16 + 1) * 16)) ∧ Below w.heap.size w w' := by
  obtain ⟨i0, hi, hz0, hz1, hz2⟩ := info_parts infoByte2
  have hmk : ∀ w : World, (Instr.makeSlice 60 (.int .i64 (((s.size : Int) / 16 + 1) * 16)) (.int .i64 (((s.size : Int) / 16 + 1) * 16))).run Tryd.prog w = .ok (.slice (some ⟨w.heap.size, 0, none⟩) ((s.size / 16 + 1) * 16) ((s.size / 16 + 1) * 16)) (w.alloc (.cells (zerosB ((s.size / 16 + 1) * 16)) 5)) := by
    intro w
    have h := run_make (P := Tryd.prog) w 60 5 i0 (.int .u8 0) Tryd.underlying60 hi hz0 .i64 .i64 (((s.size : Int) / 16 + 1) * 16) (((s.size : Int) / 16 + 1) * 16) (by omega) (by omega) (by rw [hz2]; omega) (by omega)
    rw [hz1, Nat.mul_one, made_zeros, show (((s.size : Int) / 16 + 1) * 16).toNat = (s.size / 16 + 1) * 16 by omega] at h
    exact h
  have hN : s.size < (s.size / 16 + 1) * 16 := by omega
  have hN2 : (s.size / 16 + 1) * 16 ≤ 1000 := by omega
  have hcp := Lib.run_copy_row_string (P := Tryd.prog) (w.alloc (.cells (zerosB ((s.size / 16 + 1) * 16)) 5)) 60 9 3 5 w.heap.size 0 ((s.size / 16 + 1) * 16) ((s.size / 16 + 1) * 16) s (zerosB ((s.size / 16 + 1) * 16)) 5 Tryd.underlying60 (by kernel_rfl) (heap_alloc_new _ _) (by omega) (by rw [zerosB_size]; omega)
  generalize hM : (s.size / 16 + 1) * 16 = N at hmk hN hN2 hcp ⊢
  clear hM
  have HROW := hide (show RowK ((w.alloc (.cells (zerosB N) 5)).setRow w.heap.size ((zerosB N).toList.take 0 ++ Lib.byteCells s.data.toList ++ (zerosB N).toList.drop (0 + s.size)).toArray) w.heap.size .u8 5 (s.data.toList.map UInt8.toNat ++ List.replicate (N - s.size) 0) by
    unfold RowK
    rw [setRow_heap _ _ _ _ 5 _ (heap_alloc_new _ _)]
    congr 2
    simp [zerosB, Lib.byteCells])
  have HBEL := hide (below_setRow ((Below.refl w.heap.size w).alloc (Nat.le_refl _) (.cells (zerosB N) 5)) (Nat.le_refl w.heap.size) ((zerosB N).toList.take 0 ++ Lib.byteCells s.data.toList ++ (zerosB N).toList.drop (0 + s.size)).toArray)
  generalize (w.alloc (.cells (zerosB N) 5)).setRow w.heap.size ((zerosB N).toList.take 0 ++ Lib.byteCells s.data.toList ++ (zerosB N).toList.drop (0 + s.size)).toArray = V at hcp HROW HBEL
  have hlen : (s.data.toList.map UInt8.toNat ++ List.replicate (N - s.size) 0).length = N := by simp; omega
  have cV := HROW.out.cell (i := s.size) (by omega)
  have fV := HROW.out.free s.size
  have HSET := hide (HROW.out.set s.size 1)
  have HPAD := hide (show (s.data.toList.map UInt8.toNat ++ List.replicate (N - s.size) 0).set s.size 1 = padRow s N by
    unfold padRow padL
    rw [List.set_append_right _ _ (by simp), show s.size - (s.data.toList.map UInt8.toNat).length = 0 by simp, show N - s.size = (N - (s.size + 1)) + 1 by omega, List.replicate_succ, List.set_cons_zero]
    simp)
  clear hlen
  go_enter Tryd.func76, Tryd.ntmps76
  go_wp2
  go_ret
  refine ⟨rfl, ?_, HBEL.out.setCell (Nat.le_refl _) _⟩
  have h := HSET.out
  rw [HPAD.out] at h
  exact h

set_option maxRecDepth 20000 in
set_option maxHeartbeats 1000000 in
theorem padded_32 (s : ByteArray) (w : World) (hs : s.size ≤ 400) :
    Calls Tryd.prog 76 #[.string s, .int .i64 32] w fun e w' => e = .returned (.slice (some ⟨w.heap.size, 0, none⟩) ((s.size / 32 + 1) * 32) ((s.size / 32 + 1) * 32)) ∧ RowK w' w.heap.size .u8 5 (padRow s ((s.size / 32 + 1) * 32)) ∧ Below w.heap.size w w' := by
  obtain ⟨i0, hi, hz0, hz1, hz2⟩ := info_parts infoByte2
  have hmk : ∀ w : World, (Instr.makeSlice 60 (.int .i64 (((s.size : Int) / 32 + 1) * 32)) (.int .i64 (((s.size : Int) / 32 + 1) * 32))).run Tryd.prog w = .ok (.slice (some ⟨w.heap.size, 0, none⟩) ((s.size / 32 + 1) * 32) ((s.size / 32 + 1) * 32)) (w.alloc (.cells (zerosB ((s.size / 32 + 1) * 32)) 5)) := by
    intro w
    have h := run_make (P := Tryd.prog) w 60 5 i0 (.int .u8 0) Tryd.underlying60 hi hz0 .i64 .i64 (((s.size : Int) / 32 + 1) * 32) (((s.size : Int) / 32 + 1) * 32) (by omega) (by omega) (by rw [hz2]; omega) (by omega)
    rw [hz1, Nat.mul_one, made_zeros, show (((s.size : Int) / 32 + 1) * 32).toNat = (s.size / 32 + 1) * 32 by omega] at h
    exact h
  have hN : s.size < (s.size / 32 + 1) * 32 := by omega
  have hN2 : (s.size / 32 + 1) * 32 ≤ 1000 := by omega
  have hcp := Lib.run_copy_row_string (P := Tryd.prog) (w.alloc (.cells (zerosB ((s.size / 32 + 1) * 32)) 5)) 60 9 3 5 w.heap.size 0 ((s.size / 32 + 1) * 32) ((s.size / 32 + 1) * 32) s (zerosB ((s.size / 32 + 1) * 32)) 5 Tryd.underlying60 (by kernel_rfl) (heap_alloc_new _ _) (by omega) (by rw [zerosB_size]; omega)
  generalize hM : (s.size / 32 + 1) * 32 = N at hmk hN hN2 hcp ⊢
  clear hM
  have HROW := hide (show RowK ((w.alloc (.cells (zerosB N) 5)).setRow w.heap.size ((zerosB N).toList.take 0 ++ Lib.byteCells s.data.toList ++ (zerosB N).toList.drop (0 + s.size)).toArray) w.heap.size .u8 5 (s.data.toList.map UInt8.toNat ++ List.replicate (N - s.size) 0) by
    unfold RowK
    rw [setRow_heap _ _ _ _ 5 _ (heap_alloc_new _ _)]
    congr 2
    simp [zerosB, Lib.byteCells])
  have HBEL := hide (below_setRow ((Below.refl w.heap.size w).alloc (Nat.le_refl _) (.cells (zerosB N) 5)) (Nat.le_refl w.heap.size) ((zerosB N).toList.take 0 ++ Lib.byteCells s.data.toList ++ (zerosB N).toList.drop (0 + s.size)).toArray)
  generalize (w.alloc (.cells (zerosB N) 5)).setRow w.heap.size ((zerosB N).toList.take 0 ++ Lib.byteCells s.data.toList ++ (zerosB N).toList.drop (0 + s.size)).toArray = V at hcp HROW HBEL
  have hlen : (s.data.toList.map UInt8.toNat ++ List.replicate (N - s.size) 0).length = N := by simp; omega
  have cV := HROW.out.cell (i := s.size) (by omega)
  have fV := HROW.out.free s.size
  have HSET := hide (HROW.out.set s.size 1)
  have HPAD := hide (show (s.data.toList.map UInt8.toNat ++ List.replicate (N - s.size) 0).set s.size 1 = padRow s N by
    unfold padRow padL
    rw [List.set_append_right _ _ (by simp), show s.size - (s.data.toList.map UInt8.toNat).length = 0 by simp, show N - s.size = (N - (s.size + 1)) + 1 by omega, List.replicate_succ, List.set_cons_zero]
    simp)
  clear hlen
  go_enter Tryd.func76, Tryd.ntmps76
  go_wp2
  go_ret
  refine ⟨rfl, ?_, HBEL.out.setCell (Nat.le_refl _) _⟩
  have h := HSET.out
  rw [HPAD.out] at h
  exact h

end Go.Proofs.YtgaoeoijdpdjiaaDoor
