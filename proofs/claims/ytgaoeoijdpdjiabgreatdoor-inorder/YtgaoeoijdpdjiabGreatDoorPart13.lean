/-
  The program's stir over words of 64 bits. The program's padded: the text, a 1 and zeros, in a new row. What a text is read as: a record, or none.
-/
import Derived.Test.YtgaoeoijdpdjiabGreatDoorPart7
import Derived.Test.YtgaoeoijdpdjiabGreatDoorPart5
import Derived.Test.YtgaoeoijdpdjiabGreatDoorPart9
import Derived.Laws.MakeOwn
import Derived.Lib.BufferWrite
import Derived.Laws.CopyOwn
namespace Go.Proofs.YtgaoeoijdpdjiabGreatDoor
open Go.RowKit

set_option maxHeartbeats 4000000 in
theorem stir_64 (g : Nat) (L : List Nat) (w : World) (hr : RowK w g .u64 361 L) (hL : L.length = 8) (hW : Words 64 L) (hT : Turns64 w) (hg : 1 < g) :
    Calls Tryz.prog 297 #[.pointer (some ⟨g, 0, none⟩)] w fun e w' => e = .returned (.tuple #[]) ∧ RowK w' g .u64 361 (stirTo 64 L 8) ∧ Only g w w' := by
  have HR := hide hr
  have HL := hide hL
  have HW := hide hW
  have HT := hide hT
  clear hr hL hW hT
  go_enter Tryz.func297, Tryz.ntmps297
  go_wp2
  go_loopw [3] (fun i wr => ∃ j : Nat, j ≤ 8 ∧ i = .int .i64 j ∧ Hid (RowK wr g .u64 361 (stirTo 64 L j)) ∧ Hid (Only g w wr)) (fun i _ => 8 - (intOf i).toNat)
  case atStart => exact ⟨0, by omega, rfl, HR, Only.refl _ _⟩
  case round =>
    obtain ⟨j, hj, rfl, hr, ho⟩ := hrel
    by_cases hlt : j < 8
    · have hlen : (stirTo 64 L j).length = 8 := by rw [stirTo_length _ _ _ HL.out]
      have hwd := stirTo_words 64 L j HL.out HW.out
      have HMX := hide (fun w' h1 h2 => mix_64 g (stirTo 64 L j) w' h1 hlen hwd h2 hg)
      have HS : Hid (stirTo 64 L (j + 1) = roundW (j + 1) (mixTo 64 (stirTo 64 L j) 4)) := rfl
      have hl4 : (mixTo 64 (stirTo 64 L j) 4).length = 8 := by rw [mixTo_length]; exact hlen
      have hw4 := mixTo_words 64 (stirTo 64 L j) 4 hwd
      clear hlen hwd
      go_wp2_with fail
      refine (HMX.out _ hr.out (fun i hi => (ho.out.cell (by simp; omega)).trans (HT.out i hi))).mono ?_
      rintro e w1 ⟨rfl, hr1, ho1⟩
      clear HMX
      generalize mixTo 64 (stirTo 64 L j) 4 = K at hr1 hl4 hw4 HS
      obtain ⟨a0, a1, a2, a3, a4, a5, a6, a7, rfl⟩ := eight_of hl4
      have R1 := hide hr1
      have O1 := hide (ho.out.trans ho1)
      have c0 : w1.cell? ⟨g, 0, none⟩ = some (.int .u64 (a0 : Int)) := hr1.cell (i := 0) (by simp)
      have c4 : w1.cell? ⟨g, 4, none⟩ = some (.int .u64 (a4 : Int)) := hr1.cell (i := 4) (by simp)
      have c5 : w1.cell? ⟨g, 5, none⟩ = some (.int .u64 (a5 : Int)) := hr1.cell (i := 5) (by simp)
      have c6 : w1.cell? ⟨g, 6, none⟩ = some (.int .u64 (a6 : Int)) := hr1.cell (i := 6) (by simp)
      have c7 : w1.cell? ⟨g, 7, none⟩ = some (.int .u64 (a7 : Int)) := hr1.cell (i := 7) (by simp)
      have fz : ∀ i, w1.frozen? ⟨g, i, none⟩ = false := fun i => hr1.free i
      have x0 : a0 < 18446744073709551616 := by have := hw4 a0 (by simp); simpa using this
      have HXO : Hid (bits BinOp.xor IntKind.u64 (a0 : Int) ((j : Int) + 1) = ((a0 ^^^ (j + 1) : Nat) : Int)) := u64_xor_nat a0 (j + 1) x0 (by omega)
      clear hr1 ho1 hl4 hw4
      go_wp2
      go_region
      go_wp2
      go_region
      go_wp2
      rw [HXO.out]
      go_roundw
      case rel =>
        refine ⟨j + 1, by omega, by go_num, ?_, ?_⟩
        · have h := ((((R1.out.set 4 a5).set 5 a6).set 6 a7).set 7 a4).set 0 (a0 ^^^ (j + 1))
          have e : ((((([a0, a1, a2, a3, a4, a5, a6, a7].set 4 a5).set 5 a6).set 6 a7).set 7 a4).set 0 (a0 ^^^ (j + 1))) = roundW (j + 1) [a0, a1, a2, a3, a4, a5, a6, a7] := by simp only [List.set_cons_zero, List.set_cons_succ, roundW]
          rw [e, ← HS.out] at h
          exact h
        · unfold Hid
          repeat (first | refine Only.drew ?_ | refine Only.setCell ?_ _ _)
          exact O1.out
      case measure => simp [intOf]; omega
    · obtain rfl : j = 8 := by omega
      go_wp2
      go_end0
      exact ⟨rfl, hr.out, ho.out⟩
end Go.Proofs.YtgaoeoijdpdjiabGreatDoor

namespace Go.Proofs.YtgaoeoijdpdjiabGreatDoor
open Go.RowKit

def zerosB (n : Nat) : Array Value := (List.replicate n (Value.int .u8 0)).toArray
theorem zerosB_size (n : Nat) : (zerosB n).size = n := by simp [zerosB]
theorem made_zeros (n : Nat) : madeCells (Value.int .u8 0).cells n = zerosB n := by
  apply Array.ext
  · simp [size_madeCells, zerosB_size]
  · intro i h1 h2
    simp [madeCells, zerosB, Value.cells, Nat.mod_one]

/-- The padded row of N bytes. -/
def padRow (s : ByteArray) (N : Nat) : List Nat := padL s ++ List.replicate (N - (s.size + 1)) 0
theorem padRow_at (s : ByteArray) (N i : Nat) : at0 (padRow s N) i = at0 (padL s) i := by
  unfold padRow at0
  by_cases h : i < (padL s).length
  · rw [List.getD_eq_getElem?_getD, List.getD_eq_getElem?_getD, List.getElem?_append_left h]
  · rw [List.getD_eq_getElem?_getD, List.getD_eq_getElem?_getD, List.getElem?_append_right (by omega), List.getElem?_eq_none (by omega : (padL s).length ≤ i)]
    by_cases h2 : i - (padL s).length < N - (s.size + 1)
    · simp [h2]
    · rw [List.getElem?_eq_none (by simp; omega)]
theorem pad_small (s : ByteArray) (N i : Nat) : at0 (padRow s N) i < 256 := by
  rw [padRow_at]; exact padL_lt s i
theorem padRow_length (s : ByteArray) (N : Nat) (h : s.size < N) : (padRow s N).length = N := by
  simp [padRow, padL_length]; omega
theorem infoByte2 : (Tryz.prog.info? 5).map (fun i => (i.zero, i.size, i.bytes)) = some (some (.int .u8 0), 1, 1) := by kernel_rfl

set_option maxRecDepth 20000 in
set_option maxHeartbeats 1000000 in
theorem padded_16 (s : ByteArray) (w : World) (hs : s.size ≤ 400) :
    Calls Tryz.prog 291 #[.string s, .int .i64 16] w fun e w' => e = .returned (.slice (some ⟨w.heap.size, 0, none⟩) ((s.size / 16 + 1) * 16) ((s.size / 16 + 1) * 16)) ∧ RowK w' w.heap.size .u8 5 (padRow s ((s.size / 16 + 1) * 16)) ∧ Below w.heap.size w w' := by
  obtain ⟨i0, hi, hz0, hz1, hz2⟩ := info_parts infoByte2
  have hmk : ∀ w : World, (Instr.makeSlice 170 (.int .i64 (((s.size : Int) / 16 + 1) * 16)) (.int .i64 (((s.size : Int) / 16 + 1) * 16))).run Tryz.prog w = .ok (.slice (some ⟨w.heap.size, 0, none⟩) ((s.size / 16 + 1) * 16) ((s.size / 16 + 1) * 16)) (w.alloc (.cells (zerosB ((s.size / 16 + 1) * 16)) 5)) := by
    intro w
    have h := run_make (P := Tryz.prog) w 170 5 i0 (.int .u8 0) Tryz.underlying170 hi hz0 .i64 .i64 (((s.size : Int) / 16 + 1) * 16) (((s.size : Int) / 16 + 1) * 16) (by omega) (by omega) (by rw [hz2]; omega) (by omega)
    rw [hz1, Nat.mul_one, made_zeros, show (((s.size : Int) / 16 + 1) * 16).toNat = (s.size / 16 + 1) * 16 by omega] at h
    exact h
  have hN : s.size < (s.size / 16 + 1) * 16 := by omega
  have hN2 : (s.size / 16 + 1) * 16 ≤ 1000 := by omega
  have hcp := Lib.run_copy_row_string (P := Tryz.prog) (w.alloc (.cells (zerosB ((s.size / 16 + 1) * 16)) 5)) 170 9 3 5 w.heap.size 0 ((s.size / 16 + 1) * 16) ((s.size / 16 + 1) * 16) s (zerosB ((s.size / 16 + 1) * 16)) 5 Tryz.underlying170 (by kernel_rfl) (heap_alloc_new _ _) (by omega) (by rw [zerosB_size]; omega)
  generalize hM : (s.size / 16 + 1) * 16 = N at hmk hN hN2 hcp ⊢
  clear hM
  have HROW := hide (show RowK ((w.alloc (.cells (zerosB N) 5)).setRow w.heap.size ((zerosB N).toList.take 0 ++ Lib.byteCells s.data.toList ++ (zerosB N).toList.drop (0 + s.size)).toArray) w.heap.size .u8 5 (s.data.toList.map UInt8.toNat ++ List.replicate (N - s.size) 0) by
    unfold RowK
    rw [setRow_heap _ _ _ _ 5 _ (heap_alloc_new _ _)]
    congr 2
    simp [zerosB, Lib.byteCells])
  have HBEL := hide (below_setRow ((Below.refl w.heap.size w).alloc (Nat.le_refl _) (.cells (zerosB N) 5)) (Nat.le_refl w.heap.size) ((zerosB N).toList.take 0 ++ Lib.byteCells s.data.toList ++ (zerosB N).toList.drop (0 + s.size)).toArray)
  generalize (w.alloc (.cells (zerosB N) 5)).setRow w.heap.size ((zerosB N).toList.take 0 ++ Lib.byteCells s.data.toList ++ (zerosB N).toList.drop (0 + s.size)).toArray = V at hcp HROW HBEL
  have hlen : (s.data.toList.map UInt8.toNat ++ List.replicate (N - s.size) 0).length = N := by simp; omega
  have cV := HROW.out.cell (i := s.size) (by omega)
  have fV := HROW.out.free s.size
  have HSET := hide (HROW.out.set s.size 1)
  have HPAD := hide (show (s.data.toList.map UInt8.toNat ++ List.replicate (N - s.size) 0).set s.size 1 = padRow s N by
    unfold padRow padL
    rw [List.set_append_right _ _ (by simp), show s.size - (s.data.toList.map UInt8.toNat).length = 0 by simp, show N - s.size = (N - (s.size + 1)) + 1 by omega, List.replicate_succ, List.set_cons_zero]
    simp)
  clear hlen
  go_enter Tryz.func291, Tryz.ntmps291
  go_wp2
  go_ret
  refine ⟨rfl, ?_, HBEL.out.setCell (Nat.le_refl _) _⟩
  have h := HSET.out
  rw [HPAD.out] at h
  exact h

set_option maxRecDepth 20000 in
set_option maxHeartbeats 1000000 in
theorem padded_32 (s : ByteArray) (w : World) (hs : s.size ≤ 400) :
    Calls Tryz.prog 291 #[.string s, .int .i64 32] w fun e w' => e = .returned (.slice (some ⟨w.heap.size, 0, none⟩) ((s.size / 32 + 1) * 32) ((s.size / 32 + 1) * 32)) ∧ RowK w' w.heap.size .u8 5 (padRow s ((s.size / 32 + 1) * 32)) ∧ Below w.heap.size w w' := by
  obtain ⟨i0, hi, hz0, hz1, hz2⟩ := info_parts infoByte2
  have hmk : ∀ w : World, (Instr.makeSlice 170 (.int .i64 (((s.size : Int) / 32 + 1) * 32)) (.int .i64 (((s.size : Int) / 32 + 1) * 32))).run Tryz.prog w = .ok (.slice (some ⟨w.heap.size, 0, none⟩) ((s.size / 32 + 1) * 32) ((s.size / 32 + 1) * 32)) (w.alloc (.cells (zerosB ((s.size / 32 + 1) * 32)) 5)) := by
    intro w
    have h := run_make (P := Tryz.prog) w 170 5 i0 (.int .u8 0) Tryz.underlying170 hi hz0 .i64 .i64 (((s.size : Int) / 32 + 1) * 32) (((s.size : Int) / 32 + 1) * 32) (by omega) (by omega) (by rw [hz2]; omega) (by omega)
    rw [hz1, Nat.mul_one, made_zeros, show (((s.size : Int) / 32 + 1) * 32).toNat = (s.size / 32 + 1) * 32 by omega] at h
    exact h
  have hN : s.size < (s.size / 32 + 1) * 32 := by omega
  have hN2 : (s.size / 32 + 1) * 32 ≤ 1000 := by omega
  have hcp := Lib.run_copy_row_string (P := Tryz.prog) (w.alloc (.cells (zerosB ((s.size / 32 + 1) * 32)) 5)) 170 9 3 5 w.heap.size 0 ((s.size / 32 + 1) * 32) ((s.size / 32 + 1) * 32) s (zerosB ((s.size / 32 + 1) * 32)) 5 Tryz.underlying170 (by kernel_rfl) (heap_alloc_new _ _) (by omega) (by rw [zerosB_size]; omega)
  generalize hM : (s.size / 32 + 1) * 32 = N at hmk hN hN2 hcp ⊢
  clear hM
  have HROW := hide (show RowK ((w.alloc (.cells (zerosB N) 5)).setRow w.heap.size ((zerosB N).toList.take 0 ++ Lib.byteCells s.data.toList ++ (zerosB N).toList.drop (0 + s.size)).toArray) w.heap.size .u8 5 (s.data.toList.map UInt8.toNat ++ List.replicate (N - s.size) 0) by
    unfold RowK
    rw [setRow_heap _ _ _ _ 5 _ (heap_alloc_new _ _)]
    congr 2
    simp [zerosB, Lib.byteCells])
  have HBEL := hide (below_setRow ((Below.refl w.heap.size w).alloc (Nat.le_refl _) (.cells (zerosB N) 5)) (Nat.le_refl w.heap.size) ((zerosB N).toList.take 0 ++ Lib.byteCells s.data.toList ++ (zerosB N).toList.drop (0 + s.size)).toArray)
  generalize (w.alloc (.cells (zerosB N) 5)).setRow w.heap.size ((zerosB N).toList.take 0 ++ Lib.byteCells s.data.toList ++ (zerosB N).toList.drop (0 + s.size)).toArray = V at hcp HROW HBEL
  have hlen : (s.data.toList.map UInt8.toNat ++ List.replicate (N - s.size) 0).length = N := by simp; omega
  have cV := HROW.out.cell (i := s.size) (by omega)
  have fV := HROW.out.free s.size
  have HSET := hide (HROW.out.set s.size 1)
  have HPAD := hide (show (s.data.toList.map UInt8.toNat ++ List.replicate (N - s.size) 0).set s.size 1 = padRow s N by
    unfold padRow padL
    rw [List.set_append_right _ _ (by simp), show s.size - (s.data.toList.map UInt8.toNat).length = 0 by simp, show N - s.size = (N - (s.size + 1)) + 1 by omega, List.replicate_succ, List.set_cons_zero]
    simp)
  clear hlen
  go_enter Tryz.func291, Tryz.ntmps291
  go_wp2
  go_ret
  refine ⟨rfl, ?_, HBEL.out.setCell (Nat.le_refl _) _⟩
  have h := HSET.out
  rw [HPAD.out] at h
  exact h

end Go.Proofs.YtgaoeoijdpdjiabGreatDoor

namespace Go.Proofs.YtgaoeoijdpdjiabGreatDoor

theorem blank_two : blankB = numB 4 0 ++ numB 4 0 := by decide
theorem blank_iff (s : ByteArray) (hs : s.size = 32) : s.extract 20 28 = blankB ↔ valN s 20 4 = 0 ∧ valN s 24 4 = 0 := by
  have e20 := num_val s 20 (by omega)
  have e24 := num_val s 24 (by omega)
  have l20 := valN_lt s 20
  have l24 := valN_lt s 24
  rw [← extract_cat s 20 24 28 (by omega) (by omega) (by omega), blank_two]
  change numB 4 _ = s.extract 20 24 at e20
  change numB 4 _ = s.extract 24 28 at e24
  rw [← e20, ← e24]
  constructor
  · intro h
    obtain ⟨h1, h2⟩ := app_inj h (by rw [numB_size, numB_size])
    have a := num_inj _ _ (by omega) (by omega) (by omega) (by omega) h1
    have b := num_inj _ _ (by omega) (by omega) (by omega) (by omega) h2
    exact ⟨by omega, by omega⟩
  · rintro ⟨h1, h2⟩
    rw [h1, h2]
    rfl
/-- Is the text a record's? -/
def isRec (s : ByteArray) : Bool := decide (s.size = 32 ∧ RecR (seqOf s) (boundOf s) (idOf s) ∧ sealS (seqOf s) (boundOf s) (idOf s) = s)
theorem isRec_iff (s : ByteArray) : isRec s = true ↔ s.size = 32 ∧ RecR (seqOf s) (boundOf s) (idOf s) ∧ sealS (seqOf s) (boundOf s) (idOf s) = s := by simp [isRec]
theorem isRec_seal (q b : Int) (d : ByteArray) (h : RecR q b d) : isRec (sealS q b d) = true := by
  obtain ⟨h1, h2, h3⟩ := seq_seal q b d h
  rw [isRec_iff, h1, h2, h3]
  exact ⟨sealS_size q b d h.2.2.2.2, h, rfl⟩
/-- What the text is read as. -/
def unsV (s : ByteArray) : Value := if isRec s then .tuple #[.agg #[.int .i64 (seqOf s), .int .i64 (boundOf s), .string (idOf s)], .int .i64 0] else .tuple #[.agg #[.int .i64 0, .int .i64 0, .string ⟨#[]⟩], .int .i64 6]
theorem unsV_yes {s : ByteArray} (h : isRec s = true) : unsV s = .tuple #[.agg #[.int .i64 (seqOf s), .int .i64 (boundOf s), .string (idOf s)], .int .i64 0] := by rw [unsV, if_pos h]
theorem unsV_no {s : ByteArray} (h : isRec s = false) : unsV s = .tuple #[.agg #[.int .i64 0, .int .i64 0, .string ⟨#[]⟩], .int .i64 6] := by rw [unsV, if_neg (by rw [h]; decide)]
theorem isRec_size {s : ByteArray} (h : s.size ≠ 32) : isRec s = false := by simp [isRec, h]
/-- The document's way: part by part. -/
theorem isRec_parts (s : ByteArray) (hs : s.size = 32) : isRec s = true ↔ s.extract 0 4 = markB ∧ 1 ≤ seqOf s ∧ seqOf s ≤ 2147483647 ∧ boundOf s ≤ 4096 ∧ (valN s 20 4 = 0 ∧ valN s 24 4 = 0) ∧ sumV (s.extract 0 28) = (valN s 28 4 : Nat) := by
  have h0 : 0 ≤ boundOf s := by unfold boundOf; omega
  have hd : (idOf s).size = 8 := by rw [idOf, ByteArray.size_extract]; omega
  rw [isRec_iff, again_iff s hs, blank_iff s hs]
  unfold RecR
  constructor
  · rintro ⟨_, ⟨a, b, _, c, _⟩, d, e, f⟩
    exact ⟨d, a, b, c, e, f⟩
  · rintro ⟨d, a, b, c, e, f⟩
    exact ⟨hs, ⟨a, b, h0, c, hd⟩, d, e, f⟩
theorem seq_lo (s : ByteArray) : 0 ≤ seqOf s := by unfold seqOf; omega
theorem seq_hi (s : ByteArray) : seqOf s < 4294967296 := by have := valN_lt s 4; unfold seqOf; omega
theorem bound_lo (s : ByteArray) : 0 ≤ boundOf s := by unfold boundOf; omega
theorem bound_hi (s : ByteArray) : boundOf s < 4294967296 := by have := valN_lt s 16; unfold boundOf; omega
end Go.Proofs.YtgaoeoijdpdjiabGreatDoor
