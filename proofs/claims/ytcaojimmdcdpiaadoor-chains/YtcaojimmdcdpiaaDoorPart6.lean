/-
  The program's padded: the text, a 1 and zeros, in a new row. The program's whole over words of 32 bits. The program's take over words of 64 bits: four words of a block go in.
-/
import Derived.Test.YtcaojimmdcdpiaaDoorPart5
import Derived.Laws.MakeOwn
import Derived.Lib.BufferWrite
import Derived.Laws.CopyOwn
import Derived.Test.YtcaojimmdcdpiaaDoorPart4
import Derived.Test.YtcaojimmdcdpiaaDoorPart3
namespace Go.Proofs.YtcaojimmdcdpiaaDoor
open Go.RowKit

def zerosB (n : Nat) : Array Value := (List.replicate n (Value.int .u8 0)).toArray
theorem zerosB_size (n : Nat) : (zerosB n).size = n := by simp [zerosB]
theorem made_zeros (n : Nat) : madeCells (Value.int .u8 0).cells n = zerosB n := by
  apply Array.ext
  · simp [size_madeCells, zerosB_size]
  · intro i h1 h2
    simp [madeCells, zerosB, Value.cells, Nat.mod_one]

/-- The padded row of N bytes. -/
def padRow (s : ByteArray) (N : Nat) : List Nat := padL s ++ List.replicate (N - (s.size + 1)) 0
theorem padRow_at (s : ByteArray) (N i : Nat) : at0 (padRow s N) i = at0 (padL s) i := by
  unfold padRow at0
  by_cases h : i < (padL s).length
  · rw [List.getD_eq_getElem?_getD, List.getD_eq_getElem?_getD, List.getElem?_append_left h]
  · rw [List.getD_eq_getElem?_getD, List.getD_eq_getElem?_getD, List.getElem?_append_right (by omega), List.getElem?_eq_none (by omega : (padL s).length ≤ i)]
    by_cases h2 : i - (padL s).length < N - (s.size + 1)
    · simp [h2]
    · rw [List.getElem?_eq_none (by simp; omega)]
theorem pad_small (s : ByteArray) (N i : Nat) : at0 (padRow s N) i < 256 := by
  rw [padRow_at]; exact padL_lt s i
theorem padRow_length (s : ByteArray) (N : Nat) (h : s.size < N) : (padRow s N).length = N := by
  simp [padRow, padL_length]; omega
theorem infoByte2 : (Tryd.prog.info? 5).map (fun i => (i.zero, i.size, i.bytes)) = some (some (.int .u8 0), 1, 1) := by kernel_rfl

set_option maxRecDepth 20000 in
set_option maxHeartbeats 1000000 in
theorem padded_16 (s : ByteArray) (w : World) (hs : s.size ≤ 400) :
    Calls Tryd.prog 125 #[.string s, .int .i64 16] w fun e w' => e = .returned (.slice (some ⟨w.heap.size, 0, none⟩) ((s.size / 16 + 1) * 16) ((s.size / 16 + 1) * 16)) ∧ RowK w' w.heap.size .u8 5 (padRow s ((s.size / 16 + 1) * 16)) ∧ Below w.heap.size w w' := by
  obtain ⟨i0, hi, hz0, hz1, hz2⟩ := info_parts infoByte2
  have hmk : ∀ w : World, (Instr.makeSlice 79 (.int .i64 (((s.size : Int) / 16 + 1) * 16)) (.int .i64 (((s.size : Int) / 16 + 1) * 16))).run Tryd.prog w = .ok (.slice (some ⟨w.heap.size, 0, none⟩) ((s.size / 16 + 1) * 16) ((s.size / 16 + 1) * 16)) (w.alloc (.cells (zerosB ((s.size / 16 + 1) * 16)) 5)) := by
    intro w
    have h := run_make (P := Tryd.prog) w 79 5 i0 (.int .u8 0) Tryd.underlying79 hi hz0 .i64 .i64 (((s.size : Int) / 16 + 1) * 16) (((s.size : Int) / 16 + 1) * 16) (by omega) (by omega) (by rw [hz2]; omega) (by omega)
    rw [hz1, Nat.mul_one, made_zeros, show (((s.size : Int) / 16 + 1) * 16).toNat = (s.size / 16 + 1) * 16 by omega] at h
    exact h
  have hN : s.size < (s.size / 16 + 1) * 16 := by omega
  have hN2 : (s.size / 16 + 1) * 16 ≤ 1000 := by omega
  have hcp := Lib.run_copy_row_string (P := Tryd.prog) (w.alloc (.cells (zerosB ((s.size / 16 + 1) * 16)) 5)) 79 9 3 5 w.heap.size 0 ((s.size / 16 + 1) * 16) ((s.size / 16 + 1) * 16) s (zerosB ((s.size / 16 + 1) * 16)) 5 Tryd.underlying79 (by kernel_rfl) (heap_alloc_new _ _) (by omega) (by rw [zerosB_size]; omega)
  generalize hM : (s.size / 16 + 1) * 16 = N at hmk hN hN2 hcp ⊢
  clear hM
  have HROW := hide (show RowK ((w.alloc (.cells (zerosB N) 5)).setRow w.heap.size ((zerosB N).toList.take 0 ++ Lib.byteCells s.data.toList ++ (zerosB N).toList.drop (0 + s.size)).toArray) w.heap.size .u8 5 (s.data.toList.map UInt8.toNat ++ List.replicate (N - s.size) 0) by
    unfold RowK
    rw [setRow_heap _ _ _ _ 5 _ (heap_alloc_new _ _)]
    congr 2
    simp [zerosB, Lib.byteCells])
  have HBEL := hide (below_setRow ((Below.refl w.heap.size w).alloc (Nat.le_refl _) (.cells (zerosB N) 5)) (Nat.le_refl w.heap.size) ((zerosB N).toList.take 0 ++ Lib.byteCells s.data.toList ++ (zerosB N).toList.drop (0 + s.size)).toArray)
  generalize (w.alloc (.cells (zerosB N) 5)).setRow w.heap.size ((zerosB N).toList.take 0 ++ Lib.byteCells s.data.toList ++ (zerosB N).toList.drop (0 + s.size)).toArray = V at hcp HROW HBEL
  have hlen : (s.data.toList.map UInt8.toNat ++ List.replicate (N - s.size) 0).length = N := by simp; omega
  have cV := HROW.out.cell (i := s.size) (by omega)
  have fV := HROW.out.free s.size
  have HSET := hide (HROW.out.set s.size 1)
  have HPAD := hide (show (s.data.toList.map UInt8.toNat ++ List.replicate (N - s.size) 0).set s.size 1 = padRow s N by
    unfold padRow padL
    rw [List.set_append_right _ _ (by simp), show s.size - (s.data.toList.map UInt8.toNat).length = 0 by simp, show N - s.size = (N - (s.size + 1)) + 1 by omega, List.replicate_succ, List.set_cons_zero]
    simp)
  clear hlen
  go_enter Tryd.func125, Tryd.ntmps125
  go_wp2
  go_ret
  refine ⟨rfl, ?_, HBEL.out.setCell (Nat.le_refl _) _⟩
  have h := HSET.out
  rw [HPAD.out] at h
  exact h

set_option maxRecDepth 20000 in
set_option maxHeartbeats 1000000 in
theorem padded_32 (s : ByteArray) (w : World) (hs : s.size ≤ 400) :
    Calls Tryd.prog 125 #[.string s, .int .i64 32] w fun e w' => e = .returned (.slice (some ⟨w.heap.size, 0, none⟩) ((s.size / 32 + 1) * 32) ((s.size / 32 + 1) * 32)) ∧ RowK w' w.heap.size .u8 5 (padRow s ((s.size / 32 + 1) * 32)) ∧ Below w.heap.size w w' := by
  obtain ⟨i0, hi, hz0, hz1, hz2⟩ := info_parts infoByte2
  have hmk : ∀ w : World, (Instr.makeSlice 79 (.int .i64 (((s.size : Int) / 32 + 1) * 32)) (.int .i64 (((s.size : Int) / 32 + 1) * 32))).run Tryd.prog w = .ok (.slice (some ⟨w.heap.size, 0, none⟩) ((s.size / 32 + 1) * 32) ((s.size / 32 + 1) * 32)) (w.alloc (.cells (zerosB ((s.size / 32 + 1) * 32)) 5)) := by
    intro w
    have h := run_make (P := Tryd.prog) w 79 5 i0 (.int .u8 0) Tryd.underlying79 hi hz0 .i64 .i64 (((s.size : Int) / 32 + 1) * 32) (((s.size : Int) / 32 + 1) * 32) (by omega) (by omega) (by rw [hz2]; omega) (by omega)
    rw [hz1, Nat.mul_one, made_zeros, show (((s.size : Int) / 32 + 1) * 32).toNat = (s.size / 32 + 1) * 32 by omega] at h
    exact h
  have hN : s.size < (s.size / 32 + 1) * 32 := by omega
  have hN2 : (s.size / 32 + 1) * 32 ≤ 1000 := by omega
  have hcp := Lib.run_copy_row_string (P := Tryd.prog) (w.alloc (.cells (zerosB ((s.size / 32 + 1) * 32)) 5)) 79 9 3 5 w.heap.size 0 ((s.size / 32 + 1) * 32) ((s.size / 32 + 1) * 32) s (zerosB ((s.size / 32 + 1) * 32)) 5 Tryd.underlying79 (by kernel_rfl) (heap_alloc_new _ _) (by omega) (by rw [zerosB_size]; omega)
  generalize hM : (s.size / 32 + 1) * 32 = N at hmk hN hN2 hcp ⊢
  clear hM
  have HROW := hide (show RowK ((w.alloc (.cells (zerosB N) 5)).setRow w.heap.size ((zerosB N).toList.take 0 ++ Lib.byteCells s.data.toList ++ (zerosB N).toList.drop (0 + s.size)).toArray) w.heap.size .u8 5 (s.data.toList.map UInt8.toNat ++ List.replicate (N - s.size) 0) by
    unfold RowK
    rw [setRow_heap _ _ _ _ 5 _ (heap_alloc_new _ _)]
    congr 2
    simp [zerosB, Lib.byteCells])
  have HBEL := hide (below_setRow ((Below.refl w.heap.size w).alloc (Nat.le_refl _) (.cells (zerosB N) 5)) (Nat.le_refl w.heap.size) ((zerosB N).toList.take 0 ++ Lib.byteCells s.data.toList ++ (zerosB N).toList.drop (0 + s.size)).toArray)
  generalize (w.alloc (.cells (zerosB N) 5)).setRow w.heap.size ((zerosB N).toList.take 0 ++ Lib.byteCells s.data.toList ++ (zerosB N).toList.drop (0 + s.size)).toArray = V at hcp HROW HBEL
  have hlen : (s.data.toList.map UInt8.toNat ++ List.replicate (N - s.size) 0).length = N := by simp; omega
  have cV := HROW.out.cell (i := s.size) (by omega)
  have fV := HROW.out.free s.size
  have HSET := hide (HROW.out.set s.size 1)
  have HPAD := hide (show (s.data.toList.map UInt8.toNat ++ List.replicate (N - s.size) 0).set s.size 1 = padRow s N by
    unfold padRow padL
    rw [List.set_append_right _ _ (by simp), show s.size - (s.data.toList.map UInt8.toNat).length = 0 by simp, show N - s.size = (N - (s.size + 1)) + 1 by omega, List.replicate_succ, List.set_cons_zero]
    simp)
  clear hlen
  go_enter Tryd.func125, Tryd.ntmps125
  go_wp2
  go_ret
  refine ⟨rfl, ?_, HBEL.out.setCell (Nat.le_refl _) _⟩
  have h := HSET.out
  rw [HPAD.out] at h
  exact h

end Go.Proofs.YtcaojimmdcdpiaaDoor

namespace Go.Proofs.YtcaojimmdcdpiaaDoor
open Go.RowKit

def sliceLen32 : Value → Nat | .slice _ n _ => n | _ => 0

/-- The words behind m blocks. -/
def soak32 (BL : List Nat) : Nat → List Nat
  | 0 => [1, 2, 3, 4, 5, 6, 7, 8]
  | m + 1 => stirTo 32 (take32 BL (m * 16) (soak32 BL m) 4) 8
theorem soak32_zero (BL : List Nat) : soak32 BL 0 = [1, 2, 3, 4, 5, 6, 7, 8] := rfl
theorem soak32_succ (BL : List Nat) (m : Nat) : soak32 BL (m + 1) = stirTo 32 (take32 BL (m * 16) (soak32 BL m) 4) 8 := by rw [soak32]
theorem soak32_length (BL : List Nat) (m : Nat) : (soak32 BL m).length = 8 := by
  induction m with
  | zero => rfl
  | succ m ih => unfold soak32; rw [stirTo_length _ _ _ (by rw [take32_length]; exact ih)]
theorem soak32_words (BL : List Nat) (hB : ∀ i, at0 BL i < 256) (m : Nat) : Words 32 (soak32 BL m) := by
  induction m with
  | zero => intro x hx; simp [soak32] at hx; omega
  | succ m ih => unfold soak32; exact stirTo_words 32 _ 8 (by rw [take32_length]; exact soak32_length BL m) (take32_words BL _ _ 4 ih hB)

attribute [local irreducible] soak32 take32 stirTo outs textOf

set_option maxHeartbeats 4000000 in
theorem whole_32 (s : ByteArray) (w : World) (hs : s.size ≤ 400) (hT : Turns32 w) (hw : 0 < w.heap.size) :
    Calls Tryd.prog 96 #[.string s] w fun e w' => e = .returned (.string (textOf (outs 4 (soak32 (padRow s ((s.size / 16 + 1) * 16)) (s.size / 16 + 1)) 16))) ∧ Below w.heap.size w w' := by
  have HT := hide hT
  have HS := hide hs
  clear hT hs
  go_enter Tryd.func96, Tryd.ntmps96
  go_wp2_with fail
  have R0 : Hid (RowK (w.alloc (.cells #[.int .u32 1, .int .u32 2, .int .u32 3, .int .u32 4, .int .u32 5, .int .u32 6, .int .u32 7, .int .u32 8] 149)) w.heap.size .u32 149 (soak32 (padRow s ((s.size / 16 + 1) * 16)) 0)) := by
    rw [soak32_zero]; exact heap_alloc_new _ _
  have B0 := hide ((Below.refl w.heap.size w).alloc (Nat.le_refl _) (.cells #[.int .u32 1, .int .u32 2, .int .u32 3, .int .u32 4, .int .u32 5, .int .u32 6, .int .u32 7, .int .u32 8] 149))
  have hz0 : (w.alloc (.cells #[.int .u32 1, .int .u32 2, .int .u32 3, .int .u32 4, .int .u32 5, .int .u32 6, .int .u32 7, .int .u32 8] 149)).heap.size = w.heap.size + 1 := by simp
  generalize hW0 : w.alloc (.cells #[.int .u32 1, .int .u32 2, .int .u32 3, .int .u32 4, .int .u32 5, .int .u32 6, .int .u32 7, .int .u32 8] 149) = W0 at R0 B0 hz0 ⊢
  clear hW0
  refine (size_32 _).mono ?_
  rintro e w1 ⟨rfl, rfl⟩
  go_wp2_with fail
  refine (padded_16 s _ HS.out).mono ?_
  rintro e w2 ⟨rfl, hr2, hb2⟩
  have R2 := hide (R0.out.below hb2 R0.out.lt)
  have P2 := hide hr2
  have B2 := hide (B0.out.trans (hb2.mono (by omega)))
  have HGH : Hid (w1.heap.size = w.heap.size + 1) := hz0
  have HK : Hid (s.size / 16 + 1 ≤ 26) := by unfold Hid; have := HS.out; omega
  have HB8 := hide (pad_small s ((s.size / 16 + 1) * 16))
  have HPL : Hid ((padRow s ((s.size / 16 + 1) * 16)).length = (s.size / 16 + 1) * 16) := padRow_length s _ (by omega)
  clear hr2 hb2 R0 B0 hz0
  obtain ⟨k, hk⟩ : ∃ k, k = s.size / 16 + 1 := ⟨_, rfl⟩
  obtain ⟨BL, hBL⟩ : ∃ BL, BL = padRow s ((s.size / 16 + 1) * 16) := ⟨_, rfl⟩
  obtain ⟨h, hh⟩ : ∃ h, h = w1.heap.size := ⟨_, rfl⟩
  obtain ⟨g, hg⟩ : ∃ g, g = w.heap.size := ⟨_, rfl⟩
  rw [← hBL] at HB8 HPL P2 R2
  rw [← hk] at HPL HK
  rw [← hh] at HGH P2
  rw [← hg] at HGH R2 B2 hw
  have HKE := hide hk
  have HBLE := hide hBL
  have HGE := hide hg
  rw [← hk, ← hh, ← hg]
  clear hk hh hg hBL
  go_wp2
  go_loopw [5] (fun v wr => ∃ (m : Nat) (p : Option Addr), m ≤ k ∧ v = .slice p ((k - m) * 16) ((k - m) * 16) ∧ (m < k → p = some ⟨h, m * 16, none⟩) ∧ Hid (RowK wr g .u32 149 (soak32 BL m)) ∧ Hid (RowK wr h .u8 5 BL) ∧ Hid (Below g w wr)) (fun v _ => sliceLen32 v)
  case atStart => exact ⟨0, _, by omega, by simp; rfl, fun _ => by simp, R2, P2, B2⟩
  case round =>
    obtain ⟨m, p, hm, rfl, hp, hr, hpr, hb⟩ := hrel
    by_cases hlt : m < k
    · obtain rfl := hp hlt
      obtain ⟨q, rfl⟩ : ∃ q, k = m + q + 1 := ⟨k - m - 1, by omega⟩
      rw [show m + q + 1 - m = q + 1 by omega]
      have HSM : Hid (soak32 BL (m + 1) = stirTo 32 (take32 BL (m * 16) (soak32 BL m) 4) 8) := soak32_succ BL m
      have hl := soak32_length BL m
      have hwd := soak32_words BL HB8.out m
      have hlt4 : (take32 BL (m * 16) (soak32 BL m) 4).length = 8 := by rw [take32_length]; exact hl
      have hw4 := take32_words BL (m * 16) (soak32 BL m) 4 hwd HB8.out
      have HTK := hide (fun w' (h1 : RowK w' g .u32 149 (soak32 BL m)) (h2 : RowK w' h .u8 5 BL) => take_32 g h (m * 16) ((q + 1) * 16) (soak32 BL m) BL w' h1 hl hwd h2 (by rw [HPL.out]; omega) HB8.out (by omega) (by rw [HGH.out]; omega))
      have HST := hide (fun w' (h1 : RowK w' g .u32 149 (take32 BL (m * 16) (soak32 BL m) 4)) (h2 : Turns32 w') => stir_32 g (take32 BL (m * 16) (soak32 BL m) 4) w' h1 hlt4 hw4 h2 hw)
      clear hl hwd hlt4 hw4
      go_wp2_with fail
      refine (HTK.out _ hr.out hpr.out).mono ?_
      rintro e w3 ⟨rfl, hr3, ho3⟩
      have R3 := hide hr3
      have O3 := hide ho3
      clear hr3 ho3 HTK
      go_wp2_with fail
      refine (HST.out _ R3.out (fun i hi => (O3.out.cell (by simp; omega)).trans ((hb.out.cell (by simpa using hw)).trans (HT.out i hi)))).mono ?_
      rintro e w4 ⟨rfl, hr4, ho4⟩
      rw [← HSM.out] at hr4
      have R4 := hide hr4
      have O4 := hide (O3.out.trans ho4)
      have P4 := hide (O4.out.row hpr.out (by rw [HGH.out]; omega))
      have B4 := hide (O4.out.below hb.out (Nat.le_refl g))
      clear hr4 ho4 HST HSM O3 O4 R3 hr hpr hb
      by_cases hq : q = 0
      · subst hq
        go_wp2
        go_roundw
        case rel => exact ⟨.slice (some ⟨h, m * 16, none⟩) 0 0, _, _, _, _, _, _, _, _, _, _, _, ⟨m + 1, some ⟨h, m * 16, none⟩, by omega, by rw [show m + 0 + 1 - (m + 1) = 0 by omega, Nat.zero_mul], fun h => absurd h (by omega), R4, P4, B4⟩, rfl⟩
        case measure => simp [sliceLen32]
      · go_wp2
        go_roundw
        case rel => exact ⟨m + 1, _, by omega, by rw [show m + q + 1 - (m + 1) = q by omega, show (q + 1) * 16 - 16 = q * 16 by omega], fun _ => by rw [show (m + 1) * 16 = m * 16 + 16 by omega], R4, P4, B4⟩
        case measure => simp [sliceLen32]; omega
    · obtain rfl : m = k := by omega
      rw [show (m - m) * 16 = 0 by simp]
      have HTX := hide (text_32 g (soak32 BL m) wr hr.out (soak32_length BL m) (soak32_words BL HB8.out m))
      have HLT := hide hr.out.lt
      go_wp2_with fail
      refine HTX.out.mono ?_
      rintro e w5 ⟨rfl, hb5⟩
      have B5 := hide (hb.out.trans (hb5.mono (Nat.le_of_lt HLT.out)))
      clear hb5 HTX
      go_wp2
      go_ret
      refine ⟨?_, ?_⟩
      · rw [← HBLE.out, ← HKE.out]; rfl
      · rw [← HGE.out]; exact B5.out
end Go.Proofs.YtcaojimmdcdpiaaDoor

namespace Go.Proofs.YtcaojimmdcdpiaaDoor
open Go.RowKit

/-- The first k words of the bytes from place o on, xored in. -/
def take64 (BL : List Nat) (o : Nat) (L : List Nat) : Nat → List Nat
  | 0 => L
  | j + 1 => (take64 BL o L j).set j (at0 (take64 BL o L j) j ^^^ beN BL (o + j * 8) 8)
theorem take64_length (BL : List Nat) (o : Nat) (L : List Nat) (j : Nat) : (take64 BL o L j).length = L.length := by
  induction j with
  | zero => rfl
  | succ j ih => simp only [take64, List.length_set, ih]
theorem take64_words (BL : List Nat) (o : Nat) (L : List Nat) (j : Nat) (h : Words 64 L) (hB : ∀ i, at0 BL i < 256) : Words 64 (take64 BL o L j) := by
  induction j with
  | zero => exact h
  | succ j ih => exact ih.set j _ (Nat.xor_lt_two_pow (ih.at j) (by have := beN_lt BL (o + j * 8) 8 hB; simpa using this))

theorem slice_take64 (h o cap j : Nat) (hj : j < 4) (hc : 32 ≤ cap) (wx : World) : (Instr.slice 79 (.slice (some ⟨h, o, none⟩) 32 cap) (some (.int .i64 ((j : Int) * 8))) (some (.int .i64 (((j : Int) + 1) * 8))) none).run Tryd.prog wx = .ok (.slice (some ⟨h, o + j * 8, none⟩) 8 (cap - j * 8)) wx := by
  have h0 : (0 : Int) ≤ (j : Int) * 8 := by omega
  have h2 : ((j : Int) + 1) * 8 ≤ (cap : Int) := by omega
  have h3 : ((j : Int) * 8).toNat = j * 8 := by omega
  have h4 : (((j : Int) + 1) * 8).toNat = j * 8 + 8 := by omega
  have h5 : j * 8 + 8 - j * 8 = 8 := by omega
  have h7 : ¬ cap = j * 8 := by omega
  simp [go_sem, h0, h2, h3, h4, h5, h7]
  rw [if_pos (by omega), if_pos (by omega)]

set_option maxHeartbeats 2000000 in
theorem take_64 (g h o cap : Nat) (L BL : List Nat) (w : World) (hr : RowK w g .u64 152 L) (hL : L.length = 8) (hW : Words 64 L) (hb : RowK w h .u8 5 BL) (hbl : o + 32 ≤ BL.length) (hB : ∀ i, at0 BL i < 256) (hc : 32 ≤ cap) (hgh : h ≠ g) :
    Calls Tryd.prog 130 #[.pointer (some ⟨g, 0, none⟩), .slice (some ⟨h, o, none⟩) 32 cap] w fun e w' => e = .returned (.tuple #[]) ∧ RowK w' g .u64 152 (take64 BL o L 4) ∧ Only g w w' := by
  have HR := hide hr
  have HL := hide hL
  have HW := hide hW
  have HB := hide hb
  have HBL := hide hbl
  have HBB := hide hB
  clear hr hL hW hb hbl hB
  go_enter Tryd.func130, Tryd.ntmps130
  go_wp2_with fail
  refine (size_64 _).mono ?_
  rintro e w1 ⟨rfl, rfl⟩
  go_wp2
  go_loopw [7] (fun i wr => ∃ j : Nat, j ≤ 4 ∧ i = .int .i64 j ∧ Hid (RowK wr g .u64 152 (take64 BL o L j)) ∧ Hid (Only g w1 wr)) (fun i _ => 4 - (intOf i).toNat)
  case atStart => exact ⟨0, by omega, rfl, HR, Only.refl _ _⟩
  case round =>
    obtain ⟨j, hj, rfl, hr, ho⟩ := hrel
    by_cases hlt : j < 4
    · have hlen : (take64 BL o L j).length = 8 := by rw [take64_length]; exact HL.out
      have hwd := take64_words BL o L j HW.out HBB.out
      have HS : Hid (take64 BL o L (j + 1) = (take64 BL o L j).set j (at0 (take64 BL o L j) j ^^^ beN BL (o + j * 8) 8)) := rfl
      generalize take64 BL o L j = K at hr hlen hwd HS
      have d1 := hr.out.cell (i := j) (by omega)
      have f1 := hr.out.free j
      have x1 : at0 K j < 18446744073709551616 := by have := hwd.at j; simpa using this
      have HRD := hide (fun n' : Nat => read_64 h (o + j * 8) (cap - j * 8) BL (wr.drewN n') ((ho.out.row HB.out hgh).drewN n') (by have := HBL.out; omega) HBB.out)
      have y1 : beN BL (o + j * 8) 8 < 18446744073709551616 := by have := beN_lt BL (o + j * 8) 8 HBB.out; simpa using this
      have HXO := hide (u64_xor_nat (at0 K j) (beN BL (o + j * 8) 8) x1 y1)
      have hsl := slice_take64 h o cap j hlt hc
      generalize beN BL (o + j * 8) 8 = v at HS HRD y1 HXO
      generalize hq : at0 K j = u at d1 x1 HXO HS
      have v1 : IntKind.i64.wrap ((j : Int) * 8) = (j : Int) * 8 := by rw [IntKind.wrap_i64]; omega
      have v2 : IntKind.i64.wrap ((j : Int) + 1) = (j : Int) + 1 := by rw [IntKind.wrap_i64]; omega
      have v3 : IntKind.i64.wrap (((j : Int) + 1) * 8) = ((j : Int) + 1) * 8 := by rw [IntKind.wrap_i64]; omega
      have q0 : (0 : Int) ≤ (j : Int) := by omega
      have q1 : (j : Int) < 8 := by omega
      clear hlen hwd hq x1 y1
      go_wp2
      go_region_with ((go_at_call 146; refine (HRD.out _).mono ?_; rintro e w' ⟨rfl, rfl⟩))
      all_goals
        go_wp2
        try rw [HXO.out]
        go_roundw
        case rel =>
          refine ⟨j + 1, by omega, by go_num, ?_, ?_⟩
          · have h := hr.out.set j (u ^^^ v)
            rw [← HS.out] at h
            exact h
          · unfold Hid
            first | exact (ho.out.drewN _).setCell j _ | (repeat (first | refine Only.drew ?_ | refine Only.setCell ?_ _ _); exact ho.out)
        case measure => simp [intOf]; omega
    · obtain rfl : j = 4 := by omega
      go_wp2
      go_end0
      exact ⟨rfl, hr.out, ho.out⟩
end Go.Proofs.YtcaojimmdcdpiaaDoor
