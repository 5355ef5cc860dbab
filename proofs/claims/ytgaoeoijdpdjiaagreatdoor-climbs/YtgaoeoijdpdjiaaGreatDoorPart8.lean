/-
  Texts one behind the other; strings.Join without a separator. The program's text over words of 32 bits: the bytes of the first four. The program's padded: the text, a 1 and zeros, in a new row. The program's text over words of 64 bits: the bytes of the first four. The statement's own 'some': the first n bytes of a text, zeros behind its end.
-/
import Derived.Test.YtgaoeoijdpdjiaaGreatDoorPart7
import Derived.Test.YtgaoeoijdpdjiaaGreatDoorPart1
import Derived.Laws.MakeOwn
import Derived.Lib.BufferWrite
import Derived.Laws.CopyOwn
namespace Go.Proofs.YtgaoeoijdpdjiaaGreatDoor
open Go.RowKit
/-- Texts, one behind the other. -/
def cat : List ByteArray → ByteArray
  | [] => ⟨#[]⟩
  | x :: r => x ++ cat r
theorem append_empty (x : ByteArray) : x ++ (⟨#[]⟩ : ByteArray) = x := by apply ByteArray.ext; simp
theorem cat_bytes (xs : List ByteArray) : (cat xs).data.toList = (xs.map (·.data.toList)).flatten := by
  induction xs with
  | nil => rfl
  | cons x r ih => simp [cat, ih]
theorem cat_join (xs : List ByteArray) : (⟨(Lib.join (xs.map (·.data.toList)) (⟨#[]⟩ : ByteArray).data.toList).toArray⟩ : ByteArray) = cat xs := by
  apply ByteArray.ext
  apply Array.ext'
  rw [cat_bytes]
  simp only [Lib.join]
  generalize xs.map (·.data.toList) = l
  induction l with
  | nil => rfl
  | cons a r ih =>
    cases r with
    | nil => simp [List.intercalate]
    | cons b r => simpa [List.intercalate] using ih
theorem cat_size (xs : List ByteArray) : (cat xs).size = (xs.map (·.size)).sum := by
  induction xs with
  | nil => rfl
  | cons x r ih => simp [cat, ByteArray.size_append, ih]
theorem join_any (bk o c : Nat) (xs : List ByteArray) (w : World) (hcells : ∀ (j : Nat) x, xs[j]? = some x → w.cell? ⟨bk, o + j, none⟩ = some (.string x)) (hbk : bk < w.heap.size) (hN : xs.length ≤ 1000) (hcap : xs.length ≤ c) (hlen : (cat xs).size ≤ 100000) :
    Calls Tryz.prog 235 #[.slice (some ⟨bk, o, none⟩) xs.length c, .string ⟨#[]⟩] w fun e w' => e = .returned (.string (cat xs)) ∧ Below w.heap.size w w' := by
  have h := strings_Join bk o c xs ⟨#[]⟩ w hcells hbk (by omega) hcap (by have h := congrArg ByteArray.size (cat_join xs); simp only [ByteArray.size, List.size_toArray] at h hlen; rw [h]; omega)
  rw [cat_join] at h
  exact h
end Go.Proofs.YtgaoeoijdpdjiaaGreatDoor

namespace Go.Proofs.YtgaoeoijdpdjiaaGreatDoor
open Go.RowKit
set_option maxHeartbeats 2000000 in
theorem text_32 (g : Nat) (L : List Nat) (w : World) (hr : RowK w g .u32 279 L) (hL : L.length = 8) (hW : Words 32 L) :
    Calls Tryz.prog 225 #[.pointer (some ⟨g, 0, none⟩)] w fun e w' => e = .returned (.string (textOf (outs 4 L 16))) ∧ Below w.heap.size w w' := by
  have hmk : ∀ w : World, (Instr.makeSlice 125 (.int .i64 0) (.int .i64 16)).run Tryz.prog w = .ok (.slice (some ⟨w.heap.size, 0, none⟩) 0 16) (w.alloc (.cells #[.int .u8 0, .int .u8 0, .int .u8 0, .int .u8 0, .int .u8 0, .int .u8 0, .int .u8 0, .int .u8 0, .int .u8 0, .int .u8 0, .int .u8 0, .int .u8 0, .int .u8 0, .int .u8 0, .int .u8 0, .int .u8 0] 5)) := fun _ => by kernel_rfl
  have HR := hide hr
  have HL := hide hL
  have HW := hide hW
  clear hr hL hW
  obtain ⟨i0, hi, hz0, hz1, hz2⟩ := info_parts infoByte
  go_enter Tryz.func225, Tryz.ntmps225
  go_wp2_with fail
  refine (size_32 _).mono ?_
  rintro e w1 ⟨rfl, rfl⟩
  go_wp2
  have HO0 := hide (show (w1.alloc (.cells #[.int .u8 0, .int .u8 0, .int .u8 0, .int .u8 0, .int .u8 0, .int .u8 0, .int .u8 0, .int .u8 0, .int .u8 0, .int .u8 0, .int .u8 0, .int .u8 0, .int .u8 0, .int .u8 0, .int .u8 0, .int .u8 0] 5)).ownsRow w1.heap.size 5 1 (.slice (some ⟨w1.heap.size, 0, none⟩) 0 16) 0 [] from ⟨rfl, Or.inr ⟨w1.heap.size, 16, _, rfl, Nat.le_refl _, heap_alloc_new _ _, by omega, by unfold maxLen; omega, rfl, rfl⟩⟩)
  have HB0 := hide ((Below.refl w1.heap.size w1).alloc (Nat.le_refl _) (.cells #[.int .u8 0, .int .u8 0, .int .u8 0, .int .u8 0, .int .u8 0, .int .u8 0, .int .u8 0, .int .u8 0, .int .u8 0, .int .u8 0, .int .u8 0, .int .u8 0, .int .u8 0, .int .u8 0, .int .u8 0, .int .u8 0] 5))
  go_loopw [4, 11] (fun v i wr => ∃ a : Nat, a ≤ 4 ∧ i = .int .i64 a ∧ Hid (wr.ownsRow w1.heap.size 5 1 v (a * 4) (cells8 (outs 4 L (a * 4)))) ∧ Hid (Below w1.heap.size w1 wr)) (fun _ i _ => 4 - (intOf i).toNat)
  case atStart => exact ⟨0, by omega, rfl, HO0, HB0⟩
  case round =>
    obtain ⟨a, ha, rfl, ho, hb⟩ := hrel
    by_cases hlt : a < 4
    · obtain ⟨wo, rfl⟩ : ∃ wo : World, wo = wr := ⟨_, rfl⟩
      have hda : decide ((a : Int) < 4) = true := by simp; omega
      go_wp2
      go_loopw [4, 6] (fun v i wr => ∃ q : Nat, q ≤ 4 ∧ i = .int .i64 ((q : Int) - 1) ∧ Hid (wr.ownsRow w1.heap.size 5 1 v (a * 4 + (4 - q)) (cells8 (outs 4 L (a * 4 + (4 - q))))) ∧ Hid (Below w1.heap.size w1 wr)) (fun _ i _ => (intOf i + 1).toNat)
      case atStart => exact ⟨4, by omega, by simp, by simpa using ho, hb⟩
      case round =>
        obtain ⟨q, hq, rfl, ho, hb⟩ := hrel
        by_cases hq0 : 0 < q
        · obtain ⟨q, rfl⟩ : ∃ p, q = p + 1 := ⟨q - 1, by omega⟩
          have c := (HR.out.below hb.out HR.out.lt).cell (i := a) (by have := HL.out; omega)
          have HX := hide (HW.out.at a)
          have HOB : Hid (outB 4 L (a * 4 + (4 - (q + 1))) = at0 L a / 2 ^ (8 * q) % 256) := by
            show outB 4 L (a * 4 + (4 - (q + 1))) = _
            unfold outB
            rw [show (a * 4 + (4 - (q + 1))) / 4 = a by omega, show 4 - 1 - (a * 4 + (4 - (q + 1))) % 4 = q by omega]
          have HSU := hide (outs_succ 4 L (a * 4 + (4 - (q + 1))))
          generalize at0 L a = u at c HX HOB
          go_wp2_with (at_builtin; refine wpList_append_own _ rfl _ _ 125 rfl w1.heap.size 5 i0 (.int .u8 0) 1 1 Tryz.underlying125 hi hz0 hz1 hz2 rfl (by decide) _ _ _ rfl (ho.out.alloc _) ⟨wr.heap.size, 0, none⟩ 1 1 [_] rfl rfl (one_new _ _ _) ?c2 ?c3 ?c4 ?c5 ?_)
          case c2 => intro y hy; simp at hy; subst hy; rfl
          case c3 => unfold maxLen; omega
          case c4 => omega
          case c5 => have := hb.out.size; simp; omega
          intro v' w3 ho3 hgrow _
          have HB3 := hide ((hb.out.alloc hb.out.size _).grown hgrow (by have := hb.out.size; simp; omega) (fun p hp => (owns_lt ho.out p hp).1))
          have HO3 := hide ho3
          clear ho3 hgrow
          go_wp2
          go_roundw
          case rel =>
            have hcs : cells8 (outs 4 L (a * 4 + (4 - q))) = cells8 (outs 4 L (a * 4 + (4 - (q + 1)))) ++ [.int .u8 ((u : Int) / 2 ^ (8 * q) % 256)] := by
              rw [show a * 4 + (4 - q) = a * 4 + (4 - (q + 1)) + 1 by omega, HSU.out, cells8_snoc, HOB.out, Int.natCast_emod, Int.natCast_ediv, Int.natCast_pow]
              rfl
            have R : ∃ p : Nat, p ≤ 4 ∧ Value.int .i64 ((q : Int) - 1) = .int .i64 ((p : Int) - 1) ∧ Hid (w3.ownsRow w1.heap.size 5 1 v' (a * 4 + (4 - p)) (cells8 (outs 4 L (a * 4 + (4 - p))))) ∧ Hid (Below w1.heap.size w1 w3) :=
              ⟨q, by omega, rfl, by rw [hcs]; have h := HO3.out; rw [show a * 4 + (3 - q) + 1 = a * 4 + (4 - q) by omega, show a * 4 + (3 - q) = a * 4 + (4 - (q + 1)) by omega] at h; exact h, HB3.out⟩
            first | exact R | ((repeat apply Exists.intro); exact ⟨R, rfl⟩)
          case measure => simp [intOf]
        · obtain rfl : q = 0 := by omega
          go_wp2
          go_roundw
          case rel => exact ⟨a + 1, by omega, by go_num, by have h := ho; rw [show a * 4 + (4 - 0) = (a + 1) * 4 by omega] at h; exact h, hb⟩
          case measure => simp [intOf]; omega
    · obtain rfl : a = 4 := by omega
      have HT := hide (run_text wr w1.heap.size _ (outs 4 L 16) (fun d hd => by simp only [outs, List.mem_map] at hd; obtain ⟨i, _, rfl⟩ := hd; exact outB_lt _ _ _) (by rw [outs_length]; exact ho.out) (by rw [outs_length]; decide))
      have hT := HT.out
      go_wp2
      go_ret
      exact ⟨rfl, hb.out⟩
end Go.Proofs.YtgaoeoijdpdjiaaGreatDoor

namespace Go.Proofs.YtgaoeoijdpdjiaaGreatDoor
open Go.RowKit
def zerosB (n : Nat) : Array Value := (List.replicate n (Value.int .u8 0)).toArray
theorem zerosB_size (n : Nat) : (zerosB n).size = n := by simp [zerosB]
theorem made_zeros (n : Nat) : madeCells (Value.int .u8 0).cells n = zerosB n := by
  apply Array.ext
  · simp [size_madeCells, zerosB_size]
  · intro i h1 h2
    simp [madeCells, zerosB, Value.cells, Nat.mod_one]
/-- The padded row of N bytes. -/
def padRow (s : ByteArray) (N : Nat) : List Nat := padL s ++ List.replicate (N - (s.size + 1)) 0
theorem padRow_at (s : ByteArray) (N i : Nat) : at0 (padRow s N) i = at0 (padL s) i := by
  unfold padRow at0
  by_cases h : i < (padL s).length
  · rw [List.getD_eq_getElem?_getD, List.getD_eq_getElem?_getD, List.getElem?_append_left h]
  · rw [List.getD_eq_getElem?_getD, List.getD_eq_getElem?_getD, List.getElem?_append_right (by omega), List.getElem?_eq_none (by omega : (padL s).length ≤ i)]
    by_cases h2 : i - (padL s).length < N - (s.size + 1)
    · simp [h2]
    · rw [List.getElem?_eq_none (by simp; omega)]
theorem pad_small (s : ByteArray) (N i : Nat) : at0 (padRow s N) i < 256 := by
  rw [padRow_at]; exact padL_lt s i
theorem padRow_length (s : ByteArray) (N : Nat) (h : s.size < N) : (padRow s N).length = N := by
  simp [padRow, padL_length]; omega
theorem infoByte2 : (Tryz.prog.info? 5).map (fun i => (i.zero, i.size, i.bytes)) = some (some (.int .u8 0), 1, 1) := by kernel_rfl
set_option maxRecDepth 20000 in
set_option maxHeartbeats 1000000 in
theorem padded_16 (s : ByteArray) (w : World) (hs : s.size ≤ 400) :
    Calls Tryz.prog 222 #[.string s, .int .i64 16] w fun e w' => e = .returned (.slice (some ⟨w.heap.size, 0, none⟩) ((s.size / 16 + 1) * 16) ((s.size / 16 + 1) * 16)) ∧ RowK w' w.heap.size .u8 5 (padRow s ((s.size / 16 + 1) * 16)) ∧ Below w.heap.size w w' := by
  obtain ⟨i0, hi, hz0, hz1, hz2⟩ := info_parts infoByte2
  have hmk : ∀ w : World, (Instr.makeSlice 125 (.int .i64 (((s.size : Int) / 16 + 1) * 16)) (.int .i64 (((s.size : Int) / 16 + 1) * 16))).run Tryz.prog w = .ok (.slice (some ⟨w.heap.size, 0, none⟩) ((s.size / 16 + 1) * 16) ((s.size / 16 + 1) * 16)) (w.alloc (.cells (zerosB ((s.size / 16 + 1) * 16)) 5)) := by
    intro w
    have h := run_make (P := Tryz.prog) w 125 5 i0 (.int .u8 0) Tryz.underlying125 hi hz0 .i64 .i64 (((s.size : Int) / 16 + 1) * 16) (((s.size : Int) / 16 + 1) * 16) (by omega) (by omega) (by rw [hz2]; omega) (by omega)
    rw [hz1, Nat.mul_one, made_zeros, show (((s.size : Int) / 16 + 1) * 16).toNat = (s.size / 16 + 1) * 16 by omega] at h
    exact h
  have hN : s.size < (s.size / 16 + 1) * 16 := by omega
  have hN2 : (s.size / 16 + 1) * 16 ≤ 1000 := by omega
  have hcp := Lib.run_copy_row_string (P := Tryz.prog) (w.alloc (.cells (zerosB ((s.size / 16 + 1) * 16)) 5)) 125 9 3 5 w.heap.size 0 ((s.size / 16 + 1) * 16) ((s.size / 16 + 1) * 16) s (zerosB ((s.size / 16 + 1) * 16)) 5 Tryz.underlying125 (by kernel_rfl) (heap_alloc_new _ _) (by omega) (by rw [zerosB_size]; omega)
  generalize hM : (s.size / 16 + 1) * 16 = N at hmk hN hN2 hcp ⊢
  clear hM
  have HROW := hide (show RowK ((w.alloc (.cells (zerosB N) 5)).setRow w.heap.size ((zerosB N).toList.take 0 ++ Lib.byteCells s.data.toList ++ (zerosB N).toList.drop (0 + s.size)).toArray) w.heap.size .u8 5 (s.data.toList.map UInt8.toNat ++ List.replicate (N - s.size) 0) by
    unfold RowK
    rw [setRow_heap _ _ _ _ 5 _ (heap_alloc_new _ _)]
    congr 2
    simp [zerosB, Lib.byteCells])
  have HBEL := hide (below_setRow ((Below.refl w.heap.size w).alloc (Nat.le_refl _) (.cells (zerosB N) 5)) (Nat.le_refl w.heap.size) ((zerosB N).toList.take 0 ++ Lib.byteCells s.data.toList ++ (zerosB N).toList.drop (0 + s.size)).toArray)
  generalize (w.alloc (.cells (zerosB N) 5)).setRow w.heap.size ((zerosB N).toList.take 0 ++ Lib.byteCells s.data.toList ++ (zerosB N).toList.drop (0 + s.size)).toArray = V at hcp HROW HBEL
  have hlen : (s.data.toList.map UInt8.toNat ++ List.replicate (N - s.size) 0).length = N := by simp; omega
  have cV := HROW.out.cell (i := s.size) (by omega)
  have fV := HROW.out.free s.size
  have HSET := hide (HROW.out.set s.size 1)
  have HPAD := hide (show (s.data.toList.map UInt8.toNat ++ List.replicate (N - s.size) 0).set s.size 1 = padRow s N by
    unfold padRow padL
    rw [List.set_append_right _ _ (by simp), show s.size - (s.data.toList.map UInt8.toNat).length = 0 by simp, show N - s.size = (N - (s.size + 1)) + 1 by omega, List.replicate_succ, List.set_cons_zero]
    simp)
  clear hlen
  go_enter Tryz.func222, Tryz.ntmps222
  go_wp2
  go_ret
  refine ⟨rfl, ?_, HBEL.out.setCell (Nat.le_refl _) _⟩
  have h := HSET.out
  rw [HPAD.out] at h
  exact h
set_option maxRecDepth 20000 in
set_option maxHeartbeats 1000000 in
theorem padded_32 (s : ByteArray) (w : World) (hs : s.size ≤ 400) :
    Calls Tryz.prog 222 #[.string s, .int .i64 32] w fun e w' => e = .returned (.slice (some ⟨w.heap.size, 0, none⟩) ((s.size / 32 + 1) * 32) ((s.size / 32 + 1) * 32)) ∧ RowK w' w.heap.size .u8 5 (padRow s ((s.size / 32 + 1) * 32)) ∧ Below w.heap.size w w' := by
  obtain ⟨i0, hi, hz0, hz1, hz2⟩ := info_parts infoByte2
  have hmk : ∀ w : World, (Instr.makeSlice 125 (.int .i64 (((s.size : Int) / 32 + 1) * 32)) (.int .i64 (((s.size : Int) / 32 + 1) * 32))).run Tryz.prog w = .ok (.slice (some ⟨w.heap.size, 0, none⟩) ((s.size / 32 + 1) * 32) ((s.size / 32 + 1) * 32)) (w.alloc (.cells (zerosB ((s.size / 32 + 1) * 32)) 5)) := by
    intro w
    have h := run_make (P := Tryz.prog) w 125 5 i0 (.int .u8 0) Tryz.underlying125 hi hz0 .i64 .i64 (((s.size : Int) / 32 + 1) * 32) (((s.size : Int) / 32 + 1) * 32) (by omega) (by omega) (by rw [hz2]; omega) (by omega)
    rw [hz1, Nat.mul_one, made_zeros, show (((s.size : Int) / 32 + 1) * 32).toNat = (s.size / 32 + 1) * 32 by omega] at h
    exact h
  have hN : s.size < (s.size / 32 + 1) * 32 := by omega
  have hN2 : (s.size / 32 + 1) * 32 ≤ 1000 := by omega
  have hcp := Lib.run_copy_row_string (P := Tryz.prog) (w.alloc (.cells (zerosB ((s.size / 32 + 1) * 32)) 5)) 125 9 3 5 w.heap.size 0 ((s.size / 32 + 1) * 32) ((s.size / 32 + 1) * 32) s (zerosB ((s.size / 32 + 1) * 32)) 5 Tryz.underlying125 (by kernel_rfl) (heap_alloc_new _ _) (by omega) (by rw [zerosB_size]; omega)
  generalize hM : (s.size / 32 + 1) * 32 = N at hmk hN hN2 hcp ⊢
  clear hM
  have HROW := hide (show RowK ((w.alloc (.cells (zerosB N) 5)).setRow w.heap.size ((zerosB N).toList.take 0 ++ Lib.byteCells s.data.toList ++ (zerosB N).toList.drop (0 + s.size)).toArray) w.heap.size .u8 5 (s.data.toList.map UInt8.toNat ++ List.replicate (N - s.size) 0) by
    unfold RowK
    rw [setRow_heap _ _ _ _ 5 _ (heap_alloc_new _ _)]
    congr 2
    simp [zerosB, Lib.byteCells])
  have HBEL := hide (below_setRow ((Below.refl w.heap.size w).alloc (Nat.le_refl _) (.cells (zerosB N) 5)) (Nat.le_refl w.heap.size) ((zerosB N).toList.take 0 ++ Lib.byteCells s.data.toList ++ (zerosB N).toList.drop (0 + s.size)).toArray)
  generalize (w.alloc (.cells (zerosB N) 5)).setRow w.heap.size ((zerosB N).toList.take 0 ++ Lib.byteCells s.data.toList ++ (zerosB N).toList.drop (0 + s.size)).toArray = V at hcp HROW HBEL
  have hlen : (s.data.toList.map UInt8.toNat ++ List.replicate (N - s.size) 0).length = N := by simp; omega
  have cV := HROW.out.cell (i := s.size) (by omega)
  have fV := HROW.out.free s.size
  have HSET := hide (HROW.out.set s.size 1)
  have HPAD := hide (show (s.data.toList.map UInt8.toNat ++ List.replicate (N - s.size) 0).set s.size 1 = padRow s N by
    unfold padRow padL
    rw [List.set_append_right _ _ (by simp), show s.size - (s.data.toList.map UInt8.toNat).length = 0 by simp, show N - s.size = (N - (s.size + 1)) + 1 by omega, List.replicate_succ, List.set_cons_zero]
    simp)
  clear hlen
  go_enter Tryz.func222, Tryz.ntmps222
  go_wp2
  go_ret
  refine ⟨rfl, ?_, HBEL.out.setCell (Nat.le_refl _) _⟩
  have h := HSET.out
  rw [HPAD.out] at h
  exact h
end Go.Proofs.YtgaoeoijdpdjiaaGreatDoor

namespace Go.Proofs.YtgaoeoijdpdjiaaGreatDoor
open Go.RowKit
set_option maxHeartbeats 2000000 in
theorem text_64 (g : Nat) (L : List Nat) (w : World) (hr : RowK w g .u64 283 L) (hL : L.length = 8) (hW : Words 64 L) :
    Calls Tryz.prog 229 #[.pointer (some ⟨g, 0, none⟩)] w fun e w' => e = .returned (.string (textOf (outs 8 L 32))) ∧ Below w.heap.size w w' := by
  have hmk : ∀ w : World, (Instr.makeSlice 125 (.int .i64 0) (.int .i64 32)).run Tryz.prog w = .ok (.slice (some ⟨w.heap.size, 0, none⟩) 0 32) (w.alloc (.cells #[.int .u8 0, .int .u8 0, .int .u8 0, .int .u8 0, .int .u8 0, .int .u8 0, .int .u8 0, .int .u8 0, .int .u8 0, .int .u8 0, .int .u8 0, .int .u8 0, .int .u8 0, .int .u8 0, .int .u8 0, .int .u8 0, .int .u8 0, .int .u8 0, .int .u8 0, .int .u8 0, .int .u8 0, .int .u8 0, .int .u8 0, .int .u8 0, .int .u8 0, .int .u8 0, .int .u8 0, .int .u8 0, .int .u8 0, .int .u8 0, .int .u8 0, .int .u8 0] 5)) := fun _ => by kernel_rfl
  have HR := hide hr
  have HL := hide hL
  have HW := hide hW
  clear hr hL hW
  obtain ⟨i0, hi, hz0, hz1, hz2⟩ := info_parts infoByte
  go_enter Tryz.func229, Tryz.ntmps229
  go_wp2_with fail
  refine (size_64 _).mono ?_
  rintro e w1 ⟨rfl, rfl⟩
  go_wp2
  have HO0 := hide (show (w1.alloc (.cells #[.int .u8 0, .int .u8 0, .int .u8 0, .int .u8 0, .int .u8 0, .int .u8 0, .int .u8 0, .int .u8 0, .int .u8 0, .int .u8 0, .int .u8 0, .int .u8 0, .int .u8 0, .int .u8 0, .int .u8 0, .int .u8 0, .int .u8 0, .int .u8 0, .int .u8 0, .int .u8 0, .int .u8 0, .int .u8 0, .int .u8 0, .int .u8 0, .int .u8 0, .int .u8 0, .int .u8 0, .int .u8 0, .int .u8 0, .int .u8 0, .int .u8 0, .int .u8 0] 5)).ownsRow w1.heap.size 5 1 (.slice (some ⟨w1.heap.size, 0, none⟩) 0 32) 0 [] from ⟨rfl, Or.inr ⟨w1.heap.size, 32, _, rfl, Nat.le_refl _, heap_alloc_new _ _, by omega, by unfold maxLen; omega, rfl, rfl⟩⟩)
  have HB0 := hide ((Below.refl w1.heap.size w1).alloc (Nat.le_refl _) (.cells #[.int .u8 0, .int .u8 0, .int .u8 0, .int .u8 0, .int .u8 0, .int .u8 0, .int .u8 0, .int .u8 0, .int .u8 0, .int .u8 0, .int .u8 0, .int .u8 0, .int .u8 0, .int .u8 0, .int .u8 0, .int .u8 0, .int .u8 0, .int .u8 0, .int .u8 0, .int .u8 0, .int .u8 0, .int .u8 0, .int .u8 0, .int .u8 0, .int .u8 0, .int .u8 0, .int .u8 0, .int .u8 0, .int .u8 0, .int .u8 0, .int .u8 0, .int .u8 0] 5))
  go_loopw [4, 11] (fun v i wr => ∃ a : Nat, a ≤ 4 ∧ i = .int .i64 a ∧ Hid (wr.ownsRow w1.heap.size 5 1 v (a * 8) (cells8 (outs 8 L (a * 8)))) ∧ Hid (Below w1.heap.size w1 wr)) (fun _ i _ => 4 - (intOf i).toNat)
  case atStart => exact ⟨0, by omega, rfl, HO0, HB0⟩
  case round =>
    obtain ⟨a, ha, rfl, ho, hb⟩ := hrel
    by_cases hlt : a < 4
    · obtain ⟨wo, rfl⟩ : ∃ wo : World, wo = wr := ⟨_, rfl⟩
      have hda : decide ((a : Int) < 4) = true := by simp; omega
      go_wp2
      go_loopw [4, 6] (fun v i wr => ∃ q : Nat, q ≤ 8 ∧ i = .int .i64 ((q : Int) - 1) ∧ Hid (wr.ownsRow w1.heap.size 5 1 v (a * 8 + (8 - q)) (cells8 (outs 8 L (a * 8 + (8 - q))))) ∧ Hid (Below w1.heap.size w1 wr)) (fun _ i _ => (intOf i + 1).toNat)
      case atStart => exact ⟨8, by omega, by simp, by simpa using ho, hb⟩
      case round =>
        obtain ⟨q, hq, rfl, ho, hb⟩ := hrel
        by_cases hq0 : 0 < q
        · obtain ⟨q, rfl⟩ : ∃ p, q = p + 1 := ⟨q - 1, by omega⟩
          have c := (HR.out.below hb.out HR.out.lt).cell (i := a) (by have := HL.out; omega)
          have HX := hide (HW.out.at a)
          have HOB : Hid (outB 8 L (a * 8 + (8 - (q + 1))) = at0 L a / 2 ^ (8 * q) % 256) := by
            show outB 8 L (a * 8 + (8 - (q + 1))) = _
            unfold outB
            rw [show (a * 8 + (8 - (q + 1))) / 8 = a by omega, show 8 - 1 - (a * 8 + (8 - (q + 1))) % 8 = q by omega]
          have HSU := hide (outs_succ 8 L (a * 8 + (8 - (q + 1))))
          generalize at0 L a = u at c HX HOB
          go_wp2_with (at_builtin; refine wpList_append_own _ rfl _ _ 125 rfl w1.heap.size 5 i0 (.int .u8 0) 1 1 Tryz.underlying125 hi hz0 hz1 hz2 rfl (by decide) _ _ _ rfl (ho.out.alloc _) ⟨wr.heap.size, 0, none⟩ 1 1 [_] rfl rfl (one_new _ _ _) ?c2 ?c3 ?c4 ?c5 ?_)
          case c2 => intro y hy; simp at hy; subst hy; rfl
          case c3 => unfold maxLen; omega
          case c4 => omega
          case c5 => have := hb.out.size; simp; omega
          intro v' w3 ho3 hgrow _
          have HB3 := hide ((hb.out.alloc hb.out.size _).grown hgrow (by have := hb.out.size; simp; omega) (fun p hp => (owns_lt ho.out p hp).1))
          have HO3 := hide ho3
          clear ho3 hgrow
          go_wp2
          go_roundw
          case rel =>
            have hcs : cells8 (outs 8 L (a * 8 + (8 - q))) = cells8 (outs 8 L (a * 8 + (8 - (q + 1)))) ++ [.int .u8 ((u : Int) / 2 ^ (8 * q) % 256)] := by
              rw [show a * 8 + (8 - q) = a * 8 + (8 - (q + 1)) + 1 by omega, HSU.out, cells8_snoc, HOB.out, Int.natCast_emod, Int.natCast_ediv, Int.natCast_pow]
              rfl
            have R : ∃ p : Nat, p ≤ 8 ∧ Value.int .i64 ((q : Int) - 1) = .int .i64 ((p : Int) - 1) ∧ Hid (w3.ownsRow w1.heap.size 5 1 v' (a * 8 + (8 - p)) (cells8 (outs 8 L (a * 8 + (8 - p))))) ∧ Hid (Below w1.heap.size w1 w3) :=
              ⟨q, by omega, rfl, by rw [hcs]; have h := HO3.out; rw [show a * 8 + (7 - q) + 1 = a * 8 + (8 - q) by omega, show a * 8 + (7 - q) = a * 8 + (8 - (q + 1)) by omega] at h; exact h, HB3.out⟩
            first | exact R | ((repeat apply Exists.intro); exact ⟨R, rfl⟩)
          case measure => simp [intOf]
        · obtain rfl : q = 0 := by omega
          go_wp2
          go_roundw
          case rel => exact ⟨a + 1, by omega, by go_num, by have h := ho; rw [show a * 8 + (8 - 0) = (a + 1) * 8 by omega] at h; exact h, hb⟩
          case measure => simp [intOf]; omega
    · obtain rfl : a = 4 := by omega
      have HT := hide (run_text wr w1.heap.size _ (outs 8 L 32) (fun d hd => by simp only [outs, List.mem_map] at hd; obtain ⟨i, _, rfl⟩ := hd; exact outB_lt _ _ _) (by rw [outs_length]; exact ho.out) (by rw [outs_length]; decide))
      have hT := HT.out
      go_wp2
      go_ret
      exact ⟨rfl, hb.out⟩
end Go.Proofs.YtgaoeoijdpdjiaaGreatDoor

namespace Go.Proofs.YtgaoeoijdpdjiaaGreatDoor
open Go.RowKit
theorem makeU8g (k : Nat) (hk : k ≤ 1000) (w : World) : (Instr.makeSlice 125 (.int .i64 k) (.int .i64 k)).run Tryz.prog w = .ok (.slice (some ⟨w.heap.size, 0, none⟩) k k) (w.alloc (.cells ((List.replicate k 0).map (fun n => Value.int .u8 ((n : Nat) : Int))).toArray 5)) := by
  obtain ⟨i0, hi, hz0, hz1, hz2⟩ := info_parts infoU8
  have h := run_make (P := Tryz.prog) w 125 5 i0 (.int .u8 0) Tryz.underlying125 hi hz0 .i64 .i64 k k (by omega) (by omega) (by rw [hz2]; omega) (by omega)
  rw [hz1, Nat.mul_one, Int.toNat_natCast, madeU8] at h
  exact h
/-- The first n bytes, of which j are laid. -/
def someJ (s : ByteArray) (n j : Nat) : List Nat := (List.range n).map (fun i => if i < j then byt s i else 0)
def someL (s : ByteArray) (n : Nat) : List Nat := (List.range n).map (fun i => byt s i)
def someB (s : ByteArray) (n : Nat) : ByteArray := ⟨((someL s n).map UInt8.ofNat).toArray⟩
theorem someB_size (s : ByteArray) (n : Nat) : (someB s n).size = n := by simp [someB, ByteArray.size, someL]
theorem someJ_length (s : ByteArray) (n j : Nat) : (someJ s n j).length = n := by simp [someJ]
theorem someJ_zero (s : ByteArray) (n : Nat) : someJ s n 0 = List.replicate n 0 := by
  apply List.ext_getElem
  · simp [someJ]
  · intro i h1 h2; simp [someJ]
theorem someJ_step (s : ByteArray) (n j : Nat) : (someJ s n j).set j (byt s j) = someJ s n (j + 1) := by
  apply List.ext_getElem
  · simp [someJ]
  · intro i h1 h2
    rw [List.getElem_set]
    simp only [someJ, List.getElem_map, List.getElem_range]
    by_cases e : j = i
    · subst e; simp
    · rw [if_neg e]
      by_cases hi : i < j
      · rw [if_pos hi, if_pos (by omega)]
      · rw [if_neg hi, if_neg (by omega)]
theorem byt_end (s : ByteArray) (k : Nat) (h : s.size ≤ k) : byt s k = 0 := by
  unfold byt
  rw [List.getD_eq_getElem?_getD, List.getElem?_eq_none (by rw [List.length_map]; exact h)]
  rfl
theorem someJ_all (s : ByteArray) (n j : Nat) (h : n ≤ j ∨ s.size ≤ j) : someJ s n j = someL s n := by
  unfold someJ someL
  apply List.map_congr_left
  intro i hi
  have hi := List.mem_range.1 hi
  by_cases hlt : i < j
  · rw [if_pos hlt]
  · rw [if_neg hlt]
    rcases h with h | h
    · omega
    · rw [byt_end s i (by omega)]
theorem someL_lt (s : ByteArray) (n : Nat) : ∀ d ∈ someL s n, d < 256 := by
  intro d hd
  obtain ⟨i, _, rfl⟩ := List.mem_map.1 hd
  exact byt_lt s i
set_option maxRecDepth 20000 in
set_option maxHeartbeats 1000000 in
theorem someN_any (s : ByteArray) (n : Nat) (w : World) (hs : s.size ≤ maxLen) (hn : n ≤ 1000) :
    Calls Tryz.prog 34 #[.string s, .int .i64 n] w fun e w' => e = .returned (.string (someB s n)) ∧ Below w.heap.size w w' := by
  have hmk := makeU8g n hn
  unfold maxLen at hs
  go_enter Tryz.func34, Tryz.ntmps34
  go_wp2
  clear hmk
  go_loopw [6] (fun i wr => ∃ j : Nat, j ≤ n ∧ i = .int .i64 j ∧ Hid (RowK wr w.heap.size .u8 5 (someJ s n j)) ∧ Hid (Below w.heap.size w wr)) (fun i _ => n - (intOf i).toNat)
  case atStart =>
    refine ⟨0, Nat.zero_le _, rfl, ?_, (Below.refl _ _).alloc (Nat.le_refl _) _⟩
    show RowK _ _ _ _ _
    unfold RowK
    rw [heap_alloc_new, someJ_zero]
    simp
  case round =>
    obtain ⟨j, hj, rfl, hr, hb⟩ := hrel
    by_cases h1 : j < n
    · by_cases h2 : j < s.size
      · have hby : byt s j = (s[j]'h2).toNat := byt_of s j h2
        have HS := hide (someJ_step s n j)
        have hl := someJ_length s n j
        have hc := hr.out.cell (i := j) (by omega)
        have hf := hr.out.free j
        clear hl
        go_wp2
        go_roundw
        case rel =>
          refine ⟨j + 1, by omega, by go_num, ?_, hb.out.setCell (Nat.le_refl _) _⟩
          have := hr.out.set j (byt s j)
          rw [HS.out, hby] at this
          exact this
        case measure => simp [intOf]; omega
      · have HT := textRow wr w.heap.size n (someL s n) (someL_lt s n) (by rw [← someJ_all s n j (.inr (by omega))]; exact hr.out) (by simp [someL])
        go_wp2
        go_ret
        exact ⟨rfl, hb.out⟩
    · obtain rfl : j = n := by omega
      have HT := textRow wr w.heap.size j (someL s j) (someL_lt s j) (by rw [← someJ_all s j j (.inl (by omega))]; exact hr.out) (by simp [someL])
      go_wp2
      go_ret
      exact ⟨rfl, hb.out⟩
end Go.Proofs.YtgaoeoijdpdjiaaGreatDoor
