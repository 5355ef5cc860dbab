/-
  The program's stir over words of 32 bits. The program's stir over words of 64 bits. A write to the disk. sets.Digits at the sets with Bytes 8 and Wide 4, and a text of that length. sets.Digits at the sets with Bytes 4 and Wide 4, and a text of that length. sets.Digits at the sets with Bytes 4 and Wide 16, and a text of that length. sets.Digits at the sets with Bytes 8 and Wide 16, and a text of that length. The program's text over words of 32 bits: the bytes of the first four. The program's text over words of 64 bits: the bytes of the first four. The program's padded: the text, a 1 and zeros, in a new row. The statement's own 'some': the first n bytes of a text, zeros behind its end. The value of a text's bytes: the program's NumberIn and the document's Value. sets.Measure and the document's sizes, at every set. Seeds and a place that come in by value, with their bounds. What a text is read as: a record, or none. Texts one behind the other; strings.Join without a separator. The text of a key.
-/
import Derived.Test.YtgaoeoijdpdjiabGreatDoorPart4
import Derived.Test.YtgaoeoijdpdjiabGreatDoorPart3
import Derived.Lib.ConvBytes
import Derived.Deep.RegionLaw
import Derived.Laws.MakeOwn
import Derived.Lib.BufferWrite
import Derived.Laws.CopyOwn
import Derived.Test.YtgaoeoijdpdjiabGreatDoorPart2
import Derived.Test.YtgaoeoijdpdjiabGreatDoorPart1
namespace Go.Proofs.YtgaoeoijdpdjiabGreatDoor
open Go.RowKit

set_option maxHeartbeats 4000000 in
theorem stir_32 (g : Nat) (L : List Nat) (w : World) (hr : RowK w g .u32 358 L) (hL : L.length = 8) (hW : Words 32 L) (hT : Turns32 w) (hg : 1 < g) :
    Calls Tryz.prog 293 #[.pointer (some ⟨g, 0, none⟩)] w fun e w' => e = .returned (.tuple #[]) ∧ RowK w' g .u32 358 (stirTo 32 L 8) ∧ Only g w w' := by
  have HR := hide hr
  have HL := hide hL
  have HW := hide hW
  have HT := hide hT
  clear hr hL hW hT
  go_enter Tryz.func293, Tryz.ntmps293
  go_wp2
  go_loopw [3] (fun i wr => ∃ j : Nat, j ≤ 8 ∧ i = .int .i64 j ∧ Hid (RowK wr g .u32 358 (stirTo 32 L j)) ∧ Hid (Only g w wr)) (fun i _ => 8 - (intOf i).toNat)
  case atStart => exact ⟨0, by omega, rfl, HR, Only.refl _ _⟩
  case round =>
    obtain ⟨j, hj, rfl, hr, ho⟩ := hrel
    by_cases hlt : j < 8
    · have hlen : (stirTo 32 L j).length = 8 := by rw [stirTo_length _ _ _ HL.out]
      have hwd := stirTo_words 32 L j HL.out HW.out
      have HMX := hide (fun w' h1 h2 => mix_32 g (stirTo 32 L j) w' h1 hlen hwd h2 hg)
      have HS : Hid (stirTo 32 L (j + 1) = roundW (j + 1) (mixTo 32 (stirTo 32 L j) 4)) := rfl
      have hl4 : (mixTo 32 (stirTo 32 L j) 4).length = 8 := by rw [mixTo_length]; exact hlen
      have hw4 := mixTo_words 32 (stirTo 32 L j) 4 hwd
      clear hlen hwd
      go_wp2_with fail
      refine (HMX.out _ hr.out (fun i hi => (ho.out.cell (by simp; omega)).trans (HT.out i hi))).mono ?_
      rintro e w1 ⟨rfl, hr1, ho1⟩
      clear HMX
      generalize mixTo 32 (stirTo 32 L j) 4 = K at hr1 hl4 hw4 HS
      obtain ⟨a0, a1, a2, a3, a4, a5, a6, a7, rfl⟩ := eight_of hl4
      have R1 := hide hr1
      have O1 := hide (ho.out.trans ho1)
      have c0 : w1.cell? ⟨g, 0, none⟩ = some (.int .u32 (a0 : Int)) := hr1.cell (i := 0) (by simp)
      have c4 : w1.cell? ⟨g, 4, none⟩ = some (.int .u32 (a4 : Int)) := hr1.cell (i := 4) (by simp)
      have c5 : w1.cell? ⟨g, 5, none⟩ = some (.int .u32 (a5 : Int)) := hr1.cell (i := 5) (by simp)
      have c6 : w1.cell? ⟨g, 6, none⟩ = some (.int .u32 (a6 : Int)) := hr1.cell (i := 6) (by simp)
      have c7 : w1.cell? ⟨g, 7, none⟩ = some (.int .u32 (a7 : Int)) := hr1.cell (i := 7) (by simp)
      have fz : ∀ i, w1.frozen? ⟨g, i, none⟩ = false := fun i => hr1.free i
      have x0 : a0 < 4294967296 := by have := hw4 a0 (by simp); simpa using this
      have HXO : Hid (bits BinOp.xor IntKind.u32 (a0 : Int) ((j : Int) + 1) = ((a0 ^^^ (j + 1) : Nat) : Int)) := u32_xor_nat a0 (j + 1) x0 (by omega)
      clear hr1 ho1 hl4 hw4
      go_wp2
      go_region
      go_wp2
      go_region
      go_wp2
      rw [HXO.out]
      go_roundw
      case rel =>
        refine ⟨j + 1, by omega, by go_num, ?_, ?_⟩
        · have h := ((((R1.out.set 4 a5).set 5 a6).set 6 a7).set 7 a4).set 0 (a0 ^^^ (j + 1))
          have e : ((((([a0, a1, a2, a3, a4, a5, a6, a7].set 4 a5).set 5 a6).set 6 a7).set 7 a4).set 0 (a0 ^^^ (j + 1))) = roundW (j + 1) [a0, a1, a2, a3, a4, a5, a6, a7] := by simp only [List.set_cons_zero, List.set_cons_succ, roundW]
          rw [e, ← HS.out] at h
          exact h
        · unfold Hid
          repeat (first | refine Only.drew ?_ | refine Only.setCell ?_ _ _)
          exact O1.out
      case measure => simp [intOf]; omega
    · obtain rfl : j = 8 := by omega
      go_wp2
      go_end0
      exact ⟨rfl, hr.out, ho.out⟩
end Go.Proofs.YtgaoeoijdpdjiabGreatDoor

namespace Go.Proofs.YtgaoeoijdpdjiabGreatDoor
open Go.RowKit

set_option maxHeartbeats 4000000 in
theorem stir_64 (g : Nat) (L : List Nat) (w : World) (hr : RowK w g .u64 361 L) (hL : L.length = 8) (hW : Words 64 L) (hT : Turns64 w) (hg : 1 < g) :
    Calls Tryz.prog 297 #[.pointer (some ⟨g, 0, none⟩)] w fun e w' => e = .returned (.tuple #[]) ∧ RowK w' g .u64 361 (stirTo 64 L 8) ∧ Only g w w' := by
  have HR := hide hr
  have HL := hide hL
  have HW := hide hW
  have HT := hide hT
  clear hr hL hW hT
  go_enter Tryz.func297, Tryz.ntmps297
  go_wp2
  go_loopw [3] (fun i wr => ∃ j : Nat, j ≤ 8 ∧ i = .int .i64 j ∧ Hid (RowK wr g .u64 361 (stirTo 64 L j)) ∧ Hid (Only g w wr)) (fun i _ => 8 - (intOf i).toNat)
  case atStart => exact ⟨0, by omega, rfl, HR, Only.refl _ _⟩
  case round =>
    obtain ⟨j, hj, rfl, hr, ho⟩ := hrel
    by_cases hlt : j < 8
    · have hlen : (stirTo 64 L j).length = 8 := by rw [stirTo_length _ _ _ HL.out]
      have hwd := stirTo_words 64 L j HL.out HW.out
      have HMX := hide (fun w' h1 h2 => mix_64 g (stirTo 64 L j) w' h1 hlen hwd h2 hg)
      have HS : Hid (stirTo 64 L (j + 1) = roundW (j + 1) (mixTo 64 (stirTo 64 L j) 4)) := rfl
      have hl4 : (mixTo 64 (stirTo 64 L j) 4).length = 8 := by rw [mixTo_length]; exact hlen
      have hw4 := mixTo_words 64 (stirTo 64 L j) 4 hwd
      clear hlen hwd
      go_wp2_with fail
      refine (HMX.out _ hr.out (fun i hi => (ho.out.cell (by simp; omega)).trans (HT.out i hi))).mono ?_
      rintro e w1 ⟨rfl, hr1, ho1⟩
      clear HMX
      generalize mixTo 64 (stirTo 64 L j) 4 = K at hr1 hl4 hw4 HS
      obtain ⟨a0, a1, a2, a3, a4, a5, a6, a7, rfl⟩ := eight_of hl4
      have R1 := hide hr1
      have O1 := hide (ho.out.trans ho1)
      have c0 : w1.cell? ⟨g, 0, none⟩ = some (.int .u64 (a0 : Int)) := hr1.cell (i := 0) (by simp)
      have c4 : w1.cell? ⟨g, 4, none⟩ = some (.int .u64 (a4 : Int)) := hr1.cell (i := 4) (by simp)
      have c5 : w1.cell? ⟨g, 5, none⟩ = some (.int .u64 (a5 : Int)) := hr1.cell (i := 5) (by simp)
      have c6 : w1.cell? ⟨g, 6, none⟩ = some (.int .u64 (a6 : Int)) := hr1.cell (i := 6) (by simp)
      have c7 : w1.cell? ⟨g, 7, none⟩ = some (.int .u64 (a7 : Int)) := hr1.cell (i := 7) (by simp)
      have fz : ∀ i, w1.frozen? ⟨g, i, none⟩ = false := fun i => hr1.free i
      have x0 : a0 < 18446744073709551616 := by have := hw4 a0 (by simp); simpa using this
      have HXO : Hid (bits BinOp.xor IntKind.u64 (a0 : Int) ((j : Int) + 1) = ((a0 ^^^ (j + 1) : Nat) : Int)) := u64_xor_nat a0 (j + 1) x0 (by omega)
      clear hr1 ho1 hl4 hw4
      go_wp2
      go_region
      go_wp2
      go_region
      go_wp2
      rw [HXO.out]
      go_roundw
      case rel =>
        refine ⟨j + 1, by omega, by go_num, ?_, ?_⟩
        · have h := ((((R1.out.set 4 a5).set 5 a6).set 6 a7).set 7 a4).set 0 (a0 ^^^ (j + 1))
          have e : ((((([a0, a1, a2, a3, a4, a5, a6, a7].set 4 a5).set 5 a6).set 6 a7).set 7 a4).set 0 (a0 ^^^ (j + 1))) = roundW (j + 1) [a0, a1, a2, a3, a4, a5, a6, a7] := by simp only [List.set_cons_zero, List.set_cons_succ, roundW]
          rw [e, ← HS.out] at h
          exact h
        · unfold Hid
          repeat (first | refine Only.drew ?_ | refine Only.setCell ?_ _ _)
          exact O1.out
      case measure => simp [intOf]; omega
    · obtain rfl : j = 8 := by omega
      go_wp2
      go_end0
      exact ⟨rfl, hr.out, ho.out⟩
end Go.Proofs.YtgaoeoijdpdjiabGreatDoor

namespace Go.Proofs.YtgaoeoijdpdjiabGreatDoor
open Go.RowKit

attribute [local go_sem ↓] wp_pre_sec wp_pre_wri wp_pre_build wp_pre_slice Go.wp_at_zero Go.wp_at_succ
attribute [local go_sem] ptrCells_at aggList_at isInt64_at

/-- A text's bytes in a new row. -/
theorem bytesK (t : ByteArray) (w : World) : ∃ cap V, (convert 9 170 (.string t)).run Tryz.prog w = .ok (.slice (some ⟨w.heap.size, 0, none⟩) t.size cap) V ∧ Below w.heap.size w V ∧ V.heap.size = w.heap.size + 1 ∧ V.rangeAt w.heap.size 0 (cellsB t) := by
  refine ⟨grownCap w t.size 0 5, Lib.bytesWorld w 5 t, Lib.run_convert_string_bytes w 9 170 5 t Tryz.underlying9 Tryz.underlying170 Tryz.underlying5, ?_, Lib.bytesWorld_size _ _ _, ?_⟩
  · exact ⟨rfl, rfl, rfl, by rw [Lib.bytesWorld_size]; omega, fun k hk => Lib.bytesWorld_at_old w _ t k hk⟩
  · intro j v hv
    have hj : j < t.size := by rw [← cellsB_length]; exact (List.getElem?_eq_some_iff.1 hv).1
    have h : j < t.data.toList.length := hj
    rw [Nat.zero_add, Lib.bytesWorld_cell w _ t j hj, List.getD_eq_getElem?_getD, List.getElem?_eq_getElem h]
    rw [cellsB, List.getElem?_map, List.getElem?_eq_getElem h] at hv
    exact hv

theorem arrayAt32 (W : World) (B cap : Nat) : (Instr.arrayAt 239 (.slice (some ⟨B, 0, none⟩) 32 cap)).run Tryz.prog W = .ok (.pointer (some ⟨B, 0, none⟩)) W := by kernel_rfl
theorem infoWri : (Tryz.prog.info? 241).map (fun i => (i.zero, i.size, i.bytes)) = some (some (.agg (.int .i64 0 :: List.replicate 32 (Value.int .u8 0)).toArray), 33, 40) := by kernel_rfl
theorem pends_snoc (l : List (Nat × ByteArray)) (p : Nat × ByteArray) : pends l ++ penC p = pends (l ++ [p]) := by simp [pends]

/-- What a write answers, and what it makes. -/
def wrAns (s : DSt) (i : Int) (t : ByteArray) : Int := if ¬ (0 ≤ i ∧ i < s.n) then 4 else if t.size ≠ 32 then 2 else if s.trouble = 1 ∨ s.pend.length = 16 then 5 else 0
def wrSt (s : DSt) (i : Int) (t : ByteArray) : DSt := if ¬ (0 ≤ i ∧ i < s.n) then s else if t.size ≠ 32 then s else if s.trouble = 1 ∨ s.pend.length = 16 then { s with trouble := tick s.trouble } else { s with trouble := tick s.trouble, pend := s.pend ++ [(i.toNat, t)], writes := s.writes + 1 }

theorem write_sec (lo D E : Nat) (pv : Value) (s : DSt) (i : Int) (t : ByteArray) (w : World) (h : DAt lo D E pv s w) (hi : ¬ (0 ≤ i ∧ i < s.n)) :
    Calls Tryz.prog 104 #[.pointer (some ⟨D, 0, none⟩), .int .i64 i, .string t] w fun e w' => e = .returned (.int .i64 4) ∧ w' = w := by
  have HH := hideK (dhas_any lo D E pv s i w h)
  rw [decide_eq_false hi] at HH
  clear h hi
  go_enter Tryz.func104, Tryz.ntmps104
  go_wp2_with fail
  refine HH.out.mono ?_
  rintro e w1 ⟨rfl, rfl⟩
  go_wp2
  go_ret
  exact ⟨rfl, rfl⟩
theorem write_arg (lo D E : Nat) (pv : Value) (s : DSt) (i : Int) (t : ByteArray) (w : World) (h : DAt lo D E pv s w) (hi : 0 ≤ i ∧ i < s.n) (ht : t.size ≠ 32) :
    Calls Tryz.prog 104 #[.pointer (some ⟨D, 0, none⟩), .int .i64 i, .string t] w fun e w' => e = .returned (.int .i64 2) ∧ w' = w := by
  have HH := hideK (dhas_any lo D E pv s i w h)
  rw [decide_eq_true hi] at HH
  have hd : (((t.size : Nat) : Int) == 32) = false := by simp; omega
  have hd2 : (((t.size : Nat) : Int) != 32) = true := by simp; omega
  clear h hi ht
  go_enter Tryz.func104, Tryz.ntmps104
  go_wp2_with fail
  refine HH.out.mono ?_
  rintro e w1 ⟨rfl, rfl⟩
  go_wp2
  go_ret
  exact ⟨rfl, rfl⟩
theorem write_dsk (lo D E : Nat) (pv : Value) (s : DSt) (i : Int) (t : ByteArray) (w : World) (h : DAt lo D E pv s w) (hi : 0 ≤ i ∧ i < s.n) (ht : t.size = 32) (hf : s.trouble = 1 ∨ s.pend.length = 16) :
    Calls Tryz.prog 104 #[.pointer (some ⟨D, 0, none⟩), .int .i64 i, .string t] w fun e w' => e = .returned (.int .i64 5) ∧ DAt lo D E pv { s with trouble := tick s.trouble } w' ∧ Kept (fun k => k = D) w w' := by
  have HH := hideK (dhas_any lo D E pv s i w h)
  rw [decide_eq_true hi] at HH
  have HF := hideK (fails_any lo D E pv s w h)
  have hd : (((t.size : Nat) : Int) == 32) = true := by rw [ht]; rfl
  have hd2 : (((t.size : Nat) : Int) != 32) = false := by rw [ht]; rfl
  obtain ⟨a, c, rfl⟩ := owns_len h.pending
  have hm := h.ok.most
  clear h hi ht
  by_cases h1 : s.trouble = 1
  · rw [decide_eq_true h1] at HF
    clear hf h1
    go_enter Tryz.func104, Tryz.ntmps104
    go_wp2_with fail
    refine HH.out.mono ?_
    rintro e w1 ⟨rfl, rfl⟩
    go_wp2_with fail
    refine HF.out.mono ?_
    rintro e w2 ⟨rfl, hd2, hk2⟩
    have HD2 := hideK hd2
    have HK2 := hideK hk2
    clear hd2 hk2
    go_wp2
    go_ret
    exact ⟨rfl, HD2.out, HK2.out⟩
  · have h2 : s.pend.length = 16 := by rcases hf with h | h <;> first | exact absurd h h1 | exact h
    have hl : (((s.pend.length : Nat) : Int) == 16) = true := by rw [h2]; rfl
    rw [decide_eq_false h1] at HF
    clear hf h1 h2
    go_enter Tryz.func104, Tryz.ntmps104
    go_wp2_with fail
    refine HH.out.mono ?_
    rintro e w1 ⟨rfl, rfl⟩
    go_wp2_with fail
    refine HF.out.mono ?_
    rintro e w2 ⟨rfl, hd2, hk2⟩
    have c1 := hd2.c1
    have HD2 := hideK hd2
    have HK2 := hideK hk2
    clear hd2 hk2
    go_wp2
    go_ret
    exact ⟨rfl, HD2.out, HK2.out⟩

theorem DAt.appended {lo D E g cap H : Nat} {pv : Value} {s : DSt} {V w3 : World} {o : Obj} {i : Nat} {t : ByteArray} (h : DAt lo D E pv s V) (hown : w3.ownsRow lo 241 33 (.slice (some ⟨g, 0, none⟩) (s.pend.length + 1) cap) (s.pend.length + 1) (pends s.pend ++ penC (i, t))) (hgrow : (V.alloc o).grownBy w3 pv.ownBlock) (hat : pv.ownBlock = some g ∨ g = H) (hH : (V.alloc o).heap.size = H) (hi : i < s.n) (ht : t.size = 32) (hm : s.pend.length < 16) :
    DAt lo D E (.slice (some ⟨g, 0, none⟩) (s.pend.length + 1) cap) { s with pend := s.pend ++ [(i, t)] } (w3.setCell ⟨D, 1, none⟩ (.slice (some ⟨g, 0, none⟩) (s.pend.length + 1) cap)) := by
  have hD := h.ltD
  have hE := h.ltE
  have hz : (V.alloc o).heap.size = V.heap.size + 1 := World.size_alloc _ _
  have gD : g ≠ D := by
    rcases hat with e | e
    · intro e2; subst e2; exact h.pd e
    · omega
  have gE : g ≠ E := by
    rcases hat with e | e
    · intro e2; subst e2; exact h.pe e
    · omega
  have bD : w3.heap[D]? = V.heap[D]? := (hgrow.block D (by omega) (fun e => h.pd e.symm)).trans (heap_alloc_old V o hD)
  have bE : w3.heap[E]? = V.heap[E]? := (hgrow.block E (by omega) (fun e => h.pe e.symm)).trans (heap_alloc_old V o hE)
  refine ⟨?_, ?_, ?_, ⟨h.ok.len, h.ok.sec, ?_, h.ok.lo, h.ok.hi, by simp; omega, h.ok.tr, h.ok.tr2⟩, h.de, by simpa [Value.ownBlock] using gD, by simpa [Value.ownBlock] using gE, h.loD, h.loE⟩
  · have := block_setCell (o := 1) (bD.trans h.disk) (.slice (some ⟨g, 0, none⟩) (s.pend.length + 1) cap)
    exact this
  · rw [(kept_set w3 ⟨D, 1, none⟩ _).block E (Nat.lt_of_lt_of_le (by omega) hgrow.size) (fun e => h.de e.symm)]
    exact bE.trans h.durable
  · have := owns_kept hown (kept_set w3 ⟨D, 1, none⟩ (.slice (some ⟨g, 0, none⟩) (s.pend.length + 1) cap)) (fun k e hk => by
      have e' : g = k := by simpa [Value.ownBlock] using e
      exact gD (e'.trans hk))
    rw [pends_snoc] at this
    simpa using this
  · intro p hp
    rcases List.mem_append.1 hp with hp | hp
    · exact h.ok.pen p hp
    · rw [List.mem_singleton.1 hp]; exact ⟨hi, ht⟩

set_option maxRecDepth 20000 in
set_option maxHeartbeats 2000000 in
theorem write_ok (lo D E : Nat) (pv : Value) (s : DSt) (i : Nat) (t : ByteArray) (w : World) (h : DAt lo D E pv s w) (hlo : lo ≤ w.heap.size) (hi : i < s.n) (ht : t.size = 32) (h1 : s.trouble ≠ 1) (h2 : s.pend.length ≠ 16) (hw : 0 ≤ s.writes) (hw2 : s.writes < 9223372036854775807) :
    Calls Tryz.prog 104 #[.pointer (some ⟨D, 0, none⟩), .int .i64 i, .string t] w fun e w' => e = .returned (.int .i64 0) ∧ ∃ pv', DAt lo D E pv' { s with trouble := tick s.trouble, pend := s.pend ++ [(i, t)], writes := s.writes + 1 } w' ∧ Kept (DFoot D E pv) w w' ∧ (∀ k, pv'.ownBlock = some k → pv.ownBlock = some k ∨ w.heap.size ≤ k) := by
  have HH := hideK (dhas_any lo D E pv s i w h)
  rw [decide_eq_true (show 0 ≤ (i : Int) ∧ (i : Int) < s.n by omega)] at HH
  have HF := hideK (fails_any lo D E pv s w h)
  rw [decide_eq_false h1] at HF
  have hd : (((t.size : Nat) : Int) == 32) = true := by rw [ht]; rfl
  have hd2 : (((t.size : Nat) : Int) != 32) = false := by rw [ht]; rfl
  obtain ⟨a, c, hpv⟩ := owns_len h.pending
  have hm := h.ok.most
  have hl : (((s.pend.length : Nat) : Int) == 16) = false := by rw [beq_eq_false_iff_ne]; omega
  obtain ⟨i0, hi0, hz0, hz1, hz2⟩ := info_parts infoWri
  have HT := hideK ht
  have HM16 := hideK (show s.pend.length < 16 by omega)
  have HI := hideK hi
  have HLO := hideK hlo
  have HZ := hideK h.ltD
  subst hpv
  clear h hi ht h1 h2 hlo
  go_enter Tryz.func104, Tryz.ntmps104
  go_wp2_with fail
  refine HH.out.mono ?_
  rintro e w1 ⟨rfl, rfl⟩
  go_wp2_with fail
  refine HF.out.mono ?_
  rintro e w2 ⟨rfl, hd2', hk2⟩
  have c1 := hd2'.c1
  have HD2 := hideK hd2'
  have HK2 := hideK hk2
  clear hd2' hk2 HF HH
  go_wp2_with fail
  obtain ⟨cap, V, hcv, hbV, hzV, hrV⟩ := bytesK t w2.drew
  rw [HT.out] at hcv
  change (convert _ _ _).run _ _ = Result.ok (Value.slice (some ⟨w2.heap.size, 0, none⟩) 32 cap) V at hcv
  have hag : isAggN 32 (Value.agg (cellsB t).toArray) = true := by rw [isAggN_at, cells32 HT.out]; rfl
  have hag3 : isAggN 33 (Value.agg (Value.int .i64 ((i : Nat) : Int) :: cellsB t).toArray) = true := by rw [isAggN_at, List.length_cons, cells32 HT.out]; rfl
  have hld := range_cellsAt (cellsB t) 32 V w2.heap.size 0 (cells32 HT.out) hrV
  have d1 : V.cell? ⟨D, 1, none⟩ = some (.slice a s.pend.length c) := (HD2.out.drew.below hbV).c1
  have HDV := hideK (HD2.out.drew.below hbV)
  have hst : ∀ o, (V.alloc o).cell? ⟨D, 1, none⟩ = V.cell? ⟨D, 1, none⟩ := fun o => by have := HDV.out.ltD; simp [go_sem, this]
  have har := fun W : World => arrayAt32 W w2.heap.size cap
  have hzV' : V.heap.size = w2.heap.size + 1 := hzV
  have HPD := hideK (Ne.symm HDV.out.pd)
  have HLD := hideK HDV.out.ltD
  have HFD := hideK (HDV.out.free 1)
  have HLV := hideK (show lo ≤ V.heap.size by have h1 := HLO.out; have h2 := HK2.out.size; rw [hzV']; omega)
  clear hrV hzV
  have HNW : Hid (∀ j u, (penC (i, t))[j]? = some u → (V.alloc (.cells (Value.int .i64 ((i : Nat) : Int) :: cellsB t).toArray 241)).cell? ((⟨w2.heap.size + 1, 0, none⟩ : Addr).add j) = some u) := by
    show ∀ j u, _ → _
    rw [← hzV']
    exact World.news_of_block (heap_alloc_new V _)
  have HL33 := hideK (pen33 (p := (i, t)) HT.out)
  have N1 : Hid (s.pend.length + 1 ≤ maxLen) := by show _ ≤ _; unfold maxLen; omega
  have N2 : Hid ((s.pend.length + 1) * 40 ≤ 140737488355328) := by show _ ≤ _; omega
  have N3 : Hid (∀ o, lo ≤ (V.alloc o).heap.size) := fun o => by have h := HLV.out; rw [World.size_alloc]; omega
  have N4 : Hid (∀ o, (V.alloc o).heap.size = w2.heap.size + 1 + 1) := fun o => by rw [World.size_alloc, hzV']
  have N5 : Hid (∀ o, D < (V.alloc o).heap.size) := fun o => by have h := HLD.out; rw [World.size_alloc]; omega
  have N6 : Hid (∀ o, (V.alloc o).frozen? ⟨D, 1, none⟩ = false) := fun o => (World.frozen?_alloc_past _ _ _ HLD.out).trans HFD.out
  have N7 : Hid (∀ o, (V.alloc o).cell? ⟨D, 1, none⟩ = some (.slice a s.pend.length c)) := fun o => (hst o).trans d1
  have N8 : Hid (∀ u ∈ penC (i, t), u.oneCell' = true) := penC_one _
  have N9 : Hid ((Value.agg (.int .i64 0 :: List.replicate 32 (Value.int .u8 0)).toArray).cells.size = 33) := rfl
  have N10 : Hid (∀ o, (V.alloc o).ownsRow lo 241 33 (.slice a s.pend.length c) s.pend.length (pends s.pend)) := fun o => HDV.out.pending.alloc o
  go_region_law ((refine step_append_lies _ (by rfl) (.tmp 28) (.tmp 35) 180 (by rfl) lo 241 i0 (.agg (.int .i64 0 :: List.replicate 32 (Value.int .u8 0)).toArray) 33 40 Tryz.underlying180 hi0 hz0 hz1 hz2 N9.out (by decide) (.slice a s.pend.length c) s.pend.length (pends s.pend) (by rfl) (N10.out _) ⟨w2.heap.size + 1, 0, none⟩ 1 1 (penC (i, t)) (by rfl) HL33.out HNW.out N8.out (by decide) N1.out N2.out (N3.out _) (w2.heap.size + 1 + 1) (N4.out _) ?_; intro g cap' w3 hown hgrow hat hlt; have e1 : w3.cell? ⟨D, 1, none⟩ = some (.slice a s.pend.length c) := (hgrow.cell_far ⟨D, 1, none⟩ (N5.out _) HPD.out).trans (N7.out _); have e2 : w3.frozen? ⟨D, 1, none⟩ = false := (hgrow.frozen_far ⟨D, 1, none⟩ (N5.out _) HPD.out).trans (N6.out _)))
  all_goals
    have hX := HDV.out.appended (i := i) (t := t) hown hgrow hat (N4.out _) HI.out HT.out HM16.out
    have hKX : Kept (DFoot D E (.slice a s.pend.length c)) w1 (w3.setCell ⟨D, 1, none⟩ (.slice (some ⟨g, 0, none⟩) (s.pend.length + 1) cap')) := by
      refine Kept.setCell ?_ (.inl (.inl rfl)) _
      refine Kept.grown (w := V.alloc _) ?_ hgrow (fun k e => .inl (.inr (.inr e)))
      exact ((HK2.out.mono (fun k _ e => .inl e)).drew.after hbV).alloc _
    have hOX : ∀ k, (Value.slice (some ⟨g, 0, none⟩) (s.pend.length + 1) cap').ownBlock = some k → (Value.slice a s.pend.length c).ownBlock = some k ∨ w1.heap.size ≤ k := by
      intro k e
      have e' : g = k := by simpa [Value.ownBlock] using e
      subst e'
      rcases hat with e | e
      · exact .inl e
      · have := HK2.out.size; exact .inr (by omega)
    have HX := hideK hX
    have HKX := hideK hKX
    have HOX := hideK hOX
    have x2 := hX.c2
    have xf := hX.free 2
    clear hX hKX hOX hown hgrow hat hlt e1 e2
    generalize World.setCell w3 { block := D, off := 1 } _ = W4 at *
    go_wp2
    go_ret
    exact ⟨rfl, _, HX.out.setWrites _, HKX.out.setCell (.inl (.inl rfl)) _, HOX.out⟩
end Go.Proofs.YtgaoeoijdpdjiabGreatDoor

namespace Go.Proofs.YtgaoeoijdpdjiabGreatDoor
open Go.RowKit

theorem slice_8_4 (g j : Nat) (hj : j < 8) (wx : World) : (Instr.slice 56 (.slice (some ⟨g, 0, none⟩) 36 36) (some (.int .i64 ((j : Int) * 4))) (some (.int .i64 (((j : Int) + 1) * 4))) none).run Tryz.prog wx = .ok (.slice (some ⟨g, j * 4, none⟩) 4 (36 - j * 4)) wx := by
  rcases (show j = 0 ∨ j = 1 ∨ j = 2 ∨ j = 3 ∨ j = 4 ∨ j = 5 ∨ j = 6 ∨ j = 7 by omega) with rfl | rfl | rfl | rfl | rfl | rfl | rfl | rfl <;> simp [go_sem]

set_option maxHeartbeats 1000000 in
theorem digits_8_4 (k t l : Int) (m : ByteArray) (w : World) (hk : k = 1 ∨ k = 2) (h1 : 1 ≤ t) (h2 : t ≤ 4) (h3 : 1 ≤ l) (h4 : l ≤ 3) (hm : m.size = 8) :
    Calls Tryz.prog 241 #[.agg #[.int .i64 k, .int .i64 8, .int .i64 4, .int .i64 t, .int .i64 l], .string m] w fun r w' =>
      ∃ g, r = .returned (.tuple #[.slice (some ⟨g, 0, none⟩) 36 36, .int .i64 0]) ∧ w.heap.size ≤ g ∧ RowZ w' g ((digitsN 4 4 4 (bytesN m)).map Int.ofNat) ∧ Below w.heap.size w w' := by
  have hmk : ∀ w : World, (Instr.makeSlice 56 (.int .i64 36) (.int .i64 36)).run Tryz.prog w = .ok (.slice (some ⟨w.heap.size, 0, none⟩) 36 36) (w.alloc (.cells #[.int .i64 0, .int .i64 0, .int .i64 0, .int .i64 0, .int .i64 0, .int .i64 0, .int .i64 0, .int .i64 0, .int .i64 0, .int .i64 0, .int .i64 0, .int .i64 0, .int .i64 0, .int .i64 0, .int .i64 0, .int .i64 0, .int .i64 0, .int .i64 0, .int .i64 0, .int .i64 0, .int .i64 0, .int .i64 0, .int .i64 0, .int .i64 0, .int .i64 0, .int .i64 0, .int .i64 0, .int .i64 0, .int .i64 0, .int .i64 0, .int .i64 0, .int .i64 0, .int .i64 0, .int .i64 0, .int .i64 0, .int .i64 0] 3)) := fun _ => by kernel_rfl
  have HM : Hid (m.size = 8) := hm
  have hms : ((m.size : Int) != 8) = false := by simp [hm]
  clear hm
  have HMT := measure_8_4 k t l (w.alloc (.cells #[.int .i64 k, .int .i64 8, .int .i64 4, .int .i64 t, .int .i64 l] 26)) hk h1 h2 h3 h4
  go_enter Tryz.func241, Tryz.ntmps241
  go_wp2_with fail
  refine HMT.mono ?_
  clear HMT
  rintro r w1 ⟨rfl, hb1⟩
  have hz1 := hb1.size
  simp at hz1
  have hz2 : w.heap.size < w1.heap.size := by omega
  have hz3 : ¬ w.heap.size = w1.heap.size := by omega
  have cx : w1.cell? ⟨w.heap.size, 2, none⟩ = some (.int .i64 4) := (hb1.cell (by simp)).trans (by simp [go_sem])
  have cb : w1.cell? ⟨w.heap.size, 1, none⟩ = some (.int .i64 8) := (hb1.cell (by simp)).trans (by simp [go_sem])
  have HB1 : Hid (Below w.heap.size w w1) := ((Below.refl _ _).alloc (Nat.le_refl _) _).trans (hb1.mono (by simp))
  clear hb1
  go_wp2_with fail
  refine (perByte_4 _).mono ?_
  rintro r w2 ⟨rfl, rfl⟩
  go_wp2
  have HR0 : Hid (RowZ ((w1.alloc (.cells #[.int .i64 32, .int .i64 4, .int .i64 36, .int .i64 (totalZ t l), .int .i64 (sigZ 8 4 t l), .int .i64 21] 158)).alloc (.cells #[.int .i64 0, .int .i64 0, .int .i64 0, .int .i64 0, .int .i64 0, .int .i64 0, .int .i64 0, .int .i64 0, .int .i64 0, .int .i64 0, .int .i64 0, .int .i64 0, .int .i64 0, .int .i64 0, .int .i64 0, .int .i64 0, .int .i64 0, .int .i64 0, .int .i64 0, .int .i64 0, .int .i64 0, .int .i64 0, .int .i64 0, .int .i64 0, .int .i64 0, .int .i64 0, .int .i64 0, .int .i64 0, .int .i64 0, .int .i64 0, .int .i64 0, .int .i64 0, .int .i64 0, .int .i64 0, .int .i64 0, .int .i64 0] 3)) (w1.heap.size + 1) (rowAt 4 4 36 (bytesN m) 0)) := by have h := row_new (w1.alloc (.cells #[.int .i64 32, .int .i64 4, .int .i64 36, .int .i64 (totalZ t l), .int .i64 (sigZ 8 4 t l), .int .i64 21] 158)) #[.int .i64 0, .int .i64 0, .int .i64 0, .int .i64 0, .int .i64 0, .int .i64 0, .int .i64 0, .int .i64 0, .int .i64 0, .int .i64 0, .int .i64 0, .int .i64 0, .int .i64 0, .int .i64 0, .int .i64 0, .int .i64 0, .int .i64 0, .int .i64 0, .int .i64 0, .int .i64 0, .int .i64 0, .int .i64 0, .int .i64 0, .int .i64 0, .int .i64 0, .int .i64 0, .int .i64 0, .int .i64 0, .int .i64 0, .int .i64 0, .int .i64 0, .int .i64 0, .int .i64 0, .int .i64 0, .int .i64 0, .int .i64 0] 4 4 36 (bytesN m) rfl; rw [World.size_alloc] at h; exact h
  have HB0 : Hid (Below w.heap.size w ((w1.alloc (.cells #[.int .i64 32, .int .i64 4, .int .i64 36, .int .i64 (totalZ t l), .int .i64 (sigZ 8 4 t l), .int .i64 21] 158)).alloc (.cells #[.int .i64 0, .int .i64 0, .int .i64 0, .int .i64 0, .int .i64 0, .int .i64 0, .int .i64 0, .int .i64 0, .int .i64 0, .int .i64 0, .int .i64 0, .int .i64 0, .int .i64 0, .int .i64 0, .int .i64 0, .int .i64 0, .int .i64 0, .int .i64 0, .int .i64 0, .int .i64 0, .int .i64 0, .int .i64 0, .int .i64 0, .int .i64 0, .int .i64 0, .int .i64 0, .int .i64 0, .int .i64 0, .int .i64 0, .int .i64 0, .int .i64 0, .int .i64 0, .int .i64 0, .int .i64 0, .int .i64 0, .int .i64 0] 3))) := (HB1.out.alloc (by omega) _).alloc (by simp; omega) _
  go_loopw [32] (fun i wr => ∃ j : Nat, j ≤ 8 ∧ i = .int .i64 j ∧ Hid (RowZ wr (w1.heap.size + 1) (rowAt 4 4 36 (bytesN m) j)) ∧ wr.cell? ⟨w.heap.size, 2, none⟩ = some (.int .i64 4) ∧ wr.cell? ⟨w1.heap.size, 0, none⟩ = some (.int .i64 32) ∧ Hid (Below w.heap.size w wr)) (fun i _ => 8 - (intOf i).toNat)
  case atStart => exact ⟨0, by omega, rfl, HR0, by simp [go_sem, World.cell?_alloc_past, hz2, cx], by simp [go_sem], HB0⟩
  case round =>
    obtain ⟨j, hj, rfl, hr, cx', cf', hb'⟩ := hrel
    have hms2 : m.size ≤ 8 := Nat.le_of_eq HM.out
    have hms3 : 8 ≤ m.size := Nat.le_of_eq HM.out.symm
    by_cases hlt : j < 8
    · have hlt2 : j < m.size := by omega
      have q0 : (0 : Int) ≤ (j : Int) := by omega
      have q1 : (j : Int) < (m.size : Int) := by omega
      have v1 : IntKind.i64.wrap ((j : Int) * 4) = (j : Int) * 4 := by rw [IntKind.wrap_i64] <;> omega
      have v2 : IntKind.i64.wrap ((j : Int) + 1) = (j : Int) + 1 := by rw [IntKind.wrap_i64] <;> omega
      have v3 : IntKind.i64.wrap (((j : Int) + 1) * 4) = ((j : Int) + 1) * 4 := by rw [IntKind.wrap_i64] <;> omega
      have hsl : ∀ wx : World, (Instr.slice 56 (.slice (some ⟨w1.heap.size + 1, 0, none⟩) 36 36) (some (.int .i64 ((j : Int) * 4))) (some (.int .i64 (((j : Int) + 1) * 4))) none).run Tryz.prog wx = .ok (.slice (some ⟨w1.heap.size + 1, j * 4, none⟩) 4 (36 - j * 4)) wx := slice_8_4 _ j hlt
      have hcv : IntKind.i64.wrap ((m[j].toNat : Nat) : Int) = ((m[j].toNat : Nat) : Int) := by have := UInt8.toNat_lt m[j]; rw [IntKind.wrap_i64] <;> omega
      have HL := hideM (lay_any (w1.heap.size + 1) (j * 4) 4 (36 - j * 4) (m[j].toNat) 4 (rowAt 4 4 36 (bytesN m) j) wr.drew hr.out.drew (by rw [rowAt_length _ _ _ _ _ (by rw [bytesN_length]; omega) (by omega)]; omega) (by rw [rowAt_length _ _ _ _ _ (by rw [bytesN_length]; omega) (by omega)]; decide) (by decide) (by decide) (by have := UInt8.toNat_lt m[j]; omega))
      have HS := hideM (rowAt_step 4 4 36 (bytesN m) j (by rw [bytesN_length]; omega) (by omega))
      have HY := hideM (byte_at m j hlt2)
      go_wp2
      go_region_held3 (fun w' => w'.cell? ⟨w.heap.size, 2, none⟩ = some (.int .i64 4)) (first | exact cx3 | simp [go_sem, cx']) ((go_at_call 283; refine HL.out.mono ?_; rintro r w3 ⟨rfl, hr3, ho3⟩; have cx3 : w3.cell? ⟨w.heap.size, 2, none⟩ = some (.int .i64 4) := (ho3.cell (by simp; omega)).trans (by simp [go_sem, cx'])))
      have HR3 := hideM hr3
      have HO3 := hideM ho3
      clear hr3 ho3
      go_wp2
      go_roundw
      case rel =>
        have h := HR3.out
        rw [← HY.out, HS.out] at h
        have R : ∃ i : Nat, i ≤ 8 ∧ Value.int .i64 ((j : Int) + 1) = .int .i64 i ∧ Hid (RowZ w3 (w1.heap.size + 1) (rowAt 4 4 36 (bytesN m) i)) ∧ w3.cell? ⟨w.heap.size, 2, none⟩ = some (.int .i64 4) ∧ w3.cell? ⟨w1.heap.size, 0, none⟩ = some (.int .i64 32) ∧ Hid (Below w.heap.size w w3) :=
          ⟨j + 1, by omega, by go_num, h, cx3, (HO3.out.cell (by simp)).trans (by simp [go_sem, cf']), OnlyM.below hb'.out.drew HO3.out (by omega)⟩
        first | exact R | ((repeat apply Exists.intro); exact ⟨R, rfl⟩)
      case measure => simp [intOf]; omega
    · obtain rfl : j = 8 := by omega
      have e0 : (bytesN m).length = 8 := by rw [bytesN_length]; exact HM.out
      have ht := rowAt_take 4 4 36 (bytesN m)
      have hla := rowAt_last 4 4 4 36 (bytesN m) (by rw [e0])
      rw [e0] at ht hla
      have HLK := hideM (lack_any (w1.heap.size + 1) 32 36 4 (rowAt 4 4 36 (bytesN m) 8) (firsts 4 4 (bytesN m)) wr.drew hr.out.drew ht (by rw [firsts_length, e0]) (by decide) (by decide) (by decide) (firsts_lt _ _ _ (by decide)))
      have hlk : lackN 4 (firsts 4 4 (bytesN m)) ≤ 96 := by have := lackN_le 4 (firsts 4 4 (bytesN m)); rw [firsts_length, e0] at this; omega
      have HL := hideM (lay_any (w1.heap.size + 1) 32 4 4 (lackN 4 (firsts 4 4 (bytesN m))) 4 (rowAt 4 4 36 (bytesN m) 8) wr.drew hr.out.drew (by rw [rowAt_length _ _ _ _ _ (by rw [e0]; exact Nat.le_refl _) (by decide)]; decide) (by rw [rowAt_length _ _ _ _ _ (by rw [e0]; exact Nat.le_refl _) (by decide)]; decide) (by decide) (by decide) (by omega))
      have HLA := hideM hla
      clear hla ht hlk e0
      go_wp2
      go_region_held3 (fun w' => w'.cell? ⟨w.heap.size, 2, none⟩ = some (.int .i64 4) ∧ w'.cell? ⟨w1.heap.size, 0, none⟩ = some (.int .i64 32)) (first | exact ⟨cx3, cf3⟩ | simp [go_sem, cx', cf']) (first | (go_at_call 284; refine HLK.out.mono ?_; rintro r w3 ⟨rfl, rfl⟩) | (go_at_call 283; refine HL.out.mono ?_; rintro r w3 ⟨rfl, hr3, ho3⟩; have cx3 : w3.cell? ⟨w.heap.size, 2, none⟩ = some (.int .i64 4) := (ho3.cell (by simp; omega)).trans (by simp [go_sem, cx']); have cf3 : w3.cell? ⟨w1.heap.size, 0, none⟩ = some (.int .i64 32) := (ho3.cell (by simp)).trans (by simp [go_sem, cf'])))
      have HR3 := hideM hr3
      have HO3 := hideM ho3
      clear hr3 ho3
      go_wp2
      go_ret2
      refine ⟨w1.heap.size + 1, rfl, by omega, ?_, OnlyM.below hb'.out.drew HO3.out (by omega)⟩
      have h := HR3.out
      rw [HLA.out] at h
      exact h
end Go.Proofs.YtgaoeoijdpdjiabGreatDoor

namespace Go.Proofs.YtgaoeoijdpdjiabGreatDoor
open Go.RowKit

theorem slice_4_4 (g j : Nat) (hj : j < 4) (wx : World) : (Instr.slice 56 (.slice (some ⟨g, 0, none⟩) 19 19) (some (.int .i64 ((j : Int) * 4))) (some (.int .i64 (((j : Int) + 1) * 4))) none).run Tryz.prog wx = .ok (.slice (some ⟨g, j * 4, none⟩) 4 (19 - j * 4)) wx := by
  rcases (show j = 0 ∨ j = 1 ∨ j = 2 ∨ j = 3 by omega) with rfl | rfl | rfl | rfl <;> simp [go_sem]

set_option maxHeartbeats 1000000 in
theorem digits_4_4 (k t l : Int) (m : ByteArray) (w : World) (hk : k = 1 ∨ k = 2) (h1 : 1 ≤ t) (h2 : t ≤ 4) (h3 : 1 ≤ l) (h4 : l ≤ 3) (hm : m.size = 4) :
    Calls Tryz.prog 241 #[.agg #[.int .i64 k, .int .i64 4, .int .i64 4, .int .i64 t, .int .i64 l], .string m] w fun r w' =>
      ∃ g, r = .returned (.tuple #[.slice (some ⟨g, 0, none⟩) 19 19, .int .i64 0]) ∧ w.heap.size ≤ g ∧ RowZ w' g ((digitsN 4 4 3 (bytesN m)).map Int.ofNat) ∧ Below w.heap.size w w' := by
  have hmk : ∀ w : World, (Instr.makeSlice 56 (.int .i64 19) (.int .i64 19)).run Tryz.prog w = .ok (.slice (some ⟨w.heap.size, 0, none⟩) 19 19) (w.alloc (.cells #[.int .i64 0, .int .i64 0, .int .i64 0, .int .i64 0, .int .i64 0, .int .i64 0, .int .i64 0, .int .i64 0, .int .i64 0, .int .i64 0, .int .i64 0, .int .i64 0, .int .i64 0, .int .i64 0, .int .i64 0, .int .i64 0, .int .i64 0, .int .i64 0, .int .i64 0] 3)) := fun _ => by kernel_rfl
  have HM : Hid (m.size = 4) := hm
  have hms : ((m.size : Int) != 4) = false := by simp [hm]
  clear hm
  have HMT := measure_4_4 k t l (w.alloc (.cells #[.int .i64 k, .int .i64 4, .int .i64 4, .int .i64 t, .int .i64 l] 26)) hk h1 h2 h3 h4
  go_enter Tryz.func241, Tryz.ntmps241
  go_wp2_with fail
  refine HMT.mono ?_
  clear HMT
  rintro r w1 ⟨rfl, hb1⟩
  have hz1 := hb1.size
  simp at hz1
  have hz2 : w.heap.size < w1.heap.size := by omega
  have hz3 : ¬ w.heap.size = w1.heap.size := by omega
  have cx : w1.cell? ⟨w.heap.size, 2, none⟩ = some (.int .i64 4) := (hb1.cell (by simp)).trans (by simp [go_sem])
  have cb : w1.cell? ⟨w.heap.size, 1, none⟩ = some (.int .i64 4) := (hb1.cell (by simp)).trans (by simp [go_sem])
  have HB1 : Hid (Below w.heap.size w w1) := ((Below.refl _ _).alloc (Nat.le_refl _) _).trans (hb1.mono (by simp))
  clear hb1
  go_wp2_with fail
  refine (perByte_4 _).mono ?_
  rintro r w2 ⟨rfl, rfl⟩
  go_wp2
  have HR0 : Hid (RowZ ((w1.alloc (.cells #[.int .i64 16, .int .i64 3, .int .i64 19, .int .i64 (totalZ t l), .int .i64 (sigZ 4 4 t l), .int .i64 13] 158)).alloc (.cells #[.int .i64 0, .int .i64 0, .int .i64 0, .int .i64 0, .int .i64 0, .int .i64 0, .int .i64 0, .int .i64 0, .int .i64 0, .int .i64 0, .int .i64 0, .int .i64 0, .int .i64 0, .int .i64 0, .int .i64 0, .int .i64 0, .int .i64 0, .int .i64 0, .int .i64 0] 3)) (w1.heap.size + 1) (rowAt 4 4 19 (bytesN m) 0)) := by have h := row_new (w1.alloc (.cells #[.int .i64 16, .int .i64 3, .int .i64 19, .int .i64 (totalZ t l), .int .i64 (sigZ 4 4 t l), .int .i64 13] 158)) #[.int .i64 0, .int .i64 0, .int .i64 0, .int .i64 0, .int .i64 0, .int .i64 0, .int .i64 0, .int .i64 0, .int .i64 0, .int .i64 0, .int .i64 0, .int .i64 0, .int .i64 0, .int .i64 0, .int .i64 0, .int .i64 0, .int .i64 0, .int .i64 0, .int .i64 0] 4 4 19 (bytesN m) rfl; rw [World.size_alloc] at h; exact h
  have HB0 : Hid (Below w.heap.size w ((w1.alloc (.cells #[.int .i64 16, .int .i64 3, .int .i64 19, .int .i64 (totalZ t l), .int .i64 (sigZ 4 4 t l), .int .i64 13] 158)).alloc (.cells #[.int .i64 0, .int .i64 0, .int .i64 0, .int .i64 0, .int .i64 0, .int .i64 0, .int .i64 0, .int .i64 0, .int .i64 0, .int .i64 0, .int .i64 0, .int .i64 0, .int .i64 0, .int .i64 0, .int .i64 0, .int .i64 0, .int .i64 0, .int .i64 0, .int .i64 0] 3))) := (HB1.out.alloc (by omega) _).alloc (by simp; omega) _
  go_loopw [32] (fun i wr => ∃ j : Nat, j ≤ 4 ∧ i = .int .i64 j ∧ Hid (RowZ wr (w1.heap.size + 1) (rowAt 4 4 19 (bytesN m) j)) ∧ wr.cell? ⟨w.heap.size, 2, none⟩ = some (.int .i64 4) ∧ wr.cell? ⟨w1.heap.size, 0, none⟩ = some (.int .i64 16) ∧ Hid (Below w.heap.size w wr)) (fun i _ => 4 - (intOf i).toNat)
  case atStart => exact ⟨0, by omega, rfl, HR0, by simp [go_sem, World.cell?_alloc_past, hz2, cx], by simp [go_sem], HB0⟩
  case round =>
    obtain ⟨j, hj, rfl, hr, cx', cf', hb'⟩ := hrel
    have hms2 : m.size ≤ 4 := Nat.le_of_eq HM.out
    have hms3 : 4 ≤ m.size := Nat.le_of_eq HM.out.symm
    by_cases hlt : j < 4
    · have hlt2 : j < m.size := by omega
      have q0 : (0 : Int) ≤ (j : Int) := by omega
      have q1 : (j : Int) < (m.size : Int) := by omega
      have v1 : IntKind.i64.wrap ((j : Int) * 4) = (j : Int) * 4 := by rw [IntKind.wrap_i64] <;> omega
      have v2 : IntKind.i64.wrap ((j : Int) + 1) = (j : Int) + 1 := by rw [IntKind.wrap_i64] <;> omega
      have v3 : IntKind.i64.wrap (((j : Int) + 1) * 4) = ((j : Int) + 1) * 4 := by rw [IntKind.wrap_i64] <;> omega
      have hsl : ∀ wx : World, (Instr.slice 56 (.slice (some ⟨w1.heap.size + 1, 0, none⟩) 19 19) (some (.int .i64 ((j : Int) * 4))) (some (.int .i64 (((j : Int) + 1) * 4))) none).run Tryz.prog wx = .ok (.slice (some ⟨w1.heap.size + 1, j * 4, none⟩) 4 (19 - j * 4)) wx := slice_4_4 _ j hlt
      have hcv : IntKind.i64.wrap ((m[j].toNat : Nat) : Int) = ((m[j].toNat : Nat) : Int) := by have := UInt8.toNat_lt m[j]; rw [IntKind.wrap_i64] <;> omega
      have HL := hideM (lay_any (w1.heap.size + 1) (j * 4) 4 (19 - j * 4) (m[j].toNat) 4 (rowAt 4 4 19 (bytesN m) j) wr.drew hr.out.drew (by rw [rowAt_length _ _ _ _ _ (by rw [bytesN_length]; omega) (by omega)]; omega) (by rw [rowAt_length _ _ _ _ _ (by rw [bytesN_length]; omega) (by omega)]; decide) (by decide) (by decide) (by have := UInt8.toNat_lt m[j]; omega))
      have HS := hideM (rowAt_step 4 4 19 (bytesN m) j (by rw [bytesN_length]; omega) (by omega))
      have HY := hideM (byte_at m j hlt2)
      go_wp2
      go_region_held3 (fun w' => w'.cell? ⟨w.heap.size, 2, none⟩ = some (.int .i64 4)) (first | exact cx3 | simp [go_sem, cx']) ((go_at_call 283; refine HL.out.mono ?_; rintro r w3 ⟨rfl, hr3, ho3⟩; have cx3 : w3.cell? ⟨w.heap.size, 2, none⟩ = some (.int .i64 4) := (ho3.cell (by simp; omega)).trans (by simp [go_sem, cx'])))
      have HR3 := hideM hr3
      have HO3 := hideM ho3
      clear hr3 ho3
      go_wp2
      go_roundw
      case rel =>
        have h := HR3.out
        rw [← HY.out, HS.out] at h
        have R : ∃ i : Nat, i ≤ 4 ∧ Value.int .i64 ((j : Int) + 1) = .int .i64 i ∧ Hid (RowZ w3 (w1.heap.size + 1) (rowAt 4 4 19 (bytesN m) i)) ∧ w3.cell? ⟨w.heap.size, 2, none⟩ = some (.int .i64 4) ∧ w3.cell? ⟨w1.heap.size, 0, none⟩ = some (.int .i64 16) ∧ Hid (Below w.heap.size w w3) :=
          ⟨j + 1, by omega, by go_num, h, cx3, (HO3.out.cell (by simp)).trans (by simp [go_sem, cf']), OnlyM.below hb'.out.drew HO3.out (by omega)⟩
        first | exact R | ((repeat apply Exists.intro); exact ⟨R, rfl⟩)
      case measure => simp [intOf]; omega
    · obtain rfl : j = 4 := by omega
      have e0 : (bytesN m).length = 4 := by rw [bytesN_length]; exact HM.out
      have ht := rowAt_take 4 4 19 (bytesN m)
      have hla := rowAt_last 4 4 3 19 (bytesN m) (by rw [e0])
      rw [e0] at ht hla
      have HLK := hideM (lack_any (w1.heap.size + 1) 16 19 4 (rowAt 4 4 19 (bytesN m) 4) (firsts 4 4 (bytesN m)) wr.drew hr.out.drew ht (by rw [firsts_length, e0]) (by decide) (by decide) (by decide) (firsts_lt _ _ _ (by decide)))
      have hlk : lackN 4 (firsts 4 4 (bytesN m)) ≤ 48 := by have := lackN_le 4 (firsts 4 4 (bytesN m)); rw [firsts_length, e0] at this; omega
      have HL := hideM (lay_any (w1.heap.size + 1) 16 3 3 (lackN 4 (firsts 4 4 (bytesN m))) 4 (rowAt 4 4 19 (bytesN m) 4) wr.drew hr.out.drew (by rw [rowAt_length _ _ _ _ _ (by rw [e0]; exact Nat.le_refl _) (by decide)]; decide) (by rw [rowAt_length _ _ _ _ _ (by rw [e0]; exact Nat.le_refl _) (by decide)]; decide) (by decide) (by decide) (by omega))
      have HLA := hideM hla
      clear hla ht hlk e0
      go_wp2
      go_region_held3 (fun w' => w'.cell? ⟨w.heap.size, 2, none⟩ = some (.int .i64 4) ∧ w'.cell? ⟨w1.heap.size, 0, none⟩ = some (.int .i64 16)) (first | exact ⟨cx3, cf3⟩ | simp [go_sem, cx', cf']) (first | (go_at_call 284; refine HLK.out.mono ?_; rintro r w3 ⟨rfl, rfl⟩) | (go_at_call 283; refine HL.out.mono ?_; rintro r w3 ⟨rfl, hr3, ho3⟩; have cx3 : w3.cell? ⟨w.heap.size, 2, none⟩ = some (.int .i64 4) := (ho3.cell (by simp; omega)).trans (by simp [go_sem, cx']); have cf3 : w3.cell? ⟨w1.heap.size, 0, none⟩ = some (.int .i64 16) := (ho3.cell (by simp)).trans (by simp [go_sem, cf'])))
      have HR3 := hideM hr3
      have HO3 := hideM ho3
      clear hr3 ho3
      go_wp2
      go_ret2
      refine ⟨w1.heap.size + 1, rfl, by omega, ?_, OnlyM.below hb'.out.drew HO3.out (by omega)⟩
      have h := HR3.out
      rw [HLA.out] at h
      exact h
end Go.Proofs.YtgaoeoijdpdjiabGreatDoor

namespace Go.Proofs.YtgaoeoijdpdjiabGreatDoor
open Go.RowKit

theorem slice_4_16 (g j : Nat) (hj : j < 4) (wx : World) : (Instr.slice 56 (.slice (some ⟨g, 0, none⟩) 10 10) (some (.int .i64 ((j : Int) * 2))) (some (.int .i64 (((j : Int) + 1) * 2))) none).run Tryz.prog wx = .ok (.slice (some ⟨g, j * 2, none⟩) 2 (10 - j * 2)) wx := by
  rcases (show j = 0 ∨ j = 1 ∨ j = 2 ∨ j = 3 by omega) with rfl | rfl | rfl | rfl <;> simp [go_sem]

set_option maxHeartbeats 1000000 in
theorem digits_4_16 (k t l : Int) (m : ByteArray) (w : World) (hk : k = 1 ∨ k = 2) (h1 : 1 ≤ t) (h2 : t ≤ 4) (h3 : 1 ≤ l) (h4 : l ≤ 3) (hm : m.size = 4) :
    Calls Tryz.prog 241 #[.agg #[.int .i64 k, .int .i64 4, .int .i64 16, .int .i64 t, .int .i64 l], .string m] w fun r w' =>
      ∃ g, r = .returned (.tuple #[.slice (some ⟨g, 0, none⟩) 10 10, .int .i64 0]) ∧ w.heap.size ≤ g ∧ RowZ w' g ((digitsN 16 2 2 (bytesN m)).map Int.ofNat) ∧ Below w.heap.size w w' := by
  have hmk : ∀ w : World, (Instr.makeSlice 56 (.int .i64 10) (.int .i64 10)).run Tryz.prog w = .ok (.slice (some ⟨w.heap.size, 0, none⟩) 10 10) (w.alloc (.cells #[.int .i64 0, .int .i64 0, .int .i64 0, .int .i64 0, .int .i64 0, .int .i64 0, .int .i64 0, .int .i64 0, .int .i64 0, .int .i64 0] 3)) := fun _ => by kernel_rfl
  have HM : Hid (m.size = 4) := hm
  have hms : ((m.size : Int) != 4) = false := by simp [hm]
  clear hm
  have HMT := measure_4_16 k t l (w.alloc (.cells #[.int .i64 k, .int .i64 4, .int .i64 16, .int .i64 t, .int .i64 l] 26)) hk h1 h2 h3 h4
  go_enter Tryz.func241, Tryz.ntmps241
  go_wp2_with fail
  refine HMT.mono ?_
  clear HMT
  rintro r w1 ⟨rfl, hb1⟩
  have hz1 := hb1.size
  simp at hz1
  have hz2 : w.heap.size < w1.heap.size := by omega
  have hz3 : ¬ w.heap.size = w1.heap.size := by omega
  have cx : w1.cell? ⟨w.heap.size, 2, none⟩ = some (.int .i64 16) := (hb1.cell (by simp)).trans (by simp [go_sem])
  have cb : w1.cell? ⟨w.heap.size, 1, none⟩ = some (.int .i64 4) := (hb1.cell (by simp)).trans (by simp [go_sem])
  have HB1 : Hid (Below w.heap.size w w1) := ((Below.refl _ _).alloc (Nat.le_refl _) _).trans (hb1.mono (by simp))
  clear hb1
  go_wp2_with fail
  refine (perByte_16 _).mono ?_
  rintro r w2 ⟨rfl, rfl⟩
  go_wp2
  have HR0 : Hid (RowZ ((w1.alloc (.cells #[.int .i64 8, .int .i64 2, .int .i64 10, .int .i64 (totalZ t l), .int .i64 (sigZ 4 16 t l), .int .i64 13] 158)).alloc (.cells #[.int .i64 0, .int .i64 0, .int .i64 0, .int .i64 0, .int .i64 0, .int .i64 0, .int .i64 0, .int .i64 0, .int .i64 0, .int .i64 0] 3)) (w1.heap.size + 1) (rowAt 16 2 10 (bytesN m) 0)) := by have h := row_new (w1.alloc (.cells #[.int .i64 8, .int .i64 2, .int .i64 10, .int .i64 (totalZ t l), .int .i64 (sigZ 4 16 t l), .int .i64 13] 158)) #[.int .i64 0, .int .i64 0, .int .i64 0, .int .i64 0, .int .i64 0, .int .i64 0, .int .i64 0, .int .i64 0, .int .i64 0, .int .i64 0] 16 2 10 (bytesN m) rfl; rw [World.size_alloc] at h; exact h
  have HB0 : Hid (Below w.heap.size w ((w1.alloc (.cells #[.int .i64 8, .int .i64 2, .int .i64 10, .int .i64 (totalZ t l), .int .i64 (sigZ 4 16 t l), .int .i64 13] 158)).alloc (.cells #[.int .i64 0, .int .i64 0, .int .i64 0, .int .i64 0, .int .i64 0, .int .i64 0, .int .i64 0, .int .i64 0, .int .i64 0, .int .i64 0] 3))) := (HB1.out.alloc (by omega) _).alloc (by simp; omega) _
  go_loopw [32] (fun i wr => ∃ j : Nat, j ≤ 4 ∧ i = .int .i64 j ∧ Hid (RowZ wr (w1.heap.size + 1) (rowAt 16 2 10 (bytesN m) j)) ∧ wr.cell? ⟨w.heap.size, 2, none⟩ = some (.int .i64 16) ∧ wr.cell? ⟨w1.heap.size, 0, none⟩ = some (.int .i64 8) ∧ Hid (Below w.heap.size w wr)) (fun i _ => 4 - (intOf i).toNat)
  case atStart => exact ⟨0, by omega, rfl, HR0, by simp [go_sem, World.cell?_alloc_past, hz2, cx], by simp [go_sem], HB0⟩
  case round =>
    obtain ⟨j, hj, rfl, hr, cx', cf', hb'⟩ := hrel
    have hms2 : m.size ≤ 4 := Nat.le_of_eq HM.out
    have hms3 : 4 ≤ m.size := Nat.le_of_eq HM.out.symm
    by_cases hlt : j < 4
    · have hlt2 : j < m.size := by omega
      have q0 : (0 : Int) ≤ (j : Int) := by omega
      have q1 : (j : Int) < (m.size : Int) := by omega
      have v1 : IntKind.i64.wrap ((j : Int) * 2) = (j : Int) * 2 := by rw [IntKind.wrap_i64] <;> omega
      have v2 : IntKind.i64.wrap ((j : Int) + 1) = (j : Int) + 1 := by rw [IntKind.wrap_i64] <;> omega
      have v3 : IntKind.i64.wrap (((j : Int) + 1) * 2) = ((j : Int) + 1) * 2 := by rw [IntKind.wrap_i64] <;> omega
      have hsl : ∀ wx : World, (Instr.slice 56 (.slice (some ⟨w1.heap.size + 1, 0, none⟩) 10 10) (some (.int .i64 ((j : Int) * 2))) (some (.int .i64 (((j : Int) + 1) * 2))) none).run Tryz.prog wx = .ok (.slice (some ⟨w1.heap.size + 1, j * 2, none⟩) 2 (10 - j * 2)) wx := slice_4_16 _ j hlt
      have hcv : IntKind.i64.wrap ((m[j].toNat : Nat) : Int) = ((m[j].toNat : Nat) : Int) := by have := UInt8.toNat_lt m[j]; rw [IntKind.wrap_i64] <;> omega
      have HL := hideM (lay_any (w1.heap.size + 1) (j * 2) 2 (10 - j * 2) (m[j].toNat) 16 (rowAt 16 2 10 (bytesN m) j) wr.drew hr.out.drew (by rw [rowAt_length _ _ _ _ _ (by rw [bytesN_length]; omega) (by omega)]; omega) (by rw [rowAt_length _ _ _ _ _ (by rw [bytesN_length]; omega) (by omega)]; decide) (by decide) (by decide) (by have := UInt8.toNat_lt m[j]; omega))
      have HS := hideM (rowAt_step 16 2 10 (bytesN m) j (by rw [bytesN_length]; omega) (by omega))
      have HY := hideM (byte_at m j hlt2)
      go_wp2
      go_region_held3 (fun w' => w'.cell? ⟨w.heap.size, 2, none⟩ = some (.int .i64 16)) (first | exact cx3 | simp [go_sem, cx']) ((go_at_call 283; refine HL.out.mono ?_; rintro r w3 ⟨rfl, hr3, ho3⟩; have cx3 : w3.cell? ⟨w.heap.size, 2, none⟩ = some (.int .i64 16) := (ho3.cell (by simp; omega)).trans (by simp [go_sem, cx'])))
      have HR3 := hideM hr3
      have HO3 := hideM ho3
      clear hr3 ho3
      go_wp2
      go_roundw
      case rel =>
        have h := HR3.out
        rw [← HY.out, HS.out] at h
        have R : ∃ i : Nat, i ≤ 4 ∧ Value.int .i64 ((j : Int) + 1) = .int .i64 i ∧ Hid (RowZ w3 (w1.heap.size + 1) (rowAt 16 2 10 (bytesN m) i)) ∧ w3.cell? ⟨w.heap.size, 2, none⟩ = some (.int .i64 16) ∧ w3.cell? ⟨w1.heap.size, 0, none⟩ = some (.int .i64 8) ∧ Hid (Below w.heap.size w w3) :=
          ⟨j + 1, by omega, by go_num, h, cx3, (HO3.out.cell (by simp)).trans (by simp [go_sem, cf']), OnlyM.below hb'.out.drew HO3.out (by omega)⟩
        first | exact R | ((repeat apply Exists.intro); exact ⟨R, rfl⟩)
      case measure => simp [intOf]; omega
    · obtain rfl : j = 4 := by omega
      have e0 : (bytesN m).length = 4 := by rw [bytesN_length]; exact HM.out
      have ht := rowAt_take 16 2 10 (bytesN m)
      have hla := rowAt_last 16 2 2 10 (bytesN m) (by rw [e0])
      rw [e0] at ht hla
      have HLK := hideM (lack_any (w1.heap.size + 1) 8 10 16 (rowAt 16 2 10 (bytesN m) 4) (firsts 16 2 (bytesN m)) wr.drew hr.out.drew ht (by rw [firsts_length, e0]) (by decide) (by decide) (by decide) (firsts_lt _ _ _ (by decide)))
      have hlk : lackN 16 (firsts 16 2 (bytesN m)) ≤ 120 := by have := lackN_le 16 (firsts 16 2 (bytesN m)); rw [firsts_length, e0] at this; omega
      have HL := hideM (lay_any (w1.heap.size + 1) 8 2 2 (lackN 16 (firsts 16 2 (bytesN m))) 16 (rowAt 16 2 10 (bytesN m) 4) wr.drew hr.out.drew (by rw [rowAt_length _ _ _ _ _ (by rw [e0]; exact Nat.le_refl _) (by decide)]; decide) (by rw [rowAt_length _ _ _ _ _ (by rw [e0]; exact Nat.le_refl _) (by decide)]; decide) (by decide) (by decide) (by omega))
      have HLA := hideM hla
      clear hla ht hlk e0
      go_wp2
      go_region_held3 (fun w' => w'.cell? ⟨w.heap.size, 2, none⟩ = some (.int .i64 16) ∧ w'.cell? ⟨w1.heap.size, 0, none⟩ = some (.int .i64 8)) (first | exact ⟨cx3, cf3⟩ | simp [go_sem, cx', cf']) (first | (go_at_call 284; refine HLK.out.mono ?_; rintro r w3 ⟨rfl, rfl⟩) | (go_at_call 283; refine HL.out.mono ?_; rintro r w3 ⟨rfl, hr3, ho3⟩; have cx3 : w3.cell? ⟨w.heap.size, 2, none⟩ = some (.int .i64 16) := (ho3.cell (by simp; omega)).trans (by simp [go_sem, cx']); have cf3 : w3.cell? ⟨w1.heap.size, 0, none⟩ = some (.int .i64 8) := (ho3.cell (by simp)).trans (by simp [go_sem, cf'])))
      have HR3 := hideM hr3
      have HO3 := hideM ho3
      clear hr3 ho3
      go_wp2
      go_ret2
      refine ⟨w1.heap.size + 1, rfl, by omega, ?_, OnlyM.below hb'.out.drew HO3.out (by omega)⟩
      have h := HR3.out
      rw [HLA.out] at h
      exact h
end Go.Proofs.YtgaoeoijdpdjiabGreatDoor

namespace Go.Proofs.YtgaoeoijdpdjiabGreatDoor
open Go.RowKit

theorem slice_8_16 (g j : Nat) (hj : j < 8) (wx : World) : (Instr.slice 56 (.slice (some ⟨g, 0, none⟩) 18 18) (some (.int .i64 ((j : Int) * 2))) (some (.int .i64 (((j : Int) + 1) * 2))) none).run Tryz.prog wx = .ok (.slice (some ⟨g, j * 2, none⟩) 2 (18 - j * 2)) wx := by
  rcases (show j = 0 ∨ j = 1 ∨ j = 2 ∨ j = 3 ∨ j = 4 ∨ j = 5 ∨ j = 6 ∨ j = 7 by omega) with rfl | rfl | rfl | rfl | rfl | rfl | rfl | rfl <;> simp [go_sem]

set_option maxHeartbeats 1000000 in
theorem digits_8_16 (k t l : Int) (m : ByteArray) (w : World) (hk : k = 1 ∨ k = 2) (h1 : 1 ≤ t) (h2 : t ≤ 4) (h3 : 1 ≤ l) (h4 : l ≤ 3) (hm : m.size = 8) :
    Calls Tryz.prog 241 #[.agg #[.int .i64 k, .int .i64 8, .int .i64 16, .int .i64 t, .int .i64 l], .string m] w fun r w' =>
      ∃ g, r = .returned (.tuple #[.slice (some ⟨g, 0, none⟩) 18 18, .int .i64 0]) ∧ w.heap.size ≤ g ∧ RowZ w' g ((digitsN 16 2 2 (bytesN m)).map Int.ofNat) ∧ Below w.heap.size w w' := by
  have hmk : ∀ w : World, (Instr.makeSlice 56 (.int .i64 18) (.int .i64 18)).run Tryz.prog w = .ok (.slice (some ⟨w.heap.size, 0, none⟩) 18 18) (w.alloc (.cells #[.int .i64 0, .int .i64 0, .int .i64 0, .int .i64 0, .int .i64 0, .int .i64 0, .int .i64 0, .int .i64 0, .int .i64 0, .int .i64 0, .int .i64 0, .int .i64 0, .int .i64 0, .int .i64 0, .int .i64 0, .int .i64 0, .int .i64 0, .int .i64 0] 3)) := fun _ => by kernel_rfl
  have HM : Hid (m.size = 8) := hm
  have hms : ((m.size : Int) != 8) = false := by simp [hm]
  clear hm
  have HMT := measure_8_16 k t l (w.alloc (.cells #[.int .i64 k, .int .i64 8, .int .i64 16, .int .i64 t, .int .i64 l] 26)) hk h1 h2 h3 h4
  go_enter Tryz.func241, Tryz.ntmps241
  go_wp2_with fail
  refine HMT.mono ?_
  clear HMT
  rintro r w1 ⟨rfl, hb1⟩
  have hz1 := hb1.size
  simp at hz1
  have hz2 : w.heap.size < w1.heap.size := by omega
  have hz3 : ¬ w.heap.size = w1.heap.size := by omega
  have cx : w1.cell? ⟨w.heap.size, 2, none⟩ = some (.int .i64 16) := (hb1.cell (by simp)).trans (by simp [go_sem])
  have cb : w1.cell? ⟨w.heap.size, 1, none⟩ = some (.int .i64 8) := (hb1.cell (by simp)).trans (by simp [go_sem])
  have HB1 : Hid (Below w.heap.size w w1) := ((Below.refl _ _).alloc (Nat.le_refl _) _).trans (hb1.mono (by simp))
  clear hb1
  go_wp2_with fail
  refine (perByte_16 _).mono ?_
  rintro r w2 ⟨rfl, rfl⟩
  go_wp2
  have HR0 : Hid (RowZ ((w1.alloc (.cells #[.int .i64 16, .int .i64 2, .int .i64 18, .int .i64 (totalZ t l), .int .i64 (sigZ 8 16 t l), .int .i64 21] 158)).alloc (.cells #[.int .i64 0, .int .i64 0, .int .i64 0, .int .i64 0, .int .i64 0, .int .i64 0, .int .i64 0, .int .i64 0, .int .i64 0, .int .i64 0, .int .i64 0, .int .i64 0, .int .i64 0, .int .i64 0, .int .i64 0, .int .i64 0, .int .i64 0, .int .i64 0] 3)) (w1.heap.size + 1) (rowAt 16 2 18 (bytesN m) 0)) := by have h := row_new (w1.alloc (.cells #[.int .i64 16, .int .i64 2, .int .i64 18, .int .i64 (totalZ t l), .int .i64 (sigZ 8 16 t l), .int .i64 21] 158)) #[.int .i64 0, .int .i64 0, .int .i64 0, .int .i64 0, .int .i64 0, .int .i64 0, .int .i64 0, .int .i64 0, .int .i64 0, .int .i64 0, .int .i64 0, .int .i64 0, .int .i64 0, .int .i64 0, .int .i64 0, .int .i64 0, .int .i64 0, .int .i64 0] 16 2 18 (bytesN m) rfl; rw [World.size_alloc] at h; exact h
  have HB0 : Hid (Below w.heap.size w ((w1.alloc (.cells #[.int .i64 16, .int .i64 2, .int .i64 18, .int .i64 (totalZ t l), .int .i64 (sigZ 8 16 t l), .int .i64 21] 158)).alloc (.cells #[.int .i64 0, .int .i64 0, .int .i64 0, .int .i64 0, .int .i64 0, .int .i64 0, .int .i64 0, .int .i64 0, .int .i64 0, .int .i64 0, .int .i64 0, .int .i64 0, .int .i64 0, .int .i64 0, .int .i64 0, .int .i64 0, .int .i64 0, .int .i64 0] 3))) := (HB1.out.alloc (by omega) _).alloc (by simp; omega) _
  go_loopw [32] (fun i wr => ∃ j : Nat, j ≤ 8 ∧ i = .int .i64 j ∧ Hid (RowZ wr (w1.heap.size + 1) (rowAt 16 2 18 (bytesN m) j)) ∧ wr.cell? ⟨w.heap.size, 2, none⟩ = some (.int .i64 16) ∧ wr.cell? ⟨w1.heap.size, 0, none⟩ = some (.int .i64 16) ∧ Hid (Below w.heap.size w wr)) (fun i _ => 8 - (intOf i).toNat)
  case atStart => exact ⟨0, by omega, rfl, HR0, by simp [go_sem, World.cell?_alloc_past, hz2, cx], by simp [go_sem], HB0⟩
  case round =>
    obtain ⟨j, hj, rfl, hr, cx', cf', hb'⟩ := hrel
    have hms2 : m.size ≤ 8 := Nat.le_of_eq HM.out
    have hms3 : 8 ≤ m.size := Nat.le_of_eq HM.out.symm
    by_cases hlt : j < 8
    · have hlt2 : j < m.size := by omega
      have q0 : (0 : Int) ≤ (j : Int) := by omega
      have q1 : (j : Int) < (m.size : Int) := by omega
      have v1 : IntKind.i64.wrap ((j : Int) * 2) = (j : Int) * 2 := by rw [IntKind.wrap_i64] <;> omega
      have v2 : IntKind.i64.wrap ((j : Int) + 1) = (j : Int) + 1 := by rw [IntKind.wrap_i64] <;> omega
      have v3 : IntKind.i64.wrap (((j : Int) + 1) * 2) = ((j : Int) + 1) * 2 := by rw [IntKind.wrap_i64] <;> omega
      have hsl : ∀ wx : World, (Instr.slice 56 (.slice (some ⟨w1.heap.size + 1, 0, none⟩) 18 18) (some (.int .i64 ((j : Int) * 2))) (some (.int .i64 (((j : Int) + 1) * 2))) none).run Tryz.prog wx = .ok (.slice (some ⟨w1.heap.size + 1, j * 2, none⟩) 2 (18 - j * 2)) wx := slice_8_16 _ j hlt
      have hcv : IntKind.i64.wrap ((m[j].toNat : Nat) : Int) = ((m[j].toNat : Nat) : Int) := by have := UInt8.toNat_lt m[j]; rw [IntKind.wrap_i64] <;> omega
      have HL := hideM (lay_any (w1.heap.size + 1) (j * 2) 2 (18 - j * 2) (m[j].toNat) 16 (rowAt 16 2 18 (bytesN m) j) wr.drew hr.out.drew (by rw [rowAt_length _ _ _ _ _ (by rw [bytesN_length]; omega) (by omega)]; omega) (by rw [rowAt_length _ _ _ _ _ (by rw [bytesN_length]; omega) (by omega)]; decide) (by decide) (by decide) (by have := UInt8.toNat_lt m[j]; omega))
      have HS := hideM (rowAt_step 16 2 18 (bytesN m) j (by rw [bytesN_length]; omega) (by omega))
      have HY := hideM (byte_at m j hlt2)
      go_wp2
      go_region_held3 (fun w' => w'.cell? ⟨w.heap.size, 2, none⟩ = some (.int .i64 16)) (first | exact cx3 | simp [go_sem, cx']) ((go_at_call 283; refine HL.out.mono ?_; rintro r w3 ⟨rfl, hr3, ho3⟩; have cx3 : w3.cell? ⟨w.heap.size, 2, none⟩ = some (.int .i64 16) := (ho3.cell (by simp; omega)).trans (by simp [go_sem, cx'])))
      have HR3 := hideM hr3
      have HO3 := hideM ho3
      clear hr3 ho3
      go_wp2
      go_roundw
      case rel =>
        have h := HR3.out
        rw [← HY.out, HS.out] at h
        have R : ∃ i : Nat, i ≤ 8 ∧ Value.int .i64 ((j : Int) + 1) = .int .i64 i ∧ Hid (RowZ w3 (w1.heap.size + 1) (rowAt 16 2 18 (bytesN m) i)) ∧ w3.cell? ⟨w.heap.size, 2, none⟩ = some (.int .i64 16) ∧ w3.cell? ⟨w1.heap.size, 0, none⟩ = some (.int .i64 16) ∧ Hid (Below w.heap.size w w3) :=
          ⟨j + 1, by omega, by go_num, h, cx3, (HO3.out.cell (by simp)).trans (by simp [go_sem, cf']), OnlyM.below hb'.out.drew HO3.out (by omega)⟩
        first | exact R | ((repeat apply Exists.intro); exact ⟨R, rfl⟩)
      case measure => simp [intOf]; omega
    · obtain rfl : j = 8 := by omega
      have e0 : (bytesN m).length = 8 := by rw [bytesN_length]; exact HM.out
      have ht := rowAt_take 16 2 18 (bytesN m)
      have hla := rowAt_last 16 2 2 18 (bytesN m) (by rw [e0])
      rw [e0] at ht hla
      have HLK := hideM (lack_any (w1.heap.size + 1) 16 18 16 (rowAt 16 2 18 (bytesN m) 8) (firsts 16 2 (bytesN m)) wr.drew hr.out.drew ht (by rw [firsts_length, e0]) (by decide) (by decide) (by decide) (firsts_lt _ _ _ (by decide)))
      have hlk : lackN 16 (firsts 16 2 (bytesN m)) ≤ 240 := by have := lackN_le 16 (firsts 16 2 (bytesN m)); rw [firsts_length, e0] at this; omega
      have HL := hideM (lay_any (w1.heap.size + 1) 16 2 2 (lackN 16 (firsts 16 2 (bytesN m))) 16 (rowAt 16 2 18 (bytesN m) 8) wr.drew hr.out.drew (by rw [rowAt_length _ _ _ _ _ (by rw [e0]; exact Nat.le_refl _) (by decide)]; decide) (by rw [rowAt_length _ _ _ _ _ (by rw [e0]; exact Nat.le_refl _) (by decide)]; decide) (by decide) (by decide) (by omega))
      have HLA := hideM hla
      clear hla ht hlk e0
      go_wp2
      go_region_held3 (fun w' => w'.cell? ⟨w.heap.size, 2, none⟩ = some (.int .i64 16) ∧ w'.cell? ⟨w1.heap.size, 0, none⟩ = some (.int .i64 16)) (first | exact ⟨cx3, cf3⟩ | simp [go_sem, cx', cf']) (first | (go_at_call 284; refine HLK.out.mono ?_; rintro r w3 ⟨rfl, rfl⟩) | (go_at_call 283; refine HL.out.mono ?_; rintro r w3 ⟨rfl, hr3, ho3⟩; have cx3 : w3.cell? ⟨w.heap.size, 2, none⟩ = some (.int .i64 16) := (ho3.cell (by simp; omega)).trans (by simp [go_sem, cx']); have cf3 : w3.cell? ⟨w1.heap.size, 0, none⟩ = some (.int .i64 16) := (ho3.cell (by simp)).trans (by simp [go_sem, cf'])))
      have HR3 := hideM hr3
      have HO3 := hideM ho3
      clear hr3 ho3
      go_wp2
      go_ret2
      refine ⟨w1.heap.size + 1, rfl, by omega, ?_, OnlyM.below hb'.out.drew HO3.out (by omega)⟩
      have h := HR3.out
      rw [HLA.out] at h
      exact h
end Go.Proofs.YtgaoeoijdpdjiabGreatDoor

namespace Go.Proofs.YtgaoeoijdpdjiabGreatDoor
open Go.RowKit

set_option maxHeartbeats 2000000 in
theorem text_32 (g : Nat) (L : List Nat) (w : World) (hr : RowK w g .u32 358 L) (hL : L.length = 8) (hW : Words 32 L) :
    Calls Tryz.prog 294 #[.pointer (some ⟨g, 0, none⟩)] w fun e w' => e = .returned (.string (textOf (outs 4 L 16))) ∧ Below w.heap.size w w' := by
  have hmk : ∀ w : World, (Instr.makeSlice 170 (.int .i64 0) (.int .i64 16)).run Tryz.prog w = .ok (.slice (some ⟨w.heap.size, 0, none⟩) 0 16) (w.alloc (.cells #[.int .u8 0, .int .u8 0, .int .u8 0, .int .u8 0, .int .u8 0, .int .u8 0, .int .u8 0, .int .u8 0, .int .u8 0, .int .u8 0, .int .u8 0, .int .u8 0, .int .u8 0, .int .u8 0, .int .u8 0, .int .u8 0] 5)) := fun _ => by kernel_rfl
  have HR := hide hr
  have HL := hide hL
  have HW := hide hW
  clear hr hL hW
  obtain ⟨i0, hi, hz0, hz1, hz2⟩ := info_parts infoByte
  go_enter Tryz.func294, Tryz.ntmps294
  go_wp2_with fail
  refine (size_32 _).mono ?_
  rintro e w1 ⟨rfl, rfl⟩
  go_wp2
  have HO0 := hide (show (w1.alloc (.cells #[.int .u8 0, .int .u8 0, .int .u8 0, .int .u8 0, .int .u8 0, .int .u8 0, .int .u8 0, .int .u8 0, .int .u8 0, .int .u8 0, .int .u8 0, .int .u8 0, .int .u8 0, .int .u8 0, .int .u8 0, .int .u8 0] 5)).ownsRow w1.heap.size 5 1 (.slice (some ⟨w1.heap.size, 0, none⟩) 0 16) 0 [] from ⟨rfl, Or.inr ⟨w1.heap.size, 16, _, rfl, Nat.le_refl _, heap_alloc_new _ _, by omega, by unfold maxLen; omega, rfl, rfl⟩⟩)
  have HB0 := hide ((Below.refl w1.heap.size w1).alloc (Nat.le_refl _) (.cells #[.int .u8 0, .int .u8 0, .int .u8 0, .int .u8 0, .int .u8 0, .int .u8 0, .int .u8 0, .int .u8 0, .int .u8 0, .int .u8 0, .int .u8 0, .int .u8 0, .int .u8 0, .int .u8 0, .int .u8 0, .int .u8 0] 5))
  go_loopw [4, 11] (fun v i wr => ∃ a : Nat, a ≤ 4 ∧ i = .int .i64 a ∧ Hid (wr.ownsRow w1.heap.size 5 1 v (a * 4) (cells8 (outs 4 L (a * 4)))) ∧ Hid (Below w1.heap.size w1 wr)) (fun _ i _ => 4 - (intOf i).toNat)
  case atStart => exact ⟨0, by omega, rfl, HO0, HB0⟩
  case round =>
    obtain ⟨a, ha, rfl, ho, hb⟩ := hrel
    by_cases hlt : a < 4
    · obtain ⟨wo, rfl⟩ : ∃ wo : World, wo = wr := ⟨_, rfl⟩
      have hda : decide ((a : Int) < 4) = true := by simp; omega
      go_wp2
      go_loopw [4, 6] (fun v i wr => ∃ q : Nat, q ≤ 4 ∧ i = .int .i64 ((q : Int) - 1) ∧ Hid (wr.ownsRow w1.heap.size 5 1 v (a * 4 + (4 - q)) (cells8 (outs 4 L (a * 4 + (4 - q))))) ∧ Hid (Below w1.heap.size w1 wr)) (fun _ i _ => (intOf i + 1).toNat)
      case atStart => exact ⟨4, by omega, by simp, by simpa using ho, hb⟩
      case round =>
        obtain ⟨q, hq, rfl, ho, hb⟩ := hrel
        by_cases hq0 : 0 < q
        · obtain ⟨q, rfl⟩ : ∃ p, q = p + 1 := ⟨q - 1, by omega⟩
          have c := (HR.out.below hb.out HR.out.lt).cell (i := a) (by have := HL.out; omega)
          have HX := hide (HW.out.at a)
          have HOB : Hid (outB 4 L (a * 4 + (4 - (q + 1))) = at0 L a / 2 ^ (8 * q) % 256) := by
            show outB 4 L (a * 4 + (4 - (q + 1))) = _
            unfold outB
            rw [show (a * 4 + (4 - (q + 1))) / 4 = a by omega, show 4 - 1 - (a * 4 + (4 - (q + 1))) % 4 = q by omega]
          have HSU := hide (outs_succ 4 L (a * 4 + (4 - (q + 1))))
          generalize at0 L a = u at c HX HOB
          go_wp2_with (at_builtin; refine wpList_append_own _ rfl _ _ 170 rfl w1.heap.size 5 i0 (.int .u8 0) 1 1 Tryz.underlying170 hi hz0 hz1 hz2 rfl (by decide) _ _ _ rfl (ho.out.alloc _) ⟨wr.heap.size, 0, none⟩ 1 1 [_] rfl rfl (one_new _ _ _) ?c2 ?c3 ?c4 ?c5 ?_)
          case c2 => intro y hy; simp at hy; subst hy; rfl
          case c3 => unfold maxLen; omega
          case c4 => omega
          case c5 => have := hb.out.size; simp; omega
          intro v' w3 ho3 hgrow _
          have HB3 := hide ((hb.out.alloc hb.out.size _).grown hgrow (by have := hb.out.size; simp; omega) (fun p hp => (owns_lt ho.out p hp).1))
          have HO3 := hide ho3
          clear ho3 hgrow
          go_wp2
          go_roundw
          case rel =>
            have hcs : cells8 (outs 4 L (a * 4 + (4 - q))) = cells8 (outs 4 L (a * 4 + (4 - (q + 1)))) ++ [.int .u8 ((u : Int) / 2 ^ (8 * q) % 256)] := by
              rw [show a * 4 + (4 - q) = a * 4 + (4 - (q + 1)) + 1 by omega, HSU.out, cells8_snoc, HOB.out, Int.natCast_emod, Int.natCast_ediv, Int.natCast_pow]
              rfl
            have R : ∃ p : Nat, p ≤ 4 ∧ Value.int .i64 ((q : Int) - 1) = .int .i64 ((p : Int) - 1) ∧ Hid (w3.ownsRow w1.heap.size 5 1 v' (a * 4 + (4 - p)) (cells8 (outs 4 L (a * 4 + (4 - p))))) ∧ Hid (Below w1.heap.size w1 w3) :=
              ⟨q, by omega, rfl, by rw [hcs]; have h := HO3.out; rw [show a * 4 + (3 - q) + 1 = a * 4 + (4 - q) by omega, show a * 4 + (3 - q) = a * 4 + (4 - (q + 1)) by omega] at h; exact h, HB3.out⟩
            first | exact R | ((repeat apply Exists.intro); exact ⟨R, rfl⟩)
          case measure => simp [intOf]
        · obtain rfl : q = 0 := by omega
          go_wp2
          go_roundw
          case rel => exact ⟨a + 1, by omega, by go_num, by have h := ho; rw [show a * 4 + (4 - 0) = (a + 1) * 4 by omega] at h; exact h, hb⟩
          case measure => simp [intOf]; omega
    · obtain rfl : a = 4 := by omega
      have HT := hide (run_text wr w1.heap.size _ (outs 4 L 16) (fun d hd => by simp only [outs, List.mem_map] at hd; obtain ⟨i, _, rfl⟩ := hd; exact outB_lt _ _ _) (by rw [outs_length]; exact ho.out) (by rw [outs_length]; decide))
      have hT := HT.out
      go_wp2
      go_ret
      exact ⟨rfl, hb.out⟩
end Go.Proofs.YtgaoeoijdpdjiabGreatDoor

namespace Go.Proofs.YtgaoeoijdpdjiabGreatDoor
open Go.RowKit

set_option maxHeartbeats 2000000 in
theorem text_64 (g : Nat) (L : List Nat) (w : World) (hr : RowK w g .u64 361 L) (hL : L.length = 8) (hW : Words 64 L) :
    Calls Tryz.prog 298 #[.pointer (some ⟨g, 0, none⟩)] w fun e w' => e = .returned (.string (textOf (outs 8 L 32))) ∧ Below w.heap.size w w' := by
  have hmk : ∀ w : World, (Instr.makeSlice 170 (.int .i64 0) (.int .i64 32)).run Tryz.prog w = .ok (.slice (some ⟨w.heap.size, 0, none⟩) 0 32) (w.alloc (.cells #[.int .u8 0, .int .u8 0, .int .u8 0, .int .u8 0, .int .u8 0, .int .u8 0, .int .u8 0, .int .u8 0, .int .u8 0, .int .u8 0, .int .u8 0, .int .u8 0, .int .u8 0, .int .u8 0, .int .u8 0, .int .u8 0, .int .u8 0, .int .u8 0, .int .u8 0, .int .u8 0, .int .u8 0, .int .u8 0, .int .u8 0, .int .u8 0, .int .u8 0, .int .u8 0, .int .u8 0, .int .u8 0, .int .u8 0, .int .u8 0, .int .u8 0, .int .u8 0] 5)) := fun _ => by kernel_rfl
  have HR := hide hr
  have HL := hide hL
  have HW := hide hW
  clear hr hL hW
  obtain ⟨i0, hi, hz0, hz1, hz2⟩ := info_parts infoByte
  go_enter Tryz.func298, Tryz.ntmps298
  go_wp2_with fail
  refine (size_64 _).mono ?_
  rintro e w1 ⟨rfl, rfl⟩
  go_wp2
  have HO0 := hide (show (w1.alloc (.cells #[.int .u8 0, .int .u8 0, .int .u8 0, .int .u8 0, .int .u8 0, .int .u8 0, .int .u8 0, .int .u8 0, .int .u8 0, .int .u8 0, .int .u8 0, .int .u8 0, .int .u8 0, .int .u8 0, .int .u8 0, .int .u8 0, .int .u8 0, .int .u8 0, .int .u8 0, .int .u8 0, .int .u8 0, .int .u8 0, .int .u8 0, .int .u8 0, .int .u8 0, .int .u8 0, .int .u8 0, .int .u8 0, .int .u8 0, .int .u8 0, .int .u8 0, .int .u8 0] 5)).ownsRow w1.heap.size 5 1 (.slice (some ⟨w1.heap.size, 0, none⟩) 0 32) 0 [] from ⟨rfl, Or.inr ⟨w1.heap.size, 32, _, rfl, Nat.le_refl _, heap_alloc_new _ _, by omega, by unfold maxLen; omega, rfl, rfl⟩⟩)
  have HB0 := hide ((Below.refl w1.heap.size w1).alloc (Nat.le_refl _) (.cells #[.int .u8 0, .int .u8 0, .int .u8 0, .int .u8 0, .int .u8 0, .int .u8 0, .int .u8 0, .int .u8 0, .int .u8 0, .int .u8 0, .int .u8 0, .int .u8 0, .int .u8 0, .int .u8 0, .int .u8 0, .int .u8 0, .int .u8 0, .int .u8 0, .int .u8 0, .int .u8 0, .int .u8 0, .int .u8 0, .int .u8 0, .int .u8 0, .int .u8 0, .int .u8 0, .int .u8 0, .int .u8 0, .int .u8 0, .int .u8 0, .int .u8 0, .int .u8 0] 5))
  go_loopw [4, 11] (fun v i wr => ∃ a : Nat, a ≤ 4 ∧ i = .int .i64 a ∧ Hid (wr.ownsRow w1.heap.size 5 1 v (a * 8) (cells8 (outs 8 L (a * 8)))) ∧ Hid (Below w1.heap.size w1 wr)) (fun _ i _ => 4 - (intOf i).toNat)
  case atStart => exact ⟨0, by omega, rfl, HO0, HB0⟩
  case round =>
    obtain ⟨a, ha, rfl, ho, hb⟩ := hrel
    by_cases hlt : a < 4
    · obtain ⟨wo, rfl⟩ : ∃ wo : World, wo = wr := ⟨_, rfl⟩
      have hda : decide ((a : Int) < 4) = true := by simp; omega
      go_wp2
      go_loopw [4, 6] (fun v i wr => ∃ q : Nat, q ≤ 8 ∧ i = .int .i64 ((q : Int) - 1) ∧ Hid (wr.ownsRow w1.heap.size 5 1 v (a * 8 + (8 - q)) (cells8 (outs 8 L (a * 8 + (8 - q))))) ∧ Hid (Below w1.heap.size w1 wr)) (fun _ i _ => (intOf i + 1).toNat)
      case atStart => exact ⟨8, by omega, by simp, by simpa using ho, hb⟩
      case round =>
        obtain ⟨q, hq, rfl, ho, hb⟩ := hrel
        by_cases hq0 : 0 < q
        · obtain ⟨q, rfl⟩ : ∃ p, q = p + 1 := ⟨q - 1, by omega⟩
          have c := (HR.out.below hb.out HR.out.lt).cell (i := a) (by have := HL.out; omega)
          have HX := hide (HW.out.at a)
          have HOB : Hid (outB 8 L (a * 8 + (8 - (q + 1))) = at0 L a / 2 ^ (8 * q) % 256) := by
            show outB 8 L (a * 8 + (8 - (q + 1))) = _
            unfold outB
            rw [show (a * 8 + (8 - (q + 1))) / 8 = a by omega, show 8 - 1 - (a * 8 + (8 - (q + 1))) % 8 = q by omega]
          have HSU := hide (outs_succ 8 L (a * 8 + (8 - (q + 1))))
          generalize at0 L a = u at c HX HOB
          go_wp2_with (at_builtin; refine wpList_append_own _ rfl _ _ 170 rfl w1.heap.size 5 i0 (.int .u8 0) 1 1 Tryz.underlying170 hi hz0 hz1 hz2 rfl (by decide) _ _ _ rfl (ho.out.alloc _) ⟨wr.heap.size, 0, none⟩ 1 1 [_] rfl rfl (one_new _ _ _) ?c2 ?c3 ?c4 ?c5 ?_)
          case c2 => intro y hy; simp at hy; subst hy; rfl
          case c3 => unfold maxLen; omega
          case c4 => omega
          case c5 => have := hb.out.size; simp; omega
          intro v' w3 ho3 hgrow _
          have HB3 := hide ((hb.out.alloc hb.out.size _).grown hgrow (by have := hb.out.size; simp; omega) (fun p hp => (owns_lt ho.out p hp).1))
          have HO3 := hide ho3
          clear ho3 hgrow
          go_wp2
          go_roundw
          case rel =>
            have hcs : cells8 (outs 8 L (a * 8 + (8 - q))) = cells8 (outs 8 L (a * 8 + (8 - (q + 1)))) ++ [.int .u8 ((u : Int) / 2 ^ (8 * q) % 256)] := by
              rw [show a * 8 + (8 - q) = a * 8 + (8 - (q + 1)) + 1 by omega, HSU.out, cells8_snoc, HOB.out, Int.natCast_emod, Int.natCast_ediv, Int.natCast_pow]
              rfl
            have R : ∃ p : Nat, p ≤ 8 ∧ Value.int .i64 ((q : Int) - 1) = .int .i64 ((p : Int) - 1) ∧ Hid (w3.ownsRow w1.heap.size 5 1 v' (a * 8 + (8 - p)) (cells8 (outs 8 L (a * 8 + (8 - p))))) ∧ Hid (Below w1.heap.size w1 w3) :=
              ⟨q, by omega, rfl, by rw [hcs]; have h := HO3.out; rw [show a * 8 + (7 - q) + 1 = a * 8 + (8 - q) by omega, show a * 8 + (7 - q) = a * 8 + (8 - (q + 1)) by omega] at h; exact h, HB3.out⟩
            first | exact R | ((repeat apply Exists.intro); exact ⟨R, rfl⟩)
          case measure => simp [intOf]
        · obtain rfl : q = 0 := by omega
          go_wp2
          go_roundw
          case rel => exact ⟨a + 1, by omega, by go_num, by have h := ho; rw [show a * 8 + (8 - 0) = (a + 1) * 8 by omega] at h; exact h, hb⟩
          case measure => simp [intOf]; omega
    · obtain rfl : a = 4 := by omega
      have HT := hide (run_text wr w1.heap.size _ (outs 8 L 32) (fun d hd => by simp only [outs, List.mem_map] at hd; obtain ⟨i, _, rfl⟩ := hd; exact outB_lt _ _ _) (by rw [outs_length]; exact ho.out) (by rw [outs_length]; decide))
      have hT := HT.out
      go_wp2
      go_ret
      exact ⟨rfl, hb.out⟩
end Go.Proofs.YtgaoeoijdpdjiabGreatDoor

namespace Go.Proofs.YtgaoeoijdpdjiabGreatDoor
open Go.RowKit

def zerosB (n : Nat) : Array Value := (List.replicate n (Value.int .u8 0)).toArray
theorem zerosB_size (n : Nat) : (zerosB n).size = n := by simp [zerosB]
theorem made_zeros (n : Nat) : madeCells (Value.int .u8 0).cells n = zerosB n := by
  apply Array.ext
  · simp [size_madeCells, zerosB_size]
  · intro i h1 h2
    simp [madeCells, zerosB, Value.cells, Nat.mod_one]

/-- The padded row of N bytes. -/
def padRow (s : ByteArray) (N : Nat) : List Nat := padL s ++ List.replicate (N - (s.size + 1)) 0
theorem padRow_at (s : ByteArray) (N i : Nat) : at0 (padRow s N) i = at0 (padL s) i := by
  unfold padRow at0
  by_cases h : i < (padL s).length
  · rw [List.getD_eq_getElem?_getD, List.getD_eq_getElem?_getD, List.getElem?_append_left h]
  · rw [List.getD_eq_getElem?_getD, List.getD_eq_getElem?_getD, List.getElem?_append_right (by omega), List.getElem?_eq_none (by omega : (padL s).length ≤ i)]
    by_cases h2 : i - (padL s).length < N - (s.size + 1)
    · simp [h2]
    · rw [List.getElem?_eq_none (by simp; omega)]
theorem pad_small (s : ByteArray) (N i : Nat) : at0 (padRow s N) i < 256 := by
  rw [padRow_at]; exact padL_lt s i
theorem padRow_length (s : ByteArray) (N : Nat) (h : s.size < N) : (padRow s N).length = N := by
  simp [padRow, padL_length]; omega
theorem infoByte2 : (Tryz.prog.info? 5).map (fun i => (i.zero, i.size, i.bytes)) = some (some (.int .u8 0), 1, 1) := by kernel_rfl

set_option maxRecDepth 20000 in
set_option maxHeartbeats 1000000 in
theorem padded_16 (s : ByteArray) (w : World) (hs : s.size ≤ 400) :
    Calls Tryz.prog 291 #[.string s, .int .i64 16] w fun e w' => e = .returned (.slice (some ⟨w.heap.size, 0, none⟩) ((s.size / 16 + 1) * 16) ((s.size / 16 + 1) * 16)) ∧ RowK w' w.heap.size .u8 5 (padRow s ((s.size / 16 + 1) * 16)) ∧ Below w.heap.size w w' := by
  obtain ⟨i0, hi, hz0, hz1, hz2⟩ := info_parts infoByte2
  have hmk : ∀ w : World, (Instr.makeSlice 170 (.int .i64 (((s.size : Int) / 16 + 1) * 16)) (.int .i64 (((s.size : Int) / 16 + 1) * 16))).run Tryz.prog w = .ok (.slice (some ⟨w.heap.size, 0, none⟩) ((s.size / 16 + 1) * 16) ((s.size / 16 + 1) * 16)) (w.alloc (.cells (zerosB ((s.size / 16 + 1) * 16)) 5)) := by
    intro w
    have h := run_make (P := Tryz.prog) w 170 5 i0 (.int .u8 0) Tryz.underlying170 hi hz0 .i64 .i64 (((s.size : Int) / 16 + 1) * 16) (((s.size : Int) / 16 + 1) * 16) (by omega) (by omega) (by rw [hz2]; omega) (by omega)
    rw [hz1, Nat.mul_one, made_zeros, show (((s.size : Int) / 16 + 1) * 16).toNat = (s.size / 16 + 1) * 16 by omega] at h
    exact h
  have hN : s.size < (s.size / 16 + 1) * 16 := by omega
  have hN2 : (s.size / 16 + 1) * 16 ≤ 1000 := by omega
  have hcp := Lib.run_copy_row_string (P := Tryz.prog) (w.alloc (.cells (zerosB ((s.size / 16 + 1) * 16)) 5)) 170 9 3 5 w.heap.size 0 ((s.size / 16 + 1) * 16) ((s.size / 16 + 1) * 16) s (zerosB ((s.size / 16 + 1) * 16)) 5 Tryz.underlying170 (by kernel_rfl) (heap_alloc_new _ _) (by omega) (by rw [zerosB_size]; omega)
  generalize hM : (s.size / 16 + 1) * 16 = N at hmk hN hN2 hcp ⊢
  clear hM
  have HROW := hide (show RowK ((w.alloc (.cells (zerosB N) 5)).setRow w.heap.size ((zerosB N).toList.take 0 ++ Lib.byteCells s.data.toList ++ (zerosB N).toList.drop (0 + s.size)).toArray) w.heap.size .u8 5 (s.data.toList.map UInt8.toNat ++ List.replicate (N - s.size) 0) by
    unfold RowK
    rw [setRow_heap _ _ _ _ 5 _ (heap_alloc_new _ _)]
    congr 2
    simp [zerosB, Lib.byteCells])
  have HBEL := hide (below_setRow ((Below.refl w.heap.size w).alloc (Nat.le_refl _) (.cells (zerosB N) 5)) (Nat.le_refl w.heap.size) ((zerosB N).toList.take 0 ++ Lib.byteCells s.data.toList ++ (zerosB N).toList.drop (0 + s.size)).toArray)
  generalize (w.alloc (.cells (zerosB N) 5)).setRow w.heap.size ((zerosB N).toList.take 0 ++ Lib.byteCells s.data.toList ++ (zerosB N).toList.drop (0 + s.size)).toArray = V at hcp HROW HBEL
  have hlen : (s.data.toList.map UInt8.toNat ++ List.replicate (N - s.size) 0).length = N := by simp; omega
  have cV := HROW.out.cell (i := s.size) (by omega)
  have fV := HROW.out.free s.size
  have HSET := hide (HROW.out.set s.size 1)
  have HPAD := hide (show (s.data.toList.map UInt8.toNat ++ List.replicate (N - s.size) 0).set s.size 1 = padRow s N by
    unfold padRow padL
    rw [List.set_append_right _ _ (by simp), show s.size - (s.data.toList.map UInt8.toNat).length = 0 by simp, show N - s.size = (N - (s.size + 1)) + 1 by omega, List.replicate_succ, List.set_cons_zero]
    simp)
  clear hlen
  go_enter Tryz.func291, Tryz.ntmps291
  go_wp2
  go_ret
  refine ⟨rfl, ?_, HBEL.out.setCell (Nat.le_refl _) _⟩
  have h := HSET.out
  rw [HPAD.out] at h
  exact h

set_option maxRecDepth 20000 in
set_option maxHeartbeats 1000000 in
theorem padded_32 (s : ByteArray) (w : World) (hs : s.size ≤ 400) :
    Calls Tryz.prog 291 #[.string s, .int .i64 32] w fun e w' => e = .returned (.slice (some ⟨w.heap.size, 0, none⟩) ((s.size / 32 + 1) * 32) ((s.size / 32 + 1) * 32)) ∧ RowK w' w.heap.size .u8 5 (padRow s ((s.size / 32 + 1) * 32)) ∧ Below w.heap.size w w' := by
  obtain ⟨i0, hi, hz0, hz1, hz2⟩ := info_parts infoByte2
  have hmk : ∀ w : World, (Instr.makeSlice 170 (.int .i64 (((s.size : Int) / 32 + 1) * 32)) (.int .i64 (((s.size : Int) / 32 + 1) * 32))).run Tryz.prog w = .ok (.slice (some ⟨w.heap.size, 0, none⟩) ((s.size / 32 + 1) * 32) ((s.size / 32 + 1) * 32)) (w.alloc (.cells (zerosB ((s.size / 32 + 1) * 32)) 5)) := by
    intro w
    have h := run_make (P := Tryz.prog) w 170 5 i0 (.int .u8 0) Tryz.underlying170 hi hz0 .i64 .i64 (((s.size : Int) / 32 + 1) * 32) (((s.size : Int) / 32 + 1) * 32) (by omega) (by omega) (by rw [hz2]; omega) (by omega)
    rw [hz1, Nat.mul_one, made_zeros, show (((s.size : Int) / 32 + 1) * 32).toNat = (s.size / 32 + 1) * 32 by omega] at h
    exact h
  have hN : s.size < (s.size / 32 + 1) * 32 := by omega
  have hN2 : (s.size / 32 + 1) * 32 ≤ 1000 := by omega
  have hcp := Lib.run_copy_row_string (P := Tryz.prog) (w.alloc (.cells (zerosB ((s.size / 32 + 1) * 32)) 5)) 170 9 3 5 w.heap.size 0 ((s.size / 32 + 1) * 32) ((s.size / 32 + 1) * 32) s (zerosB ((s.size / 32 + 1) * 32)) 5 Tryz.underlying170 (by kernel_rfl) (heap_alloc_new _ _) (by omega) (by rw [zerosB_size]; omega)
  generalize hM : (s.size / 32 + 1) * 32 = N at hmk hN hN2 hcp ⊢
  clear hM
  have HROW := hide (show RowK ((w.alloc (.cells (zerosB N) 5)).setRow w.heap.size ((zerosB N).toList.take 0 ++ Lib.byteCells s.data.toList ++ (zerosB N).toList.drop (0 + s.size)).toArray) w.heap.size .u8 5 (s.data.toList.map UInt8.toNat ++ List.replicate (N - s.size) 0) by
    unfold RowK
    rw [setRow_heap _ _ _ _ 5 _ (heap_alloc_new _ _)]
    congr 2
    simp [zerosB, Lib.byteCells])
  have HBEL := hide (below_setRow ((Below.refl w.heap.size w).alloc (Nat.le_refl _) (.cells (zerosB N) 5)) (Nat.le_refl w.heap.size) ((zerosB N).toList.take 0 ++ Lib.byteCells s.data.toList ++ (zerosB N).toList.drop (0 + s.size)).toArray)
  generalize (w.alloc (.cells (zerosB N) 5)).setRow w.heap.size ((zerosB N).toList.take 0 ++ Lib.byteCells s.data.toList ++ (zerosB N).toList.drop (0 + s.size)).toArray = V at hcp HROW HBEL
  have hlen : (s.data.toList.map UInt8.toNat ++ List.replicate (N - s.size) 0).length = N := by simp; omega
  have cV := HROW.out.cell (i := s.size) (by omega)
  have fV := HROW.out.free s.size
  have HSET := hide (HROW.out.set s.size 1)
  have HPAD := hide (show (s.data.toList.map UInt8.toNat ++ List.replicate (N - s.size) 0).set s.size 1 = padRow s N by
    unfold padRow padL
    rw [List.set_append_right _ _ (by simp), show s.size - (s.data.toList.map UInt8.toNat).length = 0 by simp, show N - s.size = (N - (s.size + 1)) + 1 by omega, List.replicate_succ, List.set_cons_zero]
    simp)
  clear hlen
  go_enter Tryz.func291, Tryz.ntmps291
  go_wp2
  go_ret
  refine ⟨rfl, ?_, HBEL.out.setCell (Nat.le_refl _) _⟩
  have h := HSET.out
  rw [HPAD.out] at h
  exact h

end Go.Proofs.YtgaoeoijdpdjiabGreatDoor

namespace Go.Proofs.YtgaoeoijdpdjiabGreatDoor
open Go.RowKit

theorem makeU8g (k : Nat) (hk : k ≤ 1000) (w : World) : (Instr.makeSlice 170 (.int .i64 k) (.int .i64 k)).run Tryz.prog w = .ok (.slice (some ⟨w.heap.size, 0, none⟩) k k) (w.alloc (.cells ((List.replicate k 0).map (fun n => Value.int .u8 ((n : Nat) : Int))).toArray 5)) := by
  obtain ⟨i0, hi, hz0, hz1, hz2⟩ := info_parts infoU8
  have h := run_make (P := Tryz.prog) w 170 5 i0 (.int .u8 0) Tryz.underlying170 hi hz0 .i64 .i64 k k (by omega) (by omega) (by rw [hz2]; omega) (by omega)
  rw [hz1, Nat.mul_one, Int.toNat_natCast, madeU8] at h
  exact h

/-- The first n bytes, of which j are laid. -/
def someJ (s : ByteArray) (n j : Nat) : List Nat := (List.range n).map (fun i => if i < j then byt s i else 0)
def someL (s : ByteArray) (n : Nat) : List Nat := (List.range n).map (fun i => byt s i)
def someB (s : ByteArray) (n : Nat) : ByteArray := ⟨((someL s n).map UInt8.ofNat).toArray⟩
theorem someB_size (s : ByteArray) (n : Nat) : (someB s n).size = n := by simp [someB, ByteArray.size, someL]
theorem someJ_length (s : ByteArray) (n j : Nat) : (someJ s n j).length = n := by simp [someJ]
theorem someJ_zero (s : ByteArray) (n : Nat) : someJ s n 0 = List.replicate n 0 := by
  apply List.ext_getElem
  · simp [someJ]
  · intro i h1 h2; simp [someJ]
theorem someJ_step (s : ByteArray) (n j : Nat) : (someJ s n j).set j (byt s j) = someJ s n (j + 1) := by
  apply List.ext_getElem
  · simp [someJ]
  · intro i h1 h2
    rw [List.getElem_set]
    simp only [someJ, List.getElem_map, List.getElem_range]
    by_cases e : j = i
    · subst e; simp
    · rw [if_neg e]
      by_cases hi : i < j
      · rw [if_pos hi, if_pos (by omega)]
      · rw [if_neg hi, if_neg (by omega)]
theorem byt_end (s : ByteArray) (k : Nat) (h : s.size ≤ k) : byt s k = 0 := by
  unfold byt
  rw [List.getD_eq_getElem?_getD, List.getElem?_eq_none (by rw [List.length_map]; exact h)]
  rfl
theorem someJ_all (s : ByteArray) (n j : Nat) (h : n ≤ j ∨ s.size ≤ j) : someJ s n j = someL s n := by
  unfold someJ someL
  apply List.map_congr_left
  intro i hi
  have hi := List.mem_range.1 hi
  by_cases hlt : i < j
  · rw [if_pos hlt]
  · rw [if_neg hlt]
    rcases h with h | h
    · omega
    · rw [byt_end s i (by omega)]
theorem someL_lt (s : ByteArray) (n : Nat) : ∀ d ∈ someL s n, d < 256 := by
  intro d hd
  obtain ⟨i, _, rfl⟩ := List.mem_map.1 hd
  exact byt_lt s i

set_option maxRecDepth 20000 in
set_option maxHeartbeats 1000000 in
theorem someN_any (s : ByteArray) (n : Nat) (w : World) (hs : s.size ≤ maxLen) (hn : n ≤ 1000) :
    Calls Tryz.prog 49 #[.string s, .int .i64 n] w fun e w' => e = .returned (.string (someB s n)) ∧ Below w.heap.size w w' := by
  have hmk := makeU8g n hn
  unfold maxLen at hs
  go_enter Tryz.func49, Tryz.ntmps49
  go_wp2
  clear hmk
  go_loopw [6] (fun i wr => ∃ j : Nat, j ≤ n ∧ i = .int .i64 j ∧ Hid (RowK wr w.heap.size .u8 5 (someJ s n j)) ∧ Hid (Below w.heap.size w wr)) (fun i _ => n - (intOf i).toNat)
  case atStart =>
    refine ⟨0, Nat.zero_le _, rfl, ?_, (Below.refl _ _).alloc (Nat.le_refl _) _⟩
    show RowK _ _ _ _ _
    unfold RowK
    rw [heap_alloc_new, someJ_zero]
    simp
  case round =>
    obtain ⟨j, hj, rfl, hr, hb⟩ := hrel
    by_cases h1 : j < n
    · by_cases h2 : j < s.size
      · have hby : byt s j = (s[j]'h2).toNat := byt_of s j h2
        have HS := hide (someJ_step s n j)
        have hl := someJ_length s n j
        have hc := hr.out.cell (i := j) (by omega)
        have hf := hr.out.free j
        clear hl
        go_wp2
        go_roundw
        case rel =>
          refine ⟨j + 1, by omega, by go_num, ?_, hb.out.setCell (Nat.le_refl _) _⟩
          have := hr.out.set j (byt s j)
          rw [HS.out, hby] at this
          exact this
        case measure => simp [intOf]; omega
      · have HT := textRow wr w.heap.size n (someL s n) (someL_lt s n) (by rw [← someJ_all s n j (.inr (by omega))]; exact hr.out) (by simp [someL])
        go_wp2
        go_ret
        exact ⟨rfl, hb.out⟩
    · obtain rfl : j = n := by omega
      have HT := textRow wr w.heap.size j (someL s j) (someL_lt s j) (by rw [← someJ_all s j j (.inl (by omega))]; exact hr.out) (by simp [someL])
      go_wp2
      go_ret
      exact ⟨rfl, hb.out⟩
end Go.Proofs.YtgaoeoijdpdjiabGreatDoor

namespace Go.Proofs.YtgaoeoijdpdjiabGreatDoor
open Go.RowKit

theorem i64_or_nat (a b : Nat) (ha : a < 9223372036854775808) (hb : b < 9223372036854775808) : bits .or .i64 (a : Int) (b : Int) = ((a ||| b : Nat) : Int) := by
  have hx : a ||| b < 2 ^ 63 := Nat.or_lt_two_pow (by omega) (by omega)
  show IntKind.i64.wrap ((BitVec.ofInt 64 (a : Int) ||| BitVec.ofInt 64 (b : Int)).toNat : Int) = _
  rw [BitVec.toNat_or, ofInt_u64 a (by omega), ofInt_u64 b (by omega), IntKind.wrap_i64]
  omega
theorem or_byte (v c : Nat) (hv : v < 16777216) (hc : c < 256) : bits BinOp.or IntKind.i64 ((v : Int) * 256) (c : Int) = ((v * 256 + c : Nat) : Int) := by
  have h := i64_or_nat (v * 256) c (by omega) (by omega)
  have e : v * 256 ||| c = v * 256 + c := by
    have := Nat.two_pow_add_eq_or_of_lt (i := 8) hc v
    rw [Nat.mul_comm]
    exact this.symm
  rw [e] at h
  rw [Int.natCast_mul] at h
  exact h
theorem valN_small (s : ByteArray) (i j : Nat) (h : j ≤ 3) : valN s i j < 16777216 := by
  have h0 := byt_lt s (i + 0)
  have h1 := byt_lt s (i + 1)
  have h2 := byt_lt s (i + 2)
  have hc : j = 0 ∨ j = 1 ∨ j = 2 ∨ j = 3 := by omega
  rcases hc with rfl | rfl | rfl | rfl <;> simp only [valN] <;> omega

set_option maxHeartbeats 400000 in
theorem numberIn_any (t : ByteArray) (w : World) (h1 : t.size ≤ 4) (h2 : 4 ≤ t.size) :
    Calls Tryz.prog 156 #[.string t] w fun e w' => e = .returned (.int .i64 ((valN t 0 4 : Nat) : Int)) ∧ w' = w := by
  have HE : Hid (valN t 0 t.size = valN t 0 4) := by
    have e : t.size = 4 := by omega
    show _ = _
    rw [e]
  clear h2
  go_enter Tryz.func156, Tryz.ntmps156
  go_wp2
  go_loop [3, 7] (fun v i => ∃ j : Nat, j ≤ t.size ∧ i = .int .i64 j ∧ v = .int .i64 ((valN t 0 j : Nat) : Int)) (fun _ i => t.size - (intOf i).toNat)
  case atStart => exact ⟨0, by omega, rfl, rfl⟩
  case round =>
    obtain ⟨j, hj, rfl, rfl⟩ := hrel
    by_cases hlt : j < t.size
    · have hv : valN t 0 j < 16777216 := valN_small t 0 j (by omega)
      have hc := byt_lt t j
      have hby : byt t j = (t[j]'hlt).toNat := byt_of t j hlt
      have HS : Hid (valN t 0 (j + 1) = valN t 0 j * 256 + byt t j) := by show _ = _; rw [valN, Nat.zero_add]
      have HO := hide (or_byte (valN t 0 j) (byt t j) hv hc)
      generalize valN t 0 j = v at hv HS HO ⊢
      rw [hby] at HS HO hc
      have hwb : wrap64 ((t[j]'hlt).toNat : Int) = ((t[j]'hlt).toNat : Int) := IntWalk.wrap64_in _ ⟨by omega, by omega⟩
      clear hby
      go_wp2
      go_round
      case rel => exact ⟨j + 1, by omega, by go_num, by rw [HS.out, ← HO.out]⟩
      case measure => simp [intOf]; omega
    · obtain rfl : j = t.size := by omega
      go_wp2
      go_ret
      exact ⟨congrArg (fun n : Nat => Ending.returned (Value.int .i64 (n : Int))) HE.out, rfl⟩

end Go.Proofs.YtgaoeoijdpdjiabGreatDoor

namespace Go.Proofs.YtgaoeoijdpdjiabGreatDoor
open Go.RowKit

theorem setsMeasure_yes (b x e f t l : Nat) (hp : Pair b x e f) (k : Int) (w : World) (hk : k = 1 ∨ k = 2) (h1 : 1 ≤ t) (h2 : t ≤ 4) (h3 : 1 ≤ l) (h4 : l ≤ 3) :
    Calls Tryz.prog 155 #[.agg #[.int .i64 k, .int .i64 b, .int .i64 x, .int .i64 t, .int .i64 l]] w fun r w' =>
      r = .returned (.tuple #[.agg #[.int .i64 ((b * e : Nat) : Int), .int .i64 f, .int .i64 ((b * e + f : Nat) : Int), .int .i64 (totalZ t l), .int .i64 (sigZ b x t l), .int .i64 ((5 + 2 * b : Nat) : Int)], .int .i64 0]) ∧ Below w.heap.size w w' := by
  rcases hp with ⟨rfl, rfl, rfl, rfl⟩ | ⟨rfl, rfl, rfl, rfl⟩ | ⟨rfl, rfl, rfl, rfl⟩ | ⟨rfl, rfl, rfl, rfl⟩
  · exact measure_4_4 k t l w hk (by omega) (by omega) (by omega) (by omega)
  · exact measure_8_4 k t l w hk (by omega) (by omega) (by omega) (by omega)
  · exact measure_4_16 k t l w hk (by omega) (by omega) (by omega) (by omega)
  · exact measure_8_16 k t l w hk (by omega) (by omega) (by omega) (by omega)

set_option maxHeartbeats 400000 in
theorem setsMeasure_no (k b x t l : Int) (w : World) (hr : rightB k b x t l = false) :
    Calls Tryz.prog 155 #[.agg #[.int .i64 k, .int .i64 b, .int .i64 x, .int .i64 t, .int .i64 l]] w fun r w' =>
      r = .returned (.tuple #[.agg #[.int .i64 0, .int .i64 0, .int .i64 0, .int .i64 0, .int .i64 0, .int .i64 0], .int .i64 1]) ∧ Below w.heap.size w w' := by
  have HR := hideM hr
  clear hr
  go_enter Tryz.func155, Tryz.ntmps155
  go_wp2_with fail
  refine (check_any k b x t l _).mono ?_
  rintro e w1 ⟨rfl, hb⟩
  rw [HR.out]
  obtain ⟨z0, z1, z2, z3, z4, z5⟩ := six_zero hb
  have fz : ∀ o, w1.frozen? ⟨w.heap.size + 1, o, none⟩ = false := fun o => (hb.frozen (by simp)).trans (by simp [go_sem])
  have HB := hideM ((((Below.refl _ _).alloc (Nat.le_refl _) _).alloc (by simp) _).trans (hb.mono (by simp; omega)) : Below w.heap.size w w1)
  clear hb
  go_wp2
  refine bodyPost_ret (v := .tuple #[.agg #[.int .i64 0, .int .i64 0, .int .i64 0, .int .i64 0, .int .i64 0, .int .i64 0], .int .i64 1]) (by simp [results, Tryz.results155, go_sem, z0, z1, z2, z3, z4, z5]) rfl ⟨rfl, ?_⟩
  iterate 6 refine Below.setCell ?_ (show w.heap.size ≤ _ by simp) _
  exact HB.out

end Go.Proofs.YtgaoeoijdpdjiabGreatDoor

namespace Go.Proofs.YtgaoeoijdpdjiabGreatDoor
open Go.ChangeShapes Go.WideShapes Go.ChangeAt Go.RowKit
open Go.ChangeMaps (open_string shut_string)

set_option maxRecDepth 100000 in
theorem open_place64 {H : Type} {enc : TypeId × Value → H} {W : World} {base b0 : Nat} {sp : Nat → Bool} {held : Bool} {r : Reach} {v : Value} {d : DataW H} {p : List MemPlace}
    (hv : Value.okWide Tryz.prog W r b0 91 v) (h : DataW.Trod enc Tryz.prog W base sp held 91 v d p) :
    ∃ a b c e : Int, v = .agg #[.int .i64 a, .int .i64 b, .int .i64 c, .int .i64 e] ∧ Int64 a ∧ Int64 b ∧ Int64 c ∧ Int64 e := by
  obtain ⟨cs, rfl, hsz⟩ := okWide_struct Tryz.underlying91 hv
  obtain ⟨c0, c1, c2, c3, rfl⟩ := array4 (hsz.trans cellsPlace)
  obtain ⟨fuel, hf⟩ := h
  obtain ⟨xs, n, _, _, _, hlen, hfs⟩ := DataW.trod_struct Tryz.underlying91 hf
  simp at hlen
  have g0 : DataW.trod enc Tryz.prog W base sp held n 3 [c0] = xs[0]? := by simpa [Value.cells, cellsInt] using hfs 0 _ rfl
  have g1 : DataW.trod enc Tryz.prog W base sp held n 3 [c1] = xs[1]? := by simpa [Value.cells, cellsInt] using hfs 1 _ rfl
  have g2 : DataW.trod enc Tryz.prog W base sp held n 3 [c2] = xs[2]? := by simpa [Value.cells, cellsInt] using hfs 2 _ rfl
  have g3 : DataW.trod enc Tryz.prog W base sp held n 3 [c3] = xs[3]? := by simpa [Value.cells, cellsInt] using hfs 3 _ rfl
  rw [List.getElem?_eq_getElem (by omega)] at g0 g1 g2 g3
  obtain ⟨k, e0, _, w0⟩ := DataW.trod_int Tryz.underlying3 g0
  obtain ⟨b, e1, _, w1⟩ := DataW.trod_int Tryz.underlying3 g1
  obtain ⟨x, e2, _, w2⟩ := DataW.trod_int Tryz.underlying3 g2
  obtain ⟨t, e3, _, w3⟩ := DataW.trod_int Tryz.underlying3 g3
  simp at e0 e1 e2 e3
  subst e0 e1 e2 e3
  exact ⟨k, b, x, t, rfl, int64_of_wf w0, int64_of_wf w1, int64_of_wf w2, int64_of_wf w3⟩

set_option maxRecDepth 100000 in
theorem open_seedsM {H : Type} {enc : TypeId × Value → H} {W : World} {base b0 : Nat} {sp : Nat → Bool} {held : Bool} {r : Reach} {v : Value} {d : DataW H} {p : List MemPlace}
    (hv : Value.okWide Tryz.prog W r b0 42 v) (h : DataW.Trod enc Tryz.prog W base sp held 42 v d p) :
    ∃ a b c : ByteArray, v = .agg #[.string a, .string b, .string c] ∧ a.size ≤ maxLen ∧ b.size ≤ maxLen ∧ c.size ≤ maxLen := by
  obtain ⟨cs, rfl, hsz⟩ := okWide_struct Tryz.underlying42 hv
  obtain ⟨c0, c1, c2, rfl⟩ := array3 (hsz.trans cellsSeeds)
  obtain ⟨fuel, hf⟩ := h
  obtain ⟨xs, n, _, _, _, hlen, hfs⟩ := DataW.trod_struct Tryz.underlying42 hf
  simp at hlen
  have g0 : DataW.trod enc Tryz.prog W base sp held n 9 [c0] = xs[0]? := by simpa [Value.cells, cellsStr] using hfs 0 _ rfl
  have g1 : DataW.trod enc Tryz.prog W base sp held n 9 [c1] = xs[1]? := by simpa [Value.cells, cellsStr] using hfs 1 _ rfl
  have g2 : DataW.trod enc Tryz.prog W base sp held n 9 [c2] = xs[2]? := by simpa [Value.cells, cellsStr] using hfs 2 _ rfl
  rw [List.getElem?_eq_getElem (by omega)] at g0 g1 g2
  obtain ⟨k, e0, _, m0⟩ := DataW.trod_string Tryz.underlying9 g0
  obtain ⟨b, e1, _, m1⟩ := DataW.trod_string Tryz.underlying9 g1
  obtain ⟨x, e2, _, m2⟩ := DataW.trod_string Tryz.underlying9 g2
  simp at e0 e1 e2
  subst e0 e1 e2
  exact ⟨k, b, x, rfl, m0, m1, m2⟩
end Go.Proofs.YtgaoeoijdpdjiabGreatDoor

namespace Go.Proofs.YtgaoeoijdpdjiabGreatDoor

theorem blank_two : blankB = numB 4 0 ++ numB 4 0 := by decide
theorem blank_iff (s : ByteArray) (hs : s.size = 32) : s.extract 20 28 = blankB ↔ valN s 20 4 = 0 ∧ valN s 24 4 = 0 := by
  have e20 := num_val s 20 (by omega)
  have e24 := num_val s 24 (by omega)
  have l20 := valN_lt s 20
  have l24 := valN_lt s 24
  rw [← extract_cat s 20 24 28 (by omega) (by omega) (by omega), blank_two]
  change numB 4 _ = s.extract 20 24 at e20
  change numB 4 _ = s.extract 24 28 at e24
  rw [← e20, ← e24]
  constructor
  · intro h
    obtain ⟨h1, h2⟩ := app_inj h (by rw [numB_size, numB_size])
    have a := num_inj _ _ (by omega) (by omega) (by omega) (by omega) h1
    have b := num_inj _ _ (by omega) (by omega) (by omega) (by omega) h2
    exact ⟨by omega, by omega⟩
  · rintro ⟨h1, h2⟩
    rw [h1, h2]
    rfl
/-- Is the text a record's? -/
def isRec (s : ByteArray) : Bool := decide (s.size = 32 ∧ RecR (seqOf s) (boundOf s) (idOf s) ∧ sealS (seqOf s) (boundOf s) (idOf s) = s)
theorem isRec_iff (s : ByteArray) : isRec s = true ↔ s.size = 32 ∧ RecR (seqOf s) (boundOf s) (idOf s) ∧ sealS (seqOf s) (boundOf s) (idOf s) = s := by simp [isRec]
theorem isRec_seal (q b : Int) (d : ByteArray) (h : RecR q b d) : isRec (sealS q b d) = true := by
  obtain ⟨h1, h2, h3⟩ := seq_seal q b d h
  rw [isRec_iff, h1, h2, h3]
  exact ⟨sealS_size q b d h.2.2.2.2, h, rfl⟩
/-- What the text is read as. -/
def unsV (s : ByteArray) : Value := if isRec s then .tuple #[.agg #[.int .i64 (seqOf s), .int .i64 (boundOf s), .string (idOf s)], .int .i64 0] else .tuple #[.agg #[.int .i64 0, .int .i64 0, .string ⟨#[]⟩], .int .i64 6]
theorem unsV_yes {s : ByteArray} (h : isRec s = true) : unsV s = .tuple #[.agg #[.int .i64 (seqOf s), .int .i64 (boundOf s), .string (idOf s)], .int .i64 0] := by rw [unsV, if_pos h]
theorem unsV_no {s : ByteArray} (h : isRec s = false) : unsV s = .tuple #[.agg #[.int .i64 0, .int .i64 0, .string ⟨#[]⟩], .int .i64 6] := by rw [unsV, if_neg (by rw [h]; decide)]
theorem isRec_size {s : ByteArray} (h : s.size ≠ 32) : isRec s = false := by simp [isRec, h]
/-- The document's way: part by part. -/
theorem isRec_parts (s : ByteArray) (hs : s.size = 32) : isRec s = true ↔ s.extract 0 4 = markB ∧ 1 ≤ seqOf s ∧ seqOf s ≤ 2147483647 ∧ boundOf s ≤ 4096 ∧ (valN s 20 4 = 0 ∧ valN s 24 4 = 0) ∧ sumV (s.extract 0 28) = (valN s 28 4 : Nat) := by
  have h0 : 0 ≤ boundOf s := by unfold boundOf; omega
  have hd : (idOf s).size = 8 := by rw [idOf, ByteArray.size_extract]; omega
  rw [isRec_iff, again_iff s hs, blank_iff s hs]
  unfold RecR
  constructor
  · rintro ⟨_, ⟨a, b, _, c, _⟩, d, e, f⟩
    exact ⟨d, a, b, c, e, f⟩
  · rintro ⟨d, a, b, c, e, f⟩
    exact ⟨hs, ⟨a, b, h0, c, hd⟩, d, e, f⟩
theorem seq_lo (s : ByteArray) : 0 ≤ seqOf s := by unfold seqOf; omega
theorem seq_hi (s : ByteArray) : seqOf s < 4294967296 := by have := valN_lt s 4; unfold seqOf; omega
theorem bound_lo (s : ByteArray) : 0 ≤ boundOf s := by unfold boundOf; omega
theorem bound_hi (s : ByteArray) : boundOf s < 4294967296 := by have := valN_lt s 16; unfold boundOf; omega
end Go.Proofs.YtgaoeoijdpdjiabGreatDoor

namespace Go.Proofs.YtgaoeoijdpdjiabGreatDoor
open Go.RowKit

/-- Texts, one behind the other. -/
def cat : List ByteArray → ByteArray
  | [] => ⟨#[]⟩
  | x :: r => x ++ cat r
theorem append_empty (x : ByteArray) : x ++ (⟨#[]⟩ : ByteArray) = x := by apply ByteArray.ext; simp
theorem empty_append (x : ByteArray) : (⟨#[]⟩ : ByteArray) ++ x = x := by apply ByteArray.ext; simp
theorem append_three (x y z : ByteArray) : x ++ y ++ z = x ++ (y ++ z) := by apply ByteArray.ext; simp
theorem cat_bytes (xs : List ByteArray) : (cat xs).data.toList = (xs.map (·.data.toList)).flatten := by
  induction xs with
  | nil => rfl
  | cons x r ih => simp [cat, ih]
theorem cat_join (xs : List ByteArray) : (⟨(Lib.join (xs.map (·.data.toList)) (⟨#[]⟩ : ByteArray).data.toList).toArray⟩ : ByteArray) = cat xs := by
  apply ByteArray.ext
  apply Array.ext'
  rw [cat_bytes]
  simp only [Lib.join]
  generalize xs.map (·.data.toList) = l
  induction l with
  | nil => rfl
  | cons a r ih =>
    cases r with
    | nil => simp [List.intercalate]
    | cons b r => simpa [List.intercalate] using ih
theorem cat_size (xs : List ByteArray) : (cat xs).size = (xs.map (·.size)).sum := by
  induction xs with
  | nil => rfl
  | cons x r ih => simp [cat, ByteArray.size_append, ih]

theorem join_any (bk o c : Nat) (xs : List ByteArray) (w : World) (hcells : ∀ (j : Nat) x, xs[j]? = some x → w.cell? ⟨bk, o + j, none⟩ = some (.string x)) (hbk : bk < w.heap.size) (hN : xs.length ≤ 1000) (hcap : xs.length ≤ c) (hlen : (cat xs).size ≤ 100000) :
    Calls Tryz.prog 161 #[.slice (some ⟨bk, o, none⟩) xs.length c, .string ⟨#[]⟩] w fun e w' => e = .returned (.string (cat xs)) ∧ Below w.heap.size w w' := by
  have h := strings_Join bk o c xs ⟨#[]⟩ w hcells hbk (by omega) hcap (by have h := congrArg ByteArray.size (cat_join xs); simp only [ByteArray.size, List.size_toArray] at h hlen; rw [h]; omega)
  rw [cat_join] at h
  exact h
end Go.Proofs.YtgaoeoijdpdjiabGreatDoor

namespace Go.Proofs.YtgaoeoijdpdjiabGreatDoor
open Go.RowKit

/-- The key's text of a set. -/
def headS (k b x t l : Int) : ByteArray := numB 1 k ++ numB 1 b ++ numB 1 x ++ numB 1 t ++ numB 1 l

theorem byt_one (v : Int) (h0 : 0 ≤ v) (h1 : v < 256) : ((byt (numB 1 v) 0 : Nat) : Int) = v := by
  rw [byt_num 1 v 0 (by decide)]
  simp
  omega

theorem ext_mid (a r p : ByteArray) : (a ++ r ++ p).extract a.size (a.size + r.size) = r := by
  refine byt_ext _ _ ?_ ?_
  · simp only [ByteArray.size_append, ByteArray.size_extract]; omega
  · intro k hk
    simp only [ByteArray.size_append, ByteArray.size_extract] at hk
    rw [byt_part _ _ _ k (by simp only [ByteArray.size_append]; omega) (by omega), byt_left _ _ _ (by simp only [ByteArray.size_append]; omega), byt_right _ _ _ (by omega), Nat.add_sub_cancel_left]
theorem ext_end (a r p : ByteArray) : (a ++ r ++ p).extract (a.size + r.size) (a ++ r ++ p).size = p := by
  refine byt_ext _ _ ?_ ?_
  · simp only [ByteArray.size_append, ByteArray.size_extract]; omega
  · intro k hk
    simp only [ByteArray.size_append, ByteArray.size_extract] at hk
    rw [byt_part _ _ _ k (Nat.le_refl _) (by simp only [ByteArray.size_append]; omega), byt_right _ _ _ (by simp only [ByteArray.size_append]; omega)]
    congr 1
    simp only [ByteArray.size_append]
    omega
theorem headS_size (k b x t l : Int) : (headS k b x t l).size = 5 := by simp only [headS, ByteArray.size_append, numB_size]
theorem head_at (k b x t l : Int) (z : ByteArray) (h0 : 0 ≤ k ∧ k < 256) (h1 : 0 ≤ b ∧ b < 256) (h2 : 0 ≤ x ∧ x < 256) (h3 : 0 ≤ t ∧ t < 256) (h4 : 0 ≤ l ∧ l < 256) : ((byt (headS k b x t l ++ z) 0 : Nat) : Int) = k ∧ ((byt (headS k b x t l ++ z) 1 : Nat) : Int) = b ∧ ((byt (headS k b x t l ++ z) 2 : Nat) : Int) = x ∧ ((byt (headS k b x t l ++ z) 3 : Nat) : Int) = t ∧ ((byt (headS k b x t l ++ z) 4 : Nat) : Int) = l := by
  have hs := headS_size k b x t l
  refine ⟨?_, ?_, ?_, ?_, ?_⟩ <;> rw [byt_left _ _ _ (by omega), headS]
  · rw [byt_left _ _ _ (by simp only [ByteArray.size_append, numB_size]; omega), byt_left _ _ _ (by simp only [ByteArray.size_append, numB_size]; omega), byt_left _ _ _ (by simp only [ByteArray.size_append, numB_size]; omega), byt_left _ _ _ (by simp only [numB_size]; omega), byt_one k h0.1 h0.2]
  · rw [byt_left _ _ _ (by simp only [ByteArray.size_append, numB_size]; omega), byt_left _ _ _ (by simp only [ByteArray.size_append, numB_size]; omega), byt_left _ _ _ (by simp only [ByteArray.size_append, numB_size]; omega), byt_right _ _ _ (by simp only [numB_size]; omega), numB_size, byt_one b h1.1 h1.2]
  · rw [byt_left _ _ _ (by simp only [ByteArray.size_append, numB_size]; omega), byt_left _ _ _ (by simp only [ByteArray.size_append, numB_size]; omega), byt_right _ _ _ (by simp only [ByteArray.size_append, numB_size]; omega), ByteArray.size_append, numB_size, numB_size, byt_one x h2.1 h2.2]
  · rw [byt_left _ _ _ (by simp only [ByteArray.size_append, numB_size]; omega), byt_right _ _ _ (by simp only [ByteArray.size_append, numB_size]; omega), ByteArray.size_append, ByteArray.size_append, numB_size, numB_size, numB_size, byt_one t h3.1 h3.2]
  · rw [byt_right _ _ _ (by simp only [ByteArray.size_append, numB_size]; omega), ByteArray.size_append, ByteArray.size_append, ByteArray.size_append, numB_size, numB_size, numB_size, numB_size, byt_one l h4.1 h4.2]
end Go.Proofs.YtgaoeoijdpdjiabGreatDoor
