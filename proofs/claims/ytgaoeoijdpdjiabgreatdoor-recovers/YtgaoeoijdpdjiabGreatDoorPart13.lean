/-
  Sectors and writes by value: loaded, stored, built. A write to the disk. A whole number in one byte: the program's one. The bytes of words, the highest first, as a plain function. The program's text over words of 32 bits: the bytes of the first four. The bytes of a text and its padding, as a list. The program's padded: the text, a 1 and zeros, in a new row. The program's text over words of 64 bits: the bytes of the first four.
-/
import Derived.Test.YtgaoeoijdpdjiabGreatDoorPart4
import Derived.Deep.WholeRow
import Derived.Laws.Tables
import Derived.Lib.ConvBytes
import Derived.Deep.RegionLaw
import Derived.Test.YtgaoeoijdpdjiabGreatDoorPart2
import Derived.Laws.MakeOwn
import Derived.Lib.BufferWrite
import Derived.Laws.CopyOwn
namespace Go.Proofs.YtgaoeoijdpdjiabGreatDoor
open Go.RowKit
theorem list32 {l : List Value} (h : l.length = 32) : ∃ c0 c1 c2 c3 c4 c5 c6 c7 c8 c9 c10 c11 c12 c13 c14 c15 c16 c17 c18 c19 c20 c21 c22 c23 c24 c25 c26 c27 c28 c29 c30 c31, l = [c0, c1, c2, c3, c4, c5, c6, c7, c8, c9, c10, c11, c12, c13, c14, c15, c16, c17, c18, c19, c20, c21, c22, c23, c24, c25, c26, c27, c28, c29, c30, c31] := by
  match l, h with
  | [c0, c1, c2, c3, c4, c5, c6, c7, c8, c9, c10, c11, c12, c13, c14, c15, c16, c17, c18, c19, c20, c21, c22, c23, c24, c25, c26, c27, c28, c29, c30, c31], _ => exact ⟨c0, c1, c2, c3, c4, c5, c6, c7, c8, c9, c10, c11, c12, c13, c14, c15, c16, c17, c18, c19, c20, c21, c22, c23, c24, c25, c26, c27, c28, c29, c30, c31, rfl⟩
theorem sizeSec : (Tryz.prog.info? 239).map (·.size) = some 32 := by kernel_rfl
theorem sizeWri : (Tryz.prog.info? 241).map (·.size) = some 33 := by kernel_rfl
theorem cells32 {s : ByteArray} (h : s.size = 32) : (cellsB s).length = 32 := by rw [cellsB_length, h]
theorem pen33 {p : Nat × ByteArray} (h : p.2.size = 32) : (penC p).length = 33 := by rw [penC_length, h]
/-- So many cells from a place on, if they are all there. -/
def cellsAt (w : World) (b o : Nat) : Nat → Option (List Value)
  | 0 => some []
  | n + 1 => (w.cell? ⟨b, o, none⟩).bind (fun v => (cellsAt w b (o + 1) n).map (fun l => v :: l))
theorem cellsAt_range : ∀ (n : Nat) (cs : List Value) (w : World) (b o : Nat), cellsAt w b o n = some cs → cs.length = n ∧ w.rangeAt b o cs
  | 0, cs, w, b, o, h => by
    simp only [cellsAt, Option.some.injEq] at h
    subst h
    exact ⟨rfl, fun j v hv => by simp at hv⟩
  | n + 1, cs, w, b, o, h => by
    simp only [cellsAt] at h
    cases hc : w.cell? ⟨b, o, none⟩ with
    | none => simp [hc] at h
    | some v =>
      cases hr : cellsAt w b (o + 1) n with
      | none => simp [hc, hr] at h
      | some l =>
        simp only [hc, hr, Option.bind_some, Option.map_some, Option.some.injEq] at h
        subst h
        obtain ⟨h1, h2⟩ := cellsAt_range n l w b (o + 1) hr
        refine ⟨by simp [h1], ?_⟩
        intro j u hu
        cases j with
        | zero => simp at hu; subst hu; exact hc
        | succ j => rw [show o + (j + 1) = o + 1 + j by omega]; exact h2 j u (by simpa using hu)
theorem range_cellsAt : ∀ (cs : List Value) (n : Nat) (w : World) (b o : Nat), cs.length = n → w.rangeAt b o cs → cellsAt w b o n = some cs
  | [], n, w, b, o, hn, h => by subst hn; rfl
  | v :: l, n, w, b, o, hn, h => by
    subst hn
    have h0 : w.cell? ⟨b, o, none⟩ = some v := h 0 v rfl
    have hr := range_cellsAt l l.length w b (o + 1) rfl (fun j u hu => by rw [show o + 1 + j = o + (j + 1) by omega]; exact h (j + 1) u (by simpa using hu))
    simp [cellsAt, h0, hr]
def ptrCells (w : World) (n : Nat) : Value → Option (List Value)
  | .pointer (some ⟨b, o, none⟩) => cellsAt w b o n
  | _ => none
theorem ptrCells_at (w : World) (n b o : Nat) : ptrCells w n (.pointer (some ⟨b, o, none⟩)) = cellsAt w b o n := rfl
theorem ptrCells_range {w : World} {n : Nat} {v : Value} (h : (ptrCells w n v).isSome = true) : ∃ b o cs, v = .pointer (some ⟨b, o, none⟩) ∧ ptrCells w n v = some cs ∧ cs.length = n ∧ w.rangeAt b o cs := by
  obtain ⟨cs, hcs⟩ := Option.isSome_iff_exists.1 h
  match v, hcs with
  | .pointer (some ⟨b, o, none⟩), hcs =>
    obtain ⟨h1, h2⟩ := cellsAt_range n cs w b o hcs
    exact ⟨b, o, cs, rfl, hcs, h1, h2⟩
theorem wp_pre_sec {x : Operand} {d : Option Nat} {ty : TypeId} {ps : String} {af : Array Edge} {g : Option (Nat × Bool)} {a : Act} {w : World} {K : Act → World → Prop} {Q : Exit → Act → World → Prop} (h : (ptrCells w 32 (a.eval x)).isSome = true) :
    Oper.wp Tryz.prog { dst := d, op := .load 239 x, type := ty, pos := ps, after := af, guard := g } a w K Q = K (a.put d (.agg ((ptrCells w 32 (a.eval x)).getD []).toArray)) w := by
  obtain ⟨b, o, cs, hx, hcs, hl, hr⟩ := ptrCells_range h
  have hv := run_loadVar_mid (P := Tryz.prog) w b o 239 cs _ hr Tryz.underlying239 rfl (by rw [hl]; exact sizeSec)
  rw [hcs]
  unfold Oper.wp execOp
  simp only [hx, Instr.loadAt, Instr.sureAddr, Sem.run_bind, Sem.run_pure, Result.andThen_ok, hv]
  rfl
theorem wp_pre_wri {x : Operand} {d : Option Nat} {ty : TypeId} {ps : String} {af : Array Edge} {g : Option (Nat × Bool)} {a : Act} {w : World} {K : Act → World → Prop} {Q : Exit → Act → World → Prop} (h : (ptrCells w 33 (a.eval x)).isSome = true) :
    Oper.wp Tryz.prog { dst := d, op := .load 241 x, type := ty, pos := ps, after := af, guard := g } a w K Q = K (a.put d (.agg ((ptrCells w 33 (a.eval x)).getD []).toArray)) w := by
  obtain ⟨b, o, cs, hx, hcs, hl, hr⟩ := ptrCells_range h
  have hv := run_loadVar_mid (P := Tryz.prog) w b o 241 cs _ hr Tryz.underlying241 rfl (by rw [hl]; exact sizeWri)
  rw [hcs]
  unfold Oper.wp execOp
  simp only [hx, Instr.loadAt, Instr.sureAddr, Sem.run_bind, Sem.run_pure, Result.andThen_ok, hv]
  rfl
/-- A write built out of its two parts; a slice of one write. -/
def aggList : Value → List Value
  | .agg cs => cs.toList
  | _ => []
def isAggN (n : Nat) : Value → Bool
  | .agg cs => cs.size == n
  | _ => false
def isInt64 : Value → Bool
  | .int .i64 _ => true
  | _ => false
theorem aggList_at (l : List Value) : aggList (.agg l.toArray) = l := rfl
theorem isAggN_at (n : Nat) (l : List Value) : isAggN n (.agg l.toArray) = (l.length == n) := rfl
theorem isInt64_at (n : Int) : isInt64 (.int .i64 n) = true := rfl
theorem isAggN_out {n : Nat} {v : Value} (h : isAggN n v = true) : ∃ l : List Value, v = .agg l.toArray ∧ l.length = n := by
  cases v with
  | agg cs => exact ⟨cs.toList, by simp, by simpa [isAggN] using h⟩
  | _ => simp [isAggN] at h
theorem isInt64_out {v : Value} (h : isInt64 v = true) : ∃ n, v = .int .i64 n := by
  match v, h with
  | .int .i64 n, _ => exact ⟨n, rfl⟩
theorem buildWri (w : World) (n : Int) (l : List Value) (h : l.length = 32) : (Instr.build 241 #[(0, .int .i64 n), (1, .agg l.toArray)]).run Tryz.prog w = .ok (.agg (.int .i64 n :: l).toArray) w := by
  obtain ⟨c0, c1, c2, c3, c4, c5, c6, c7, c8, c9, c10, c11, c12, c13, c14, c15, c16, c17, c18, c19, c20, c21, c22, c23, c24, c25, c26, c27, c28, c29, c30, c31, rfl⟩ := list32 h
  refine run_build w 241 _ _ ?_
  first | (show _ = _; kernel_rfl) | rfl
theorem sliceWri (w : World) (l : List Value) (h : l.length = 33) : (Instr.buildSlice 180 1 #[(0, .agg l.toArray)]).run Tryz.prog w = .ok (.slice (some ⟨w.heap.size, 0, none⟩) 1 1) (w.alloc (.cells l.toArray 241)) := by
  cases l with
  | nil => simp at h
  | cons z l =>
    obtain ⟨c0, c1, c2, c3, c4, c5, c6, c7, c8, c9, c10, c11, c12, c13, c14, c15, c16, c17, c18, c19, c20, c21, c22, c23, c24, c25, c26, c27, c28, c29, c30, c31, rfl⟩ := list32 (l := l) (by simpa using h)
    first | (show _ = _; kernel_rfl) | rfl
theorem wp_pre_build {x y : Operand} {d : Option Nat} {ty : TypeId} {ps : String} {af : Array Edge} {g : Option (Nat × Bool)} {a : Act} {w : World} {K : Act → World → Prop} {Q : Exit → Act → World → Prop} (hx : isInt64 (a.eval x) = true) (hy : isAggN 32 (a.eval y) = true) :
    Oper.wp Tryz.prog { dst := d, op := .build 241 #[(0, x), (1, y)], type := ty, pos := ps, after := af, guard := g } a w K Q = K (a.put d (.agg (a.eval x :: aggList (a.eval y)).toArray)) w := by
  obtain ⟨n, hn⟩ := isInt64_out hx
  obtain ⟨l, hl, hl2⟩ := isAggN_out hy
  have hb := buildWri w n l hl2
  rw [hn, hl, aggList_at]
  unfold Oper.wp execOp
  simp only [List.map_toArray, List.map_cons, List.map_nil, hn, hl, Sem.run_bind, Sem.run_pure, Result.andThen_ok, hb]
  rfl
theorem wp_pre_slice {x : Operand} {d : Option Nat} {ty : TypeId} {ps : String} {af : Array Edge} {g : Option (Nat × Bool)} {a : Act} {w : World} {K : Act → World → Prop} {Q : Exit → Act → World → Prop} (hy : isAggN 33 (a.eval x) = true) :
    Oper.wp Tryz.prog { dst := d, op := .buildSlice 180 1 #[(0, x)], type := ty, pos := ps, after := af, guard := g } a w K Q = K (a.put d (.slice (some ⟨w.heap.size, 0, none⟩) 1 1)) (w.alloc (.cells (aggList (a.eval x)).toArray 241)) := by
  obtain ⟨l, hl, hl2⟩ := isAggN_out hy
  have hb := sliceWri w l hl2
  rw [hl, aggList_at]
  unfold Oper.wp execOp
  simp only [List.map_toArray, List.map_cons, List.map_nil, hl, Sem.run_bind, Sem.run_pure, Result.andThen_ok, hb]
  rfl
end Go.Proofs.YtgaoeoijdpdjiabGreatDoor

namespace Go.Proofs.YtgaoeoijdpdjiabGreatDoor
open Go.RowKit
attribute [local go_sem ↓] wp_pre_sec wp_pre_wri wp_pre_build wp_pre_slice Go.wp_at_zero Go.wp_at_succ
attribute [local go_sem] ptrCells_at aggList_at isInt64_at
/-- A text's bytes in a new row. -/
theorem bytesK (t : ByteArray) (w : World) : ∃ cap V, (convert 9 170 (.string t)).run Tryz.prog w = .ok (.slice (some ⟨w.heap.size, 0, none⟩) t.size cap) V ∧ Below w.heap.size w V ∧ V.heap.size = w.heap.size + 1 ∧ V.rangeAt w.heap.size 0 (cellsB t) := by
  refine ⟨grownCap w t.size 0 5, Lib.bytesWorld w 5 t, Lib.run_convert_string_bytes w 9 170 5 t Tryz.underlying9 Tryz.underlying170 Tryz.underlying5, ?_, Lib.bytesWorld_size _ _ _, ?_⟩
  · exact ⟨rfl, rfl, rfl, by rw [Lib.bytesWorld_size]; omega, fun k hk => Lib.bytesWorld_at_old w _ t k hk⟩
  · intro j v hv
    have hj : j < t.size := by rw [← cellsB_length]; exact (List.getElem?_eq_some_iff.1 hv).1
    have h : j < t.data.toList.length := hj
    rw [Nat.zero_add, Lib.bytesWorld_cell w _ t j hj, List.getD_eq_getElem?_getD, List.getElem?_eq_getElem h]
    rw [cellsB, List.getElem?_map, List.getElem?_eq_getElem h] at hv
    exact hv
theorem arrayAt32 (W : World) (B cap : Nat) : (Instr.arrayAt 239 (.slice (some ⟨B, 0, none⟩) 32 cap)).run Tryz.prog W = .ok (.pointer (some ⟨B, 0, none⟩)) W := by kernel_rfl
theorem infoWri : (Tryz.prog.info? 241).map (fun i => (i.zero, i.size, i.bytes)) = some (some (.agg (.int .i64 0 :: List.replicate 32 (Value.int .u8 0)).toArray), 33, 40) := by kernel_rfl
theorem pends_snoc (l : List (Nat × ByteArray)) (p : Nat × ByteArray) : pends l ++ penC p = pends (l ++ [p]) := by simp [pends]
/-- What a write answers, and what it makes. -/
def wrAns (s : DSt) (i : Int) (t : ByteArray) : Int := if ¬ (0 ≤ i ∧ i < s.n) then 4 else if t.size ≠ 32 then 2 else if s.trouble = 1 ∨ s.pend.length = 16 then 5 else 0
def wrSt (s : DSt) (i : Int) (t : ByteArray) : DSt := if ¬ (0 ≤ i ∧ i < s.n) then s else if t.size ≠ 32 then s else if s.trouble = 1 ∨ s.pend.length = 16 then { s with trouble := tick s.trouble } else { s with trouble := tick s.trouble, pend := s.pend ++ [(i.toNat, t)], writes := s.writes + 1 }
theorem write_sec (lo D E : Nat) (pv : Value) (s : DSt) (i : Int) (t : ByteArray) (w : World) (h : DAt lo D E pv s w) (hi : ¬ (0 ≤ i ∧ i < s.n)) :
    Calls Tryz.prog 104 #[.pointer (some ⟨D, 0, none⟩), .int .i64 i, .string t] w fun e w' => e = .returned (.int .i64 4) ∧ w' = w := by
  have HH := hideK (dhas_any lo D E pv s i w h)
  rw [decide_eq_false hi] at HH
  clear h hi
  go_enter Tryz.func104, Tryz.ntmps104
  go_wp2_with fail
  refine HH.out.mono ?_
  rintro e w1 ⟨rfl, rfl⟩
  go_wp2
  go_ret
  exact ⟨rfl, rfl⟩
theorem write_arg (lo D E : Nat) (pv : Value) (s : DSt) (i : Int) (t : ByteArray) (w : World) (h : DAt lo D E pv s w) (hi : 0 ≤ i ∧ i < s.n) (ht : t.size ≠ 32) :
    Calls Tryz.prog 104 #[.pointer (some ⟨D, 0, none⟩), .int .i64 i, .string t] w fun e w' => e = .returned (.int .i64 2) ∧ w' = w := by
  have HH := hideK (dhas_any lo D E pv s i w h)
  rw [decide_eq_true hi] at HH
  have hd : (((t.size : Nat) : Int) == 32) = false := by simp; omega
  have hd2 : (((t.size : Nat) : Int) != 32) = true := by simp; omega
  clear h hi ht
  go_enter Tryz.func104, Tryz.ntmps104
  go_wp2_with fail
  refine HH.out.mono ?_
  rintro e w1 ⟨rfl, rfl⟩
  go_wp2
  go_ret
  exact ⟨rfl, rfl⟩
theorem write_dsk (lo D E : Nat) (pv : Value) (s : DSt) (i : Int) (t : ByteArray) (w : World) (h : DAt lo D E pv s w) (hi : 0 ≤ i ∧ i < s.n) (ht : t.size = 32) (hf : s.trouble = 1 ∨ s.pend.length = 16) :
    Calls Tryz.prog 104 #[.pointer (some ⟨D, 0, none⟩), .int .i64 i, .string t] w fun e w' => e = .returned (.int .i64 5) ∧ DAt lo D E pv { s with trouble := tick s.trouble } w' ∧ Kept (fun k => k = D) w w' := by
  have HH := hideK (dhas_any lo D E pv s i w h)
  rw [decide_eq_true hi] at HH
  have HF := hideK (fails_any lo D E pv s w h)
  have hd : (((t.size : Nat) : Int) == 32) = true := by rw [ht]; rfl
  have hd2 : (((t.size : Nat) : Int) != 32) = false := by rw [ht]; rfl
  obtain ⟨a, c, rfl⟩ := owns_len h.pending
  have hm := h.ok.most
  clear h hi ht
  by_cases h1 : s.trouble = 1
  · rw [decide_eq_true h1] at HF
    clear hf h1
    go_enter Tryz.func104, Tryz.ntmps104
    go_wp2_with fail
    refine HH.out.mono ?_
    rintro e w1 ⟨rfl, rfl⟩
    go_wp2_with fail
    refine HF.out.mono ?_
    rintro e w2 ⟨rfl, hd2, hk2⟩
    have HD2 := hideK hd2
    have HK2 := hideK hk2
    clear hd2 hk2
    go_wp2
    go_ret
    exact ⟨rfl, HD2.out, HK2.out⟩
  · have h2 : s.pend.length = 16 := by rcases hf with h | h <;> first | exact absurd h h1 | exact h
    have hl : (((s.pend.length : Nat) : Int) == 16) = true := by rw [h2]; rfl
    rw [decide_eq_false h1] at HF
    clear hf h1 h2
    go_enter Tryz.func104, Tryz.ntmps104
    go_wp2_with fail
    refine HH.out.mono ?_
    rintro e w1 ⟨rfl, rfl⟩
    go_wp2_with fail
    refine HF.out.mono ?_
    rintro e w2 ⟨rfl, hd2, hk2⟩
    have c1 := hd2.c1
    have HD2 := hideK hd2
    have HK2 := hideK hk2
    clear hd2 hk2
    go_wp2
    go_ret
    exact ⟨rfl, HD2.out, HK2.out⟩
theorem DAt.appended {lo D E g cap H : Nat} {pv : Value} {s : DSt} {V w3 : World} {o : Obj} {i : Nat} {t : ByteArray} (h : DAt lo D E pv s V) (hown : w3.ownsRow lo 241 33 (.slice (some ⟨g, 0, none⟩) (s.pend.length + 1) cap) (s.pend.length + 1) (pends s.pend ++ penC (i, t))) (hgrow : (V.alloc o).grownBy w3 pv.ownBlock) (hat : pv.ownBlock = some g ∨ g = H) (hH : (V.alloc o).heap.size = H) (hi : i < s.n) (ht : t.size = 32) (hm : s.pend.length < 16) :
    DAt lo D E (.slice (some ⟨g, 0, none⟩) (s.pend.length + 1) cap) { s with pend := s.pend ++ [(i, t)] } (w3.setCell ⟨D, 1, none⟩ (.slice (some ⟨g, 0, none⟩) (s.pend.length + 1) cap)) := by
  have hD := h.ltD
  have hE := h.ltE
  have hz : (V.alloc o).heap.size = V.heap.size + 1 := World.size_alloc _ _
  have gD : g ≠ D := by
    rcases hat with e | e
    · intro e2; subst e2; exact h.pd e
    · omega
  have gE : g ≠ E := by
    rcases hat with e | e
    · intro e2; subst e2; exact h.pe e
    · omega
  have bD : w3.heap[D]? = V.heap[D]? := (hgrow.block D (by omega) (fun e => h.pd e.symm)).trans (heap_alloc_old V o hD)
  have bE : w3.heap[E]? = V.heap[E]? := (hgrow.block E (by omega) (fun e => h.pe e.symm)).trans (heap_alloc_old V o hE)
  refine ⟨?_, ?_, ?_, ⟨h.ok.len, h.ok.sec, ?_, h.ok.lo, h.ok.hi, by simp; omega, h.ok.tr, h.ok.tr2⟩, h.de, by simpa [Value.ownBlock] using gD, by simpa [Value.ownBlock] using gE, h.loD, h.loE⟩
  · have := block_setCell (o := 1) (bD.trans h.disk) (.slice (some ⟨g, 0, none⟩) (s.pend.length + 1) cap)
    exact this
  · rw [(kept_set w3 ⟨D, 1, none⟩ _).block E (Nat.lt_of_lt_of_le (by omega) hgrow.size) (fun e => h.de e.symm)]
    exact bE.trans h.durable
  · have := owns_kept hown (kept_set w3 ⟨D, 1, none⟩ (.slice (some ⟨g, 0, none⟩) (s.pend.length + 1) cap)) (fun k e hk => by
      have e' : g = k := by simpa [Value.ownBlock] using e
      exact gD (e'.trans hk))
    rw [pends_snoc] at this
    simpa using this
  · intro p hp
    rcases List.mem_append.1 hp with hp | hp
    · exact h.ok.pen p hp
    · rw [List.mem_singleton.1 hp]; exact ⟨hi, ht⟩
set_option maxRecDepth 20000 in
set_option maxHeartbeats 2000000 in
theorem write_ok (lo D E : Nat) (pv : Value) (s : DSt) (i : Nat) (t : ByteArray) (w : World) (h : DAt lo D E pv s w) (hlo : lo ≤ w.heap.size) (hi : i < s.n) (ht : t.size = 32) (h1 : s.trouble ≠ 1) (h2 : s.pend.length ≠ 16) (hw : 0 ≤ s.writes) (hw2 : s.writes < 9223372036854775807) :
    Calls Tryz.prog 104 #[.pointer (some ⟨D, 0, none⟩), .int .i64 i, .string t] w fun e w' => e = .returned (.int .i64 0) ∧ ∃ pv', DAt lo D E pv' { s with trouble := tick s.trouble, pend := s.pend ++ [(i, t)], writes := s.writes + 1 } w' ∧ Kept (DFoot D E pv) w w' ∧ (∀ k, pv'.ownBlock = some k → pv.ownBlock = some k ∨ w.heap.size ≤ k) := by
  have HH := hideK (dhas_any lo D E pv s i w h)
  rw [decide_eq_true (show 0 ≤ (i : Int) ∧ (i : Int) < s.n by omega)] at HH
  have HF := hideK (fails_any lo D E pv s w h)
  rw [decide_eq_false h1] at HF
  have hd : (((t.size : Nat) : Int) == 32) = true := by rw [ht]; rfl
  have hd2 : (((t.size : Nat) : Int) != 32) = false := by rw [ht]; rfl
  obtain ⟨a, c, hpv⟩ := owns_len h.pending
  have hm := h.ok.most
  have hl : (((s.pend.length : Nat) : Int) == 16) = false := by rw [beq_eq_false_iff_ne]; omega
  obtain ⟨i0, hi0, hz0, hz1, hz2⟩ := info_parts infoWri
  have HT := hideK ht
  have HM16 := hideK (show s.pend.length < 16 by omega)
  have HI := hideK hi
  have HLO := hideK hlo
  have HZ := hideK h.ltD
  subst hpv
  clear h hi ht h1 h2 hlo
  go_enter Tryz.func104, Tryz.ntmps104
  go_wp2_with fail
  refine HH.out.mono ?_
  rintro e w1 ⟨rfl, rfl⟩
  go_wp2_with fail
  refine HF.out.mono ?_
  rintro e w2 ⟨rfl, hd2', hk2⟩
  have c1 := hd2'.c1
  have HD2 := hideK hd2'
  have HK2 := hideK hk2
  clear hd2' hk2 HF HH
  go_wp2_with fail
  obtain ⟨cap, V, hcv, hbV, hzV, hrV⟩ := bytesK t w2.drew
  rw [HT.out] at hcv
  change (convert _ _ _).run _ _ = Result.ok (Value.slice (some ⟨w2.heap.size, 0, none⟩) 32 cap) V at hcv
  have hag : isAggN 32 (Value.agg (cellsB t).toArray) = true := by rw [isAggN_at, cells32 HT.out]; rfl
  have hag3 : isAggN 33 (Value.agg (Value.int .i64 ((i : Nat) : Int) :: cellsB t).toArray) = true := by rw [isAggN_at, List.length_cons, cells32 HT.out]; rfl
  have hld := range_cellsAt (cellsB t) 32 V w2.heap.size 0 (cells32 HT.out) hrV
  have d1 : V.cell? ⟨D, 1, none⟩ = some (.slice a s.pend.length c) := (HD2.out.drew.below hbV).c1
  have HDV := hideK (HD2.out.drew.below hbV)
  have hst : ∀ o, (V.alloc o).cell? ⟨D, 1, none⟩ = V.cell? ⟨D, 1, none⟩ := fun o => by have := HDV.out.ltD; simp [go_sem, this]
  have har := fun W : World => arrayAt32 W w2.heap.size cap
  have hzV' : V.heap.size = w2.heap.size + 1 := hzV
  have HPD := hideK (Ne.symm HDV.out.pd)
  have HLD := hideK HDV.out.ltD
  have HFD := hideK (HDV.out.free 1)
  have HLV := hideK (show lo ≤ V.heap.size by have h1 := HLO.out; have h2 := HK2.out.size; rw [hzV']; omega)
  clear hrV hzV
  have HNW : Hid (∀ j u, (penC (i, t))[j]? = some u → (V.alloc (.cells (Value.int .i64 ((i : Nat) : Int) :: cellsB t).toArray 241)).cell? ((⟨w2.heap.size + 1, 0, none⟩ : Addr).add j) = some u) := by
    show ∀ j u, _ → _
    rw [← hzV']
    exact World.news_of_block (heap_alloc_new V _)
  have HL33 := hideK (pen33 (p := (i, t)) HT.out)
  have N1 : Hid (s.pend.length + 1 ≤ maxLen) := by show _ ≤ _; unfold maxLen; omega
  have N2 : Hid ((s.pend.length + 1) * 40 ≤ 140737488355328) := by show _ ≤ _; omega
  have N3 : Hid (∀ o, lo ≤ (V.alloc o).heap.size) := fun o => by have h := HLV.out; rw [World.size_alloc]; omega
  have N4 : Hid (∀ o, (V.alloc o).heap.size = w2.heap.size + 1 + 1) := fun o => by rw [World.size_alloc, hzV']
  have N5 : Hid (∀ o, D < (V.alloc o).heap.size) := fun o => by have h := HLD.out; rw [World.size_alloc]; omega
  have N6 : Hid (∀ o, (V.alloc o).frozen? ⟨D, 1, none⟩ = false) := fun o => (World.frozen?_alloc_past _ _ _ HLD.out).trans HFD.out
  have N7 : Hid (∀ o, (V.alloc o).cell? ⟨D, 1, none⟩ = some (.slice a s.pend.length c)) := fun o => (hst o).trans d1
  have N8 : Hid (∀ u ∈ penC (i, t), u.oneCell' = true) := penC_one _
  have N9 : Hid ((Value.agg (.int .i64 0 :: List.replicate 32 (Value.int .u8 0)).toArray).cells.size = 33) := rfl
  have N10 : Hid (∀ o, (V.alloc o).ownsRow lo 241 33 (.slice a s.pend.length c) s.pend.length (pends s.pend)) := fun o => HDV.out.pending.alloc o
  go_region_law ((refine step_append_lies _ (by rfl) (.tmp 28) (.tmp 35) 180 (by rfl) lo 241 i0 (.agg (.int .i64 0 :: List.replicate 32 (Value.int .u8 0)).toArray) 33 40 Tryz.underlying180 hi0 hz0 hz1 hz2 N9.out (by decide) (.slice a s.pend.length c) s.pend.length (pends s.pend) (by rfl) (N10.out _) ⟨w2.heap.size + 1, 0, none⟩ 1 1 (penC (i, t)) (by rfl) HL33.out HNW.out N8.out (by decide) N1.out N2.out (N3.out _) (w2.heap.size + 1 + 1) (N4.out _) ?_; intro g cap' w3 hown hgrow hat hlt; have e1 : w3.cell? ⟨D, 1, none⟩ = some (.slice a s.pend.length c) := (hgrow.cell_far ⟨D, 1, none⟩ (N5.out _) HPD.out).trans (N7.out _); have e2 : w3.frozen? ⟨D, 1, none⟩ = false := (hgrow.frozen_far ⟨D, 1, none⟩ (N5.out _) HPD.out).trans (N6.out _)))
  all_goals
    have hX := HDV.out.appended (i := i) (t := t) hown hgrow hat (N4.out _) HI.out HT.out HM16.out
    have hKX : Kept (DFoot D E (.slice a s.pend.length c)) w1 (w3.setCell ⟨D, 1, none⟩ (.slice (some ⟨g, 0, none⟩) (s.pend.length + 1) cap')) := by
      refine Kept.setCell ?_ (.inl (.inl rfl)) _
      refine Kept.grown (w := V.alloc _) ?_ hgrow (fun k e => .inl (.inr (.inr e)))
      exact ((HK2.out.mono (fun k _ e => .inl e)).drew.after hbV).alloc _
    have hOX : ∀ k, (Value.slice (some ⟨g, 0, none⟩) (s.pend.length + 1) cap').ownBlock = some k → (Value.slice a s.pend.length c).ownBlock = some k ∨ w1.heap.size ≤ k := by
      intro k e
      have e' : g = k := by simpa [Value.ownBlock] using e
      subst e'
      rcases hat with e | e
      · exact .inl e
      · have := HK2.out.size; exact .inr (by omega)
    have HX := hideK hX
    have HKX := hideK hKX
    have HOX := hideK hOX
    have x2 := hX.c2
    have xf := hX.free 2
    clear hX hKX hOX hown hgrow hat hlt e1 e2
    generalize World.setCell w3 { block := D, off := 1 } _ = W4 at *
    go_wp2
    go_ret
    exact ⟨rfl, _, HX.out.setWrites _, HKX.out.setCell (.inl (.inl rfl)) _, HOX.out⟩
end Go.Proofs.YtgaoeoijdpdjiabGreatDoor

namespace Go.Proofs.YtgaoeoijdpdjiabGreatDoor
open Go.RowKit
theorem one_any (v : Int) (w : World) :
    Calls Tryz.prog 312 #[.int .i64 v] w fun e w' => e = .returned (.string (numB 1 v)) ∧ Below w.heap.size w w' := by
  have HN := hide (number_any 1 v w (by decide))
  go_enter Tryz.func312, Tryz.ntmps312
  go_wp2_with fail
  refine HN.out.mono ?_
  rintro e w1 ⟨rfl, hb⟩
  go_wp2
  go_ret
  exact ⟨rfl, hb⟩
end Go.Proofs.YtgaoeoijdpdjiabGreatDoor

namespace Go.Proofs.YtgaoeoijdpdjiabGreatDoor
open Go.RowKit
/-- The i-th byte of words of n bytes each. -/
def outB (n : Nat) (L : List Nat) (i : Nat) : Nat := at0 L (i / n) / 2 ^ (8 * (n - 1 - i % n)) % 256
def outs (n : Nat) (L : List Nat) (m : Nat) : List Nat := (List.range m).map (outB n L)
theorem outs_length (n : Nat) (L : List Nat) (m : Nat) : (outs n L m).length = m := by simp [outs]
theorem outs_succ (n : Nat) (L : List Nat) (m : Nat) : outs n L (m + 1) = outs n L m ++ [outB n L m] := by simp [outs, List.range_succ]
theorem outB_lt (n : Nat) (L : List Nat) (i : Nat) : outB n L i < 256 := Nat.mod_lt _ (by decide)
/-- The cells of a list of bytes. -/
def cells8 (D : List Nat) : List Value := D.map (fun d => Value.int .u8 ((d : Nat) : Int))
theorem cells8_snoc (D : List Nat) (d : Nat) : cells8 (D ++ [d]) = cells8 D ++ [.int .u8 ((d : Nat) : Int)] := by simp [cells8]
theorem infoByte : (Tryz.prog.info? 5).map (fun i => (i.zero, i.size, i.bytes)) = some (some (.int .u8 0), 1, 1) := by kernel_rfl
theorem owns_lt {w : World} {base : Nat} {e : TypeId} {s : Nat} {v : Value} {n : Nat} {xs : List Value} (h : w.ownsRow base e s v n xs) : ∀ k, v.ownBlock = some k → base ≤ k ∧ k < w.heap.size := by
  intro k hk
  rcases h.2 with ⟨rfl, _⟩ | ⟨g, cap, cur, rfl, hg, hh, _⟩
  · simp [Value.ownBlock] at hk
  · simp only [Value.ownBlock, Option.some.injEq] at hk
    subst hk
    exact ⟨hg, lt_of_block hh⟩
theorem one_new (w : World) (v : Value) (t : TypeId) : ∀ j u, [v][j]? = some u → (w.alloc (.cells #[v] t)).cell? ((Addr.mk w.heap.size 0 none).add j) = some u := by
  intro j u hj
  match j, hj with
  | 0, hj => simp at hj; subst hj; simp [Addr.add]
theorem owns_some {w : World} {base : Nat} {e : TypeId} {s : Nat} {v : Value} {n : Nat} {xs : List Value} (h : w.ownsRow base e s v n xs) (hn : 0 < n) : ∃ g cap, v = .slice (some ⟨g, 0, none⟩) n cap := by
  rcases h.2 with ⟨rfl, rfl⟩ | ⟨g, cap, cur, rfl, _⟩
  · omega
  · exact ⟨g, cap, rfl⟩
/-- The text of a list of bytes. -/
def textOf (D : List Nat) : ByteArray := ⟨(D.map UInt8.ofNat).toArray⟩
theorem textOf_size (D : List Nat) : (textOf D).size = D.length := by simp [textOf, ByteArray.size]
theorem run_text (w : World) (base : Nat) (v : Value) (D : List Nat) (hD : ∀ d ∈ D, d < 256) (h : w.ownsRow base 5 1 v D.length (cells8 D)) (h0 : 0 < D.length) :
    (convert 170 9 v).run Tryz.prog w = .ok (.string (textOf D)) w := by
  obtain ⟨g, cap, rfl⟩ := owns_some h h0
  have hl : (D.map UInt8.ofNat).length = D.length := by simp
  have hc := run_convert_bytes_back (P := Tryz.prog) w 170 9 5 ⟨g, 0, none⟩ cap (D.map UInt8.ofNat) Tryz.underlying170 Tryz.underlying5 Tryz.underlying9 (by
    intro j hj
    have hj' : j < D.length := by simpa using hj
    have hadd : (Addr.mk g 0 none).add j = ⟨g, j, none⟩ := by unfold Addr.add; split <;> simp_all
    rw [hadd]
    rcases h.2 with ⟨h, _⟩ | ⟨g', cap', cur, h, _, hh, _, _, _, ht⟩
    · cases h
    · simp only [Value.slice.injEq, Option.some.injEq, Addr.mk.injEq, and_true, true_and] at h
      obtain ⟨rfl, rfl⟩ := h
      have h1 : (cur.toList.take (D.length * 1))[j]? = (cells8 D)[j]? := by rw [ht]
      rw [List.getElem?_take_of_lt (by omega)] at h1
      simp only [World.cell?, hh]
      have hd := hD D[j] (List.getElem_mem hj')
      simpa [cells8, hj', Nat.mod_eq_of_lt hd] using h1)
  rw [hl] at hc
  exact hc
end Go.Proofs.YtgaoeoijdpdjiabGreatDoor

namespace Go.Proofs.YtgaoeoijdpdjiabGreatDoor
open Go.RowKit
set_option maxHeartbeats 2000000 in
theorem text_32 (g : Nat) (L : List Nat) (w : World) (hr : RowK w g .u32 358 L) (hL : L.length = 8) (hW : Words 32 L) :
    Calls Tryz.prog 294 #[.pointer (some ⟨g, 0, none⟩)] w fun e w' => e = .returned (.string (textOf (outs 4 L 16))) ∧ Below w.heap.size w w' := by
  have hmk : ∀ w : World, (Instr.makeSlice 170 (.int .i64 0) (.int .i64 16)).run Tryz.prog w = .ok (.slice (some ⟨w.heap.size, 0, none⟩) 0 16) (w.alloc (.cells #[.int .u8 0, .int .u8 0, .int .u8 0, .int .u8 0, .int .u8 0, .int .u8 0, .int .u8 0, .int .u8 0, .int .u8 0, .int .u8 0, .int .u8 0, .int .u8 0, .int .u8 0, .int .u8 0, .int .u8 0, .int .u8 0] 5)) := fun _ => by kernel_rfl
  have HR := hide hr
  have HL := hide hL
  have HW := hide hW
  clear hr hL hW
  obtain ⟨i0, hi, hz0, hz1, hz2⟩ := info_parts infoByte
  go_enter Tryz.func294, Tryz.ntmps294
  go_wp2_with fail
  refine (size_32 _).mono ?_
  rintro e w1 ⟨rfl, rfl⟩
  go_wp2
  have HO0 := hide (show (w1.alloc (.cells #[.int .u8 0, .int .u8 0, .int .u8 0, .int .u8 0, .int .u8 0, .int .u8 0, .int .u8 0, .int .u8 0, .int .u8 0, .int .u8 0, .int .u8 0, .int .u8 0, .int .u8 0, .int .u8 0, .int .u8 0, .int .u8 0] 5)).ownsRow w1.heap.size 5 1 (.slice (some ⟨w1.heap.size, 0, none⟩) 0 16) 0 [] from ⟨rfl, Or.inr ⟨w1.heap.size, 16, _, rfl, Nat.le_refl _, heap_alloc_new _ _, by omega, by unfold maxLen; omega, rfl, rfl⟩⟩)
  have HB0 := hide ((Below.refl w1.heap.size w1).alloc (Nat.le_refl _) (.cells #[.int .u8 0, .int .u8 0, .int .u8 0, .int .u8 0, .int .u8 0, .int .u8 0, .int .u8 0, .int .u8 0, .int .u8 0, .int .u8 0, .int .u8 0, .int .u8 0, .int .u8 0, .int .u8 0, .int .u8 0, .int .u8 0] 5))
  go_loopw [4, 11] (fun v i wr => ∃ a : Nat, a ≤ 4 ∧ i = .int .i64 a ∧ Hid (wr.ownsRow w1.heap.size 5 1 v (a * 4) (cells8 (outs 4 L (a * 4)))) ∧ Hid (Below w1.heap.size w1 wr)) (fun _ i _ => 4 - (intOf i).toNat)
  case atStart => exact ⟨0, by omega, rfl, HO0, HB0⟩
  case round =>
    obtain ⟨a, ha, rfl, ho, hb⟩ := hrel
    by_cases hlt : a < 4
    · obtain ⟨wo, rfl⟩ : ∃ wo : World, wo = wr := ⟨_, rfl⟩
      have hda : decide ((a : Int) < 4) = true := by simp; omega
      go_wp2
      go_loopw [4, 6] (fun v i wr => ∃ q : Nat, q ≤ 4 ∧ i = .int .i64 ((q : Int) - 1) ∧ Hid (wr.ownsRow w1.heap.size 5 1 v (a * 4 + (4 - q)) (cells8 (outs 4 L (a * 4 + (4 - q))))) ∧ Hid (Below w1.heap.size w1 wr)) (fun _ i _ => (intOf i + 1).toNat)
      case atStart => exact ⟨4, by omega, by simp, by simpa using ho, hb⟩
      case round =>
        obtain ⟨q, hq, rfl, ho, hb⟩ := hrel
        by_cases hq0 : 0 < q
        · obtain ⟨q, rfl⟩ : ∃ p, q = p + 1 := ⟨q - 1, by omega⟩
          have c := (HR.out.below hb.out HR.out.lt).cell (i := a) (by have := HL.out; omega)
          have HX := hide (HW.out.at a)
          have HOB : Hid (outB 4 L (a * 4 + (4 - (q + 1))) = at0 L a / 2 ^ (8 * q) % 256) := by
            show outB 4 L (a * 4 + (4 - (q + 1))) = _
            unfold outB
            rw [show (a * 4 + (4 - (q + 1))) / 4 = a by omega, show 4 - 1 - (a * 4 + (4 - (q + 1))) % 4 = q by omega]
          have HSU := hide (outs_succ 4 L (a * 4 + (4 - (q + 1))))
          generalize at0 L a = u at c HX HOB
          go_wp2_with (at_builtin; refine wpList_append_own _ rfl _ _ 170 rfl w1.heap.size 5 i0 (.int .u8 0) 1 1 Tryz.underlying170 hi hz0 hz1 hz2 rfl (by decide) _ _ _ rfl (ho.out.alloc _) ⟨wr.heap.size, 0, none⟩ 1 1 [_] rfl rfl (one_new _ _ _) ?c2 ?c3 ?c4 ?c5 ?_)
          case c2 => intro y hy; simp at hy; subst hy; rfl
          case c3 => unfold maxLen; omega
          case c4 => omega
          case c5 => have := hb.out.size; simp; omega
          intro v' w3 ho3 hgrow _
          have HB3 := hide ((hb.out.alloc hb.out.size _).grown hgrow (by have := hb.out.size; simp; omega) (fun p hp => (owns_lt ho.out p hp).1))
          have HO3 := hide ho3
          clear ho3 hgrow
          go_wp2
          go_roundw
          case rel =>
            have hcs : cells8 (outs 4 L (a * 4 + (4 - q))) = cells8 (outs 4 L (a * 4 + (4 - (q + 1)))) ++ [.int .u8 ((u : Int) / 2 ^ (8 * q) % 256)] := by
              rw [show a * 4 + (4 - q) = a * 4 + (4 - (q + 1)) + 1 by omega, HSU.out, cells8_snoc, HOB.out, Int.natCast_emod, Int.natCast_ediv, Int.natCast_pow]
              rfl
            have R : ∃ p : Nat, p ≤ 4 ∧ Value.int .i64 ((q : Int) - 1) = .int .i64 ((p : Int) - 1) ∧ Hid (w3.ownsRow w1.heap.size 5 1 v' (a * 4 + (4 - p)) (cells8 (outs 4 L (a * 4 + (4 - p))))) ∧ Hid (Below w1.heap.size w1 w3) :=
              ⟨q, by omega, rfl, by rw [hcs]; have h := HO3.out; rw [show a * 4 + (3 - q) + 1 = a * 4 + (4 - q) by omega, show a * 4 + (3 - q) = a * 4 + (4 - (q + 1)) by omega] at h; exact h, HB3.out⟩
            first | exact R | ((repeat apply Exists.intro); exact ⟨R, rfl⟩)
          case measure => simp [intOf]
        · obtain rfl : q = 0 := by omega
          go_wp2
          go_roundw
          case rel => exact ⟨a + 1, by omega, by go_num, by have h := ho; rw [show a * 4 + (4 - 0) = (a + 1) * 4 by omega] at h; exact h, hb⟩
          case measure => simp [intOf]; omega
    · obtain rfl : a = 4 := by omega
      have HT := hide (run_text wr w1.heap.size _ (outs 4 L 16) (fun d hd => by simp only [outs, List.mem_map] at hd; obtain ⟨i, _, rfl⟩ := hd; exact outB_lt _ _ _) (by rw [outs_length]; exact ho.out) (by rw [outs_length]; decide))
      have hT := HT.out
      go_wp2
      go_ret
      exact ⟨rfl, hb.out⟩
end Go.Proofs.YtgaoeoijdpdjiabGreatDoor

namespace Go.Proofs.YtgaoeoijdpdjiabGreatDoor
open Go.RowKit
/-- A text's bytes, and a 1 behind them. -/
def padL (s : ByteArray) : List Nat := s.data.toList.map UInt8.toNat ++ [1]
theorem padL_length (s : ByteArray) : (padL s).length = s.size + 1 := by simp [padL]
theorem padL_in (s : ByteArray) (i : Nat) (h : i < s.size) : at0 (padL s) i = (s[i]'h).toNat := by
  unfold padL at0
  rw [List.getD_eq_getElem?_getD, List.getElem?_append_left (by simpa using h), List.getElem?_map, List.getElem?_eq_getElem (by simpa using h)]
  rfl
theorem padL_at (s : ByteArray) : at0 (padL s) s.size = 1 := by
  unfold padL at0
  rw [List.getD_eq_getElem?_getD, List.getElem?_append_right (by simp)]
  simp
theorem padL_past (s : ByteArray) (i : Nat) (h : s.size < i) : at0 (padL s) i = 0 := by
  unfold at0
  rw [List.getD_eq_getElem?_getD, List.getElem?_eq_none (by rw [padL_length]; omega)]
  rfl
theorem padL_lt (s : ByteArray) (i : Nat) : at0 (padL s) i < 256 := by
  rcases Nat.lt_trichotomy i s.size with h | h | h
  · rw [padL_in s i h]; exact UInt8.toNat_lt _
  · rw [h, padL_at]; decide
  · rw [padL_past s i h]; decide
end Go.Proofs.YtgaoeoijdpdjiabGreatDoor

namespace Go.Proofs.YtgaoeoijdpdjiabGreatDoor
open Go.RowKit
def zerosB (n : Nat) : Array Value := (List.replicate n (Value.int .u8 0)).toArray
theorem zerosB_size (n : Nat) : (zerosB n).size = n := by simp [zerosB]
theorem made_zeros (n : Nat) : madeCells (Value.int .u8 0).cells n = zerosB n := by
  apply Array.ext
  · simp [size_madeCells, zerosB_size]
  · intro i h1 h2
    simp [madeCells, zerosB, Value.cells, Nat.mod_one]
/-- The padded row of N bytes. -/
def padRow (s : ByteArray) (N : Nat) : List Nat := padL s ++ List.replicate (N - (s.size + 1)) 0
theorem padRow_at (s : ByteArray) (N i : Nat) : at0 (padRow s N) i = at0 (padL s) i := by
  unfold padRow at0
  by_cases h : i < (padL s).length
  · rw [List.getD_eq_getElem?_getD, List.getD_eq_getElem?_getD, List.getElem?_append_left h]
  · rw [List.getD_eq_getElem?_getD, List.getD_eq_getElem?_getD, List.getElem?_append_right (by omega), List.getElem?_eq_none (by omega : (padL s).length ≤ i)]
    by_cases h2 : i - (padL s).length < N - (s.size + 1)
    · simp [h2]
    · rw [List.getElem?_eq_none (by simp; omega)]
theorem pad_small (s : ByteArray) (N i : Nat) : at0 (padRow s N) i < 256 := by
  rw [padRow_at]; exact padL_lt s i
theorem padRow_length (s : ByteArray) (N : Nat) (h : s.size < N) : (padRow s N).length = N := by
  simp [padRow, padL_length]; omega
theorem infoByte2 : (Tryz.prog.info? 5).map (fun i => (i.zero, i.size, i.bytes)) = some (some (.int .u8 0), 1, 1) := by kernel_rfl
set_option maxRecDepth 20000 in
set_option maxHeartbeats 1000000 in
theorem padded_16 (s : ByteArray) (w : World) (hs : s.size ≤ 400) :
    Calls Tryz.prog 291 #[.string s, .int .i64 16] w fun e w' => e = .returned (.slice (some ⟨w.heap.size, 0, none⟩) ((s.size / 16 + 1) * 16) ((s.size / 16 + 1) * 16)) ∧ RowK w' w.heap.size .u8 5 (padRow s ((s.size / 16 + 1) * 16)) ∧ Below w.heap.size w w' := by
  obtain ⟨i0, hi, hz0, hz1, hz2⟩ := info_parts infoByte2
  have hmk : ∀ w : World, (Instr.makeSlice 170 (.int .i64 (((s.size : Int) / 16 + 1) * 16)) (.int .i64 (((s.size : Int) / 16 + 1) * 16))).run Tryz.prog w = .ok (.slice (some ⟨w.heap.size, 0, none⟩) ((s.size / 16 + 1) * 16) ((s.size / 16 + 1) * 16)) (w.alloc (.cells (zerosB ((s.size / 16 + 1) * 16)) 5)) := by
    intro w
    have h := run_make (P := Tryz.prog) w 170 5 i0 (.int .u8 0) Tryz.underlying170 hi hz0 .i64 .i64 (((s.size : Int) / 16 + 1) * 16) (((s.size : Int) / 16 + 1) * 16) (by omega) (by omega) (by rw [hz2]; omega) (by omega)
    rw [hz1, Nat.mul_one, made_zeros, show (((s.size : Int) / 16 + 1) * 16).toNat = (s.size / 16 + 1) * 16 by omega] at h
    exact h
  have hN : s.size < (s.size / 16 + 1) * 16 := by omega
  have hN2 : (s.size / 16 + 1) * 16 ≤ 1000 := by omega
  have hcp := Lib.run_copy_row_string (P := Tryz.prog) (w.alloc (.cells (zerosB ((s.size / 16 + 1) * 16)) 5)) 170 9 3 5 w.heap.size 0 ((s.size / 16 + 1) * 16) ((s.size / 16 + 1) * 16) s (zerosB ((s.size / 16 + 1) * 16)) 5 Tryz.underlying170 (by kernel_rfl) (heap_alloc_new _ _) (by omega) (by rw [zerosB_size]; omega)
  generalize hM : (s.size / 16 + 1) * 16 = N at hmk hN hN2 hcp ⊢
  clear hM
  have HROW := hide (show RowK ((w.alloc (.cells (zerosB N) 5)).setRow w.heap.size ((zerosB N).toList.take 0 ++ Lib.byteCells s.data.toList ++ (zerosB N).toList.drop (0 + s.size)).toArray) w.heap.size .u8 5 (s.data.toList.map UInt8.toNat ++ List.replicate (N - s.size) 0) by
    unfold RowK
    rw [setRow_heap _ _ _ _ 5 _ (heap_alloc_new _ _)]
    congr 2
    simp [zerosB, Lib.byteCells])
  have HBEL := hide (below_setRow ((Below.refl w.heap.size w).alloc (Nat.le_refl _) (.cells (zerosB N) 5)) (Nat.le_refl w.heap.size) ((zerosB N).toList.take 0 ++ Lib.byteCells s.data.toList ++ (zerosB N).toList.drop (0 + s.size)).toArray)
  generalize (w.alloc (.cells (zerosB N) 5)).setRow w.heap.size ((zerosB N).toList.take 0 ++ Lib.byteCells s.data.toList ++ (zerosB N).toList.drop (0 + s.size)).toArray = V at hcp HROW HBEL
  have hlen : (s.data.toList.map UInt8.toNat ++ List.replicate (N - s.size) 0).length = N := by simp; omega
  have cV := HROW.out.cell (i := s.size) (by omega)
  have fV := HROW.out.free s.size
  have HSET := hide (HROW.out.set s.size 1)
  have HPAD := hide (show (s.data.toList.map UInt8.toNat ++ List.replicate (N - s.size) 0).set s.size 1 = padRow s N by
    unfold padRow padL
    rw [List.set_append_right _ _ (by simp), show s.size - (s.data.toList.map UInt8.toNat).length = 0 by simp, show N - s.size = (N - (s.size + 1)) + 1 by omega, List.replicate_succ, List.set_cons_zero]
    simp)
  clear hlen
  go_enter Tryz.func291, Tryz.ntmps291
  go_wp2
  go_ret
  refine ⟨rfl, ?_, HBEL.out.setCell (Nat.le_refl _) _⟩
  have h := HSET.out
  rw [HPAD.out] at h
  exact h
set_option maxRecDepth 20000 in
set_option maxHeartbeats 1000000 in
theorem padded_32 (s : ByteArray) (w : World) (hs : s.size ≤ 400) :
    Calls Tryz.prog 291 #[.string s, .int .i64 32] w fun e w' => e = .returned (.slice (some ⟨w.heap.size, 0, none⟩) ((s.size / 32 + 1) * 32) ((s.size / 32 + 1) * 32)) ∧ RowK w' w.heap.size .u8 5 (padRow s ((s.size / 32 + 1) * 32)) ∧ Below w.heap.size w w' := by
  obtain ⟨i0, hi, hz0, hz1, hz2⟩ := info_parts infoByte2
  have hmk : ∀ w : World, (Instr.makeSlice 170 (.int .i64 (((s.size : Int) / 32 + 1) * 32)) (.int .i64 (((s.size : Int) / 32 + 1) * 32))).run Tryz.prog w = .ok (.slice (some ⟨w.heap.size, 0, none⟩) ((s.size / 32 + 1) * 32) ((s.size / 32 + 1) * 32)) (w.alloc (.cells (zerosB ((s.size / 32 + 1) * 32)) 5)) := by
    intro w
    have h := run_make (P := Tryz.prog) w 170 5 i0 (.int .u8 0) Tryz.underlying170 hi hz0 .i64 .i64 (((s.size : Int) / 32 + 1) * 32) (((s.size : Int) / 32 + 1) * 32) (by omega) (by omega) (by rw [hz2]; omega) (by omega)
    rw [hz1, Nat.mul_one, made_zeros, show (((s.size : Int) / 32 + 1) * 32).toNat = (s.size / 32 + 1) * 32 by omega] at h
    exact h
  have hN : s.size < (s.size / 32 + 1) * 32 := by omega
  have hN2 : (s.size / 32 + 1) * 32 ≤ 1000 := by omega
  have hcp := Lib.run_copy_row_string (P := Tryz.prog) (w.alloc (.cells (zerosB ((s.size / 32 + 1) * 32)) 5)) 170 9 3 5 w.heap.size 0 ((s.size / 32 + 1) * 32) ((s.size / 32 + 1) * 32) s (zerosB ((s.size / 32 + 1) * 32)) 5 Tryz.underlying170 (by kernel_rfl) (heap_alloc_new _ _) (by omega) (by rw [zerosB_size]; omega)
  generalize hM : (s.size / 32 + 1) * 32 = N at hmk hN hN2 hcp ⊢
  clear hM
  have HROW := hide (show RowK ((w.alloc (.cells (zerosB N) 5)).setRow w.heap.size ((zerosB N).toList.take 0 ++ Lib.byteCells s.data.toList ++ (zerosB N).toList.drop (0 + s.size)).toArray) w.heap.size .u8 5 (s.data.toList.map UInt8.toNat ++ List.replicate (N - s.size) 0) by
    unfold RowK
    rw [setRow_heap _ _ _ _ 5 _ (heap_alloc_new _ _)]
    congr 2
    simp [zerosB, Lib.byteCells])
  have HBEL := hide (below_setRow ((Below.refl w.heap.size w).alloc (Nat.le_refl _) (.cells (zerosB N) 5)) (Nat.le_refl w.heap.size) ((zerosB N).toList.take 0 ++ Lib.byteCells s.data.toList ++ (zerosB N).toList.drop (0 + s.size)).toArray)
  generalize (w.alloc (.cells (zerosB N) 5)).setRow w.heap.size ((zerosB N).toList.take 0 ++ Lib.byteCells s.data.toList ++ (zerosB N).toList.drop (0 + s.size)).toArray = V at hcp HROW HBEL
  have hlen : (s.data.toList.map UInt8.toNat ++ List.replicate (N - s.size) 0).length = N := by simp; omega
  have cV := HROW.out.cell (i := s.size) (by omega)
  have fV := HROW.out.free s.size
  have HSET := hide (HROW.out.set s.size 1)
  have HPAD := hide (show (s.data.toList.map UInt8.toNat ++ List.replicate (N - s.size) 0).set s.size 1 = padRow s N by
    unfold padRow padL
    rw [List.set_append_right _ _ (by simp), show s.size - (s.data.toList.map UInt8.toNat).length = 0 by simp, show N - s.size = (N - (s.size + 1)) + 1 by omega, List.replicate_succ, List.set_cons_zero]
    simp)
  clear hlen
  go_enter Tryz.func291, Tryz.ntmps291
  go_wp2
  go_ret
  refine ⟨rfl, ?_, HBEL.out.setCell (Nat.le_refl _) _⟩
  have h := HSET.out
  rw [HPAD.out] at h
  exact h
end Go.Proofs.YtgaoeoijdpdjiabGreatDoor

namespace Go.Proofs.YtgaoeoijdpdjiabGreatDoor
open Go.RowKit
set_option maxHeartbeats 2000000 in
theorem text_64 (g : Nat) (L : List Nat) (w : World) (hr : RowK w g .u64 361 L) (hL : L.length = 8) (hW : Words 64 L) :
    Calls Tryz.prog 298 #[.pointer (some ⟨g, 0, none⟩)] w fun e w' => e = .returned (.string (textOf (outs 8 L 32))) ∧ Below w.heap.size w w' := by
  have hmk : ∀ w : World, (Instr.makeSlice 170 (.int .i64 0) (.int .i64 32)).run Tryz.prog w = .ok (.slice (some ⟨w.heap.size, 0, none⟩) 0 32) (w.alloc (.cells #[.int .u8 0, .int .u8 0, .int .u8 0, .int .u8 0, .int .u8 0, .int .u8 0, .int .u8 0, .int .u8 0, .int .u8 0, .int .u8 0, .int .u8 0, .int .u8 0, .int .u8 0, .int .u8 0, .int .u8 0, .int .u8 0, .int .u8 0, .int .u8 0, .int .u8 0, .int .u8 0, .int .u8 0, .int .u8 0, .int .u8 0, .int .u8 0, .int .u8 0, .int .u8 0, .int .u8 0, .int .u8 0, .int .u8 0, .int .u8 0, .int .u8 0, .int .u8 0] 5)) := fun _ => by kernel_rfl
  have HR := hide hr
  have HL := hide hL
  have HW := hide hW
  clear hr hL hW
  obtain ⟨i0, hi, hz0, hz1, hz2⟩ := info_parts infoByte
  go_enter Tryz.func298, Tryz.ntmps298
  go_wp2_with fail
  refine (size_64 _).mono ?_
  rintro e w1 ⟨rfl, rfl⟩
  go_wp2
  have HO0 := hide (show (w1.alloc (.cells #[.int .u8 0, .int .u8 0, .int .u8 0, .int .u8 0, .int .u8 0, .int .u8 0, .int .u8 0, .int .u8 0, .int .u8 0, .int .u8 0, .int .u8 0, .int .u8 0, .int .u8 0, .int .u8 0, .int .u8 0, .int .u8 0, .int .u8 0, .int .u8 0, .int .u8 0, .int .u8 0, .int .u8 0, .int .u8 0, .int .u8 0, .int .u8 0, .int .u8 0, .int .u8 0, .int .u8 0, .int .u8 0, .int .u8 0, .int .u8 0, .int .u8 0, .int .u8 0] 5)).ownsRow w1.heap.size 5 1 (.slice (some ⟨w1.heap.size, 0, none⟩) 0 32) 0 [] from ⟨rfl, Or.inr ⟨w1.heap.size, 32, _, rfl, Nat.le_refl _, heap_alloc_new _ _, by omega, by unfold maxLen; omega, rfl, rfl⟩⟩)
  have HB0 := hide ((Below.refl w1.heap.size w1).alloc (Nat.le_refl _) (.cells #[.int .u8 0, .int .u8 0, .int .u8 0, .int .u8 0, .int .u8 0, .int .u8 0, .int .u8 0, .int .u8 0, .int .u8 0, .int .u8 0, .int .u8 0, .int .u8 0, .int .u8 0, .int .u8 0, .int .u8 0, .int .u8 0, .int .u8 0, .int .u8 0, .int .u8 0, .int .u8 0, .int .u8 0, .int .u8 0, .int .u8 0, .int .u8 0, .int .u8 0, .int .u8 0, .int .u8 0, .int .u8 0, .int .u8 0, .int .u8 0, .int .u8 0, .int .u8 0] 5))
  go_loopw [4, 11] (fun v i wr => ∃ a : Nat, a ≤ 4 ∧ i = .int .i64 a ∧ Hid (wr.ownsRow w1.heap.size 5 1 v (a * 8) (cells8 (outs 8 L (a * 8)))) ∧ Hid (Below w1.heap.size w1 wr)) (fun _ i _ => 4 - (intOf i).toNat)
  case atStart => exact ⟨0, by omega, rfl, HO0, HB0⟩
  case round =>
    obtain ⟨a, ha, rfl, ho, hb⟩ := hrel
    by_cases hlt : a < 4
    · obtain ⟨wo, rfl⟩ : ∃ wo : World, wo = wr := ⟨_, rfl⟩
      have hda : decide ((a : Int) < 4) = true := by simp; omega
      go_wp2
      go_loopw [4, 6] (fun v i wr => ∃ q : Nat, q ≤ 8 ∧ i = .int .i64 ((q : Int) - 1) ∧ Hid (wr.ownsRow w1.heap.size 5 1 v (a * 8 + (8 - q)) (cells8 (outs 8 L (a * 8 + (8 - q))))) ∧ Hid (Below w1.heap.size w1 wr)) (fun _ i _ => (intOf i + 1).toNat)
      case atStart => exact ⟨8, by omega, by simp, by simpa using ho, hb⟩
      case round =>
        obtain ⟨q, hq, rfl, ho, hb⟩ := hrel
        by_cases hq0 : 0 < q
        · obtain ⟨q, rfl⟩ : ∃ p, q = p + 1 := ⟨q - 1, by omega⟩
          have c := (HR.out.below hb.out HR.out.lt).cell (i := a) (by have := HL.out; omega)
          have HX := hide (HW.out.at a)
          have HOB : Hid (outB 8 L (a * 8 + (8 - (q + 1))) = at0 L a / 2 ^ (8 * q) % 256) := by
            show outB 8 L (a * 8 + (8 - (q + 1))) = _
            unfold outB
            rw [show (a * 8 + (8 - (q + 1))) / 8 = a by omega, show 8 - 1 - (a * 8 + (8 - (q + 1))) % 8 = q by omega]
          have HSU := hide (outs_succ 8 L (a * 8 + (8 - (q + 1))))
          generalize at0 L a = u at c HX HOB
          go_wp2_with (at_builtin; refine wpList_append_own _ rfl _ _ 170 rfl w1.heap.size 5 i0 (.int .u8 0) 1 1 Tryz.underlying170 hi hz0 hz1 hz2 rfl (by decide) _ _ _ rfl (ho.out.alloc _) ⟨wr.heap.size, 0, none⟩ 1 1 [_] rfl rfl (one_new _ _ _) ?c2 ?c3 ?c4 ?c5 ?_)
          case c2 => intro y hy; simp at hy; subst hy; rfl
          case c3 => unfold maxLen; omega
          case c4 => omega
          case c5 => have := hb.out.size; simp; omega
          intro v' w3 ho3 hgrow _
          have HB3 := hide ((hb.out.alloc hb.out.size _).grown hgrow (by have := hb.out.size; simp; omega) (fun p hp => (owns_lt ho.out p hp).1))
          have HO3 := hide ho3
          clear ho3 hgrow
          go_wp2
          go_roundw
          case rel =>
            have hcs : cells8 (outs 8 L (a * 8 + (8 - q))) = cells8 (outs 8 L (a * 8 + (8 - (q + 1)))) ++ [.int .u8 ((u : Int) / 2 ^ (8 * q) % 256)] := by
              rw [show a * 8 + (8 - q) = a * 8 + (8 - (q + 1)) + 1 by omega, HSU.out, cells8_snoc, HOB.out, Int.natCast_emod, Int.natCast_ediv, Int.natCast_pow]
              rfl
            have R : ∃ p : Nat, p ≤ 8 ∧ Value.int .i64 ((q : Int) - 1) = .int .i64 ((p : Int) - 1) ∧ Hid (w3.ownsRow w1.heap.size 5 1 v' (a * 8 + (8 - p)) (cells8 (outs 8 L (a * 8 + (8 - p))))) ∧ Hid (Below w1.heap.size w1 w3) :=
              ⟨q, by omega, rfl, by rw [hcs]; have h := HO3.out; rw [show a * 8 + (7 - q) + 1 = a * 8 + (8 - q) by omega, show a * 8 + (7 - q) = a * 8 + (8 - (q + 1)) by omega] at h; exact h, HB3.out⟩
            first | exact R | ((repeat apply Exists.intro); exact ⟨R, rfl⟩)
          case measure => simp [intOf]
        · obtain rfl : q = 0 := by omega
          go_wp2
          go_roundw
          case rel => exact ⟨a + 1, by omega, by go_num, by have h := ho; rw [show a * 8 + (8 - 0) = (a + 1) * 8 by omega] at h; exact h, hb⟩
          case measure => simp [intOf]; omega
    · obtain rfl : a = 4 := by omega
      have HT := hide (run_text wr w1.heap.size _ (outs 8 L 32) (fun d hd => by simp only [outs, List.mem_map] at hd; obtain ⟨i, _, rfl⟩ := hd; exact outB_lt _ _ _) (by rw [outs_length]; exact ho.out) (by rw [outs_length]; decide))
      have hT := HT.out
      go_wp2
      go_ret
      exact ⟨rfl, hb.out⟩
end Go.Proofs.YtgaoeoijdpdjiabGreatDoor
