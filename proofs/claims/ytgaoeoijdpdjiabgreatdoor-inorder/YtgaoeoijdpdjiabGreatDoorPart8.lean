/-
  The program's take over words of 32 bits: four words of a block go in. Sectors and writes by value: loaded, stored, built. A whole number in one byte: the program's one. The bytes of words, the highest first, as a plain function. What the walks of sets.Digits share: the row of digits as it grows.
-/
import Derived.Test.YtgaoeoijdpdjiabGreatDoorPart5
import Derived.Deep.WholeRow
import Derived.Laws.Tables
import Derived.Test.YtgaoeoijdpdjiabGreatDoorPart3
import Derived.Deep.RegionHeld3
import Derived.Deep.DrawnRows
namespace Go.Proofs.YtgaoeoijdpdjiabGreatDoor
open Go.RowKit

/-- The first k words of the bytes from place o on, xored in. -/
def take32 (BL : List Nat) (o : Nat) (L : List Nat) : Nat → List Nat
  | 0 => L
  | j + 1 => (take32 BL o L j).set j (at0 (take32 BL o L j) j ^^^ beN BL (o + j * 4) 4)
theorem take32_length (BL : List Nat) (o : Nat) (L : List Nat) (j : Nat) : (take32 BL o L j).length = L.length := by
  induction j with
  | zero => rfl
  | succ j ih => simp only [take32, List.length_set, ih]
theorem take32_words (BL : List Nat) (o : Nat) (L : List Nat) (j : Nat) (h : Words 32 L) (hB : ∀ i, at0 BL i < 256) : Words 32 (take32 BL o L j) := by
  induction j with
  | zero => exact h
  | succ j ih => exact ih.set j _ (Nat.xor_lt_two_pow (ih.at j) (by have := beN_lt BL (o + j * 4) 4 hB; simpa using this))

theorem slice_take32 (h o cap j : Nat) (hj : j < 4) (hc : 16 ≤ cap) (wx : World) : (Instr.slice 170 (.slice (some ⟨h, o, none⟩) 16 cap) (some (.int .i64 ((j : Int) * 4))) (some (.int .i64 (((j : Int) + 1) * 4))) none).run Tryz.prog wx = .ok (.slice (some ⟨h, o + j * 4, none⟩) 4 (cap - j * 4)) wx := by
  have h0 : (0 : Int) ≤ (j : Int) * 4 := by omega
  have h2 : ((j : Int) + 1) * 4 ≤ (cap : Int) := by omega
  have h3 : ((j : Int) * 4).toNat = j * 4 := by omega
  have h4 : (((j : Int) + 1) * 4).toNat = j * 4 + 4 := by omega
  have h5 : j * 4 + 4 - j * 4 = 4 := by omega
  have h7 : ¬ cap = j * 4 := by omega
  simp [go_sem, h0, h2, h3, h4, h5, h7]
  rw [if_pos (by omega), if_pos (by omega)]

set_option maxHeartbeats 2000000 in
theorem take_32 (g h o cap : Nat) (L BL : List Nat) (w : World) (hr : RowK w g .u32 358 L) (hL : L.length = 8) (hW : Words 32 L) (hb : RowK w h .u8 5 BL) (hbl : o + 16 ≤ BL.length) (hB : ∀ i, at0 BL i < 256) (hc : 16 ≤ cap) (hgh : h ≠ g) :
    Calls Tryz.prog 292 #[.pointer (some ⟨g, 0, none⟩), .slice (some ⟨h, o, none⟩) 16 cap] w fun e w' => e = .returned (.tuple #[]) ∧ RowK w' g .u32 358 (take32 BL o L 4) ∧ Only g w w' := by
  have HR := hide hr
  have HL := hide hL
  have HW := hide hW
  have HB := hide hb
  have HBL := hide hbl
  have HBB := hide hB
  clear hr hL hW hb hbl hB
  go_enter Tryz.func292, Tryz.ntmps292
  go_wp2_with fail
  refine (size_32 _).mono ?_
  rintro e w1 ⟨rfl, rfl⟩
  go_wp2
  go_loopw [7] (fun i wr => ∃ j : Nat, j ≤ 4 ∧ i = .int .i64 j ∧ Hid (RowK wr g .u32 358 (take32 BL o L j)) ∧ Hid (Only g w1 wr)) (fun i _ => 4 - (intOf i).toNat)
  case atStart => exact ⟨0, by omega, rfl, HR, Only.refl _ _⟩
  case round =>
    obtain ⟨j, hj, rfl, hr, ho⟩ := hrel
    by_cases hlt : j < 4
    · have hlen : (take32 BL o L j).length = 8 := by rw [take32_length]; exact HL.out
      have hwd := take32_words BL o L j HW.out HBB.out
      have HS : Hid (take32 BL o L (j + 1) = (take32 BL o L j).set j (at0 (take32 BL o L j) j ^^^ beN BL (o + j * 4) 4)) := rfl
      generalize take32 BL o L j = K at hr hlen hwd HS
      have d1 := hr.out.cell (i := j) (by omega)
      have f1 := hr.out.free j
      have x1 : at0 K j < 4294967296 := by have := hwd.at j; simpa using this
      have HRD := hide (fun n' : Nat => read_32 h (o + j * 4) (cap - j * 4) BL (wr.drewN n') ((ho.out.row HB.out hgh).drewN n') (by have := HBL.out; omega) HBB.out)
      have y1 : beN BL (o + j * 4) 4 < 4294967296 := by have := beN_lt BL (o + j * 4) 4 HBB.out; simpa using this
      have HXO := hide (u32_xor_nat (at0 K j) (beN BL (o + j * 4) 4) x1 y1)
      have hsl := slice_take32 h o cap j hlt hc
      generalize beN BL (o + j * 4) 4 = v at HS HRD y1 HXO
      generalize hq : at0 K j = u at d1 x1 HXO HS
      have v1 : IntKind.i64.wrap ((j : Int) * 4) = (j : Int) * 4 := by rw [IntKind.wrap_i64]; omega
      have v2 : IntKind.i64.wrap ((j : Int) + 1) = (j : Int) + 1 := by rw [IntKind.wrap_i64]; omega
      have v3 : IntKind.i64.wrap (((j : Int) + 1) * 4) = ((j : Int) + 1) * 4 := by rw [IntKind.wrap_i64]; omega
      have q0 : (0 : Int) ≤ (j : Int) := by omega
      have q1 : (j : Int) < 8 := by omega
      clear hlen hwd hq x1 y1
      go_wp2
      go_region_with ((go_at_call 319; refine (HRD.out _).mono ?_; rintro e w' ⟨rfl, rfl⟩))
      all_goals
        go_wp2
        try rw [HXO.out]
        go_roundw
        case rel =>
          refine ⟨j + 1, by omega, by go_num, ?_, ?_⟩
          · have h := hr.out.set j (u ^^^ v)
            rw [← HS.out] at h
            exact h
          · unfold Hid
            first | exact (ho.out.drewN _).setCell j _ | (repeat (first | refine Only.drew ?_ | refine Only.setCell ?_ _ _); exact ho.out)
        case measure => simp [intOf]; omega
    · obtain rfl : j = 4 := by omega
      go_wp2
      go_end0
      exact ⟨rfl, hr.out, ho.out⟩
end Go.Proofs.YtgaoeoijdpdjiabGreatDoor

namespace Go.Proofs.YtgaoeoijdpdjiabGreatDoor
open Go.RowKit

theorem list32 {l : List Value} (h : l.length = 32) : ∃ c0 c1 c2 c3 c4 c5 c6 c7 c8 c9 c10 c11 c12 c13 c14 c15 c16 c17 c18 c19 c20 c21 c22 c23 c24 c25 c26 c27 c28 c29 c30 c31, l = [c0, c1, c2, c3, c4, c5, c6, c7, c8, c9, c10, c11, c12, c13, c14, c15, c16, c17, c18, c19, c20, c21, c22, c23, c24, c25, c26, c27, c28, c29, c30, c31] := by
  match l, h with
  | [c0, c1, c2, c3, c4, c5, c6, c7, c8, c9, c10, c11, c12, c13, c14, c15, c16, c17, c18, c19, c20, c21, c22, c23, c24, c25, c26, c27, c28, c29, c30, c31], _ => exact ⟨c0, c1, c2, c3, c4, c5, c6, c7, c8, c9, c10, c11, c12, c13, c14, c15, c16, c17, c18, c19, c20, c21, c22, c23, c24, c25, c26, c27, c28, c29, c30, c31, rfl⟩
theorem sizeSec : (Tryz.prog.info? 239).map (·.size) = some 32 := by kernel_rfl
theorem sizeWri : (Tryz.prog.info? 241).map (·.size) = some 33 := by kernel_rfl
theorem cells32 {s : ByteArray} (h : s.size = 32) : (cellsB s).length = 32 := by rw [cellsB_length, h]
theorem pen33 {p : Nat × ByteArray} (h : p.2.size = 32) : (penC p).length = 33 := by rw [penC_length, h]

/-- Cells that lie one behind the other, loaded at once. -/
theorem loadFrom (w : World) (b o : Nat) (cs : List Value) (n : Nat) (hn : cs.length = n) (hr : w.rangeAt b o cs) : (loadCellsFrom ⟨b, o, none⟩ 0 n #[]).run Tryz.prog w = .ok cs.toArray w := by
  subst hn
  have := run_loadCells_list (P := Tryz.prog) w ⟨b, o, none⟩ cs (fun j v hv => by rw [Addr.add_mid]; exact hr j v hv)
  simpa [loadCells] using this

/-- So many cells from a place on, if they are all there. -/
def cellsAt (w : World) (b o : Nat) : Nat → Option (List Value)
  | 0 => some []
  | n + 1 => (w.cell? ⟨b, o, none⟩).bind (fun v => (cellsAt w b (o + 1) n).map (fun l => v :: l))
theorem cellsAt_range : ∀ (n : Nat) (cs : List Value) (w : World) (b o : Nat), cellsAt w b o n = some cs → cs.length = n ∧ w.rangeAt b o cs
  | 0, cs, w, b, o, h => by
    simp only [cellsAt, Option.some.injEq] at h
    subst h
    exact ⟨rfl, fun j v hv => by simp at hv⟩
  | n + 1, cs, w, b, o, h => by
    simp only [cellsAt] at h
    cases hc : w.cell? ⟨b, o, none⟩ with
    | none => simp [hc] at h
    | some v =>
      cases hr : cellsAt w b (o + 1) n with
      | none => simp [hc, hr] at h
      | some l =>
        simp only [hc, hr, Option.bind_some, Option.map_some, Option.some.injEq] at h
        subst h
        obtain ⟨h1, h2⟩ := cellsAt_range n l w b (o + 1) hr
        refine ⟨by simp [h1], ?_⟩
        intro j u hu
        cases j with
        | zero => simp at hu; subst hu; exact hc
        | succ j => rw [show o + (j + 1) = o + 1 + j by omega]; exact h2 j u (by simpa using hu)
theorem range_cellsAt : ∀ (cs : List Value) (n : Nat) (w : World) (b o : Nat), cs.length = n → w.rangeAt b o cs → cellsAt w b o n = some cs
  | [], n, w, b, o, hn, h => by subst hn; rfl
  | v :: l, n, w, b, o, hn, h => by
    subst hn
    have h0 : w.cell? ⟨b, o, none⟩ = some v := h 0 v rfl
    have hr := range_cellsAt l l.length w b (o + 1) rfl (fun j u hu => by rw [show o + 1 + j = o + (j + 1) by omega]; exact h (j + 1) u (by simpa using hu))
    simp [cellsAt, h0, hr]
def ptrCells (w : World) (n : Nat) : Value → Option (List Value)
  | .pointer (some ⟨b, o, none⟩) => cellsAt w b o n
  | _ => none
theorem ptrCells_at (w : World) (n b o : Nat) : ptrCells w n (.pointer (some ⟨b, o, none⟩)) = cellsAt w b o n := rfl
theorem ptrCells_range {w : World} {n : Nat} {v : Value} (h : (ptrCells w n v).isSome = true) : ∃ b o cs, v = .pointer (some ⟨b, o, none⟩) ∧ ptrCells w n v = some cs ∧ cs.length = n ∧ w.rangeAt b o cs := by
  obtain ⟨cs, hcs⟩ := Option.isSome_iff_exists.1 h
  match v, hcs with
  | .pointer (some ⟨b, o, none⟩), hcs =>
    obtain ⟨h1, h2⟩ := cellsAt_range n cs w b o hcs
    exact ⟨b, o, cs, rfl, hcs, h1, h2⟩
theorem wp_pre_sec {x : Operand} {d : Option Nat} {ty : TypeId} {ps : String} {af : Array Edge} {g : Option (Nat × Bool)} {a : Act} {w : World} {K : Act → World → Prop} {Q : Exit → Act → World → Prop} (h : (ptrCells w 32 (a.eval x)).isSome = true) :
    Oper.wp Tryz.prog { dst := d, op := .load 239 x, type := ty, pos := ps, after := af, guard := g } a w K Q = K (a.put d (.agg ((ptrCells w 32 (a.eval x)).getD []).toArray)) w := by
  obtain ⟨b, o, cs, hx, hcs, hl, hr⟩ := ptrCells_range h
  have hv := run_loadVar_mid (P := Tryz.prog) w b o 239 cs _ hr Tryz.underlying239 rfl (by rw [hl]; exact sizeSec)
  rw [hcs]
  unfold Oper.wp execOp
  simp only [hx, Instr.loadAt, Instr.sureAddr, Sem.run_bind, Sem.run_pure, Result.andThen_ok, hv]
  rfl
theorem wp_pre_wri {x : Operand} {d : Option Nat} {ty : TypeId} {ps : String} {af : Array Edge} {g : Option (Nat × Bool)} {a : Act} {w : World} {K : Act → World → Prop} {Q : Exit → Act → World → Prop} (h : (ptrCells w 33 (a.eval x)).isSome = true) :
    Oper.wp Tryz.prog { dst := d, op := .load 241 x, type := ty, pos := ps, after := af, guard := g } a w K Q = K (a.put d (.agg ((ptrCells w 33 (a.eval x)).getD []).toArray)) w := by
  obtain ⟨b, o, cs, hx, hcs, hl, hr⟩ := ptrCells_range h
  have hv := run_loadVar_mid (P := Tryz.prog) w b o 241 cs _ hr Tryz.underlying241 rfl (by rw [hl]; exact sizeWri)
  rw [hcs]
  unfold Oper.wp execOp
  simp only [hx, Instr.loadAt, Instr.sureAddr, Sem.run_bind, Sem.run_pure, Result.andThen_ok, hv]
  rfl

/-- A sector, a write, loaded by value. -/
theorem loadSec (w : World) (b o : Nat) (s : ByteArray) (h : s.size = 32) (hr : w.rangeAt b o (cellsB s)) : (Instr.loadAt 239 (.pointer (some ⟨b, o, none⟩))).run Tryz.prog w = .ok (.agg (cellsB s).toArray) w :=
  run_loadAt_mid w b o 239 (cellsB s) _ hr Tryz.underlying239 rfl (by rw [cells32 h]; exact sizeSec)
theorem loadWri (w : World) (b o : Nat) (p : Nat × ByteArray) (h : p.2.size = 32) (hr : w.rangeAt b o (penC p)) : (Instr.loadAt 241 (.pointer (some ⟨b, o, none⟩))).run Tryz.prog w = .ok (.agg (penC p).toArray) w :=
  run_loadAt_mid w b o 241 (penC p) _ hr Tryz.underlying241 rfl (by rw [pen33 h]; exact sizeWri)
theorem storeSec (w : World) (b o : Nat) (s : ByteArray) (h : s.size = 32) (hr : w.there b o 32) : (Instr.storeAt 239 (.pointer (some ⟨b, o, none⟩)) (.agg (cellsB s).toArray)).run Tryz.prog w = .ok () (w.setCells b o (cellsB s)) := by
  have hl := cells32 h
  have := run_storeAt_mid (P := Tryz.prog) w b o 239 (cellsB s).toArray (by rw [List.size_toArray, hl]; exact hr) (by rw [List.size_toArray, hl]; exact sizeSec) (all_oneCell_toArray (cellsB_one s))
  exact this
theorem newSec (w : World) (c : Array Value) (hc : c.size = 32) (s : ByteArray) (h : s.size = 32) : (Instr.storeAt 239 (.pointer (some ⟨w.heap.size, 0, none⟩)) (.agg (cellsB s).toArray)).run Tryz.prog (w.alloc (.cells c 239)) = .ok () (w.alloc (.cells (cellsB s).toArray 239)) :=
  run_storeAt_new w 239 c (cellsB s).toArray (by rw [List.size_toArray, cells32 h]; exact sizeSec) (by rw [hc, List.size_toArray, cells32 h]) (all_oneCell_toArray (cellsB_one s))
theorem newWri (w : World) (c : Array Value) (hc : c.size = 33) (p : Nat × ByteArray) (h : p.2.size = 32) : (Instr.storeAt 241 (.pointer (some ⟨w.heap.size, 0, none⟩)) (.agg (penC p).toArray)).run Tryz.prog (w.alloc (.cells c 241)) = .ok () (w.alloc (.cells (penC p).toArray 241)) :=
  run_storeAt_new w 241 c (penC p).toArray (by rw [List.size_toArray, pen33 h]; exact sizeWri) (by rw [hc, List.size_toArray, pen33 h]) (all_oneCell_toArray (penC_one p))
/-- A write built out of its two parts; a slice of one write. -/
def aggList : Value → List Value
  | .agg cs => cs.toList
  | _ => []
def isAggN (n : Nat) : Value → Bool
  | .agg cs => cs.size == n
  | _ => false
def isInt64 : Value → Bool
  | .int .i64 _ => true
  | _ => false
theorem aggList_at (l : List Value) : aggList (.agg l.toArray) = l := rfl
theorem isAggN_at (n : Nat) (l : List Value) : isAggN n (.agg l.toArray) = (l.length == n) := rfl
theorem isInt64_at (n : Int) : isInt64 (.int .i64 n) = true := rfl
theorem isAggN_out {n : Nat} {v : Value} (h : isAggN n v = true) : ∃ l : List Value, v = .agg l.toArray ∧ l.length = n := by
  cases v with
  | agg cs => exact ⟨cs.toList, by simp, by simpa [isAggN] using h⟩
  | _ => simp [isAggN] at h
theorem isInt64_out {v : Value} (h : isInt64 v = true) : ∃ n, v = .int .i64 n := by
  match v, h with
  | .int .i64 n, _ => exact ⟨n, rfl⟩
theorem buildWri (w : World) (n : Int) (l : List Value) (h : l.length = 32) : (Instr.build 241 #[(0, .int .i64 n), (1, .agg l.toArray)]).run Tryz.prog w = .ok (.agg (.int .i64 n :: l).toArray) w := by
  obtain ⟨c0, c1, c2, c3, c4, c5, c6, c7, c8, c9, c10, c11, c12, c13, c14, c15, c16, c17, c18, c19, c20, c21, c22, c23, c24, c25, c26, c27, c28, c29, c30, c31, rfl⟩ := list32 h
  refine run_build w 241 _ _ ?_
  first | (show _ = _; kernel_rfl) | rfl
theorem sliceWri (w : World) (l : List Value) (h : l.length = 33) : (Instr.buildSlice 180 1 #[(0, .agg l.toArray)]).run Tryz.prog w = .ok (.slice (some ⟨w.heap.size, 0, none⟩) 1 1) (w.alloc (.cells l.toArray 241)) := by
  cases l with
  | nil => simp at h
  | cons z l =>
    obtain ⟨c0, c1, c2, c3, c4, c5, c6, c7, c8, c9, c10, c11, c12, c13, c14, c15, c16, c17, c18, c19, c20, c21, c22, c23, c24, c25, c26, c27, c28, c29, c30, c31, rfl⟩ := list32 (l := l) (by simpa using h)
    first | (show _ = _; kernel_rfl) | rfl
theorem wp_pre_build {x y : Operand} {d : Option Nat} {ty : TypeId} {ps : String} {af : Array Edge} {g : Option (Nat × Bool)} {a : Act} {w : World} {K : Act → World → Prop} {Q : Exit → Act → World → Prop} (hx : isInt64 (a.eval x) = true) (hy : isAggN 32 (a.eval y) = true) :
    Oper.wp Tryz.prog { dst := d, op := .build 241 #[(0, x), (1, y)], type := ty, pos := ps, after := af, guard := g } a w K Q = K (a.put d (.agg (a.eval x :: aggList (a.eval y)).toArray)) w := by
  obtain ⟨n, hn⟩ := isInt64_out hx
  obtain ⟨l, hl, hl2⟩ := isAggN_out hy
  have hb := buildWri w n l hl2
  rw [hn, hl, aggList_at]
  unfold Oper.wp execOp
  simp only [List.map_toArray, List.map_cons, List.map_nil, hn, hl, Sem.run_bind, Sem.run_pure, Result.andThen_ok, hb]
  rfl
theorem wp_pre_slice {x : Operand} {d : Option Nat} {ty : TypeId} {ps : String} {af : Array Edge} {g : Option (Nat × Bool)} {a : Act} {w : World} {K : Act → World → Prop} {Q : Exit → Act → World → Prop} (hy : isAggN 33 (a.eval x) = true) :
    Oper.wp Tryz.prog { dst := d, op := .buildSlice 180 1 #[(0, x)], type := ty, pos := ps, after := af, guard := g } a w K Q = K (a.put d (.slice (some ⟨w.heap.size, 0, none⟩) 1 1)) (w.alloc (.cells (aggList (a.eval x)).toArray 241)) := by
  obtain ⟨l, hl, hl2⟩ := isAggN_out hy
  have hb := sliceWri w l hl2
  rw [hl, aggList_at]
  unfold Oper.wp execOp
  simp only [List.map_toArray, List.map_cons, List.map_nil, hl, Sem.run_bind, Sem.run_pure, Result.andThen_ok, hb]
  rfl
end Go.Proofs.YtgaoeoijdpdjiabGreatDoor

namespace Go.Proofs.YtgaoeoijdpdjiabGreatDoor
open Go.RowKit

theorem one_any (v : Int) (w : World) :
    Calls Tryz.prog 312 #[.int .i64 v] w fun e w' => e = .returned (.string (numB 1 v)) ∧ Below w.heap.size w w' := by
  have HN := hide (number_any 1 v w (by decide))
  go_enter Tryz.func312, Tryz.ntmps312
  go_wp2_with fail
  refine HN.out.mono ?_
  rintro e w1 ⟨rfl, hb⟩
  go_wp2
  go_ret
  exact ⟨rfl, hb⟩
end Go.Proofs.YtgaoeoijdpdjiabGreatDoor

namespace Go.Proofs.YtgaoeoijdpdjiabGreatDoor
open Go.RowKit

/-- The i-th byte of words of n bytes each. -/
def outB (n : Nat) (L : List Nat) (i : Nat) : Nat := at0 L (i / n) / 2 ^ (8 * (n - 1 - i % n)) % 256
def outs (n : Nat) (L : List Nat) (m : Nat) : List Nat := (List.range m).map (outB n L)
theorem outs_length (n : Nat) (L : List Nat) (m : Nat) : (outs n L m).length = m := by simp [outs]
theorem outs_succ (n : Nat) (L : List Nat) (m : Nat) : outs n L (m + 1) = outs n L m ++ [outB n L m] := by simp [outs, List.range_succ]
theorem outB_lt (n : Nat) (L : List Nat) (i : Nat) : outB n L i < 256 := Nat.mod_lt _ (by decide)

/-- The cells of a list of bytes. -/
def cells8 (D : List Nat) : List Value := D.map (fun d => Value.int .u8 ((d : Nat) : Int))
theorem cells8_snoc (D : List Nat) (d : Nat) : cells8 (D ++ [d]) = cells8 D ++ [.int .u8 ((d : Nat) : Int)] := by simp [cells8]

theorem infoByte : (Tryz.prog.info? 5).map (fun i => (i.zero, i.size, i.bytes)) = some (some (.int .u8 0), 1, 1) := by kernel_rfl

theorem owns_lt {w : World} {base : Nat} {e : TypeId} {s : Nat} {v : Value} {n : Nat} {xs : List Value} (h : w.ownsRow base e s v n xs) : ∀ k, v.ownBlock = some k → base ≤ k ∧ k < w.heap.size := by
  intro k hk
  rcases h.2 with ⟨rfl, _⟩ | ⟨g, cap, cur, rfl, hg, hh, _⟩
  · simp [Value.ownBlock] at hk
  · simp only [Value.ownBlock, Option.some.injEq] at hk
    subst hk
    exact ⟨hg, lt_of_block hh⟩
theorem one_new (w : World) (v : Value) (t : TypeId) : ∀ j u, [v][j]? = some u → (w.alloc (.cells #[v] t)).cell? ((Addr.mk w.heap.size 0 none).add j) = some u := by
  intro j u hj
  match j, hj with
  | 0, hj => simp at hj; subst hj; simp [Addr.add]
theorem owns_some {w : World} {base : Nat} {e : TypeId} {s : Nat} {v : Value} {n : Nat} {xs : List Value} (h : w.ownsRow base e s v n xs) (hn : 0 < n) : ∃ g cap, v = .slice (some ⟨g, 0, none⟩) n cap := by
  rcases h.2 with ⟨rfl, rfl⟩ | ⟨g, cap, cur, rfl, _⟩
  · omega
  · exact ⟨g, cap, rfl⟩
/-- The text of a list of bytes. -/
def textOf (D : List Nat) : ByteArray := ⟨(D.map UInt8.ofNat).toArray⟩
theorem textOf_size (D : List Nat) : (textOf D).size = D.length := by simp [textOf, ByteArray.size]

theorem run_text (w : World) (base : Nat) (v : Value) (D : List Nat) (hD : ∀ d ∈ D, d < 256) (h : w.ownsRow base 5 1 v D.length (cells8 D)) (h0 : 0 < D.length) :
    (convert 170 9 v).run Tryz.prog w = .ok (.string (textOf D)) w := by
  obtain ⟨g, cap, rfl⟩ := owns_some h h0
  have hl : (D.map UInt8.ofNat).length = D.length := by simp
  have hc := run_convert_bytes_back (P := Tryz.prog) w 170 9 5 ⟨g, 0, none⟩ cap (D.map UInt8.ofNat) Tryz.underlying170 Tryz.underlying5 Tryz.underlying9 (by
    intro j hj
    have hj' : j < D.length := by simpa using hj
    have hadd : (Addr.mk g 0 none).add j = ⟨g, j, none⟩ := by unfold Addr.add; split <;> simp_all
    rw [hadd]
    rcases h.2 with ⟨h, _⟩ | ⟨g', cap', cur, h, _, hh, _, _, _, ht⟩
    · cases h
    · simp only [Value.slice.injEq, Option.some.injEq, Addr.mk.injEq, and_true, true_and] at h
      obtain ⟨rfl, rfl⟩ := h
      have h1 : (cur.toList.take (D.length * 1))[j]? = (cells8 D)[j]? := by rw [ht]
      rw [List.getElem?_take_of_lt (by omega)] at h1
      simp only [World.cell?, hh]
      have hd := hD D[j] (List.getElem_mem hj')
      simpa [cells8, hj', Nat.mod_eq_of_lt hd] using h1)
  rw [hl] at hc
  exact hc
end Go.Proofs.YtgaoeoijdpdjiabGreatDoor

namespace Go.Proofs.YtgaoeoijdpdjiabGreatDoor
open Go.RowKit

/-- A text's bytes as numbers. -/
def bytesN (m : ByteArray) : List Nat := m.data.toList.map UInt8.toNat

theorem bytesN_length (m : ByteArray) : (bytesN m).length = m.size := by simp [bytesN]
theorem bytesN_lt (m : ByteArray) : ∀ c ∈ bytesN m, c < 256 := by
  intro c hc
  simp only [bytesN, List.mem_map] at hc
  obtain ⟨u, _, rfl⟩ := hc
  exact UInt8.toNat_lt u

/-- The row of n places behind k bytes. -/
def rowAt (x e n : Nat) (A : List Nat) (k : Nat) : List Int := (firsts x e (A.take k)).map Int.ofNat ++ List.replicate (n - k * e) 0

theorem rowAt_length (x e n : Nat) (A : List Nat) (k : Nat) (hk : k ≤ A.length) (hn : k * e ≤ n) : (rowAt x e n A k).length = n := by
  simp [rowAt, firsts_length, Nat.min_eq_left hk]; omega

theorem firsts_append (x e : Nat) (a b : List Nat) : firsts x e (a ++ b) = firsts x e a ++ firsts x e b := by
  induction a with
  | nil => rfl
  | cons c r ih => simp [firsts, ih]

theorem rowAt_step (x e n : Nat) (A : List Nat) (k : Nat) (hk : k < A.length) (hn : (k + 1) * e ≤ n) :
    laidTo (rowAt x e n A k) (k * e) e (digs x e (A[k]?.getD 0)) 0 = rowAt x e n A (k + 1) := by
  have e1 : A.take (k + 1) = A.take k ++ [A[k]] := List.take_succ_eq_append_getElem hk
  have h1 : ((firsts x e (A.take k)).map Int.ofNat).length = k * e := by simp [firsts_length, Nat.min_eq_left (Nat.le_of_lt hk)]
  have hke : (k + 1) * e = k * e + e := Nat.succ_mul k e
  unfold laidTo rowAt
  rw [e1, firsts_append, List.map_append]
  simp only [List.getElem?_eq_getElem hk, Option.getD_some, Nat.add_zero, List.drop_zero, firsts, List.append_nil]
  rw [List.take_left' h1, List.drop_append, List.drop_of_length_le (by rw [h1]; omega), List.nil_append, h1, List.drop_replicate]
  congr 2
  omega

theorem rowAt_last (x e f n : Nat) (A : List Nat) (hn : n = A.length * e + f) :
    laidTo (rowAt x e n A A.length) (A.length * e) f (digs x f (lackN x (firsts x e A))) 0 = (digitsN x e f A).map Int.ofNat := by
  have h1 : ((firsts x e A).map Int.ofNat).length = A.length * e := by simp [firsts_length]
  unfold laidTo rowAt digitsN
  rw [List.take_of_length_le (Nat.le_refl A.length)]
  simp only [Nat.add_zero, List.drop_zero]
  rw [List.take_left' h1, List.drop_of_length_le (by simp [firsts_length]; omega), List.append_nil, List.map_append]

theorem rowAt_take (x e n : Nat) (A : List Nat) : (rowAt x e n A A.length).take (A.length * e) = (firsts x e A).map Int.ofNat := by
  have h1 : ((firsts x e A).map Int.ofNat).length = A.length * e := by simp [firsts_length]
  unfold rowAt
  rw [List.take_of_length_le (Nat.le_refl A.length), List.take_left' h1]

theorem row_new (w : World) (c : Array Value) (x e n : Nat) (A : List Nat) (h : c = (List.replicate n (Value.int .i64 0)).toArray) : RowZ (w.alloc (.cells c 3)) w.heap.size (rowAt x e n A 0) := by
  subst h
  unfold RowZ rowAt
  rw [heap_alloc_new]
  simp [firsts]
theorem byte_at (m : ByteArray) (k : Nat) (h : k < m.size) : (bytesN m)[k]?.getD 0 = (m[k]'h).toNat := by
  simp only [bytesN, List.getElem?_map]
  rw [List.getElem?_eq_getElem (by simpa using h)]
  rfl
end Go.Proofs.YtgaoeoijdpdjiabGreatDoor
