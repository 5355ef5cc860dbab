/-
  Sectors and writes by value: loaded, stored, built.
-/
import Derived.Test.YtgaoeoijdpdjiaaGreatDoorPart12
import Derived.Deep.WholeRow
import Derived.Laws.Tables
namespace Go.Proofs.YtgaoeoijdpdjiaaGreatDoor
open Go.RowKit
theorem list32 {l : List Value} (h : l.length = 32) : ∃ c0 c1 c2 c3 c4 c5 c6 c7 c8 c9 c10 c11 c12 c13 c14 c15 c16 c17 c18 c19 c20 c21 c22 c23 c24 c25 c26 c27 c28 c29 c30 c31, l = [c0, c1, c2, c3, c4, c5, c6, c7, c8, c9, c10, c11, c12, c13, c14, c15, c16, c17, c18, c19, c20, c21, c22, c23, c24, c25, c26, c27, c28, c29, c30, c31] := by
  match l, h with
  | [c0, c1, c2, c3, c4, c5, c6, c7, c8, c9, c10, c11, c12, c13, c14, c15, c16, c17, c18, c19, c20, c21, c22, c23, c24, c25, c26, c27, c28, c29, c30, c31], _ => exact ⟨c0, c1, c2, c3, c4, c5, c6, c7, c8, c9, c10, c11, c12, c13, c14, c15, c16, c17, c18, c19, c20, c21, c22, c23, c24, c25, c26, c27, c28, c29, c30, c31, rfl⟩
theorem sizeSec : (Tryz.prog.info? 308).map (·.size) = some 32 := by kernel_rfl
theorem sizeWri : (Tryz.prog.info? 311).map (·.size) = some 33 := by kernel_rfl
theorem cells32 {s : ByteArray} (h : s.size = 32) : (cellsB s).length = 32 := by rw [cellsB_length, h]
theorem pen33 {p : Nat × ByteArray} (h : p.2.size = 32) : (penC p).length = 33 := by rw [penC_length, h]
/-- So many cells from a place on, if they are all there. -/
def cellsAt (w : World) (b o : Nat) : Nat → Option (List Value)
  | 0 => some []
  | n + 1 => (w.cell? ⟨b, o, none⟩).bind (fun v => (cellsAt w b (o + 1) n).map (fun l => v :: l))
theorem cellsAt_range : ∀ (n : Nat) (cs : List Value) (w : World) (b o : Nat), cellsAt w b o n = some cs → cs.length = n ∧ w.rangeAt b o cs
  | 0, cs, w, b, o, h => by
    simp only [cellsAt, Option.some.injEq] at h
    subst h
    exact ⟨rfl, fun j v hv => by simp at hv⟩
  | n + 1, cs, w, b, o, h => by
    simp only [cellsAt] at h
    cases hc : w.cell? ⟨b, o, none⟩ with
    | none => simp [hc] at h
    | some v =>
      cases hr : cellsAt w b (o + 1) n with
      | none => simp [hc, hr] at h
      | some l =>
        simp only [hc, hr, Option.bind_some, Option.map_some, Option.some.injEq] at h
        subst h
        obtain ⟨h1, h2⟩ := cellsAt_range n l w b (o + 1) hr
        refine ⟨by simp [h1], ?_⟩
        intro j u hu
        cases j with
        | zero => simp at hu; subst hu; exact hc
        | succ j => rw [show o + (j + 1) = o + 1 + j by omega]; exact h2 j u (by simpa using hu)
theorem range_cellsAt : ∀ (cs : List Value) (n : Nat) (w : World) (b o : Nat), cs.length = n → w.rangeAt b o cs → cellsAt w b o n = some cs
  | [], n, w, b, o, hn, h => by subst hn; rfl
  | v :: l, n, w, b, o, hn, h => by
    subst hn
    have h0 : w.cell? ⟨b, o, none⟩ = some v := h 0 v rfl
    have hr := range_cellsAt l l.length w b (o + 1) rfl (fun j u hu => by rw [show o + 1 + j = o + (j + 1) by omega]; exact h (j + 1) u (by simpa using hu))
    simp [cellsAt, h0, hr]
def ptrCells (w : World) (n : Nat) : Value → Option (List Value)
  | .pointer (some ⟨b, o, none⟩) => cellsAt w b o n
  | _ => none
theorem ptrCells_at (w : World) (n b o : Nat) : ptrCells w n (.pointer (some ⟨b, o, none⟩)) = cellsAt w b o n := rfl
theorem ptrCells_range {w : World} {n : Nat} {v : Value} (h : (ptrCells w n v).isSome = true) : ∃ b o cs, v = .pointer (some ⟨b, o, none⟩) ∧ ptrCells w n v = some cs ∧ cs.length = n ∧ w.rangeAt b o cs := by
  obtain ⟨cs, hcs⟩ := Option.isSome_iff_exists.1 h
  match v, hcs with
  | .pointer (some ⟨b, o, none⟩), hcs =>
    obtain ⟨h1, h2⟩ := cellsAt_range n cs w b o hcs
    exact ⟨b, o, cs, rfl, hcs, h1, h2⟩
theorem wp_pre_sec {x : Operand} {d : Option Nat} {ty : TypeId} {ps : String} {af : Array Edge} {g : Option (Nat × Bool)} {a : Act} {w : World} {K : Act → World → Prop} {Q : Exit → Act → World → Prop} (h : (ptrCells w 32 (a.eval x)).isSome = true) :
    Oper.wp Tryz.prog { dst := d, op := .load 308 x, type := ty, pos := ps, after := af, guard := g } a w K Q = K (a.put d (.agg ((ptrCells w 32 (a.eval x)).getD []).toArray)) w := by
  obtain ⟨b, o, cs, hx, hcs, hl, hr⟩ := ptrCells_range h
  have hv := run_loadVar_mid (P := Tryz.prog) w b o 308 cs _ hr Tryz.underlying308 rfl (by rw [hl]; exact sizeSec)
  rw [hcs]
  unfold Oper.wp execOp
  simp only [hx, Instr.loadAt, Instr.sureAddr, Sem.run_bind, Sem.run_pure, Result.andThen_ok, hv]
  rfl
theorem wp_pre_wri {x : Operand} {d : Option Nat} {ty : TypeId} {ps : String} {af : Array Edge} {g : Option (Nat × Bool)} {a : Act} {w : World} {K : Act → World → Prop} {Q : Exit → Act → World → Prop} (h : (ptrCells w 33 (a.eval x)).isSome = true) :
    Oper.wp Tryz.prog { dst := d, op := .load 311 x, type := ty, pos := ps, after := af, guard := g } a w K Q = K (a.put d (.agg ((ptrCells w 33 (a.eval x)).getD []).toArray)) w := by
  obtain ⟨b, o, cs, hx, hcs, hl, hr⟩ := ptrCells_range h
  have hv := run_loadVar_mid (P := Tryz.prog) w b o 311 cs _ hr Tryz.underlying311 rfl (by rw [hl]; exact sizeWri)
  rw [hcs]
  unfold Oper.wp execOp
  simp only [hx, Instr.loadAt, Instr.sureAddr, Sem.run_bind, Sem.run_pure, Result.andThen_ok, hv]
  rfl
/-- A write built out of its two parts; a slice of one write. -/
def aggList : Value → List Value
  | .agg cs => cs.toList
  | _ => []
def isAggN (n : Nat) : Value → Bool
  | .agg cs => cs.size == n
  | _ => false
def isInt64 : Value → Bool
  | .int .i64 _ => true
  | _ => false
theorem aggList_at (l : List Value) : aggList (.agg l.toArray) = l := rfl
theorem isAggN_at (n : Nat) (l : List Value) : isAggN n (.agg l.toArray) = (l.length == n) := rfl
theorem isInt64_at (n : Int) : isInt64 (.int .i64 n) = true := rfl
theorem isAggN_out {n : Nat} {v : Value} (h : isAggN n v = true) : ∃ l : List Value, v = .agg l.toArray ∧ l.length = n := by
  cases v with
  | agg cs => exact ⟨cs.toList, by simp, by simpa [isAggN] using h⟩
  | _ => simp [isAggN] at h
theorem isInt64_out {v : Value} (h : isInt64 v = true) : ∃ n, v = .int .i64 n := by
  match v, h with
  | .int .i64 n, _ => exact ⟨n, rfl⟩
theorem buildWri (w : World) (n : Int) (l : List Value) (h : l.length = 32) : (Instr.build 311 #[(0, .int .i64 n), (1, .agg l.toArray)]).run Tryz.prog w = .ok (.agg (.int .i64 n :: l).toArray) w := by
  obtain ⟨c0, c1, c2, c3, c4, c5, c6, c7, c8, c9, c10, c11, c12, c13, c14, c15, c16, c17, c18, c19, c20, c21, c22, c23, c24, c25, c26, c27, c28, c29, c30, c31, rfl⟩ := list32 h
  refine run_build w 311 _ _ ?_
  first | (show _ = _; kernel_rfl) | rfl
theorem sliceWri (w : World) (l : List Value) (h : l.length = 33) : (Instr.buildSlice 304 1 #[(0, .agg l.toArray)]).run Tryz.prog w = .ok (.slice (some ⟨w.heap.size, 0, none⟩) 1 1) (w.alloc (.cells l.toArray 311)) := by
  cases l with
  | nil => simp at h
  | cons z l =>
    obtain ⟨c0, c1, c2, c3, c4, c5, c6, c7, c8, c9, c10, c11, c12, c13, c14, c15, c16, c17, c18, c19, c20, c21, c22, c23, c24, c25, c26, c27, c28, c29, c30, c31, rfl⟩ := list32 (l := l) (by simpa using h)
    first | (show _ = _; kernel_rfl) | rfl
theorem wp_pre_build {x y : Operand} {d : Option Nat} {ty : TypeId} {ps : String} {af : Array Edge} {g : Option (Nat × Bool)} {a : Act} {w : World} {K : Act → World → Prop} {Q : Exit → Act → World → Prop} (hx : isInt64 (a.eval x) = true) (hy : isAggN 32 (a.eval y) = true) :
    Oper.wp Tryz.prog { dst := d, op := .build 311 #[(0, x), (1, y)], type := ty, pos := ps, after := af, guard := g } a w K Q = K (a.put d (.agg (a.eval x :: aggList (a.eval y)).toArray)) w := by
  obtain ⟨n, hn⟩ := isInt64_out hx
  obtain ⟨l, hl, hl2⟩ := isAggN_out hy
  have hb := buildWri w n l hl2
  rw [hn, hl, aggList_at]
  unfold Oper.wp execOp
  simp only [List.map_toArray, List.map_cons, List.map_nil, hn, hl, Sem.run_bind, Sem.run_pure, Result.andThen_ok, hb]
  rfl
theorem wp_pre_slice {x : Operand} {d : Option Nat} {ty : TypeId} {ps : String} {af : Array Edge} {g : Option (Nat × Bool)} {a : Act} {w : World} {K : Act → World → Prop} {Q : Exit → Act → World → Prop} (hy : isAggN 33 (a.eval x) = true) :
    Oper.wp Tryz.prog { dst := d, op := .buildSlice 304 1 #[(0, x)], type := ty, pos := ps, after := af, guard := g } a w K Q = K (a.put d (.slice (some ⟨w.heap.size, 0, none⟩) 1 1)) (w.alloc (.cells (aggList (a.eval x)).toArray 311)) := by
  obtain ⟨l, hl, hl2⟩ := isAggN_out hy
  have hb := sliceWri w l hl2
  rw [hl, aggList_at]
  unfold Oper.wp execOp
  simp only [List.map_toArray, List.map_cons, List.map_nil, hl, Sem.run_bind, Sem.run_pure, Result.andThen_ok, hb]
  rfl
end Go.Proofs.YtgaoeoijdpdjiaaGreatDoor
