/-
  The program's whole over words of 64 bits. A sector laid into the durable ones; a pending write read.
-/
import Derived.Test.YtgaoeoijdpdjiaaGreatDoorPart10
import Derived.Test.YtgaoeoijdpdjiaaGreatDoorPart3
import Derived.Test.YtgaoeoijdpdjiaaGreatDoorPart5
import Derived.Test.YtgaoeoijdpdjiaaGreatDoorPart7
import Derived.Test.YtgaoeoijdpdjiaaGreatDoorPart8
import Derived.Test.YtgaoeoijdpdjiaaGreatDoorPart14
namespace Go.Proofs.YtgaoeoijdpdjiaaGreatDoor
open Go.RowKit
/-- The words behind m blocks. -/
def soak64 (BL : List Nat) : Nat → List Nat
  | 0 => [1, 2, 3, 4, 5, 6, 7, 8]
  | m + 1 => stirTo 64 (take64 BL (m * 32) (soak64 BL m) 4) 8
end Go.Proofs.YtgaoeoijdpdjiaaGreatDoor

namespace Go.Proofs.YtgaoeoijdpdjiaaGreatDoor
open Go.RowKit
/-- A value of n cells may be stored there. -/
def StoreOk (w : World) (n : Nat) (v u : Value) : Prop := ∃ b o l, v = .pointer (some ⟨b, o, none⟩) ∧ u = .agg (List.toArray l) ∧ l.length = n ∧ (∀ c ∈ l, c.oneCell' = true) ∧ w.there b o n
def storeW (w : World) : Value → Value → World
  | .pointer (some ⟨b, o, none⟩), .agg cs => w.setCells b o cs.toList
  | _, _ => w
theorem storeW_at (w : World) (b o : Nat) (l : List Value) : storeW w (.pointer (some ⟨b, o, none⟩)) (.agg l.toArray) = w.setCells b o l := rfl
theorem wp_pre_store_sec {x y : Operand} {d : Option Nat} {ty : TypeId} {ps : String} {af : Array Edge} {g : Option (Nat × Bool)} {a : Act} {w : World} {K : Act → World → Prop} {Q : Exit → Act → World → Prop} (h : StoreOk w 32 (a.eval x) (a.eval y)) :
    Oper.wp Tryz.prog { dst := d, op := .store 308 x y, type := ty, pos := ps, after := af, guard := g } a w K Q = K (a.put d undef) (storeW w (a.eval x) (a.eval y)) := by
  obtain ⟨b, o, l, hx, hy, hl, h1, ht⟩ := h
  have hv := run_storeVar_mid (P := Tryz.prog) w b o 308 l.toArray (by rw [List.size_toArray, hl]; exact ht) (by rw [List.size_toArray, hl]; exact sizeSec) (all_oneCell_toArray h1)
  rw [hx, hy, storeW_at]
  unfold Oper.wp execOp
  simp only [hx, hy, Instr.storeAt, Instr.sureAddr, Sem.run_bind, Sem.run_pure, Result.andThen_ok, hv]
  rfl
theorem wp_pre_store_wri {x y : Operand} {d : Option Nat} {ty : TypeId} {ps : String} {af : Array Edge} {g : Option (Nat × Bool)} {a : Act} {w : World} {K : Act → World → Prop} {Q : Exit → Act → World → Prop} (h : StoreOk w 33 (a.eval x) (a.eval y)) :
    Oper.wp Tryz.prog { dst := d, op := .store 311 x y, type := ty, pos := ps, after := af, guard := g } a w K Q = K (a.put d undef) (storeW w (a.eval x) (a.eval y)) := by
  obtain ⟨b, o, l, hx, hy, hl, h1, ht⟩ := h
  have hv := run_storeVar_mid (P := Tryz.prog) w b o 311 l.toArray (by rw [List.size_toArray, hl]; exact ht) (by rw [List.size_toArray, hl]; exact sizeWri) (all_oneCell_toArray h1)
  rw [hx, hy, storeW_at]
  unfold Oper.wp execOp
  simp only [hx, hy, Instr.storeAt, Instr.sureAddr, Sem.run_bind, Sem.run_pure, Result.andThen_ok, hv]
  rfl
theorem there_new (w : World) (c : Array Value) (t : TypeId) (n : Nat) (hn : c.size = n) : (w.alloc (.cells c t)).there w.heap.size 0 n := by
  subst hn
  intro j hj
  have hb : (w.alloc (.cells c t)).heap[w.heap.size]? = some (.cells c t) := heap_alloc_new w _
  refine ⟨?_, ?_⟩
  · rw [Nat.zero_add, cell_of_row _ _ j c t _ hb, Array.getElem?_eq_getElem hj]; rfl
  · unfold World.frozen?
    rw [show (w.alloc (.cells c t)).heap[(⟨w.heap.size, 0 + j, none⟩ : Addr).block]? = some (.cells c t) from hb]
    simp
theorem setCells_new (w : World) (c : Array Value) (t : TypeId) (l : List Value) (h : c.size = l.length) : (w.alloc (.cells c t)).setCells w.heap.size 0 l = w.alloc (.cells l.toArray t) := by
  have e : ∀ (l : List Value) (o : Nat) (c : List Value), o + l.length ≤ c.length → (w.alloc (.cells c.toArray t)).setCells w.heap.size o l = w.alloc (.cells (overlay c o l).toArray t) := by
    intro l
    induction l with
    | nil => intro o c _; rfl
    | cons v r ih =>
      intro o c hc
      simp only [List.length_cons] at hc
      rw [World.setCells, overlay]
      have e1 : (w.alloc (.cells c.toArray t)).setCell ⟨w.heap.size, o, none⟩ v = w.alloc (.cells (c.set o v).toArray t) := by
        rw [setCell_eq_setRow _ _ _ _ _ _ _ (heap_alloc_new w _), World.setRow_alloc_new]
        simp
      rw [e1]
      exact ih (o + 1) (c.set o v) (by rw [List.length_set]; omega)
  obtain ⟨c⟩ := c
  simp only [List.size_toArray] at h
  rw [e l 0 c (by omega)]
  congr 3
  apply List.ext_getElem?
  intro k
  rw [overlay_get _ _ _ _ (by omega)]
  by_cases hk : k < l.length
  · rw [if_pos ⟨Nat.zero_le _, by omega⟩, Nat.sub_zero]
  · rw [if_neg (by omega), List.getElem?_eq_none (by omega), List.getElem?_eq_none (by omega)]
section
variable {lo D E : Nat} {pv : Value} {s : DSt} {w w' : World}
theorem DAt.secLen (h : DAt lo D E pv s w) : ∀ x ∈ s.dur, (cellsB x).length = 32 := fun x hx => cells32 (h.ok.sec x hx)
theorem DAt.penLen (h : DAt lo D E pv s w) : ∀ p ∈ s.pend, (penC p).length = 33 := fun p hp => pen33 (h.ok.pen p hp).2
theorem DAt.thereE (h : DAt lo D E pv s w) (k : Nat) (hk : k < s.n) : w.there E (k * 32) 32 := by
  intro j hj
  have hl := flat_length cellsB 32 s.dur h.secLen
  rw [h.ok.len] at hl
  have hb : k * 32 + 32 ≤ s.n * 32 := by rw [← Nat.succ_mul]; exact Nat.mul_le_mul_right 32 hk
  refine ⟨?_, freeOf h.durable _⟩
  rw [cell_of_row w E _ _ _ _ h.durable, List.getElem?_toArray, List.getElem?_eq_getElem (by rw [secs, hl]; omega)]
  rfl
theorem DAt.rangeE (h : DAt lo D E pv s w) (k : Nat) (x : ByteArray) (hx : s.dur[k]? = some x) : w.rangeAt E (k * 32) (cellsB x) :=
  flat_range cellsB 32 s.dur k x h.secLen hx h.durable (by
    rw [List.take_of_length_le (by rw [secs, flat_length cellsB 32 s.dur h.secLen]; exact Nat.le_refl _)]; rfl)
theorem DAt.stored (h : DAt lo D E pv s w) (k : Nat) (t : ByteArray) (hk : k < s.n) (ht : t.size = 32) : DAt lo D E pv { s with dur := s.dur.set k t } (w.setCells E (k * 32) (cellsB t)) := by
  have hK := kept_sets E (cellsB t) (k * 32) w
  refine ⟨?_, ?_, owns_kept h.pending hK (fun j e hj => h.pe (by rw [e]; exact congrArg some hj)), ⟨by simp [h.ok.len], ?_, h.ok.pen, h.ok.lo, h.ok.hi, h.ok.most, h.ok.tr, h.ok.tr2⟩, h.de, h.pd, h.pe, h.loD, h.loE⟩
  · rw [hK.block D h.ltD h.de]; exact h.disk
  · have := block_setCells E (cellsB t) (k * 32) (secs s.dur) w h.durable
    rw [secs, overlay_flat cellsB 32 s.dur k t h.secLen (cells32 ht) (by rw [h.ok.len]; exact hk)] at this
    exact this
  · intro x hx
    rcases List.mem_or_eq_of_mem_set hx with hx | hx
    · exact h.ok.sec x hx
    · rw [hx]; exact ht
theorem DAt.row (h : DAt lo D E pv s w) (hp : 0 < s.pend.length) : ∃ P cap, pv = .slice (some ⟨P, 0, none⟩) s.pend.length cap ∧ s.pend.length ≤ cap ∧ P < w.heap.size ∧ ∀ j p, s.pend[j]? = some p → w.rangeAt P (j * 33) (penC p) := by
  rcases h.pending.2 with ⟨_, h0⟩ | ⟨g, cap, cur, hv, hb, hg, hc, _, hs, ht⟩
  · omega
  · refine ⟨g, cap, hv, hc, (Array.getElem?_eq_some_iff.1 hg).1, fun j p hj => ?_⟩
    have hg' : w.heap[g]? = some (.cells cur.toList.toArray 311 (0, 0)) := by simpa using hg
    exact flat_range penC 33 s.pend j p h.penLen hj hg' ht
end
/-- What is durable behind the first j of the pending writes. -/
def laidJ (s : DSt) (j : Nat) : List ByteArray := (s.pend.take j).foldl (fun d p => d.set p.1 p.2) s.dur
theorem laidJ_zero (s : DSt) : laidJ s 0 = s.dur := rfl
theorem laidJ_succ (s : DSt) (j : Nat) (p : Nat × ByteArray) (h : s.pend[j]? = some p) : laidJ s (j + 1) = (laidJ s j).set p.1 p.2 := by
  obtain ⟨hj, rfl⟩ := List.getElem?_eq_some_iff.1 h
  rw [laidJ, List.take_succ_eq_append_getElem hj, List.foldl_append]
  rfl
end Go.Proofs.YtgaoeoijdpdjiaaGreatDoor
