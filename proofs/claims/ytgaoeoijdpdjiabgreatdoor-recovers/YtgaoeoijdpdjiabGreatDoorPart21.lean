/-
  A sector laid into the durable ones; a pending write read. The disk's Sync. The disk's Crash. slices.Backward over the pending writes: what the loop over it is handed. signet.Digits at a right set and a text of its length: the digits of P6, in a new list. What a set measures, as whole numbers. A script of steps that comes in, opened.
-/
import Derived.Test.YtgaoeoijdpdjiabGreatDoorPart13
import Derived.RangeFuncNested
import Derived.RangeFuncBound
import Derived.RangeFuncCalls
import Derived.RangeFuncLeaves
import Derived.RangeFuncBox
import Derived.RangeFuncWrites
import Derived.OwnWalkIn
import Derived.TacticsInMore
import Derived.LoopNIn
import Derived.LoopIn
import Derived.Test.YtgaoeoijdpdjiabGreatDoorPart19
import Derived.Test.YtgaoeoijdpdjiabGreatDoorPart20
import Derived.Test.YtgaoeoijdpdjiabGreatDoorPart4
import Derived.Test.YtgaoeoijdpdjiabGreatDoorPart12
import Derived.Test.YtgaoeoijdpdjiabGreatDoorPart2
import Derived.OpenShut
import Derived.ShutString
import Derived.ChangeOld
import Derived.Deep.Grids
namespace Go.Proofs.YtgaoeoijdpdjiabGreatDoor
open Go.RowKit
/-- A value of n cells may be stored there. -/
def StoreOk (w : World) (n : Nat) (v u : Value) : Prop := ∃ b o l, v = .pointer (some ⟨b, o, none⟩) ∧ u = .agg (List.toArray l) ∧ l.length = n ∧ (∀ c ∈ l, c.oneCell' = true) ∧ w.there b o n
def storeW (w : World) : Value → Value → World
  | .pointer (some ⟨b, o, none⟩), .agg cs => w.setCells b o cs.toList
  | _, _ => w
theorem storeW_at (w : World) (b o : Nat) (l : List Value) : storeW w (.pointer (some ⟨b, o, none⟩)) (.agg l.toArray) = w.setCells b o l := rfl
theorem wp_pre_store_sec {x y : Operand} {d : Option Nat} {ty : TypeId} {ps : String} {af : Array Edge} {g : Option (Nat × Bool)} {a : Act} {w : World} {K : Act → World → Prop} {Q : Exit → Act → World → Prop} (h : StoreOk w 32 (a.eval x) (a.eval y)) :
    Oper.wp Tryz.prog { dst := d, op := .store 239 x y, type := ty, pos := ps, after := af, guard := g } a w K Q = K (a.put d undef) (storeW w (a.eval x) (a.eval y)) := by
  obtain ⟨b, o, l, hx, hy, hl, h1, ht⟩ := h
  have hv := run_storeVar_mid (P := Tryz.prog) w b o 239 l.toArray (by rw [List.size_toArray, hl]; exact ht) (by rw [List.size_toArray, hl]; exact sizeSec) (all_oneCell_toArray h1)
  rw [hx, hy, storeW_at]
  unfold Oper.wp execOp
  simp only [hx, hy, Instr.storeAt, Instr.sureAddr, Sem.run_bind, Sem.run_pure, Result.andThen_ok, hv]
  rfl
theorem wp_pre_store_wri {x y : Operand} {d : Option Nat} {ty : TypeId} {ps : String} {af : Array Edge} {g : Option (Nat × Bool)} {a : Act} {w : World} {K : Act → World → Prop} {Q : Exit → Act → World → Prop} (h : StoreOk w 33 (a.eval x) (a.eval y)) :
    Oper.wp Tryz.prog { dst := d, op := .store 241 x y, type := ty, pos := ps, after := af, guard := g } a w K Q = K (a.put d undef) (storeW w (a.eval x) (a.eval y)) := by
  obtain ⟨b, o, l, hx, hy, hl, h1, ht⟩ := h
  have hv := run_storeVar_mid (P := Tryz.prog) w b o 241 l.toArray (by rw [List.size_toArray, hl]; exact ht) (by rw [List.size_toArray, hl]; exact sizeWri) (all_oneCell_toArray h1)
  rw [hx, hy, storeW_at]
  unfold Oper.wp execOp
  simp only [hx, hy, Instr.storeAt, Instr.sureAddr, Sem.run_bind, Sem.run_pure, Result.andThen_ok, hv]
  rfl
theorem there_new (w : World) (c : Array Value) (t : TypeId) (n : Nat) (hn : c.size = n) : (w.alloc (.cells c t)).there w.heap.size 0 n := by
  subst hn
  intro j hj
  have hb : (w.alloc (.cells c t)).heap[w.heap.size]? = some (.cells c t) := heap_alloc_new w _
  refine ⟨?_, ?_⟩
  · rw [Nat.zero_add, cell_of_row _ _ j c t _ hb, Array.getElem?_eq_getElem hj]; rfl
  · unfold World.frozen?
    rw [show (w.alloc (.cells c t)).heap[(⟨w.heap.size, 0 + j, none⟩ : Addr).block]? = some (.cells c t) from hb]
    simp
theorem setCells_new (w : World) (c : Array Value) (t : TypeId) (l : List Value) (h : c.size = l.length) : (w.alloc (.cells c t)).setCells w.heap.size 0 l = w.alloc (.cells l.toArray t) := by
  have e : ∀ (l : List Value) (o : Nat) (c : List Value), o + l.length ≤ c.length → (w.alloc (.cells c.toArray t)).setCells w.heap.size o l = w.alloc (.cells (overlay c o l).toArray t) := by
    intro l
    induction l with
    | nil => intro o c _; rfl
    | cons v r ih =>
      intro o c hc
      simp only [List.length_cons] at hc
      rw [World.setCells, overlay]
      have e1 : (w.alloc (.cells c.toArray t)).setCell ⟨w.heap.size, o, none⟩ v = w.alloc (.cells (c.set o v).toArray t) := by
        rw [setCell_eq_setRow _ _ _ _ _ _ _ (heap_alloc_new w _), World.setRow_alloc_new]
        simp
      rw [e1]
      exact ih (o + 1) (c.set o v) (by rw [List.length_set]; omega)
  obtain ⟨c⟩ := c
  simp only [List.size_toArray] at h
  rw [e l 0 c (by omega)]
  congr 3
  apply List.ext_getElem?
  intro k
  rw [overlay_get _ _ _ _ (by omega)]
  by_cases hk : k < l.length
  · rw [if_pos ⟨Nat.zero_le _, by omega⟩, Nat.sub_zero]
  · rw [if_neg (by omega), List.getElem?_eq_none (by omega), List.getElem?_eq_none (by omega)]
section
variable {lo D E : Nat} {pv : Value} {s : DSt} {w w' : World}
theorem DAt.secLen (h : DAt lo D E pv s w) : ∀ x ∈ s.dur, (cellsB x).length = 32 := fun x hx => cells32 (h.ok.sec x hx)
theorem DAt.penLen (h : DAt lo D E pv s w) : ∀ p ∈ s.pend, (penC p).length = 33 := fun p hp => pen33 (h.ok.pen p hp).2
theorem DAt.thereE (h : DAt lo D E pv s w) (k : Nat) (hk : k < s.n) : w.there E (k * 32) 32 := by
  intro j hj
  have hl := flat_length cellsB 32 s.dur h.secLen
  rw [h.ok.len] at hl
  have hb : k * 32 + 32 ≤ s.n * 32 := by rw [← Nat.succ_mul]; exact Nat.mul_le_mul_right 32 hk
  refine ⟨?_, freeOf h.durable _⟩
  rw [cell_of_row w E _ _ _ _ h.durable, List.getElem?_toArray, List.getElem?_eq_getElem (by rw [secs, hl]; omega)]
  rfl
theorem DAt.rangeE (h : DAt lo D E pv s w) (k : Nat) (x : ByteArray) (hx : s.dur[k]? = some x) : w.rangeAt E (k * 32) (cellsB x) :=
  flat_range cellsB 32 s.dur k x h.secLen hx h.durable (by
    rw [List.take_of_length_le (by rw [secs, flat_length cellsB 32 s.dur h.secLen]; exact Nat.le_refl _)]; rfl)
theorem DAt.stored (h : DAt lo D E pv s w) (k : Nat) (t : ByteArray) (hk : k < s.n) (ht : t.size = 32) : DAt lo D E pv { s with dur := s.dur.set k t } (w.setCells E (k * 32) (cellsB t)) := by
  have hK := kept_sets E (cellsB t) (k * 32) w
  refine ⟨?_, ?_, owns_kept h.pending hK (fun j e hj => h.pe (by rw [e]; exact congrArg some hj)), ⟨by simp [h.ok.len], ?_, h.ok.pen, h.ok.lo, h.ok.hi, h.ok.most, h.ok.tr, h.ok.tr2⟩, h.de, h.pd, h.pe, h.loD, h.loE⟩
  · rw [hK.block D h.ltD h.de]; exact h.disk
  · have := block_setCells E (cellsB t) (k * 32) (secs s.dur) w h.durable
    rw [secs, overlay_flat cellsB 32 s.dur k t h.secLen (cells32 ht) (by rw [h.ok.len]; exact hk)] at this
    exact this
  · intro x hx
    rcases List.mem_or_eq_of_mem_set hx with hx | hx
    · exact h.ok.sec x hx
    · rw [hx]; exact ht
theorem DAt.row (h : DAt lo D E pv s w) (hp : 0 < s.pend.length) : ∃ P cap, pv = .slice (some ⟨P, 0, none⟩) s.pend.length cap ∧ s.pend.length ≤ cap ∧ P < w.heap.size ∧ ∀ j p, s.pend[j]? = some p → w.rangeAt P (j * 33) (penC p) := by
  rcases h.pending.2 with ⟨_, h0⟩ | ⟨g, cap, cur, hv, hb, hg, hc, _, hs, ht⟩
  · omega
  · refine ⟨g, cap, hv, hc, (Array.getElem?_eq_some_iff.1 hg).1, fun j p hj => ?_⟩
    have hg' : w.heap[g]? = some (.cells cur.toList.toArray 241 (0, 0)) := by simpa using hg
    exact flat_range penC 33 s.pend j p h.penLen hj hg' ht
end
/-- What is durable behind the first j of the pending writes. -/
def laidJ (s : DSt) (j : Nat) : List ByteArray := (s.pend.take j).foldl (fun d p => d.set p.1 p.2) s.dur
theorem laidJ_succ (s : DSt) (j : Nat) (p : Nat × ByteArray) (h : s.pend[j]? = some p) : laidJ s (j + 1) = (laidJ s j).set p.1 p.2 := by
  obtain ⟨hj, rfl⟩ := List.getElem?_eq_some_iff.1 h
  rw [laidJ, List.take_succ_eq_append_getElem hj, List.foldl_append]
  rfl
end Go.Proofs.YtgaoeoijdpdjiabGreatDoor

namespace Go.Proofs.YtgaoeoijdpdjiabGreatDoor
open Go.RowKit
attribute [local go_sem ↓] wp_pre_sec wp_pre_wri wp_pre_store_sec wp_pre_store_wri Go.wp_at_zero Go.wp_at_succ
attribute [local go_sem] ptrCells_at storeW_at
theorem sync_no (lo D E : Nat) (pv : Value) (s : DSt) (w : World) (h : DAt lo D E pv s w) (h1 : s.trouble = 1) :
    Calls Tryz.prog 105 #[.pointer (some ⟨D, 0, none⟩)] w fun e w' => e = .returned (.int .i64 5) ∧ DAt lo D E pv { s with trouble := tick s.trouble } w' ∧ Kept (fun k => k = D) w w' := by
  have HF := hideK (fails_any lo D E pv s w h)
  rw [decide_eq_true h1] at HF
  clear h h1
  go_enter Tryz.func105, Tryz.ntmps105
  go_wp2_with fail
  refine HF.out.mono ?_
  rintro e w2 ⟨rfl, hd2, hk2⟩
  have HD2 := hideK hd2
  have HK2 := hideK hk2
  clear hd2 hk2
  go_wp2
  go_ret
  exact ⟨rfl, HD2.out, HK2.out⟩
set_option maxRecDepth 20000 in
set_option maxHeartbeats 2000000 in
theorem sync_ok (lo D E : Nat) (pv : Value) (s : DSt) (w : World) (h : DAt lo D E pv s w) (h1 : s.trouble ≠ 1) (hw : 0 ≤ s.syncs) (hw2 : s.syncs < 9223372036854775807) :
    Calls Tryz.prog 105 #[.pointer (some ⟨D, 0, none⟩)] w fun e w' => e = .returned (.int .i64 0) ∧ DAt lo D E (.slice none 0 0) { s with trouble := tick s.trouble, dur := laidJ s s.pend.length, pend := [], syncs := s.syncs + 1 } w' ∧ Kept (DFoot D E pv) w w' := by
  have HF := hideK (fails_any lo D E pv s w h)
  rw [decide_eq_false h1] at HF
  obtain ⟨a, c, hpv⟩ := owns_len h.pending
  have hm := h.ok.most
  have HOK := hideK h.ok
  subst hpv
  clear h h1
  go_enter Tryz.func105, Tryz.ntmps105
  go_wp2_with fail
  refine HF.out.mono ?_
  rintro e w2 ⟨rfl, hd2, hk2⟩
  have c1 := hd2.c1
  have HD2 := hideK hd2
  have HK2 := hideK (hk2.mono (G := DFoot D E (.slice a s.pend.length c)) (fun k _ e => .inl e))
  clear hd2 hk2 HF
  go_wp2
  clear c1
  go_loopw [12] (fun i wr => ∃ j : Nat, j ≤ s.pend.length ∧ i = .int .i64 j ∧ Hid (DAt lo D E (.slice a s.pend.length c) { s with trouble := tick s.trouble, dur := laidJ s j } wr) ∧ Hid (Kept (DFoot D E (.slice a s.pend.length c)) w wr)) (fun i _ => s.pend.length - (intOf i).toNat)
  case atStart => exact ⟨0, Nat.zero_le _, rfl, HD2.out, HK2.out⟩
  case round =>
    obtain ⟨j, hj, rfl, hd, hk⟩ := hrel
    by_cases hlt : j < s.pend.length
    · obtain ⟨p, hp⟩ : ∃ p, s.pend[j]? = some p := ⟨_, List.getElem?_eq_getElem hlt⟩
      obtain ⟨P, cap, hpv, hcap, hPlt, hrow⟩ := hd.out.row (Nat.lt_of_le_of_lt (Nat.zero_le _) hlt)
      simp only [Value.slice.injEq] at hpv
      obtain ⟨rfl, _, rfl⟩ := hpv
      have hpp := HOK.out.pen p (List.mem_of_getElem? hp)
      have HPP := hideK hpp.2
      have hpn : p.1 < s.n := hpp.1
      have hn8 := HOK.out.hi
      have l1 := range_cellsAt (penC p) 33 wr P (j * 33) (pen33 hpp.2) (hrow j p hp)
      have HLJ := hideK (laidJ_succ s j p hp)
      have hag : ∀ cc : Array Value, cc.size = 33 → StoreOk (wr.alloc (.cells cc 241)) 33 (.pointer (some ⟨wr.heap.size, 0, none⟩)) (.agg (penC p).toArray) := fun cc hcc => ⟨_, _, _, rfl, rfl, pen33 HPP.out, penC_one p, there_new wr cc _ 33 hcc⟩
      have hsn : ∀ cc : Array Value, cc.size = 33 → (wr.alloc (.cells cc 241)).setCells wr.heap.size 0 (penC p) = wr.alloc (.cells (penC p).toArray 241) := fun cc hcc => setCells_new wr cc _ _ (by rw [hcc, pen33 HPP.out])
      clear hrow hpp
      go_wp2_with fail
      clear hag hsn l1
      generalize hV : wr.alloc (.cells (penC p).toArray 241) = V
      have hbV : Below wr.heap.size wr V := by subst hV; exact (Below.refl _ _).alloc (Nat.le_refl _) _
      have hnew : V.heap[wr.heap.size]? = some (.cells (penC p).toArray 241 (0, 0)) := by subst hV; exact heap_alloc_new wr _
      have HDV := hideK (hd.out.below hbV)
      have HKV := hideK (hk.out.after hbV)
      have d0 := HDV.out.c0
      have b0 : V.cell? ⟨wr.heap.size, 0, none⟩ = some (.int .i64 ((p.1 : Nat) : Int)) := cellOf hnew rfl
      have l2 : cellsAt V.drew wr.heap.size 1 32 = some (cellsB p.2) := range_cellsAt _ _ _ _ _ (cells32 HPP.out) (fun q v hv => by
        refine cellOf (w := V) hnew ?_
        rw [show 1 + q = q + 1 by omega, penC, List.getElem?_cons_succ]
        exact hv)
      have so : StoreOk V.drew 32 (.pointer (some ⟨E, p.1 * 32, none⟩)) (.agg (cellsB p.2).toArray) := ⟨_, _, _, rfl, rfl, cells32 HPP.out, cellsB_one _, HDV.out.drew.thereE p.1 hpn⟩
      have q0 : (0 : Int) ≤ (p.1 : Int) := by omega
      have q1 : (p.1 : Int) < (s.n : Int) := by omega
      clear hV hnew hbV
      go_region_law (fail)
      all_goals
        go_wp2
        go_roundw
        case rel =>
          refine ⟨j + 1, by omega, by go_num, ?_, ?_⟩
          · have := HDV.out.drew.stored p.1 p.2 hpn HPP.out
            show DAt _ _ _ _ _ _
            rw [HLJ.out]
            exact this
          · exact HKV.out.drew.setCells (.inl (.inr (.inl rfl))) _ _
        case measure => simp [intOf]; omega
    · obtain rfl : j = s.pend.length := by omega
      have d1 := hd.out.c1
      have d3 := hd.out.c3
      have df := hd.out.free
      have HX := hideK (hd.out.clear.setSyncs (s.syncs + 1))
      have HKX := hideK ((hk.out.setCell (p := ⟨D, 1, none⟩) (.inl (.inl rfl)) (.slice none 0 0)).setCell (p := ⟨D, 3, none⟩) (.inl (.inl rfl)) (.int .i64 (s.syncs + 1)))
      go_wp2
      go_ret
      exact ⟨rfl, HX.out, HKX.out⟩
end Go.Proofs.YtgaoeoijdpdjiabGreatDoor

namespace Go.Proofs.YtgaoeoijdpdjiabGreatDoor
open Go.RowKit
attribute [local go_sem ↓] wp_pre_sec wp_pre_wri wp_pre_store_sec wp_pre_store_wri Go.wp_at_zero Go.wp_at_succ
attribute [local go_sem] ptrCells_at storeW_at
/-- What is durable behind a crash that keeps some of the first j of the pending writes. -/
def keptJ (s : DSt) (K : List Bool) (j : Nat) : List ByteArray := ((s.pend.take j).zipIdx).foldl (fun d q => if K.getD q.2 false then d.set q.1.1 q.1.2 else d) s.dur
theorem keptJ_succ (s : DSt) (K : List Bool) (j : Nat) (p : Nat × ByteArray) (h : s.pend[j]? = some p) : keptJ s K (j + 1) = if K.getD j false then (keptJ s K j).set p.1 p.2 else keptJ s K j := by
  obtain ⟨hj, rfl⟩ := List.getElem?_eq_some_iff.1 h
  rw [keptJ, List.take_succ_eq_append_getElem hj, List.zipIdx_append, List.foldl_append]
  have : (List.take j s.pend).length = j := by simp; omega
  simp [this, keptJ]
theorem keptJ_len (s : DSt) (K : List Bool) (j : Nat) : (keptJ s K j).length = s.dur.length := by
  unfold keptJ
  generalize (s.pend.take j).zipIdx = l
  generalize s.dur = d
  induction l generalizing d with
  | nil => rfl
  | cons q l ih => rw [List.foldl_cons, ih]; split <;> simp
/-- A list of bools lies in memory (nil, or from a place on). -/
def BoolsAt (w : World) (v : Value) (K : List Bool) : Prop := ((∃ a c, v = .slice a 0 c) ∧ K = []) ∨ ∃ b o cap, v = .slice (some ⟨b, o, none⟩) K.length cap ∧ K.length ≤ cap ∧ ∀ j x, K[j]? = some x → w.cell? ⟨b, o + j, none⟩ = some (.bool x)
theorem BoolsAt.len {w : World} {v : Value} {K : List Bool} (h : BoolsAt w v K) : ∃ a c, v = .slice a K.length c := by
  rcases h with ⟨⟨a, c, rfl⟩, rfl⟩ | ⟨b, o, cap, rfl, _⟩
  · exact ⟨a, c, rfl⟩
  · exact ⟨_, _, rfl⟩
set_option maxRecDepth 20000 in
theorem newTerm_on (D : Nat) (tm : Int) (w : World) (h5 : w.cell? ⟨D, 5, none⟩ = some (.int .i64 tm)) (hf : w.frozen? ⟨D, 5, none⟩ = false) (hv : IntKind.i64.wrap (tm + 1) = tm + 1) :
    Calls Tryz.prog 173 #[.pointer (some ⟨D, 0, none⟩)] w fun e w' => e = .returned (.tuple #[]) ∧ w' = w.setCell ⟨D, 5, none⟩ (.int .i64 (tm + 1)) := by
  go_enter Tryz.func173, Tryz.ntmps173
  go_wp2
  go_end0
  exact ⟨rfl, rfl⟩
set_option maxRecDepth 20000 in
set_option maxHeartbeats 2000000 in
theorem crash_any (lo D E : Nat) (pv : Value) (s : DSt) (kv : Value) (K : List Bool) (w : World) (h : DAt lo D E pv s w) (hK : BoolsAt w kv K) (hKL : K.length ≤ maxLen) (hKF : ∀ b o l c, kv = .slice (some ⟨b, o, none⟩) l c → 0 < l → b < w.heap.size ∧ ¬ DFoot D E pv b) (hw : 0 ≤ s.term) (hw2 : s.term < 9223372036854775807) :
    Calls Tryz.prog 102 #[.pointer (some ⟨D, 0, none⟩), kv] w fun e w' => e = .returned (.tuple #[]) ∧ DAt lo D E (.slice none 0 0) { s with trouble := 0, dur := keptJ s K s.pend.length, pend := [], term := s.term + 1 } w' ∧ Kept (DFoot D E pv) w w' := by
  obtain ⟨a, c, hpv⟩ := owns_len h.pending
  obtain ⟨ka, kc, hkv⟩ := hK.len
  have hm := h.ok.most
  have HOK := hideK h.ok
  subst hpv
  have c1 := h.c1
  have HD := hideK h
  have HKB := hideK hK
  have HKF := hideK hKF
  unfold maxLen at hKL
  subst hkv
  clear h hK hKF
  go_enter Tryz.func102, Tryz.ntmps102
  go_wp2
  clear c1
  go_loopw [11] (fun i wr => ∃ j : Nat, j ≤ s.pend.length ∧ i = .int .i64 j ∧ Hid (DAt lo D E (.slice a s.pend.length c) { s with dur := keptJ s K j } wr) ∧ Hid (Kept (DFoot D E (.slice a s.pend.length c)) w wr)) (fun i _ => s.pend.length - (intOf i).toNat)
  case atStart => exact ⟨0, Nat.zero_le _, rfl, HD.out, Kept.refl _ _⟩
  case round =>
    obtain ⟨j, hj, rfl, hd, hk⟩ := hrel
    by_cases hlt : j < s.pend.length
    · obtain ⟨p, hp⟩ : ∃ p, s.pend[j]? = some p := ⟨_, List.getElem?_eq_getElem hlt⟩
      obtain ⟨P, cap, hpv, hcap, hPlt, hrow⟩ := hd.out.row (Nat.lt_of_le_of_lt (Nat.zero_le _) hlt)
      simp only [Value.slice.injEq] at hpv
      obtain ⟨rfl, _, rfl⟩ := hpv
      have hpp := HOK.out.pen p (List.mem_of_getElem? hp)
      have HPP := hideK hpp.2
      have hpn : p.1 < s.n := hpp.1
      have hn8 := HOK.out.hi
      have l1 := range_cellsAt (penC p) 33 wr P (j * 33) (pen33 hpp.2) (hrow j p hp)
      have HLJ := hideK (keptJ_succ s K j p hp)
      have hag : ∀ cc : Array Value, cc.size = 33 → StoreOk (wr.alloc (.cells cc 241)) 33 (.pointer (some ⟨wr.heap.size, 0, none⟩)) (.agg (penC p).toArray) := fun cc hcc => ⟨_, _, _, rfl, rfl, pen33 HPP.out, penC_one p, there_new wr cc _ 33 hcc⟩
      have hsn : ∀ cc : Array Value, cc.size = 33 → (wr.alloc (.cells cc 241)).setCells wr.heap.size 0 (penC p) = wr.alloc (.cells (penC p).toArray 241) := fun cc hcc => setCells_new wr cc _ _ (by rw [hcc, pen33 HPP.out])
      have hbV : Below wr.heap.size wr (wr.alloc (.cells (penC p).toArray 241)) := (Below.refl _ _).alloc (Nat.le_refl _) _
      have hnew : (wr.alloc (.cells (penC p).toArray 241)).heap[wr.heap.size]? = some (.cells (penC p).toArray 241 (0, 0)) := heap_alloc_new wr _
      have HDV := hideK (hd.out.below hbV)
      have HKV := hideK (hk.out.after hbV)
      have HNEW := hideK hnew
      clear hrow hpp hbV hnew
      by_cases hjk : j < K.length
      · obtain ⟨x, hx⟩ : ∃ x, K[j]? = some x := ⟨_, List.getElem?_eq_getElem hjk⟩
        obtain ⟨kb, ko, hka, hkcap, hcell⟩ : ∃ kb ko, ka = some ⟨kb, ko, none⟩ ∧ K.length ≤ kc ∧ (wr.alloc (.cells (penC p).toArray 241)).cell? ⟨kb, ko + j, none⟩ = some (.bool x) := by
          rcases HKB.out with ⟨e, e2⟩ | ⟨b, o, cp, e, hc2, hcl⟩
          · rw [e2] at hjk; simp at hjk
          · simp only [Value.slice.injEq] at e
            obtain ⟨e1, _, e3⟩ := e
            have hf := HKF.out b o _ _ (by rw [e1]) (Nat.lt_of_le_of_lt (Nat.zero_le _) hjk)
            refine ⟨b, o, e1, by rw [e3]; exact hc2, ?_⟩
            exact (HKV.out.cell (p := ⟨b, o + j, none⟩) hf.1 hf.2).trans (hcl j x hx)
        subst hka
        have HKX : Hid (K.getD j false = x) := by show _ = _; rw [List.getD_eq_getElem?_getD, hx]; rfl
        rw [HKX.out] at HLJ
        generalize hV : wr.alloc (.cells (penC p).toArray 241) = V at *
        cases x
        · rw [if_neg (by decide)] at HLJ
          go_wp2
          go_roundw
          case rel => exact ⟨j + 1, by omega, by go_num, by show DAt _ _ _ _ _ _; rw [HLJ.out]; exact HDV.out, HKV.out⟩
          case measure => simp [intOf]; omega
        · rw [if_pos rfl] at HLJ
          go_wp2_with fail
          clear hag hsn l1
          have d0 := HDV.out.c0
          have b0 : V.cell? ⟨wr.heap.size, 0, none⟩ = some (.int .i64 ((p.1 : Nat) : Int)) := cellOf HNEW.out rfl
          have l2 : cellsAt V.drew wr.heap.size 1 32 = some (cellsB p.2) := range_cellsAt _ _ _ _ _ (cells32 HPP.out) (fun q v hv => by
            refine cellOf (w := V) HNEW.out ?_
            rw [show 1 + q = q + 1 by omega, penC, List.getElem?_cons_succ]
            exact hv)
          have so : StoreOk V.drew 32 (.pointer (some ⟨E, p.1 * 32, none⟩)) (.agg (cellsB p.2).toArray) := ⟨_, _, _, rfl, rfl, cells32 HPP.out, cellsB_one _, HDV.out.drew.thereE p.1 hpn⟩
          have q0 : (0 : Int) ≤ (p.1 : Int) := by omega
          have q1 : (p.1 : Int) < (s.n : Int) := by omega
          clear hV hcell
          go_region_law (fail)
          all_goals
            go_wp2
            go_roundw
            case rel =>
              refine ⟨j + 1, by omega, by go_num, ?_, ?_⟩
              · have := HDV.out.drew.stored p.1 p.2 hpn HPP.out
                show DAt _ _ _ _ _ _
                rw [HLJ.out]
                exact this
              · exact HKV.out.drew.setCells (.inl (.inr (.inl rfl))) _ _
            case measure => simp [intOf]; omega
      · have HKX : Hid (K.getD j false = false) := by show _ = _; rw [List.getD_eq_getElem?_getD, List.getElem?_eq_none (by omega)]; rfl
        rw [HKX.out, if_neg (by decide)] at HLJ
        generalize hV : wr.alloc (.cells (penC p).toArray 241) = V at *
        go_wp2
        go_roundw
        case rel => exact ⟨j + 1, by omega, by go_num, by show DAt _ _ _ _ _ _; rw [HLJ.out]; exact HDV.out, HKV.out⟩
        case measure => simp [intOf]; omega
    · obtain rfl : j = s.pend.length := by omega
      have d1 := hd.out.c1
      have d4 := hd.out.c4
      have d5 := hd.out.c5
      have df := hd.out.free
      have HX := hideK ((hd.out.clear.setTrouble 0 (by omega) (by omega)).setTerm (s.term + 1))
      have HKX := hideK (((hk.out.setCell (p := ⟨D, 1, none⟩) (.inl (.inl rfl)) (.slice none 0 0)).setCell (p := ⟨D, 4, none⟩) (.inl (.inl rfl)) (.int .i64 0)).setCell (p := ⟨D, 5, none⟩) (.inl (.inl rfl)) (.int .i64 (s.term + 1)))
      have e5 : ((wr.setCell ⟨D, 1, none⟩ (.slice none 0 0)).setCell ⟨D, 4, none⟩ (.int .i64 0)).cell? ⟨D, 5, none⟩ = some (.int .i64 s.term) := (World.cell?_setCell_other _ _ _ _ (by simp)).trans ((World.cell?_setCell_other _ _ _ _ (by simp)).trans d5)
      have f5 : ((wr.setCell ⟨D, 1, none⟩ (.slice none 0 0)).setCell ⟨D, 4, none⟩ (.int .i64 0)).frozen? ⟨D, 5, none⟩ = false := (hd.out.clear.setTrouble 0 (by omega) (by omega)).free 5
      have hv5 : IntKind.i64.wrap (s.term + 1) = s.term + 1 := by rw [IntKind.wrap_i64] <;> omega
      have HNT := hideK (newTerm_on D s.term ((wr.setCell ⟨D, 1, none⟩ (.slice none 0 0)).setCell ⟨D, 4, none⟩ (.int .i64 0)) e5 f5 hv5)
      clear e5 f5
      go_wp2_with fail
      refine HNT.out.mono ?_
      rintro e w9 ⟨rfl, hw9⟩
      obtain rfl := hw9
      go_wp2
      go_end0
      exact ⟨rfl, HX.out, HKX.out⟩
end Go.Proofs.YtgaoeoijdpdjiabGreatDoor

namespace Go.Proofs.YtgaoeoijdpdjiabGreatDoor
open Go.RowKit
theorem wpIn_pre_sec {F : Fence} {m : Nat} {x : Operand} {d : Option Nat} {ty : TypeId} {ps : String} {af : Array Edge} {g : Option (Nat × Bool)} {a : Act} {w : World} {K : Act → World → Prop} {Q : Exit → Act → World → Prop} (h : (ptrCells w 32 (a.eval x)).isSome = true) :
    Oper.wpIn F m Tryz.prog { dst := d, op := .load 239 x, type := ty, pos := ps, after := af, guard := g } a w K Q = K (a.put d (.agg ((ptrCells w 32 (a.eval x)).getD []).toArray)) w := by
  obtain ⟨b, o, cs, hx, hcs, hl, hr⟩ := ptrCells_range h
  have hv := run_loadVar_mid (P := Tryz.prog) w b o 239 cs _ hr Tryz.underlying239 rfl (by rw [hl]; exact sizeSec)
  rw [hcs]
  unfold Oper.wpIn
  rw [Oper.semAt_plain _ _ _ (fun c => by simp)]
  unfold execOp
  simp only [hx, Instr.loadAt, Instr.sureAddr, Sem.run_bind, Sem.run_pure, Result.andThen_ok, hv]
  exact propext ⟨fun h => h.2, fun h => ⟨fun f hf => by simp [Oper.about] at hf, h⟩⟩
theorem wpIn_pre_wri {F : Fence} {m : Nat} {x : Operand} {d : Option Nat} {ty : TypeId} {ps : String} {af : Array Edge} {g : Option (Nat × Bool)} {a : Act} {w : World} {K : Act → World → Prop} {Q : Exit → Act → World → Prop} (h : (ptrCells w 33 (a.eval x)).isSome = true) :
    Oper.wpIn F m Tryz.prog { dst := d, op := .load 241 x, type := ty, pos := ps, after := af, guard := g } a w K Q = K (a.put d (.agg ((ptrCells w 33 (a.eval x)).getD []).toArray)) w := by
  obtain ⟨b, o, cs, hx, hcs, hl, hr⟩ := ptrCells_range h
  have hv := run_loadVar_mid (P := Tryz.prog) w b o 241 cs _ hr Tryz.underlying241 rfl (by rw [hl]; exact sizeWri)
  rw [hcs]
  unfold Oper.wpIn
  rw [Oper.semAt_plain _ _ _ (fun c => by simp)]
  unfold execOp
  simp only [hx, Instr.loadAt, Instr.sureAddr, Sem.run_bind, Sem.run_pure, Result.andThen_ok, hv]
  exact propext ⟨fun h => h.2, fun h => ⟨fun f hf => by simp [Oper.about] at hf, h⟩⟩
theorem wpIn_pre_store_sec {F : Fence} {m : Nat} {x y : Operand} {d : Option Nat} {ty : TypeId} {ps : String} {af : Array Edge} {g : Option (Nat × Bool)} {a : Act} {w : World} {K : Act → World → Prop} {Q : Exit → Act → World → Prop} (h : StoreOk w 32 (a.eval x) (a.eval y)) :
    Oper.wpIn F m Tryz.prog { dst := d, op := .store 239 x y, type := ty, pos := ps, after := af, guard := g } a w K Q = K (a.put d undef) (storeW w (a.eval x) (a.eval y)) := by
  obtain ⟨b, o, l, hx, hy, hl, h1, ht⟩ := h
  have hv := run_storeVar_mid (P := Tryz.prog) w b o 239 l.toArray (by rw [List.size_toArray, hl]; exact ht) (by rw [List.size_toArray, hl]; exact sizeSec) (all_oneCell_toArray h1)
  rw [hx, hy, storeW_at]
  unfold Oper.wpIn
  rw [Oper.semAt_plain _ _ _ (fun c => by simp)]
  unfold execOp
  simp only [hx, hy, Instr.storeAt, Instr.sureAddr, Sem.run_bind, Sem.run_pure, Result.andThen_ok, hv]
  exact propext ⟨fun h => h.2, fun h => ⟨fun f hf => by simp [Oper.about] at hf, h⟩⟩
theorem wpIn_pre_store_wri {F : Fence} {m : Nat} {x y : Operand} {d : Option Nat} {ty : TypeId} {ps : String} {af : Array Edge} {g : Option (Nat × Bool)} {a : Act} {w : World} {K : Act → World → Prop} {Q : Exit → Act → World → Prop} (h : StoreOk w 33 (a.eval x) (a.eval y)) :
    Oper.wpIn F m Tryz.prog { dst := d, op := .store 241 x y, type := ty, pos := ps, after := af, guard := g } a w K Q = K (a.put d undef) (storeW w (a.eval x) (a.eval y)) := by
  obtain ⟨b, o, l, hx, hy, hl, h1, ht⟩ := h
  have hv := run_storeVar_mid (P := Tryz.prog) w b o 241 l.toArray (by rw [List.size_toArray, hl]; exact ht) (by rw [List.size_toArray, hl]; exact sizeWri) (all_oneCell_toArray h1)
  rw [hx, hy, storeW_at]
  unfold Oper.wpIn
  rw [Oper.semAt_plain _ _ _ (fun c => by simp)]
  unfold execOp
  simp only [hx, hy, Instr.storeAt, Instr.sureAddr, Sem.run_bind, Sem.run_pure, Result.andThen_ok, hv]
  exact propext ⟨fun h => h.2, fun h => ⟨fun f hf => by simp [Oper.about] at hf, h⟩⟩
attribute [local go_sem] Oper.semAt_some ptrCells_at storeW_at
attribute [local go_sem ↓] wpIn_pre_sec wpIn_pre_wri wpIn_pre_store_sec wpIn_pre_store_wri
/-- The numbers of the entries, from the last on: the first m of them. -/
def revs (N m : Nat) : List Nat := (List.range m).map (fun j => N - 1 - j)
theorem revs_succ (N m : Nat) : revs N (m + 1) = revs N m ++ [N - 1 - m] := by simp [revs, List.range_succ]
abbrev Ent (N : Nat) := { q : Nat // q < N }
def entV (l : List (Nat × ByteArray)) (q : Nat) : Value := .agg (penC (l.getD q (0, ⟨#[]⟩))).toArray
/-- What a round keeps: the box that the iterator reads, and the row. -/
def KpB (Bs P : Nat) (A B : World) : Prop := (∀ i, B.cell? ⟨Bs, i, none⟩ = A.cell? ⟨Bs, i, none⟩) ∧ (∀ i, B.cell? ⟨P, i, none⟩ = A.cell? ⟨P, i, none⟩)
theorem KpB.refl (Bs P : Nat) (A : World) : KpB Bs P A A := ⟨fun _ => rfl, fun _ => rfl⟩
theorem KpB.trans {Bs P : Nat} {A B C : World} (h : KpB Bs P A B) (k : KpB Bs P B C) : KpB Bs P A C := ⟨fun i => (k.1 i).trans (h.1 i), fun i => (k.2 i).trans (h.2 i)⟩
theorem KpB.of_below {Bs P n : Nat} {A B : World} (h : Below n A B) (hs : Bs < n) (hn : P < n) : KpB Bs P A B := ⟨fun i => h.cell (p := ⟨Bs, i, none⟩) hs, fun i => h.cell (p := ⟨P, i, none⟩) hn⟩
theorem KpB.range {Bs P : Nat} {A B : World} (h : KpB Bs P A B) {o : Nat} {cs : List Value} (hr : A.rangeAt P o cs) : B.rangeAt P o cs := fun j v hv => (h.2 (o + j)).trans (hr j v hv)
theorem backward_any (a : Option Addr) (n c : Nat) (w : World) :
    Calls Tryz.prog 253 #[.slice a n c] w fun e w' => e = .returned (.func (.func 302) #[] #[.pointer (some ⟨w.heap.size, 0, none⟩)]) ∧ w' = w.alloc (.cells #[.slice a n c] 180) := by
  go_enter Tryz.func253, Tryz.ntmps253
  go_wp2
  go_ret
  exact ⟨rfl, rfl⟩
set_option maxRecDepth 100000 in
set_option maxHeartbeats 2000000 in
theorem backward1_in (n : Nat) (hn : 1 ≤ n) (lp Bs P N c : Nat) (a : Option Addr) (ha : 0 < N → a = some ⟨P, 0, none⟩) (l : List (Nat × ByteArray)) (hN : l.length = N) (hN2 : N ≤ 1000) (hc : N ≤ c) (hl : ∀ p ∈ l, (penC p).length = 33) (J Jx : List (Ent N) → World → Prop)
    (hY : ∀ pre x W, J pre W → pre.length < N → YieldAt Fence.wide (n - 1) Tryz.prog lp #[.int .i64 (x.1 : Nat), entV l x.1] W fun e W' =>
      (e = .returned (.bool true) ∧ J (pre ++ [x]) W' ∧ KpB Bs P W W') ∨ (e = .returned (.bool false) ∧ Jx (pre ++ [x]) W'))
    (W : World) (hBs : W.cell? ⟨Bs, 0, none⟩ = some (.slice a N c)) (hrow : ∀ (j : Nat) p, l[j]? = some p → W.rangeAt P (j * 33) (penC p)) (h0 : J [] W) :
    CallsIn Fence.wide n Tryz.prog 302 #[.func (.yield lp) #[] #[], .pointer (some ⟨Bs, 0, none⟩)] W fun e W' => (∃ v, e = .returned v) ∧
      ((∃ ys : List (Ent N), ys.map (·.1) = revs N N ∧ J ys W') ∨ (∃ pre : List (Ent N), (∃ m, m ≤ N ∧ pre.map (·.1) = revs N m) ∧ Jx pre W')) := by
  refine callsIn_of_wp Tryz.func302 rfl trivial ?_ rfl
  simp only [Tryz.ntmps302, List.size_toArray, List.length_cons, List.length_nil, Nat.reduceAdd, Nat.reduceSub, Array.replicate_succ, Array.replicate_zero, List.push_toArray, List.append_toArray, List.nil_append, List.cons_append]
  gi_wp2
  gi_loopw [3] (fun i wr => ∃ (m : Nat) (pre : List (Ent N)), m ≤ N ∧ i = .int .i64 ((N : Int) - 1 - m) ∧ pre.map (·.1) = revs N m ∧ J pre wr ∧ KpB Bs P W wr)
    (fun i _ => (intOf i + 1).toNat)
  case atStart => exact ⟨0, [], Nat.zero_le _, by simp, rfl, h0, KpB.refl _ _ _⟩
  case round =>
    obtain ⟨m, pre, hm, rfl, hpre, hJs, hnx⟩ := hrel
    have cs : wr.cell? ⟨Bs, 0, none⟩ = some (.slice a N c) := (hnx.1 0).trans hBs
    by_cases hlt : m < N
    · obtain rfl := ha (by omega)
      obtain ⟨q, hq⟩ : ∃ q : Nat, q + m + 1 = N := ⟨N - 1 - m, by omega⟩
      have hqi : ((N : Int) - 1 - m) = (q : Int) := by omega
      have hqn : N - 1 - m = q := by omega
      have hql : q < N := by omega
      obtain ⟨p, hp⟩ : ∃ p, l[q]? = some p := ⟨_, List.getElem?_eq_getElem (by omega)⟩
      have l1 := range_cellsAt (penC p) 33 wr P (q * 33) (hl p (List.mem_of_getElem? hp)) (hnx.range (hrow q p hp))
      have hen : entV l q = .agg (penC p).toArray := by rw [entV, List.getD_eq_getElem?_getD, hp]; rfl
      have hplen : pre.length < N := by
        have h := congrArg List.length hpre
        simp [revs] at h
        omega
      have HYq := hideK (fun V hV => hY pre ⟨q, hql⟩ V hV hplen)
      dsimp only at HYq
      rw [hen] at HYq
      have HPRE := hideK hpre
      have HQN := hideK hqn
      have i0 : (0 : Int) ≤ (q : Int) := by omega
      have i1 : (q : Int) < (N : Int) := by omega
      rw [hqi]
      clear hY hen hpre hqn hqi
      obtain ⟨fn, tmps, assign, body, hy, hR⟩ := HYq.out wr hJs
      gi_wp2
      refine hR.mono ?_
      rintro e W3 (⟨rfl, hJ3, hk3⟩ | ⟨rfl, hJx3⟩)
      · gi_wp2
        go_roundw
        case rel => exact ⟨m + 1, pre ++ [⟨q, hql⟩], by omega, by congr 1; omega, by rw [List.map_append, HPRE.out, revs_succ, HQN.out]; rfl, hJ3, hnx.trans hk3⟩
        case measure => simp [intOf]
      · gi_wp2
        refine bodyPost_ret (results_none rfl _ _ _) rfl ?_
        exact ⟨⟨_, rfl⟩, .inr ⟨_, ⟨m + 1, by omega, by rw [List.map_append, HPRE.out, revs_succ, HQN.out]; rfl⟩, hJx3⟩⟩
    · obtain rfl : m = N := by omega
      have hneg : ((m : Int) - 1 - m) = -1 := by omega
      rw [hneg]
      clear hneg
      gi_wp2
      go_end0
      exact ⟨⟨_, rfl⟩, .inl ⟨pre, hpre, hJs⟩⟩
theorem backward_stops (n : Nat) (hn : 1 ≤ n) (Bs P N c : Nat) (a : Option Addr) (ha : 0 < N → a = some ⟨P, 0, none⟩) (l : List (Nat × ByteArray)) (hN : l.length = N) (hN2 : N ≤ 1000) (hc : N ≤ c) (hl : ∀ p ∈ l, (penC p).length = 33) (w : World) (hs : Bs < w.heap.size) (hP : P < w.heap.size) (hBs : w.cell? ⟨Bs, 0, none⟩ = some (.slice a N c)) (hrow : ∀ (j : Nat) p, l[j]? = some p → w.rangeAt P (j * 33) (penC p)) :
    SeqStopsK Fence.wide n Tryz.prog 302 #[.pointer (some ⟨Bs, 0, none⟩)] (fun q : Ent N => #[.int .i64 (q.1 : Nat), entV l q.1]) (KpB Bs P) (fun ys => ys.map (·.1) = revs N N) (fun ys => ∃ m, m ≤ N ∧ ys.map (·.1) = revs N m) N w := fun lp J Jx W hW _ _ hY h0 =>
  backward1_in n hn lp Bs P N c a ha l hN hN2 hc hl J Jx hY W ((hW.cell (p := ⟨Bs, 0, none⟩) hs).trans hBs) (fun j p hp => (KpB.of_below hW hs hP).range (hrow j p hp)) h0
end Go.Proofs.YtgaoeoijdpdjiabGreatDoor

namespace Go.Proofs.YtgaoeoijdpdjiabGreatDoor
open Go.RowKit
theorem setsDigits_any (b x e f : Nat) (hp : Pair b x e f) (k t l : Int) (m : ByteArray) (w : World) (hk : k = 1 ∨ k = 2) (h1 : 1 ≤ t) (h2 : t ≤ 4) (h3 : 1 ≤ l) (h4 : l ≤ 3) (hm : m.size = b) :
    Calls Tryz.prog 241 #[.agg #[.int .i64 k, .int .i64 b, .int .i64 x, .int .i64 t, .int .i64 l], .string m] w fun r w' =>
      ∃ g, r = .returned (.tuple #[.slice (some ⟨g, 0, none⟩) (b * e + f) (b * e + f), .int .i64 0]) ∧ w.heap.size ≤ g ∧ RowZ w' g ((digitsN x e f (bytesN m)).map Int.ofNat) ∧ Below w.heap.size w w' := by
  rcases hp with ⟨rfl, rfl, rfl, rfl⟩ | ⟨rfl, rfl, rfl, rfl⟩ | ⟨rfl, rfl, rfl, rfl⟩ | ⟨rfl, rfl, rfl, rfl⟩
  · exact digits_4_4 k t l m w hk h1 h2 h3 h4 hm
  · exact digits_8_4 k t l m w hk h1 h2 h3 h4 hm
  · exact digits_4_16 k t l m w hk h1 h2 h3 h4 hm
  · exact digits_8_16 k t l m w hk h1 h2 h3 h4 hm
end Go.Proofs.YtgaoeoijdpdjiabGreatDoor

namespace Go.Proofs.YtgaoeoijdpdjiabGreatDoor
open Go.RowKit
theorem sigZ_nat {b x e f : Nat} (hp : Pair b x e f) (t l : Nat) : sigZ b x t l = ((4 + b + l * (b * e + f + t) * b : Nat) : Int) := by
  have hc : chainsZ (b : Int) (x : Int) = ((b * e + f : Nat) : Int) := by
    rcases hp with ⟨rfl, rfl, rfl, rfl⟩ | ⟨rfl, rfl, rfl, rfl⟩ | ⟨rfl, rfl, rfl, rfl⟩ | ⟨rfl, rfl, rfl, rfl⟩ <;> rfl
  rw [sigZ, hc]
  simp only [Int.natCast_add, Int.natCast_mul]
  rfl
theorem totalZ_nat (t l : Nat) : totalZ t l = ((2 ^ (t * l) : Nat) : Int) := by
  rw [totalZ, show ((t : Int) * (l : Int)) = ((t * l : Nat) : Int) by rw [Int.natCast_mul], Int.toNat_natCast, Int.natCast_pow]
  rfl
end Go.Proofs.YtgaoeoijdpdjiabGreatDoor

namespace Go.Proofs.YtgaoeoijdpdjiabGreatDoor
open Go.ChangeShapes Go.WideShapes Go.ChangeAt Go.RowKit Go.Deep
open Go.ChangeMaps (open_string shut_string)
/-- A step of a script. -/
structure StepDJ where
  kd : Int
  a : Int
  b : Int
  t : ByteArray
  kv : Value
  K : List Bool
structure StepOkJ (w : World) (d : StepDJ) : Prop where
  kd1 : -9223372036854775808 ≤ d.kd
  kd2 : d.kd ≤ 9223372036854775807
  a1 : -9223372036854775808 ≤ d.a
  a2 : d.a ≤ 9223372036854775807
  b1 : -9223372036854775808 ≤ d.b
  b2 : d.b ≤ 9223372036854775807
  ts : d.t.size ≤ maxLen
  kb : BoolsAt w d.kv d.K
  kl : d.K.length ≤ maxLen
  ko : ∀ b o l c, d.kv = .slice (some ⟨b, o, none⟩) l c → 0 < l → b < w.heap.size
/-- A script lies in memory. -/
def ScriptAtJ (w : World) (v : Value) (l : List StepDJ) : Prop := ((∃ a c, v = .slice a 0 c) ∧ l = []) ∨ ∃ b o cap, v = .slice (some ⟨b, o, none⟩) l.length cap ∧ l.length ≤ cap ∧ b < w.heap.size ∧ ∀ j d, l[j]? = some d → StepOkJ w d ∧ w.cell? ⟨b, o + j * 5, none⟩ = some (.int .i64 d.kd) ∧ w.cell? ⟨b, o + j * 5 + 1, none⟩ = some (.int .i64 d.a) ∧ w.cell? ⟨b, o + j * 5 + 2, none⟩ = some (.int .i64 d.b) ∧ w.cell? ⟨b, o + j * 5 + 3, none⟩ = some (.string d.t) ∧ w.cell? ⟨b, o + j * 5 + 4, none⟩ = some d.kv
theorem ScriptAtJ.len {w : World} {v : Value} {l : List StepDJ} (h : ScriptAtJ w v l) : ∃ a c, v = .slice a l.length c := by
  rcases h with ⟨⟨a, c, rfl⟩, rfl⟩ | ⟨b, o, cap, rfl, _⟩
  · exact ⟨a, c, rfl⟩
  · exact ⟨_, _, rfl⟩
theorem cellsStepJ : Tryz.prog.cellsOf 53 = 5 := by kernel_rfl
theorem cellsBoolsJ : Tryz.prog.cellsOf 51 = 1 := by kernel_rfl
theorem cellsBoolJ : Tryz.prog.cellsOf 4 = 1 := by kernel_rfl
theorem open_keepJ {H : Type} {enc : TypeId × Value → H} {W : World} {base fuel : Nat} {held : Bool} {c : Value} {x : DataW H × List MemPlace}
    (h : DataW.trod enc Tryz.prog W base (fun _ => true) held fuel 51 [c] = some x) :
    ∃ K, BoolsAt W c K ∧ K.length ≤ maxLen ∧ ∀ b o l cp, c = .slice (some ⟨b, o, none⟩) l cp → 0 < l → b < W.heap.size := by
  rcases open_bools Tryz.underlying51 Tryz.underlying4 cellsBoolJ h with ⟨h0, _⟩ | ⟨a, len, cap, B, hc, _, hl, hm, _, hcell⟩
  · simp at h0
    subst h0
    exact ⟨[], .inl ⟨⟨_, _, rfl⟩, rfl⟩, by simp, fun b o l cp e h0 => by simp at e⟩
  · simp at hc
    subst hc
    by_cases h0 : len = 0
    · subst h0
      exact ⟨[], .inl ⟨⟨_, _, rfl⟩, rfl⟩, by simp, fun b o l cp e h0 => by simp at e; omega⟩
    · have hs : a.spot = none := by
        have := World.cell?_spot (hcell 0 (by omega))
        simpa [Addr.add] using this
      obtain ⟨ab, ao, asp⟩ := a
      simp only at hs
      subst hs
      have hcell' : ∀ i, i < cap → W.cell? ⟨ab, ao + i, none⟩ = some (.bool (B i)) := fun i hi => by
        have := hcell i hi
        rwa [Addr.add_mid] at this
      refine ⟨(List.range len).map B, .inr ⟨ab, ao, cap, by simp, by simpa using hl, fun j y hy => ?_⟩, by simpa using Nat.le_trans hl hm, fun b o l cp e _ => ?_⟩
      · obtain ⟨hj, e⟩ := List.getElem?_eq_some_iff.1 hy
        simp at hj e
        subst e
        exact hcell' j (by omega)
      · simp at e
        obtain ⟨⟨rfl, _⟩, _⟩ := e
        exact World.block_lt_of_cell? W _ (hcell' 0 (by omega))
set_option maxRecDepth 100000 in
theorem open_stepJ {H : Type} {enc : TypeId × Value → H} {W : World} {base fuel : Nat} {held : Bool} {cs : List Value} {x : DataW H × List MemPlace} (hl : cs.length = 5)
    (h : DataW.trod enc Tryz.prog W base (fun _ => true) held fuel 53 cs = some x) :
    ∃ d : StepDJ, StepOkJ W d ∧ cs = [.int .i64 d.kd, .int .i64 d.a, .int .i64 d.b, .string d.t, d.kv] := by
  match cs, hl with
  | [c0, c1, c2, c3, c4], _ =>
    obtain ⟨xs, n, _, _, _, hlen, hfs⟩ := DataW.trod_struct Tryz.underlying53 h
    simp at hlen
    have g0 : DataW.trod enc Tryz.prog W base (fun _ => true) held n 3 [c0] = xs[0]? := by simpa [cellsIntR] using hfs 0 _ rfl
    have g1 : DataW.trod enc Tryz.prog W base (fun _ => true) held n 3 [c1] = xs[1]? := by simpa [cellsIntR] using hfs 1 _ rfl
    have g2 : DataW.trod enc Tryz.prog W base (fun _ => true) held n 3 [c2] = xs[2]? := by simpa [cellsIntR] using hfs 2 _ rfl
    have g3 : DataW.trod enc Tryz.prog W base (fun _ => true) held n 9 [c3] = xs[3]? := by simpa [cellsStrR] using hfs 3 _ rfl
    have g4 : DataW.trod enc Tryz.prog W base (fun _ => true) held n 51 [c4] = xs[4]? := by simpa [cellsBoolsJ] using hfs 4 _ rfl
    rw [List.getElem?_eq_getElem (by omega)] at g0 g1 g2 g3 g4
    obtain ⟨k, e0, _, w0⟩ := DataW.trod_int Tryz.underlying3 g0
    obtain ⟨a, e1, _, w1⟩ := DataW.trod_int Tryz.underlying3 g1
    obtain ⟨b, e2, _, w2⟩ := DataW.trod_int Tryz.underlying3 g2
    obtain ⟨t, e3, ht⟩ := DataW.trod_string Tryz.underlying9 g3
    obtain ⟨K, hK, hKl, hKo⟩ := open_keepJ g4
    simp at e0 e1 e2 e3
    subst e0 e1 e2 e3
    exact ⟨⟨k, a, b, t, c4, K⟩, ⟨(wf_int64 w0).1, (wf_int64 w0).2, (wf_int64 w1).1, (wf_int64 w1).2, (wf_int64 w2).1, (wf_int64 w2).2, ht.2, hK, hKl, hKo⟩, rfl⟩
set_option maxRecDepth 100000 in
theorem open_scriptJ {H : Type} {enc : TypeId × Value → H} {W : World} {base b0 : Nat} {held : Bool} {r : Reach} {v : Value} {d : DataW H} {p : List MemPlace}
    (hv : Value.okWide Tryz.prog W r b0 43 v) (h : DataW.Trod enc Tryz.prog W base (fun _ => true) held 43 v d p) :
    ∃ l, ScriptAtJ W v l ∧ l.length ≤ maxLen := by
  obtain ⟨va, vl, vc, rfl⟩ := okWide_slice Tryz.underlying43 hv
  obtain ⟨fuel, hf⟩ := h
  rcases open_slice Tryz.underlying43 hf with ⟨h0, _⟩ | ⟨a, len, cap, m, n, D, Pl, hc, hb, hl, hm, hmm, _, hx⟩
  · simp [Value.cells] at h0
    obtain ⟨rfl, rfl, rfl⟩ := h0
    exact ⟨[], .inl ⟨⟨_, _, rfl⟩, rfl⟩, by simp⟩
  · simp [Value.cells] at hc
    obtain ⟨rfl, rfl, rfl⟩ := hc
    simp only [if_true] at hmm
    subst hmm
    by_cases h0 : vl = 0
    · subst h0
      exact ⟨[], .inl ⟨⟨_, _, rfl⟩, rfl⟩, by simp⟩
    · have each : ∀ i, i < vl → ∃ d : StepDJ, StepOkJ W d ∧ W.cell? (a.add (i * 5)) = some (.int .i64 d.kd) ∧ W.cell? (a.add (i * 5 + 1)) = some (.int .i64 d.a) ∧ W.cell? (a.add (i * 5 + 2)) = some (.int .i64 d.b) ∧ W.cell? (a.add (i * 5 + 3)) = some (.string d.t) ∧ W.cell? (a.add (i * 5 + 4)) = some d.kv := by
        intro i hi
        obtain ⟨cs', h1, h2⟩ := hx i (by omega)
        rw [cellsStepJ] at h1
        obtain ⟨_, hlen, hcell⟩ := World.cells?_some h1
        obtain ⟨d, hd, rfl⟩ := open_stepJ hlen h2
        have e0 := hcell 0 (by simp)
        have e1 := hcell 1 (by simp)
        have e2 := hcell 2 (by simp)
        have e3 := hcell 3 (by simp)
        have e4 := hcell 4 (by simp)
        rw [add_add] at e0 e1 e2 e3 e4
        exact ⟨d, hd, by simpa using e0, by simpa using e1, by simpa using e2, by simpa using e3, by simpa using e4⟩
      have : Inhabited StepDJ := ⟨⟨0, 0, 0, ⟨#[]⟩, .slice none 0 0, []⟩⟩
      obtain ⟨q, hq⟩ := choose_lt each
      have hs : a.spot = none := by
        have := World.cell?_spot (hq 0 (by omega)).2.1
        simpa [Addr.add] using this
      obtain ⟨ab, ao, asp⟩ := a
      simp only at hs
      subst hs
      simp only [Addr.add_mid] at hq
      refine ⟨(List.range vl).map q, .inr ⟨ab, ao, _, by simp; rfl, by simpa using hl, World.block_lt_of_cell? W _ (hq 0 (by omega)).2.1, fun j d hj => ?_⟩, by simpa using Nat.le_trans hl hm⟩
      obtain ⟨hj1, e⟩ := List.getElem?_eq_some_iff.1 hj
      simp at hj1 e
      subst e
      exact hq j hj1
end Go.Proofs.YtgaoeoijdpdjiabGreatDoor
