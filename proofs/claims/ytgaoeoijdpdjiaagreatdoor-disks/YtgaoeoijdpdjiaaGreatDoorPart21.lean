/-
  The disk's Crash.
-/
import Derived.Test.YtgaoeoijdpdjiaaGreatDoorPart20
namespace Go.Proofs.YtgaoeoijdpdjiaaGreatDoor
open Go.RowKit
attribute [local go_sem ↓] wp_pre_sec wp_pre_wri wp_pre_store_sec wp_pre_store_wri Go.wp_at_zero Go.wp_at_succ
attribute [local go_sem] ptrCells_at storeW_at
/-- What is durable behind a crash that keeps some of the first j of the pending writes. -/
def keptJ (s : DSt) (K : List Bool) (j : Nat) : List ByteArray := ((s.pend.take j).zipIdx).foldl (fun d q => if K.getD q.2 false then d.set q.1.1 q.1.2 else d) s.dur
theorem keptJ_succ (s : DSt) (K : List Bool) (j : Nat) (p : Nat × ByteArray) (h : s.pend[j]? = some p) : keptJ s K (j + 1) = if K.getD j false then (keptJ s K j).set p.1 p.2 else keptJ s K j := by
  obtain ⟨hj, rfl⟩ := List.getElem?_eq_some_iff.1 h
  rw [keptJ, List.take_succ_eq_append_getElem hj, List.zipIdx_append, List.foldl_append]
  have : (List.take j s.pend).length = j := by simp; omega
  simp [this, keptJ]
/-- A list of bools lies in memory (nil, or from a place on). -/
def BoolsAt (w : World) (v : Value) (K : List Bool) : Prop := ((∃ a c, v = .slice a 0 c) ∧ K = []) ∨ ∃ b o cap, v = .slice (some ⟨b, o, none⟩) K.length cap ∧ K.length ≤ cap ∧ ∀ j x, K[j]? = some x → w.cell? ⟨b, o + j, none⟩ = some (.bool x)
theorem BoolsAt.len {w : World} {v : Value} {K : List Bool} (h : BoolsAt w v K) : ∃ a c, v = .slice a K.length c := by
  rcases h with ⟨⟨a, c, rfl⟩, rfl⟩ | ⟨b, o, cap, rfl, _⟩
  · exact ⟨a, c, rfl⟩
  · exact ⟨_, _, rfl⟩
set_option maxRecDepth 20000 in
theorem newTerm_on (D : Nat) (tm : Int) (w : World) (h5 : w.cell? ⟨D, 5, none⟩ = some (.int .i64 tm)) (hf : w.frozen? ⟨D, 5, none⟩ = false) (hv : IntKind.i64.wrap (tm + 1) = tm + 1) :
    Calls Tryz.prog 255 #[.pointer (some ⟨D, 0, none⟩)] w fun e w' => e = .returned (.tuple #[]) ∧ w' = w.setCell ⟨D, 5, none⟩ (.int .i64 (tm + 1)) := by
  go_enter Tryz.func255, Tryz.ntmps255
  go_wp2
  go_end0
  exact ⟨rfl, rfl⟩
set_option maxRecDepth 20000 in
set_option maxHeartbeats 2000000 in
theorem crash_any (lo D E : Nat) (pv : Value) (s : DSt) (kv : Value) (K : List Bool) (w : World) (h : DAt lo D E pv s w) (hK : BoolsAt w kv K) (hKL : K.length ≤ maxLen) (hKF : ∀ b o l c, kv = .slice (some ⟨b, o, none⟩) l c → 0 < l → b < w.heap.size ∧ ¬ DFoot D E pv b) (hw : 0 ≤ s.term) (hw2 : s.term < 9223372036854775807) :
    Calls Tryz.prog 203 #[.pointer (some ⟨D, 0, none⟩), kv] w fun e w' => e = .returned (.tuple #[]) ∧ DAt lo D E (.slice none 0 0) { s with trouble := 0, dur := keptJ s K s.pend.length, pend := [], term := s.term + 1 } w' ∧ Kept (DFoot D E pv) w w' := by
  obtain ⟨a, c, hpv⟩ := owns_len h.pending
  obtain ⟨ka, kc, hkv⟩ := hK.len
  have hm := h.ok.most
  have HOK := hideK h.ok
  subst hpv
  have c1 := h.c1
  have HD := hideK h
  have HKB := hideK hK
  have HKF := hideK hKF
  unfold maxLen at hKL
  subst hkv
  clear h hK hKF
  go_enter Tryz.func203, Tryz.ntmps203
  go_wp2
  clear c1
  go_loopw [11] (fun i wr => ∃ j : Nat, j ≤ s.pend.length ∧ i = .int .i64 j ∧ Hid (DAt lo D E (.slice a s.pend.length c) { s with dur := keptJ s K j } wr) ∧ Hid (Kept (DFoot D E (.slice a s.pend.length c)) w wr)) (fun i _ => s.pend.length - (intOf i).toNat)
  case atStart => exact ⟨0, Nat.zero_le _, rfl, HD.out, Kept.refl _ _⟩
  case round =>
    obtain ⟨j, hj, rfl, hd, hk⟩ := hrel
    by_cases hlt : j < s.pend.length
    · obtain ⟨p, hp⟩ : ∃ p, s.pend[j]? = some p := ⟨_, List.getElem?_eq_getElem hlt⟩
      obtain ⟨P, cap, hpv, hcap, hPlt, hrow⟩ := hd.out.row (Nat.lt_of_le_of_lt (Nat.zero_le _) hlt)
      simp only [Value.slice.injEq] at hpv
      obtain ⟨rfl, _, rfl⟩ := hpv
      have hpp := HOK.out.pen p (List.mem_of_getElem? hp)
      have HPP := hideK hpp.2
      have hpn : p.1 < s.n := hpp.1
      have hn8 := HOK.out.hi
      have l1 := range_cellsAt (penC p) 33 wr P (j * 33) (pen33 hpp.2) (hrow j p hp)
      have HLJ := hideK (keptJ_succ s K j p hp)
      have hag : ∀ cc : Array Value, cc.size = 33 → StoreOk (wr.alloc (.cells cc 311)) 33 (.pointer (some ⟨wr.heap.size, 0, none⟩)) (.agg (penC p).toArray) := fun cc hcc => ⟨_, _, _, rfl, rfl, pen33 HPP.out, penC_one p, there_new wr cc _ 33 hcc⟩
      have hsn : ∀ cc : Array Value, cc.size = 33 → (wr.alloc (.cells cc 311)).setCells wr.heap.size 0 (penC p) = wr.alloc (.cells (penC p).toArray 311) := fun cc hcc => setCells_new wr cc _ _ (by rw [hcc, pen33 HPP.out])
      have hbV : Below wr.heap.size wr (wr.alloc (.cells (penC p).toArray 311)) := (Below.refl _ _).alloc (Nat.le_refl _) _
      have hnew : (wr.alloc (.cells (penC p).toArray 311)).heap[wr.heap.size]? = some (.cells (penC p).toArray 311 (0, 0)) := heap_alloc_new wr _
      have HDV := hideK (hd.out.below hbV)
      have HKV := hideK (hk.out.after hbV)
      have HNEW := hideK hnew
      clear hrow hpp hbV hnew
      by_cases hjk : j < K.length
      · obtain ⟨x, hx⟩ : ∃ x, K[j]? = some x := ⟨_, List.getElem?_eq_getElem hjk⟩
        obtain ⟨kb, ko, hka, hkcap, hcell⟩ : ∃ kb ko, ka = some ⟨kb, ko, none⟩ ∧ K.length ≤ kc ∧ (wr.alloc (.cells (penC p).toArray 311)).cell? ⟨kb, ko + j, none⟩ = some (.bool x) := by
          rcases HKB.out with ⟨e, e2⟩ | ⟨b, o, cp, e, hc2, hcl⟩
          · rw [e2] at hjk; simp at hjk
          · simp only [Value.slice.injEq] at e
            obtain ⟨e1, _, e3⟩ := e
            have hf := HKF.out b o _ _ (by rw [e1]) (Nat.lt_of_le_of_lt (Nat.zero_le _) hjk)
            refine ⟨b, o, e1, by rw [e3]; exact hc2, ?_⟩
            exact (HKV.out.cell (p := ⟨b, o + j, none⟩) hf.1 hf.2).trans (hcl j x hx)
        subst hka
        have HKX : Hid (K.getD j false = x) := by show _ = _; rw [List.getD_eq_getElem?_getD, hx]; rfl
        rw [HKX.out] at HLJ
        generalize hV : wr.alloc (.cells (penC p).toArray 311) = V at *
        cases x
        · rw [if_neg (by decide)] at HLJ
          go_wp2
          go_roundw
          case rel => exact ⟨j + 1, by omega, by go_num, by show DAt _ _ _ _ _ _; rw [HLJ.out]; exact HDV.out, HKV.out⟩
          case measure => simp [intOf]; omega
        · rw [if_pos rfl] at HLJ
          go_wp2_with fail
          clear hag hsn l1
          have d0 := HDV.out.c0
          have b0 : V.cell? ⟨wr.heap.size, 0, none⟩ = some (.int .i64 ((p.1 : Nat) : Int)) := cellOf HNEW.out rfl
          have l2 : cellsAt V.drew wr.heap.size 1 32 = some (cellsB p.2) := range_cellsAt _ _ _ _ _ (cells32 HPP.out) (fun q v hv => by
            refine cellOf (w := V) HNEW.out ?_
            rw [show 1 + q = q + 1 by omega, penC, List.getElem?_cons_succ]
            exact hv)
          have so : StoreOk V.drew 32 (.pointer (some ⟨E, p.1 * 32, none⟩)) (.agg (cellsB p.2).toArray) := ⟨_, _, _, rfl, rfl, cells32 HPP.out, cellsB_one _, HDV.out.drew.thereE p.1 hpn⟩
          have q0 : (0 : Int) ≤ (p.1 : Int) := by omega
          have q1 : (p.1 : Int) < (s.n : Int) := by omega
          clear hV hcell
          go_region_law (fail)
          all_goals
            go_wp2
            go_roundw
            case rel =>
              refine ⟨j + 1, by omega, by go_num, ?_, ?_⟩
              · have := HDV.out.drew.stored p.1 p.2 hpn HPP.out
                show DAt _ _ _ _ _ _
                rw [HLJ.out]
                exact this
              · exact HKV.out.drew.setCells (.inl (.inr (.inl rfl))) _ _
            case measure => simp [intOf]; omega
      · have HKX : Hid (K.getD j false = false) := by show _ = _; rw [List.getD_eq_getElem?_getD, List.getElem?_eq_none (by omega)]; rfl
        rw [HKX.out, if_neg (by decide)] at HLJ
        generalize hV : wr.alloc (.cells (penC p).toArray 311) = V at *
        go_wp2
        go_roundw
        case rel => exact ⟨j + 1, by omega, by go_num, by show DAt _ _ _ _ _ _; rw [HLJ.out]; exact HDV.out, HKV.out⟩
        case measure => simp [intOf]; omega
    · obtain rfl : j = s.pend.length := by omega
      have d1 := hd.out.c1
      have d4 := hd.out.c4
      have d5 := hd.out.c5
      have df := hd.out.free
      have HX := hideK ((hd.out.clear.setTrouble 0 (by omega) (by omega)).setTerm (s.term + 1))
      have HKX := hideK (((hk.out.setCell (p := ⟨D, 1, none⟩) (.inl (.inl rfl)) (.slice none 0 0)).setCell (p := ⟨D, 4, none⟩) (.inl (.inl rfl)) (.int .i64 0)).setCell (p := ⟨D, 5, none⟩) (.inl (.inl rfl)) (.int .i64 (s.term + 1)))
      have e5 : ((wr.setCell ⟨D, 1, none⟩ (.slice none 0 0)).setCell ⟨D, 4, none⟩ (.int .i64 0)).cell? ⟨D, 5, none⟩ = some (.int .i64 s.term) := (World.cell?_setCell_other _ _ _ _ (by simp)).trans ((World.cell?_setCell_other _ _ _ _ (by simp)).trans d5)
      have f5 : ((wr.setCell ⟨D, 1, none⟩ (.slice none 0 0)).setCell ⟨D, 4, none⟩ (.int .i64 0)).frozen? ⟨D, 5, none⟩ = false := (hd.out.clear.setTrouble 0 (by omega) (by omega)).free 5
      have hv5 : IntKind.i64.wrap (s.term + 1) = s.term + 1 := by rw [IntKind.wrap_i64] <;> omega
      have HNT := hideK (newTerm_on D s.term ((wr.setCell ⟨D, 1, none⟩ (.slice none 0 0)).setCell ⟨D, 4, none⟩ (.int .i64 0)) e5 f5 hv5)
      clear e5 f5
      go_wp2_with fail
      refine HNT.out.mono ?_
      rintro e w9 ⟨rfl, hw9⟩
      obtain rfl := hw9
      go_wp2
      go_end0
      exact ⟨rfl, HX.out, HKX.out⟩
end Go.Proofs.YtgaoeoijdpdjiaaGreatDoor
