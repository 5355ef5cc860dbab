/-
  The disk's Sync.
-/
import Derived.Test.YtgaoeoijdpdjiaaGreatDoorPart15
namespace Go.Proofs.YtgaoeoijdpdjiaaGreatDoor
open Go.RowKit
attribute [local go_sem ↓] wp_pre_sec wp_pre_wri wp_pre_store_sec wp_pre_store_wri Go.wp_at_zero Go.wp_at_succ
attribute [local go_sem] ptrCells_at storeW_at
theorem sync_no (lo D E : Nat) (pv : Value) (s : DSt) (w : World) (h : DAt lo D E pv s w) (h1 : s.trouble = 1) :
    Calls Tryz.prog 201 #[.pointer (some ⟨D, 0, none⟩)] w fun e w' => e = .returned (.int .i64 5) ∧ DAt lo D E pv { s with trouble := tick s.trouble } w' ∧ Kept (fun k => k = D) w w' := by
  have HF := hideK (fails_any lo D E pv s w h)
  rw [decide_eq_true h1] at HF
  clear h h1
  go_enter Tryz.func201, Tryz.ntmps201
  go_wp2_with fail
  refine HF.out.mono ?_
  rintro e w2 ⟨rfl, hd2, hk2⟩
  have HD2 := hideK hd2
  have HK2 := hideK hk2
  clear hd2 hk2
  go_wp2
  go_ret
  exact ⟨rfl, HD2.out, HK2.out⟩
set_option maxRecDepth 20000 in
set_option maxHeartbeats 2000000 in
theorem sync_ok (lo D E : Nat) (pv : Value) (s : DSt) (w : World) (h : DAt lo D E pv s w) (h1 : s.trouble ≠ 1) (hw : 0 ≤ s.syncs) (hw2 : s.syncs < 9223372036854775807) :
    Calls Tryz.prog 201 #[.pointer (some ⟨D, 0, none⟩)] w fun e w' => e = .returned (.int .i64 0) ∧ DAt lo D E (.slice none 0 0) { s with trouble := tick s.trouble, dur := laidJ s s.pend.length, pend := [], syncs := s.syncs + 1 } w' ∧ Kept (DFoot D E pv) w w' := by
  have HF := hideK (fails_any lo D E pv s w h)
  rw [decide_eq_false h1] at HF
  obtain ⟨a, c, hpv⟩ := owns_len h.pending
  have hm := h.ok.most
  have HOK := hideK h.ok
  subst hpv
  clear h h1
  go_enter Tryz.func201, Tryz.ntmps201
  go_wp2_with fail
  refine HF.out.mono ?_
  rintro e w2 ⟨rfl, hd2, hk2⟩
  have c1 := hd2.c1
  have HD2 := hideK hd2
  have HK2 := hideK (hk2.mono (G := DFoot D E (.slice a s.pend.length c)) (fun k _ e => .inl e))
  clear hd2 hk2 HF
  go_wp2
  clear c1
  go_loopw [12] (fun i wr => ∃ j : Nat, j ≤ s.pend.length ∧ i = .int .i64 j ∧ Hid (DAt lo D E (.slice a s.pend.length c) { s with trouble := tick s.trouble, dur := laidJ s j } wr) ∧ Hid (Kept (DFoot D E (.slice a s.pend.length c)) w wr)) (fun i _ => s.pend.length - (intOf i).toNat)
  case atStart => exact ⟨0, Nat.zero_le _, rfl, HD2.out, HK2.out⟩
  case round =>
    obtain ⟨j, hj, rfl, hd, hk⟩ := hrel
    by_cases hlt : j < s.pend.length
    · obtain ⟨p, hp⟩ : ∃ p, s.pend[j]? = some p := ⟨_, List.getElem?_eq_getElem hlt⟩
      obtain ⟨P, cap, hpv, hcap, hPlt, hrow⟩ := hd.out.row (Nat.lt_of_le_of_lt (Nat.zero_le _) hlt)
      simp only [Value.slice.injEq] at hpv
      obtain ⟨rfl, _, rfl⟩ := hpv
      have hpp := HOK.out.pen p (List.mem_of_getElem? hp)
      have HPP := hideK hpp.2
      have hpn : p.1 < s.n := hpp.1
      have hn8 := HOK.out.hi
      have l1 := range_cellsAt (penC p) 33 wr P (j * 33) (pen33 hpp.2) (hrow j p hp)
      have HLJ := hideK (laidJ_succ s j p hp)
      have hag : ∀ cc : Array Value, cc.size = 33 → StoreOk (wr.alloc (.cells cc 311)) 33 (.pointer (some ⟨wr.heap.size, 0, none⟩)) (.agg (penC p).toArray) := fun cc hcc => ⟨_, _, _, rfl, rfl, pen33 HPP.out, penC_one p, there_new wr cc _ 33 hcc⟩
      have hsn : ∀ cc : Array Value, cc.size = 33 → (wr.alloc (.cells cc 311)).setCells wr.heap.size 0 (penC p) = wr.alloc (.cells (penC p).toArray 311) := fun cc hcc => setCells_new wr cc _ _ (by rw [hcc, pen33 HPP.out])
      clear hrow hpp
      go_wp2_with fail
      clear hag hsn l1
      generalize hV : wr.alloc (.cells (penC p).toArray 311) = V
      have hbV : Below wr.heap.size wr V := by subst hV; exact (Below.refl _ _).alloc (Nat.le_refl _) _
      have hnew : V.heap[wr.heap.size]? = some (.cells (penC p).toArray 311 (0, 0)) := by subst hV; exact heap_alloc_new wr _
      have HDV := hideK (hd.out.below hbV)
      have HKV := hideK (hk.out.after hbV)
      have d0 := HDV.out.c0
      have b0 : V.cell? ⟨wr.heap.size, 0, none⟩ = some (.int .i64 ((p.1 : Nat) : Int)) := cellOf hnew rfl
      have l2 : cellsAt V.drew wr.heap.size 1 32 = some (cellsB p.2) := range_cellsAt _ _ _ _ _ (cells32 HPP.out) (fun q v hv => by
        refine cellOf (w := V) hnew ?_
        rw [show 1 + q = q + 1 by omega, penC, List.getElem?_cons_succ]
        exact hv)
      have so : StoreOk V.drew 32 (.pointer (some ⟨E, p.1 * 32, none⟩)) (.agg (cellsB p.2).toArray) := ⟨_, _, _, rfl, rfl, cells32 HPP.out, cellsB_one _, HDV.out.drew.thereE p.1 hpn⟩
      have q0 : (0 : Int) ≤ (p.1 : Int) := by omega
      have q1 : (p.1 : Int) < (s.n : Int) := by omega
      clear hV hnew hbV
      go_region_law (fail)
      all_goals
        go_wp2
        go_roundw
        case rel =>
          refine ⟨j + 1, by omega, by go_num, ?_, ?_⟩
          · have := HDV.out.drew.stored p.1 p.2 hpn HPP.out
            show DAt _ _ _ _ _ _
            rw [HLJ.out]
            exact this
          · exact HKV.out.drew.setCells (.inl (.inr (.inl rfl))) _ _
        case measure => simp [intOf]; omega
    · obtain rfl : j = s.pend.length := by omega
      have d1 := hd.out.c1
      have d3 := hd.out.c3
      have df := hd.out.free
      have HX := hideK (hd.out.clear.setSyncs (s.syncs + 1))
      have HKX := hideK ((hk.out.setCell (p := ⟨D, 1, none⟩) (.inl (.inl rfl)) (.slice none 0 0)).setCell (p := ⟨D, 3, none⟩) (.inl (.inl rfl)) (.int .i64 (s.syncs + 1)))
      go_wp2
      go_ret
      exact ⟨rfl, HX.out, HKX.out⟩
end Go.Proofs.YtgaoeoijdpdjiaaGreatDoor
