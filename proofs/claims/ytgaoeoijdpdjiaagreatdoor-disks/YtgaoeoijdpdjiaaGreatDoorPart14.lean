/-
  A write to the disk.
-/
import Derived.Test.YtgaoeoijdpdjiaaGreatDoorPart13
import Derived.Lib.ConvBytes
import Derived.Deep.RegionLaw
namespace Go.Proofs.YtgaoeoijdpdjiaaGreatDoor
open Go.RowKit
attribute [local go_sem ↓] wp_pre_sec wp_pre_wri wp_pre_build wp_pre_slice Go.wp_at_zero Go.wp_at_succ
attribute [local go_sem] ptrCells_at aggList_at isInt64_at
/-- A text's bytes in a new row. -/
theorem bytesK (t : ByteArray) (w : World) : ∃ cap V, (convert 9 125 (.string t)).run Tryz.prog w = .ok (.slice (some ⟨w.heap.size, 0, none⟩) t.size cap) V ∧ Below w.heap.size w V ∧ V.heap.size = w.heap.size + 1 ∧ V.rangeAt w.heap.size 0 (cellsB t) := by
  refine ⟨grownCap w t.size 0 5, Lib.bytesWorld w 5 t, Lib.run_convert_string_bytes w 9 125 5 t Tryz.underlying9 Tryz.underlying125 Tryz.underlying5, ?_, Lib.bytesWorld_size _ _ _, ?_⟩
  · exact ⟨rfl, rfl, rfl, by rw [Lib.bytesWorld_size]; omega, fun k hk => Lib.bytesWorld_at_old w _ t k hk⟩
  · intro j v hv
    have hj : j < t.size := by rw [← cellsB_length]; exact (List.getElem?_eq_some_iff.1 hv).1
    have h : j < t.data.toList.length := hj
    rw [Nat.zero_add, Lib.bytesWorld_cell w _ t j hj, List.getD_eq_getElem?_getD, List.getElem?_eq_getElem h]
    rw [cellsB, List.getElem?_map, List.getElem?_eq_getElem h] at hv
    exact hv
theorem arrayAt32 (W : World) (B cap : Nat) : (Instr.arrayAt 308 (.slice (some ⟨B, 0, none⟩) 32 cap)).run Tryz.prog W = .ok (.pointer (some ⟨B, 0, none⟩)) W := by kernel_rfl
theorem infoWri : (Tryz.prog.info? 311).map (fun i => (i.zero, i.size, i.bytes)) = some (some (.agg (.int .i64 0 :: List.replicate 32 (Value.int .u8 0)).toArray), 33, 40) := by kernel_rfl
theorem pends_snoc (l : List (Nat × ByteArray)) (p : Nat × ByteArray) : pends l ++ penC p = pends (l ++ [p]) := by simp [pends]
/-- What a write answers, and what it makes. -/
def wrAns (s : DSt) (i : Int) (t : ByteArray) : Int := if ¬ (0 ≤ i ∧ i < s.n) then 4 else if t.size ≠ 32 then 2 else if s.trouble = 1 ∨ s.pend.length = 16 then 5 else 0
def wrSt (s : DSt) (i : Int) (t : ByteArray) : DSt := if ¬ (0 ≤ i ∧ i < s.n) then s else if t.size ≠ 32 then s else if s.trouble = 1 ∨ s.pend.length = 16 then { s with trouble := tick s.trouble } else { s with trouble := tick s.trouble, pend := s.pend ++ [(i.toNat, t)], writes := s.writes + 1 }
theorem write_sec (lo D E : Nat) (pv : Value) (s : DSt) (i : Int) (t : ByteArray) (w : World) (h : DAt lo D E pv s w) (hi : ¬ (0 ≤ i ∧ i < s.n)) :
    Calls Tryz.prog 199 #[.pointer (some ⟨D, 0, none⟩), .int .i64 i, .string t] w fun e w' => e = .returned (.int .i64 4) ∧ w' = w := by
  have HH := hideK (dhas_any lo D E pv s i w h)
  rw [decide_eq_false hi] at HH
  clear h hi
  go_enter Tryz.func199, Tryz.ntmps199
  go_wp2_with fail
  refine HH.out.mono ?_
  rintro e w1 ⟨rfl, rfl⟩
  go_wp2
  go_ret
  exact ⟨rfl, rfl⟩
theorem write_arg (lo D E : Nat) (pv : Value) (s : DSt) (i : Int) (t : ByteArray) (w : World) (h : DAt lo D E pv s w) (hi : 0 ≤ i ∧ i < s.n) (ht : t.size ≠ 32) :
    Calls Tryz.prog 199 #[.pointer (some ⟨D, 0, none⟩), .int .i64 i, .string t] w fun e w' => e = .returned (.int .i64 2) ∧ w' = w := by
  have HH := hideK (dhas_any lo D E pv s i w h)
  rw [decide_eq_true hi] at HH
  have hd : (((t.size : Nat) : Int) == 32) = false := by simp; omega
  have hd2 : (((t.size : Nat) : Int) != 32) = true := by simp; omega
  clear h hi ht
  go_enter Tryz.func199, Tryz.ntmps199
  go_wp2_with fail
  refine HH.out.mono ?_
  rintro e w1 ⟨rfl, rfl⟩
  go_wp2
  go_ret
  exact ⟨rfl, rfl⟩
theorem write_dsk (lo D E : Nat) (pv : Value) (s : DSt) (i : Int) (t : ByteArray) (w : World) (h : DAt lo D E pv s w) (hi : 0 ≤ i ∧ i < s.n) (ht : t.size = 32) (hf : s.trouble = 1 ∨ s.pend.length = 16) :
    Calls Tryz.prog 199 #[.pointer (some ⟨D, 0, none⟩), .int .i64 i, .string t] w fun e w' => e = .returned (.int .i64 5) ∧ DAt lo D E pv { s with trouble := tick s.trouble } w' ∧ Kept (fun k => k = D) w w' := by
  have HH := hideK (dhas_any lo D E pv s i w h)
  rw [decide_eq_true hi] at HH
  have HF := hideK (fails_any lo D E pv s w h)
  have hd : (((t.size : Nat) : Int) == 32) = true := by rw [ht]; rfl
  have hd2 : (((t.size : Nat) : Int) != 32) = false := by rw [ht]; rfl
  obtain ⟨a, c, rfl⟩ := owns_len h.pending
  have hm := h.ok.most
  clear h hi ht
  by_cases h1 : s.trouble = 1
  · rw [decide_eq_true h1] at HF
    clear hf h1
    go_enter Tryz.func199, Tryz.ntmps199
    go_wp2_with fail
    refine HH.out.mono ?_
    rintro e w1 ⟨rfl, rfl⟩
    go_wp2_with fail
    refine HF.out.mono ?_
    rintro e w2 ⟨rfl, hd2, hk2⟩
    have HD2 := hideK hd2
    have HK2 := hideK hk2
    clear hd2 hk2
    go_wp2
    go_ret
    exact ⟨rfl, HD2.out, HK2.out⟩
  · have h2 : s.pend.length = 16 := by rcases hf with h | h <;> first | exact absurd h h1 | exact h
    have hl : (((s.pend.length : Nat) : Int) == 16) = true := by rw [h2]; rfl
    rw [decide_eq_false h1] at HF
    clear hf h1 h2
    go_enter Tryz.func199, Tryz.ntmps199
    go_wp2_with fail
    refine HH.out.mono ?_
    rintro e w1 ⟨rfl, rfl⟩
    go_wp2_with fail
    refine HF.out.mono ?_
    rintro e w2 ⟨rfl, hd2, hk2⟩
    have c1 := hd2.c1
    have HD2 := hideK hd2
    have HK2 := hideK hk2
    clear hd2 hk2
    go_wp2
    go_ret
    exact ⟨rfl, HD2.out, HK2.out⟩
theorem DAt.appended {lo D E g cap H : Nat} {pv : Value} {s : DSt} {V w3 : World} {o : Obj} {i : Nat} {t : ByteArray} (h : DAt lo D E pv s V) (hown : w3.ownsRow lo 311 33 (.slice (some ⟨g, 0, none⟩) (s.pend.length + 1) cap) (s.pend.length + 1) (pends s.pend ++ penC (i, t))) (hgrow : (V.alloc o).grownBy w3 pv.ownBlock) (hat : pv.ownBlock = some g ∨ g = H) (hH : (V.alloc o).heap.size = H) (hi : i < s.n) (ht : t.size = 32) (hm : s.pend.length < 16) :
    DAt lo D E (.slice (some ⟨g, 0, none⟩) (s.pend.length + 1) cap) { s with pend := s.pend ++ [(i, t)] } (w3.setCell ⟨D, 1, none⟩ (.slice (some ⟨g, 0, none⟩) (s.pend.length + 1) cap)) := by
  have hD := h.ltD
  have hE := h.ltE
  have hz : (V.alloc o).heap.size = V.heap.size + 1 := World.size_alloc _ _
  have gD : g ≠ D := by
    rcases hat with e | e
    · intro e2; subst e2; exact h.pd e
    · omega
  have gE : g ≠ E := by
    rcases hat with e | e
    · intro e2; subst e2; exact h.pe e
    · omega
  have bD : w3.heap[D]? = V.heap[D]? := (hgrow.block D (by omega) (fun e => h.pd e.symm)).trans (heap_alloc_old V o hD)
  have bE : w3.heap[E]? = V.heap[E]? := (hgrow.block E (by omega) (fun e => h.pe e.symm)).trans (heap_alloc_old V o hE)
  refine ⟨?_, ?_, ?_, ⟨h.ok.len, h.ok.sec, ?_, h.ok.lo, h.ok.hi, by simp; omega, h.ok.tr, h.ok.tr2⟩, h.de, by simpa [Value.ownBlock] using gD, by simpa [Value.ownBlock] using gE, h.loD, h.loE⟩
  · have := block_setCell (o := 1) (bD.trans h.disk) (.slice (some ⟨g, 0, none⟩) (s.pend.length + 1) cap)
    exact this
  · rw [(kept_set w3 ⟨D, 1, none⟩ _).block E (Nat.lt_of_lt_of_le (by omega) hgrow.size) (fun e => h.de e.symm)]
    exact bE.trans h.durable
  · have := owns_kept hown (kept_set w3 ⟨D, 1, none⟩ (.slice (some ⟨g, 0, none⟩) (s.pend.length + 1) cap)) (fun k e hk => by
      have e' : g = k := by simpa [Value.ownBlock] using e
      exact gD (e'.trans hk))
    rw [pends_snoc] at this
    simpa using this
  · intro p hp
    rcases List.mem_append.1 hp with hp | hp
    · exact h.ok.pen p hp
    · rw [List.mem_singleton.1 hp]; exact ⟨hi, ht⟩
set_option maxRecDepth 20000 in
set_option maxHeartbeats 2000000 in
theorem write_ok (lo D E : Nat) (pv : Value) (s : DSt) (i : Nat) (t : ByteArray) (w : World) (h : DAt lo D E pv s w) (hlo : lo ≤ w.heap.size) (hi : i < s.n) (ht : t.size = 32) (h1 : s.trouble ≠ 1) (h2 : s.pend.length ≠ 16) (hw : 0 ≤ s.writes) (hw2 : s.writes < 9223372036854775807) :
    Calls Tryz.prog 199 #[.pointer (some ⟨D, 0, none⟩), .int .i64 i, .string t] w fun e w' => e = .returned (.int .i64 0) ∧ ∃ pv', DAt lo D E pv' { s with trouble := tick s.trouble, pend := s.pend ++ [(i, t)], writes := s.writes + 1 } w' ∧ Kept (DFoot D E pv) w w' ∧ (∀ k, pv'.ownBlock = some k → pv.ownBlock = some k ∨ w.heap.size ≤ k) := by
  have HH := hideK (dhas_any lo D E pv s i w h)
  rw [decide_eq_true (show 0 ≤ (i : Int) ∧ (i : Int) < s.n by omega)] at HH
  have HF := hideK (fails_any lo D E pv s w h)
  rw [decide_eq_false h1] at HF
  have hd : (((t.size : Nat) : Int) == 32) = true := by rw [ht]; rfl
  have hd2 : (((t.size : Nat) : Int) != 32) = false := by rw [ht]; rfl
  obtain ⟨a, c, hpv⟩ := owns_len h.pending
  have hm := h.ok.most
  have hl : (((s.pend.length : Nat) : Int) == 16) = false := by rw [beq_eq_false_iff_ne]; omega
  obtain ⟨i0, hi0, hz0, hz1, hz2⟩ := info_parts infoWri
  have HT := hideK ht
  have HM16 := hideK (show s.pend.length < 16 by omega)
  have HI := hideK hi
  have HLO := hideK hlo
  have HZ := hideK h.ltD
  subst hpv
  clear h hi ht h1 h2 hlo
  go_enter Tryz.func199, Tryz.ntmps199
  go_wp2_with fail
  refine HH.out.mono ?_
  rintro e w1 ⟨rfl, rfl⟩
  go_wp2_with fail
  refine HF.out.mono ?_
  rintro e w2 ⟨rfl, hd2', hk2⟩
  have c1 := hd2'.c1
  have HD2 := hideK hd2'
  have HK2 := hideK hk2
  clear hd2' hk2 HF HH
  go_wp2_with fail
  obtain ⟨cap, V, hcv, hbV, hzV, hrV⟩ := bytesK t w2.drew
  rw [HT.out] at hcv
  change (convert _ _ _).run _ _ = Result.ok (Value.slice (some ⟨w2.heap.size, 0, none⟩) 32 cap) V at hcv
  have hag : isAggN 32 (Value.agg (cellsB t).toArray) = true := by rw [isAggN_at, cells32 HT.out]; rfl
  have hag3 : isAggN 33 (Value.agg (Value.int .i64 ((i : Nat) : Int) :: cellsB t).toArray) = true := by rw [isAggN_at, List.length_cons, cells32 HT.out]; rfl
  have hld := range_cellsAt (cellsB t) 32 V w2.heap.size 0 (cells32 HT.out) hrV
  have d1 : V.cell? ⟨D, 1, none⟩ = some (.slice a s.pend.length c) := (HD2.out.drew.below hbV).c1
  have HDV := hideK (HD2.out.drew.below hbV)
  have hst : ∀ o, (V.alloc o).cell? ⟨D, 1, none⟩ = V.cell? ⟨D, 1, none⟩ := fun o => by have := HDV.out.ltD; simp [go_sem, this]
  have har := fun W : World => arrayAt32 W w2.heap.size cap
  have hzV' : V.heap.size = w2.heap.size + 1 := hzV
  have HPD := hideK (Ne.symm HDV.out.pd)
  have HLD := hideK HDV.out.ltD
  have HFD := hideK (HDV.out.free 1)
  have HLV := hideK (show lo ≤ V.heap.size by have h1 := HLO.out; have h2 := HK2.out.size; rw [hzV']; omega)
  clear hrV hzV
  have HNW : Hid (∀ j u, (penC (i, t))[j]? = some u → (V.alloc (.cells (Value.int .i64 ((i : Nat) : Int) :: cellsB t).toArray 311)).cell? ((⟨w2.heap.size + 1, 0, none⟩ : Addr).add j) = some u) := by
    show ∀ j u, _ → _
    rw [← hzV']
    exact World.news_of_block (heap_alloc_new V _)
  have HL33 := hideK (pen33 (p := (i, t)) HT.out)
  have N1 : Hid (s.pend.length + 1 ≤ maxLen) := by show _ ≤ _; unfold maxLen; omega
  have N2 : Hid ((s.pend.length + 1) * 40 ≤ 140737488355328) := by show _ ≤ _; omega
  have N3 : Hid (∀ o, lo ≤ (V.alloc o).heap.size) := fun o => by have h := HLV.out; rw [World.size_alloc]; omega
  have N4 : Hid (∀ o, (V.alloc o).heap.size = w2.heap.size + 1 + 1) := fun o => by rw [World.size_alloc, hzV']
  have N5 : Hid (∀ o, D < (V.alloc o).heap.size) := fun o => by have h := HLD.out; rw [World.size_alloc]; omega
  have N6 : Hid (∀ o, (V.alloc o).frozen? ⟨D, 1, none⟩ = false) := fun o => (World.frozen?_alloc_past _ _ _ HLD.out).trans HFD.out
  have N7 : Hid (∀ o, (V.alloc o).cell? ⟨D, 1, none⟩ = some (.slice a s.pend.length c)) := fun o => (hst o).trans d1
  have N8 : Hid (∀ u ∈ penC (i, t), u.oneCell' = true) := penC_one _
  have N9 : Hid ((Value.agg (.int .i64 0 :: List.replicate 32 (Value.int .u8 0)).toArray).cells.size = 33) := rfl
  have N10 : Hid (∀ o, (V.alloc o).ownsRow lo 311 33 (.slice a s.pend.length c) s.pend.length (pends s.pend)) := fun o => HDV.out.pending.alloc o
  go_region_law ((refine step_append_lies _ (by rfl) (.tmp 28) (.tmp 35) 304 (by rfl) lo 311 i0 (.agg (.int .i64 0 :: List.replicate 32 (Value.int .u8 0)).toArray) 33 40 Tryz.underlying304 hi0 hz0 hz1 hz2 N9.out (by decide) (.slice a s.pend.length c) s.pend.length (pends s.pend) (by rfl) (N10.out _) ⟨w2.heap.size + 1, 0, none⟩ 1 1 (penC (i, t)) (by rfl) HL33.out HNW.out N8.out (by decide) N1.out N2.out (N3.out _) (w2.heap.size + 1 + 1) (N4.out _) ?_; intro g cap' w3 hown hgrow hat hlt; have e1 : w3.cell? ⟨D, 1, none⟩ = some (.slice a s.pend.length c) := (hgrow.cell_far ⟨D, 1, none⟩ (N5.out _) HPD.out).trans (N7.out _); have e2 : w3.frozen? ⟨D, 1, none⟩ = false := (hgrow.frozen_far ⟨D, 1, none⟩ (N5.out _) HPD.out).trans (N6.out _)))
  all_goals
    have hX := HDV.out.appended (i := i) (t := t) hown hgrow hat (N4.out _) HI.out HT.out HM16.out
    have hKX : Kept (DFoot D E (.slice a s.pend.length c)) w1 (w3.setCell ⟨D, 1, none⟩ (.slice (some ⟨g, 0, none⟩) (s.pend.length + 1) cap')) := by
      refine Kept.setCell ?_ (.inl (.inl rfl)) _
      refine Kept.grown (w := V.alloc _) ?_ hgrow (fun k e => .inl (.inr (.inr e)))
      exact ((HK2.out.mono (fun k _ e => .inl e)).drew.after hbV).alloc _
    have hOX : ∀ k, (Value.slice (some ⟨g, 0, none⟩) (s.pend.length + 1) cap').ownBlock = some k → (Value.slice a s.pend.length c).ownBlock = some k ∨ w1.heap.size ≤ k := by
      intro k e
      have e' : g = k := by simpa [Value.ownBlock] using e
      subst e'
      rcases hat with e | e
      · exact .inl e
      · have := HK2.out.size; exact .inr (by omega)
    have HX := hideK hX
    have HKX := hideK hKX
    have HOX := hideK hOX
    have x2 := hX.c2
    have xf := hX.free 2
    clear hX hKX hOX hown hgrow hat hlt e1 e2
    generalize World.setCell w3 { block := D, off := 1 } _ = W4 at *
    go_wp2
    go_ret
    exact ⟨rfl, _, HX.out.setWrites _, HKX.out.setCell (.inl (.inl rfl)) _, HOX.out⟩
end Go.Proofs.YtgaoeoijdpdjiaaGreatDoor
