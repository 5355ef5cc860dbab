/-
  The program's Unseal. The disk's Sync. The program's Of: ErrArg, ErrLong, or the first n bytes of the whole.
-/
import Derived.Test.YtgaoeoijdpdjiabGreatDoorPart6
import Derived.Test.YtgaoeoijdpdjiabGreatDoorPart5
import Derived.Laws.StructEq
import Derived.MapKept
namespace Go.Proofs.YtgaoeoijdpdjiabGreatDoor
open Go.RowKit

theorem sliceS (s : ByteArray) (a b : Nat) (h1 : a ≤ b) (h2 : b ≤ s.size) (w : World) : (Instr.slice 9 (.string s) (some (.int .i64 (a : Int))) (some (.int .i64 (b : Int))) none).run Tryz.prog w = .ok (.string (s.extract a b)) w := by
  have a1 : (0 : Int) ≤ (a : Int) := by omega
  have a2 : (a : Int) ≤ (b : Int) := by omega
  have a3 : (b : Int) ≤ (s.size : Int) := by omega
  simp [go_sem, Tryz.underlying9, a1, a2, a3] <;> omega
theorem sliceS0 (s : ByteArray) (b : Nat) (h2 : b ≤ s.size) (w : World) : (Instr.slice 9 (.string s) none (some (.int .i64 (b : Int))) none).run Tryz.prog w = .ok (.string (s.extract 0 b)) w := by
  have a2 : (0 : Int) ≤ (b : Int) := by omega
  have a3 : (b : Int) ≤ (s.size : Int) := by omega
  simp [go_sem, Tryz.underlying9, a2, a3] <;> omega

/-- The number that four bytes tell. -/
def nv (t : ByteArray) : Int := ((valN t 0 4 : Nat) : Int)

theorem bcellR {W w1 : World} (hb : Below W.heap.size W w1) : (∀ b o, b < W.heap.size → w1.cell? ⟨b, o, none⟩ = W.cell? ⟨b, o, none⟩) ∧ (∀ b o, b < W.heap.size → w1.frozen? ⟨b, o, none⟩ = W.frozen? ⟨b, o, none⟩) :=
  ⟨fun b o h => hb.cell (p := ⟨b, o, none⟩) h, fun b o h => hb.frozen (p := ⟨b, o, none⟩) h⟩

theorem toList_ne {a b : ByteArray} (h : a ≠ b) : (a.toList == b.toList) = false := by
  rw [← beq_toListBytes, Bool.eq_false_iff]
  exact fun e => h ((Go.MapKept.bytes_beq a b).1 e)

theorem unseal_short (s : ByteArray) (w : World) (h : s.size ≠ 32) :
    Calls Tryz.prog 255 #[.string s] w fun e w' => e = .returned (unsV s) ∧ Below w.heap.size w w' := by
  have HE := hide (unsV_no (isRec_size h))
  have hd : (((s.size : Nat) : Int) == 32) = false := by simp; omega
  have hd2 : (((s.size : Nat) : Int) != 32) = true := by simp; omega
  clear h
  generalize unsV s = z at HE ⊢
  go_enter Tryz.func255, Tryz.ntmps255
  go_wp2
  refine bodyPost_ret (v := .tuple #[.agg #[.int .i64 0, .int .i64 0, .string ⟨#[]⟩], .int .i64 6]) (by simp [results, Tryz.results255, go_sem]) rfl ⟨by rw [HE.out], ?_⟩
  exact (Below.refl _ _).alloc (Nat.le_refl _) _

set_option maxRecDepth 20000 in
set_option maxHeartbeats 2000000 in
theorem unseal_32 (s : ByteArray) (w : World) (h : s.size = 32) :
    Calls Tryz.prog 255 #[.string s] w fun e w' => e = .returned (unsV s) ∧ Below w.heap.size w w' := by
  have hd : (((s.size : Nat) : Int) == 32) = true := by rw [h]; rfl
  have hd2 : (((s.size : Nat) : Int) != 32) = false := by rw [h]; rfl
  have e1 := sliceS s 4 8 (by omega) (by omega)
  have e2 := sliceS s 16 20 (by omega) (by omega)
  have e3 := sliceS s 8 16 (by omega) (by omega)
  simp only [Int.cast_ofNat_Int] at e1 e2 e3
  have HN := hide (fun (V : World) (t : ByteArray) (ht : Hid (t.size = 4)) => numberIn_any t V (by rw [ht.out]; omega) (by rw [ht.out]; omega))
  have Z1 : Hid ((s.extract 4 8).size = 4) := by show _ = _; rw [ByteArray.size_extract]; omega
  have Z2 : Hid ((s.extract 16 20).size = 4) := by show _ = _; rw [ByteArray.size_extract]; omega
  have hq : seqOf s = nv (s.extract 4 8) := by rw [nv, valN_part s 4 8 4 (by omega) (by omega)]; rfl
  have hb : boundOf s = nv (s.extract 16 20) := by rw [nv, valN_part s 16 20 4 (by omega) (by omega)]; rfl
  change Hid (∀ (V : World) (t : ByteArray) (ht : Hid (t.size = 4)), Calls _ _ _ _ (fun e w' => e = .returned (.int .i64 (nv t)) ∧ w' = V)) at HN
  change ∀ w : World, _ = Result.ok (Value.string (idOf s)) w at e3
  have HZ := hide h
  clear h
  by_cases hR : RecR (seqOf s) (boundOf s) (idOf s)
  · by_cases hS : sealS (seqOf s) (boundOf s) (idOf s) = s
    · have HE := hide (unsV_yes ((isRec_iff s).2 ⟨HZ.out, hR, hS⟩))
      have HL := hide (fun V : World => seal_yes _ _ _ V hR)
      rw [hS, hq, hb] at HL
      rw [hq, hb] at HE
      clear hq hb hR hS
      generalize idOf s = d at *
      generalize unsV s = z at HE ⊢
      generalize s.extract 4 8 = s1 at *
      generalize s.extract 16 20 = s2 at *
      go_enter Tryz.func255, Tryz.ntmps255
      go_wp2_with fail
      go_region_held3 (fun V => True) (trivial) ((go_at_call 156; refine (HN.out _ _ (by first | exact Z1 | exact Z2)).mono ?_; rintro e w1 ⟨rfl, rfl⟩))
      all_goals
        go_wp2_with fail
        refine (HL.out _).mono ?_
        rintro e w2 ⟨rfl, hb2⟩
        have B2 := hide ((((Below.refl w.heap.size w).alloc (Nat.le_refl _) _).alloc (by simp) _).drew.trans (hb2.mono (by simp; omega)))
        have c0 : w2.cell? ⟨w.heap.size, 0, none⟩ = some (.int .i64 0) := (hb2.cell (p := ⟨w.heap.size, 0, none⟩) (by simp; omega)).trans (by simp [go_sem])
        have c1 : w2.cell? ⟨w.heap.size, 1, none⟩ = some (.int .i64 0) := (hb2.cell (p := ⟨w.heap.size, 1, none⟩) (by simp; omega)).trans (by simp [go_sem])
        have c2 : w2.cell? ⟨w.heap.size, 2, none⟩ = some (.string ⟨#[]⟩) := (hb2.cell (p := ⟨w.heap.size, 2, none⟩) (by simp; omega)).trans (by simp [go_sem])
        obtain ⟨hc, hf⟩ := bcellR hb2
        have hz : w.heap.size + 2 ≤ w2.heap.size := by have := hb2.size; simp at this; omega
        clear hb2
        go_wp2
        refine bodyPost_ret (v := .tuple #[.agg #[.int .i64 (nv s1), .int .i64 (nv s2), .string d], .int .i64 0]) (by simp [results, Tryz.results255, go_sem, c0, c1, c2]) rfl ⟨by rw [HE.out], ?_⟩
        iterate 3 refine Below.setCell ?_ (by simp) _
        exact B2.out
    · have HE := hide (unsV_no (s := s) (by rw [isRec, decide_eq_false (fun h => hS h.2.2)]))
      have HL := hide (fun V : World => seal_yes _ _ _ V hR)
      have hn1 := toList_ne hS
      generalize sealS (seqOf s) (boundOf s) (idOf s) = y at *
      rw [hq, hb] at HL
      clear hq hb hR hS
      generalize idOf s = d at *
      generalize unsV s = z at HE ⊢
      generalize s.extract 4 8 = s1 at *
      generalize s.extract 16 20 = s2 at *
      go_enter Tryz.func255, Tryz.ntmps255
      go_wp2_with fail
      go_region_held3 (fun V => True) (trivial) ((go_at_call 156; refine (HN.out _ _ (by first | exact Z1 | exact Z2)).mono ?_; rintro e w1 ⟨rfl, rfl⟩))
      all_goals
        go_wp2_with fail
        refine (HL.out _).mono ?_
        rintro e w2 ⟨rfl, hb2⟩
        have B2 := hide ((((Below.refl w.heap.size w).alloc (Nat.le_refl _) _).alloc (by simp) _).drew.trans (hb2.mono (by simp; omega)))
        have c0 : w2.cell? ⟨w.heap.size, 0, none⟩ = some (.int .i64 0) := (hb2.cell (p := ⟨w.heap.size, 0, none⟩) (by simp; omega)).trans (by simp [go_sem])
        have c1 : w2.cell? ⟨w.heap.size, 1, none⟩ = some (.int .i64 0) := (hb2.cell (p := ⟨w.heap.size, 1, none⟩) (by simp; omega)).trans (by simp [go_sem])
        have c2 : w2.cell? ⟨w.heap.size, 2, none⟩ = some (.string ⟨#[]⟩) := (hb2.cell (p := ⟨w.heap.size, 2, none⟩) (by simp; omega)).trans (by simp [go_sem])
        obtain ⟨hc, hf⟩ := bcellR hb2
        have hz : w.heap.size + 2 ≤ w2.heap.size := by have := hb2.size; simp at this; omega
        clear hb2
        go_wp2
        refine bodyPost_ret (v := .tuple #[.agg #[.int .i64 0, .int .i64 0, .string ⟨#[]⟩], .int .i64 6]) (by simp [results, Tryz.results255, go_sem, c0, c1, c2]) rfl ⟨by rw [HE.out], ?_⟩
        iterate 3 refine Below.setCell ?_ (by simp) _
        exact B2.out
  · have HE := hide (unsV_no (s := s) (by rw [isRec, decide_eq_false (fun h => hR h.2.1)]))
    have HL := hide (fun V : World => seal_no _ _ _ V hR)
    clear hR
    rw [hq, hb] at HL
    clear hq hb
    generalize idOf s = d at *
    generalize unsV s = z at HE ⊢
    generalize s.extract 4 8 = s1 at *
    generalize s.extract 16 20 = s2 at *
    go_enter Tryz.func255, Tryz.ntmps255
    go_wp2_with fail
    go_region_held3 (fun V => True) (trivial) ((go_at_call 156; refine (HN.out _ _ (by first | exact Z1 | exact Z2)).mono ?_; rintro e w1 ⟨rfl, rfl⟩))
    all_goals
      go_wp2_with fail
      refine (HL.out _).mono ?_
      rintro e w2 ⟨rfl, hb2⟩
      have B2 := hide ((((Below.refl w.heap.size w).alloc (Nat.le_refl _) _).alloc (by simp) _).drew.trans (hb2.mono (by simp; omega)))
      have c0 : w2.cell? ⟨w.heap.size, 0, none⟩ = some (.int .i64 0) := (hb2.cell (p := ⟨w.heap.size, 0, none⟩) (by simp; omega)).trans (by simp [go_sem])
      have c1 : w2.cell? ⟨w.heap.size, 1, none⟩ = some (.int .i64 0) := (hb2.cell (p := ⟨w.heap.size, 1, none⟩) (by simp; omega)).trans (by simp [go_sem])
      have c2 : w2.cell? ⟨w.heap.size, 2, none⟩ = some (.string ⟨#[]⟩) := (hb2.cell (p := ⟨w.heap.size, 2, none⟩) (by simp; omega)).trans (by simp [go_sem])
      obtain ⟨hc, hf⟩ := bcellR hb2
      have hz : w.heap.size + 2 ≤ w2.heap.size := by have := hb2.size; simp at this; omega
      clear hb2
      go_wp2
      refine bodyPost_ret (v := .tuple #[.agg #[.int .i64 0, .int .i64 0, .string ⟨#[]⟩], .int .i64 6]) (by simp [results, Tryz.results255, go_sem, c0, c1, c2]) rfl ⟨by rw [HE.out], ?_⟩
      iterate 3 refine Below.setCell ?_ (by simp) _
      exact B2.out

theorem unseal_any (s : ByteArray) (w : World) :
    Calls Tryz.prog 255 #[.string s] w fun e w' => e = .returned (unsV s) ∧ Below w.heap.size w w' := by
  by_cases h : s.size = 32
  · exact unseal_32 s w h
  · exact unseal_short s w h
end Go.Proofs.YtgaoeoijdpdjiabGreatDoor

namespace Go.Proofs.YtgaoeoijdpdjiabGreatDoor
open Go.RowKit

attribute [local go_sem ↓] wp_pre_sec wp_pre_wri wp_pre_store_sec wp_pre_store_wri Go.wp_at_zero Go.wp_at_succ
attribute [local go_sem] ptrCells_at storeW_at

theorem sync_no (lo D E : Nat) (pv : Value) (s : DSt) (w : World) (h : DAt lo D E pv s w) (h1 : s.trouble = 1) :
    Calls Tryz.prog 105 #[.pointer (some ⟨D, 0, none⟩)] w fun e w' => e = .returned (.int .i64 5) ∧ DAt lo D E pv { s with trouble := tick s.trouble } w' ∧ Kept (fun k => k = D) w w' := by
  have HF := hideK (fails_any lo D E pv s w h)
  rw [decide_eq_true h1] at HF
  clear h h1
  go_enter Tryz.func105, Tryz.ntmps105
  go_wp2_with fail
  refine HF.out.mono ?_
  rintro e w2 ⟨rfl, hd2, hk2⟩
  have HD2 := hideK hd2
  have HK2 := hideK hk2
  clear hd2 hk2
  go_wp2
  go_ret
  exact ⟨rfl, HD2.out, HK2.out⟩

set_option maxRecDepth 20000 in
set_option maxHeartbeats 2000000 in
theorem sync_ok (lo D E : Nat) (pv : Value) (s : DSt) (w : World) (h : DAt lo D E pv s w) (h1 : s.trouble ≠ 1) (hw : 0 ≤ s.syncs) (hw2 : s.syncs < 9223372036854775807) :
    Calls Tryz.prog 105 #[.pointer (some ⟨D, 0, none⟩)] w fun e w' => e = .returned (.int .i64 0) ∧ DAt lo D E (.slice none 0 0) { s with trouble := tick s.trouble, dur := laidJ s s.pend.length, pend := [], syncs := s.syncs + 1 } w' ∧ Kept (DFoot D E pv) w w' := by
  have HF := hideK (fails_any lo D E pv s w h)
  rw [decide_eq_false h1] at HF
  obtain ⟨a, c, hpv⟩ := owns_len h.pending
  have hm := h.ok.most
  have HOK := hideK h.ok
  subst hpv
  clear h h1
  go_enter Tryz.func105, Tryz.ntmps105
  go_wp2_with fail
  refine HF.out.mono ?_
  rintro e w2 ⟨rfl, hd2, hk2⟩
  have c1 := hd2.c1
  have HD2 := hideK hd2
  have HK2 := hideK (hk2.mono (G := DFoot D E (.slice a s.pend.length c)) (fun k _ e => .inl e))
  clear hd2 hk2 HF
  go_wp2
  clear c1
  go_loopw [12] (fun i wr => ∃ j : Nat, j ≤ s.pend.length ∧ i = .int .i64 j ∧ Hid (DAt lo D E (.slice a s.pend.length c) { s with trouble := tick s.trouble, dur := laidJ s j } wr) ∧ Hid (Kept (DFoot D E (.slice a s.pend.length c)) w wr)) (fun i _ => s.pend.length - (intOf i).toNat)
  case atStart => exact ⟨0, Nat.zero_le _, rfl, HD2.out, HK2.out⟩
  case round =>
    obtain ⟨j, hj, rfl, hd, hk⟩ := hrel
    by_cases hlt : j < s.pend.length
    · obtain ⟨p, hp⟩ : ∃ p, s.pend[j]? = some p := ⟨_, List.getElem?_eq_getElem hlt⟩
      obtain ⟨P, cap, hpv, hcap, hPlt, hrow⟩ := hd.out.row (Nat.lt_of_le_of_lt (Nat.zero_le _) hlt)
      simp only [Value.slice.injEq] at hpv
      obtain ⟨rfl, _, rfl⟩ := hpv
      have hpp := HOK.out.pen p (List.mem_of_getElem? hp)
      have HPP := hideK hpp.2
      have hpn : p.1 < s.n := hpp.1
      have hn8 := HOK.out.hi
      have l1 := range_cellsAt (penC p) 33 wr P (j * 33) (pen33 hpp.2) (hrow j p hp)
      have HLJ := hideK (laidJ_succ s j p hp)
      have hag : ∀ cc : Array Value, cc.size = 33 → StoreOk (wr.alloc (.cells cc 241)) 33 (.pointer (some ⟨wr.heap.size, 0, none⟩)) (.agg (penC p).toArray) := fun cc hcc => ⟨_, _, _, rfl, rfl, pen33 HPP.out, penC_one p, there_new wr cc _ 33 hcc⟩
      have hsn : ∀ cc : Array Value, cc.size = 33 → (wr.alloc (.cells cc 241)).setCells wr.heap.size 0 (penC p) = wr.alloc (.cells (penC p).toArray 241) := fun cc hcc => setCells_new wr cc _ _ (by rw [hcc, pen33 HPP.out])
      clear hrow hpp
      go_wp2_with fail
      clear hag hsn l1
      generalize hV : wr.alloc (.cells (penC p).toArray 241) = V
      have hbV : Below wr.heap.size wr V := by subst hV; exact (Below.refl _ _).alloc (Nat.le_refl _) _
      have hnew : V.heap[wr.heap.size]? = some (.cells (penC p).toArray 241 (0, 0)) := by subst hV; exact heap_alloc_new wr _
      have HDV := hideK (hd.out.below hbV)
      have HKV := hideK (hk.out.after hbV)
      have d0 := HDV.out.c0
      have b0 : V.cell? ⟨wr.heap.size, 0, none⟩ = some (.int .i64 ((p.1 : Nat) : Int)) := cellOf hnew rfl
      have l2 : cellsAt V.drew wr.heap.size 1 32 = some (cellsB p.2) := range_cellsAt _ _ _ _ _ (cells32 HPP.out) (fun q v hv => by
        refine cellOf (w := V) hnew ?_
        rw [show 1 + q = q + 1 by omega, penC, List.getElem?_cons_succ]
        exact hv)
      have so : StoreOk V.drew 32 (.pointer (some ⟨E, p.1 * 32, none⟩)) (.agg (cellsB p.2).toArray) := ⟨_, _, _, rfl, rfl, cells32 HPP.out, cellsB_one _, HDV.out.drew.thereE p.1 hpn⟩
      have q0 : (0 : Int) ≤ (p.1 : Int) := by omega
      have q1 : (p.1 : Int) < (s.n : Int) := by omega
      clear hV hnew hbV
      go_region_law (fail)
      all_goals
        go_wp2
        go_roundw
        case rel =>
          refine ⟨j + 1, by omega, by go_num, ?_, ?_⟩
          · have := HDV.out.drew.stored p.1 p.2 hpn HPP.out
            show DAt _ _ _ _ _ _
            rw [HLJ.out]
            exact this
          · exact HKV.out.drew.setCells (.inl (.inr (.inl rfl))) _ _
        case measure => simp [intOf]; omega
    · obtain rfl : j = s.pend.length := by omega
      have d1 := hd.out.c1
      have d3 := hd.out.c3
      have df := hd.out.free
      have HX := hideK (hd.out.clear.setSyncs (s.syncs + 1))
      have HKX := hideK ((hk.out.setCell (p := ⟨D, 1, none⟩) (.inl (.inl rfl)) (.slice none 0 0)).setCell (p := ⟨D, 3, none⟩) (.inl (.inl rfl)) (.int .i64 (s.syncs + 1)))
      go_wp2
      go_ret
      exact ⟨rfl, HX.out, HKX.out⟩
end Go.Proofs.YtgaoeoijdpdjiabGreatDoor

namespace Go.Proofs.YtgaoeoijdpdjiabGreatDoor
open Go.RowKit

def whole32 (s : ByteArray) : ByteArray := textOf (outs 4 (soak32 (padRow s ((s.size / 16 + 1) * 16)) (s.size / 16 + 1)) 16)
def whole64 (s : ByteArray) : ByteArray := textOf (outs 8 (soak64 (padRow s ((s.size / 32 + 1) * 32)) (s.size / 32 + 1)) 32)
theorem whole32_size (s : ByteArray) : (whole32 s).size = 16 := by unfold whole32; rw [textOf_size, outs_length]
theorem whole64_size (s : ByteArray) : (whole64 s).size = 32 := by unfold whole64; rw [textOf_size, outs_length]
theorem whole32_at (s : ByteArray) (w : World) (hs : s.size ≤ 400) (hT : Turns32 w) (hw : 1 < w.heap.size) :
    Calls Tryz.prog 245 #[.string s] w fun e w' => e = .returned (.string (whole32 s)) ∧ Below w.heap.size w w' := whole_32 s w hs hT hw
theorem whole64_at (s : ByteArray) (w : World) (hs : s.size ≤ 400) (hT : Turns64 w) (hw : 1 < w.heap.size) :
    Calls Tryz.prog 246 #[.string s] w fun e w' => e = .returned (.string (whole64 s)) ∧ Below w.heap.size w w' := whole_64 s w hs hT hw

theorem of_arg (kind n : Int) (s : ByteArray) (w : World) (h : ¬ ((kind = 1 ∨ kind = 2) ∧ 1 ≤ n ∧ n ≤ 16)) :
    Calls Tryz.prog 169 #[.int .i64 kind, .int .i64 n, .string s] w fun e w' => e = .returned (.tuple #[.string ⟨#[]⟩, .int .i64 2]) ∧ w' = w := by
  by_cases h1 : kind = 1
  · subst h1
    by_cases h2 : n < 1
    · go_enter Tryz.func169, Tryz.ntmps169
      go_wp2
      go_ret2
      exact ⟨rfl, rfl⟩
    · have h3 : 16 < n := by omega
      go_enter Tryz.func169, Tryz.ntmps169
      go_wp2
      go_ret2
      exact ⟨rfl, rfl⟩
  · by_cases h1' : kind = 2
    · subst h1'
      by_cases h2 : n < 1
      · go_enter Tryz.func169, Tryz.ntmps169
        go_wp2
        go_ret2
        exact ⟨rfl, rfl⟩
      · have h3 : 16 < n := by omega
        go_enter Tryz.func169, Tryz.ntmps169
        go_wp2
        go_ret2
        exact ⟨rfl, rfl⟩
    · go_enter Tryz.func169, Tryz.ntmps169
      go_wp2
      go_ret2
      exact ⟨rfl, rfl⟩

theorem of_long (kind n : Int) (s : ByteArray) (w : World) (h1 : kind = 1 ∨ kind = 2) (h2 : 1 ≤ n) (h3 : n ≤ 16) (hs : 400 < s.size) :
    Calls Tryz.prog 169 #[.int .i64 kind, .int .i64 n, .string s] w fun e w' => e = .returned (.tuple #[.string ⟨#[]⟩, .int .i64 3]) ∧ w' = w := by
  rcases h1 with rfl | rfl
  · go_enter Tryz.func169, Tryz.ntmps169
    go_wp2
    go_ret2
    exact ⟨rfl, rfl⟩
  · go_enter Tryz.func169, Tryz.ntmps169
    go_wp2
    go_ret2
    exact ⟨rfl, rfl⟩

theorem of_32 (n : Nat) (s : ByteArray) (w : World) (h2 : 1 ≤ n) (h3 : n ≤ 16) (hs : s.size ≤ 400) (hT : Turns32 w) (hw : 1 < w.heap.size) :
    Calls Tryz.prog 169 #[.int .i64 1, .int .i64 (n : Int), .string s] w fun e w' => e = .returned (.tuple #[.string ((whole32 s).extract 0 n), .int .i64 0]) ∧ Below w.heap.size w w' := by
  have HW := hide (whole32_at s w hs hT hw)
  have hz := whole32_size s
  clear hT
  go_enter Tryz.func169, Tryz.ntmps169
  go_wp2_with fail
  refine HW.out.mono ?_
  rintro e w1 ⟨rfl, hb⟩
  go_wp2
  go_ret2
  exact ⟨rfl, hb⟩
theorem of_64 (n : Nat) (s : ByteArray) (w : World) (h2 : 1 ≤ n) (h3 : n ≤ 16) (hs : s.size ≤ 400) (hT : Turns64 w) (hw : 1 < w.heap.size) :
    Calls Tryz.prog 169 #[.int .i64 2, .int .i64 (n : Int), .string s] w fun e w' => e = .returned (.tuple #[.string ((whole64 s).extract 0 n), .int .i64 0]) ∧ Below w.heap.size w w' := by
  have HW := hide (whole64_at s w hs hT hw)
  have hz := whole64_size s
  clear hT
  go_enter Tryz.func169, Tryz.ntmps169
  go_wp2_with fail
  refine HW.out.mono ?_
  rintro e w1 ⟨rfl, hb⟩
  go_wp2
  go_ret2
  exact ⟨rfl, hb⟩

/-- What signet.Digest answers. -/
def digAns (kind n : Int) (s : ByteArray) : ByteArray × Int :=
  if (kind = 1 ∨ kind = 2) ∧ 1 ≤ n ∧ n ≤ 16 then (if s.size ≤ 400 then (if kind = 1 then ((whole32 s).extract 0 n.toNat, 0) else ((whole64 s).extract 0 n.toNat, 0)) else (⟨#[]⟩, 3)) else (⟨#[]⟩, 2)

theorem of_ans (kind n : Int) (s : ByteArray) (w : World) (h3 : Turns32 w) (h6 : Turns64 w) (hw : 1 < w.heap.size) :
    Calls Tryz.prog 169 #[.int .i64 kind, .int .i64 n, .string s] w fun e w' => e = .returned (.tuple #[.string (digAns kind n s).1, .int .i64 (digAns kind n s).2]) ∧ Below w.heap.size w w' := by
  by_cases h : (kind = 1 ∨ kind = 2) ∧ 1 ≤ n ∧ n ≤ 16
  · obtain ⟨hk, h1, h2⟩ := h
    by_cases hs : s.size ≤ 400
    · obtain ⟨m, rfl⟩ : ∃ m : Nat, n = (m : Int) := ⟨n.toNat, by omega⟩
      rcases hk with rfl | rfl
      · refine (of_32 m s w (by omega) (by omega) hs h3 hw).mono ?_
        rintro e w' ⟨rfl, hb⟩
        exact ⟨by simp [digAns, h1, h2, hs], hb⟩
      · refine (of_64 m s w (by omega) (by omega) hs h6 hw).mono ?_
        rintro e w' ⟨rfl, hb⟩
        exact ⟨by simp [digAns, h1, h2, hs], hb⟩
    · refine (of_long kind n s w hk h1 h2 (by omega)).mono ?_
      rintro e w' ⟨rfl, rfl⟩
      exact ⟨by simp [digAns, hk, h1, h2, hs], Below.refl _ _⟩
  · refine (of_arg kind n s w h).mono ?_
    rintro e w' ⟨rfl, rfl⟩
    exact ⟨by rw [digAns, if_neg h], Below.refl _ _⟩

theorem digest_ans (kind n : Int) (s : ByteArray) (w : World) (h3 : Turns32 w) (h6 : Turns64 w) (hw : 1 < w.heap.size) :
    Calls Tryz.prog 97 #[.int .i64 kind, .int .i64 n, .string s] w fun e w' => e = .returned (.tuple #[.string (digAns kind n s).1, .int .i64 (digAns kind n s).2]) ∧ Below w.heap.size w w' := by
  have HO := hide (of_ans kind n s w h3 h6 hw)
  clear h3 h6
  go_enter Tryz.func97, Tryz.ntmps97
  go_wp2_with fail
  refine HO.out.mono ?_
  rintro e w1 ⟨rfl, hb⟩
  go_wp2
  go_ret2
  exact ⟨rfl, hb⟩
end Go.Proofs.YtgaoeoijdpdjiabGreatDoor
