/-
  A signer begins, where nothing fails. Reserve and Sign where the reservation fails; a message that is too long; no Seq left. A signer that is over; Reserve and Sign that refuse.
-/
import Derived.Test.YtgaoeoijdpdjiabGreatDoorPart3
import Derived.Test.YtgaoeoijdpdjiabGreatDoorPart25
import Derived.Test.YtgaoeoijdpdjiabGreatDoorPart15
namespace Go.Proofs.YtgaoeoijdpdjiabGreatDoor
open Go.RowKit

/-- What the steps leave: what was found out, the disk; all else is as it was. -/
def OPL (lo O D : Nat) (st : DSt) (vs : List Value) (F : Nat → Prop) (w w' : World) : Prop := Blk w' O vs 246 ∧ ∃ F', DSk lo D st w' F' ∧ Kept (fun k => k = O ∨ F k) w w' ∧ ∀ k, F' k → F k ∨ w.heap.size ≤ k

theorem Kept.blk {F : Nat → Prop} {w w' : World} (k : Kept F w w') {g : Nat} {vs : List Value} {T : TypeId} (h : Blk w g vs T) (hn : ¬ F g) : Blk w' g vs T := by
  unfold Blk at h ⊢
  rw [k.block g (Blk.lt h) hn]; exact h

set_option maxRecDepth 20000 in
set_option maxHeartbeats 8000000 in
theorem begun_yes (lo D : Nat) (st s2 : DSt) (F : Nat → Prop) (k b x t l : Int) (root pub sec rnd id di : ByteArray) (tot bat q bd z0 z1 z2 z4 z5 : Int) (sv fv : Value) (w : World) (hD : DSk lo D st w F) (hn : 2 ≤ st.n) (hT : Tn w) (hTB : 1 < lo) (hlo : lo ≤ w.heap.size) (hb1 : 1 ≤ bat) (hb2 : bat ≤ 64) (ht0 : 0 ≤ st.term) (ht1 : st.term < 9223372036854775807) (htm : s2.term = st.term + 1)
    (hM : ∀ V : World, Calls Tryz.prog 155 #[.agg #[.int .i64 k, .int .i64 b, .int .i64 x, .int .i64 t, .int .i64 l]] V fun e w' => e = .returned (.tuple #[.agg #[.int .i64 z0, .int .i64 z1, .int .i64 z2, .int .i64 tot, .int .i64 z4, .int .i64 z5], .int .i64 0]) ∧ Below V.heap.size V w')
    (hOf : ∀ V : World, Tn V → Calls Tryz.prog 178 #[.agg #[.int .i64 k, .int .i64 b, .int .i64 x, .int .i64 t, .int .i64 l], .agg #[.string sec, .string rnd, .string pub]] V fun e w' => e = .returned (.tuple #[.agg #[.int .i64 k, .int .i64 b, .int .i64 x, .int .i64 t, .int .i64 l, .string root, .string pub], .int .i64 0]) ∧ Below V.heap.size V w')
    (hId : ∀ V : World, Tn V → Calls Tryz.prog 179 #[.agg #[.int .i64 k, .int .i64 b, .int .i64 x, .int .i64 t, .int .i64 l, .string root, .string pub]] V fun e w' => e = .returned (.string id) ∧ Below V.heap.size V w')
    (hDone : ∀ (V : World) (O : Nat) (F1 : Nat → Prop), DSk lo D { st with term := st.term + 1 } V F1 → Kept F w V → (∀ k, F1 k → F k ∨ w.heap.size ≤ k) → w.heap.size ≤ O → ¬ F1 O → Blk V O (opC D id tot (.slice none 0 0) 0 0 ⟨#[]⟩) 246 → Calls Tryz.prog 180 #[.pointer (some ⟨O, 0, none⟩), sv] V fun e w' => e = .returned (.int .i64 0) ∧ OPL lo O D s2 (opC D id tot fv q bd di) F1 V w') :
    Calls Tryz.prog 106 #[.pointer (some ⟨D, 0, none⟩), .agg #[.int .i64 k, .int .i64 b, .int .i64 x, .int .i64 t, .int .i64 l], .agg #[.string sec, .string rnd, .string pub], .int .i64 bat, sv] w fun e w' => ∃ S F', e = .returned (.tuple #[.pointer (some ⟨S, 0, none⟩), .int .i64 0]) ∧ Blk w' S (sgC D (st.term + 1) k b x t l root pub sec rnd tot bat bd q bd di false) 188 ∧ DSk lo D s2 w' F' ∧ ¬ F' S ∧ w.heap.size ≤ S ∧ Kept F w w' ∧ ∀ k, F' k → F k ∨ w.heap.size ≤ k := by
  have hFlo : ∀ i, F i → lo ≤ i ∧ i < w.heap.size := hD.lt
  obtain ⟨W0, hW⟩ : ∃ W0, (w.alloc (.cells #[.int .i64 k, .int .i64 b, .int .i64 x, .int .i64 t, .int .i64 l] 26)).alloc (.cells #[.string sec, .string rnd, .string pub] 42) = W0 := ⟨_, rfl⟩
  have HB0 := hide (show Below w.heap.size w W0 by subst hW; exact ((Below.refl _ _).alloc (Nat.le_refl _) _).alloc (by simp) _)
  have HC := hide (show Blk W0 w.heap.size [.int .i64 k, .int .i64 b, .int .i64 x, .int .i64 t, .int .i64 l] 26 by rw [← hW]; exact (Blk.new w _ _).alloc _)
  have HE := hide (show Blk W0 (w.heap.size + 1) [.string sec, .string rnd, .string pub] 42 by
    rw [← hW]
    have h := Blk.new (w.alloc (.cells #[.int .i64 k, .int .i64 b, .int .i64 x, .int .i64 t, .int .i64 l] 26)) [.string sec, .string rnd, .string pub] 42
    simp only [World.size_alloc] at h
    exact h)
  have HM := hide hM
  have HOF := hide hOf
  have HID := hide hId
  have HDN := hide hDone
  have HBT := hide (fun V : World => batch_yes bat V hb1 hb2)
  obtain ⟨sa, hsa⟩ := hD.sectors
  have HSC := hide (fun (V : World) (h : Below w.heap.size w V) => sectors_on D sa st.n st.n V ((h.cell (p := ⟨D, 0, none⟩) hD.ltD).trans hsa))
  have hnn : (2 : Int) ≤ (st.n : Int) := by omega
  have HP := hide (And.intro hD (And.intro hT (And.intro hTB (And.intro hlo (And.intro ht0 (And.intro ht1 (And.intro htm hFlo)))))))
  have HWE := hide hW
  clear hW hM hOf hId hDone hb1 hb2 hsa hD hT hTB hlo ht0 ht1 htm hFlo hn
  go_enter Tryz.func106, Tryz.ntmps106
  go_wp2_with fail
  rw [HWE.out]
  refine (HM.out _).mono ?_
  rintro e w1 ⟨rfl, hb1⟩
  obtain ⟨W1, hW1⟩ : ∃ W1, w1.alloc (.cells #[.int .i64 z0, .int .i64 z1, .int .i64 z2, .int .i64 tot, .int .i64 z4, .int .i64 z5] 158) = W1 := ⟨_, rfl⟩
  have HB1 := hide (show Below W0.heap.size W0 W1 by rw [← hW1]; exact hb1.alloc hb1.size _)
  have HZ := hide (show Blk W1 w1.heap.size [.int .i64 z0, .int .i64 z1, .int .i64 z2, .int .i64 tot, .int .i64 z4, .int .i64 z5] 158 by rw [← hW1]; exact Blk.new w1 _ _)
  have HW1 := hide hW1
  have hZw := HB0.out.size
  have hZw1 := hb1.size
  obtain ⟨Z, hZ⟩ : ∃ Z, w1.heap.size = Z := ⟨_, rfl⟩
  rw [hZ] at HZ hZw1
  have HZE := hide hZ
  have HZW := hide (Nat.le_trans hZw hZw1)
  clear hb1 hW1 hZ hZw hZw1
  go_wp2_with fail
  rw [HW1.out]
  refine (HSC.out _ (HB0.out.trans (HB1.out.mono HB0.out.size))).mono ?_
  rintro e w2 ⟨rfl, hb2⟩
  have HB2 := hide hb2
  clear hb2
  go_wp2_with fail
  refine (HBT.out _).mono ?_
  rintro e w3 ⟨rfl, hb3⟩
  have HB3 := hide (heldB HB2.out hb3 (Nat.le_refl _))
  clear hb3
  have HB03 := hide (HB1.out.trans (HB3.out.mono HB1.out.size))
  have HC3 := hide (HC.out.on HB03.out)
  have HE3 := hide (HE.out.on HB03.out)
  have c0 : w3.cell? ⟨w.heap.size, 0, none⟩ = some (.int .i64 k) := HC3.out.cell 0
  have c1 : w3.cell? ⟨w.heap.size, 1, none⟩ = some (.int .i64 b) := HC3.out.cell 1
  have c2 : w3.cell? ⟨w.heap.size, 2, none⟩ = some (.int .i64 x) := HC3.out.cell 2
  have c3 : w3.cell? ⟨w.heap.size, 3, none⟩ = some (.int .i64 t) := HC3.out.cell 3
  have c4 : w3.cell? ⟨w.heap.size, 4, none⟩ = some (.int .i64 l) := HC3.out.cell 4
  have d0 : w3.cell? ⟨w.heap.size + 1, 0, none⟩ = some (.string sec) := HE3.out.cell 0
  have d1 : w3.cell? ⟨w.heap.size + 1, 1, none⟩ = some (.string rnd) := HE3.out.cell 1
  have d2 : w3.cell? ⟨w.heap.size + 1, 2, none⟩ = some (.string pub) := HE3.out.cell 2
  have HBw3 := hide (HB0.out.trans (HB03.out.mono HB0.out.size))
  have HT3 := hide (HP.out.2.1.on HBw3.out)
  go_wp2_with fail
  refine (HOF.out _ HT3.out).mono ?_
  rintro e w4 ⟨rfl, hb4⟩
  clear c0 c1 c2 c3 c4 d0 d1 d2
  obtain ⟨W4, hW4⟩ : ∃ W4, w4.alloc (.cells #[.int .i64 k, .int .i64 b, .int .i64 x, .int .i64 t, .int .i64 l, .string root, .string pub] 184) = W4 := ⟨_, rfl⟩
  have HB4 := hide (show Below w3.heap.size w3 W4 by rw [← hW4]; exact hb4.alloc hb4.size _)
  have HKK := hide (show Blk W4 w4.heap.size [.int .i64 k, .int .i64 b, .int .i64 x, .int .i64 t, .int .i64 l, .string root, .string pub] 184 by rw [← hW4]; exact Blk.new w4 _ _)
  obtain ⟨KB, hKB⟩ : ∃ KB, w4.heap.size = KB := ⟨_, rfl⟩
  have HKBW := hide (show w.heap.size ≤ KB by rw [← hKB]; exact Nat.le_trans HBw3.out.size hb4.size)
  rw [hKB] at HKK
  have HW4 := hide hW4
  have HKE := hide hKB
  clear hb4 hW4 hKB
  have HBw4 := hide (HBw3.out.trans (HB4.out.mono HBw3.out.size))
  have HE4 := hide (HE3.out.on HB4.out)
  have HZ4 := hide ((HZ.out.on HB3.out).on HB4.out)
  have HD4 := hide (HP.out.1.below HBw4.out)
  have HNT := hide (dterm_any lo D st F W4 HD4.out HP.out.2.2.2.2.1 HP.out.2.2.2.2.2.1)
  go_wp2_with fail
  rw [HW4.out]
  refine HNT.out.mono ?_
  rintro e w5 ⟨rfl, hl5⟩
  have hnF : ∀ g, w.heap.size ≤ g → ¬ F g := fun g hg h => by have := (HP.out.2.2.2.2.2.2.2 g h).2; omega
  have HE5 := hide (hl5.blk HE4.out (hnF _ (by omega)))
  have HZ5 := hide (hl5.blk HZ4.out (hnF _ HZW.out))
  have HK5 := hide (hl5.blk HKK.out (hnF _ HKBW.out))
  have HL5 := hide (hl5.of_below HBw4.out (fun i hi => (HP.out.2.2.2.2.2.2.2 i hi).2))
  have HNF := hide hnF
  have HL5W := hide hl5
  have HSZ := hide (And.intro HE4.out.lt (And.intro HZ4.out.lt HKK.out.lt))
  clear hl5 hnF
  have HBL5 := hide (show Below lo w w5 by
    obtain ⟨F1, _, k1, _⟩ := HL5.out
    exact k1.below (fun i hi => (HP.out.2.2.2.2.2.2.2 i hi).1) HP.out.2.2.2.1)
  have HT5 := hide (show Tn w5.drew from (HP.out.2.1.below HBL5.out HP.out.2.2.1).on (Below.refl _ w5).drew)
  have HS := hide (fun (V : World) (h : Below w5.heap.size w5 V) => (by
    have q1 := HK5.out.on h
    have q2 := HZ5.out.on h
    exact ⟨q1.cell 0, q1.cell 1, q1.cell 2, q1.cell 3, q1.cell 4, q1.cell 5, q1.cell 6, q2.cell 3⟩ : V.cell? ⟨KB, 0, none⟩ = some (.int .i64 k) ∧ V.cell? ⟨KB, 1, none⟩ = some (.int .i64 b) ∧ V.cell? ⟨KB, 2, none⟩ = some (.int .i64 x) ∧ V.cell? ⟨KB, 3, none⟩ = some (.int .i64 t) ∧ V.cell? ⟨KB, 4, none⟩ = some (.int .i64 l) ∧ V.cell? ⟨KB, 5, none⟩ = some (.string root) ∧ V.cell? ⟨KB, 6, none⟩ = some (.string pub) ∧ V.cell? ⟨Z, 3, none⟩ = some (.int .i64 tot)))
  go_wp2_with fail
  try rw [HKE.out]
  try rw [HZE.out]
  refine wp_region_held_drew (S := fun V => V.cell? ⟨KB, 0, none⟩ = some (.int .i64 k) ∧ V.cell? ⟨KB, 1, none⟩ = some (.int .i64 b) ∧ V.cell? ⟨KB, 2, none⟩ = some (.int .i64 x) ∧ V.cell? ⟨KB, 3, none⟩ = some (.int .i64 t) ∧ V.cell? ⟨KB, 4, none⟩ = some (.int .i64 l) ∧ V.cell? ⟨KB, 5, none⟩ = some (.string root) ∧ V.cell? ⟨KB, 6, none⟩ = some (.string pub) ∧ V.cell? ⟨Z, 3, none⟩ = some (.int .i64 tot)) (by kernel_rfl) (HS.out _ ((Below.refl w5.heap.size w5).drew)) (fun hHeld => ?_)
  refine tk 0 hHeld (h := ?_)
  refine tk 1 hHeld (h := ?_)
  refine tk 3 hHeld (h := ?_)
  refine tk 4 hHeld (h := ?_)
  refine wpAnyH_ready (rs := [2]) (by kernel_rfl) (by simp) ?_
  refine AllReadyH.cons (o := ?oa2) ?hoa2 (fun K hK => ?hsa2) AllReadyH.nil
  case hoa2 => (simp only [List.getElem?_toArray, List.getElem?_cons_succ, List.getElem?_cons_zero]; rfl)
  go_simp
  go_at_call 179
  refine (HID.out _ HT5.out).mono ?_
  rintro e w6 ⟨rfl, hb6⟩
  have HB6 := hide (heldB (Below.refl w5.heap.size w5).drew hb6 (Nat.le_refl _))
  clear hb6
  try go_wp2_with fail
  refine hK.out _ _ (HS.out _ (HB6.out)) (fun hHeld => ?_)
  clear hK K
  try simp only [Act.put, List.setIfInBounds_toArray, List.set_cons_zero, List.set_cons_succ]
  refine tk 5 hHeld (h := ?_)
  refine wpAnyH_ready (rs := [6]) (by kernel_rfl) (by simp) ?_
  refine AllReadyH.cons (o := ?oa6) ?hoa6 (fun K hK => ?hsa6) AllReadyH.nil
  case hoa6 => (simp only [List.getElem?_toArray, List.getElem?_cons_succ, List.getElem?_cons_zero]; rfl)
  go_simp
  refine hK.out _ _ (HS.out _ (HB6.out.alloc HB6.out.size _)) (fun hHeld => ?_)
  clear hK K
  try simp only [Act.put, List.setIfInBounds_toArray, List.set_cons_zero, List.set_cons_succ]
  refine tk 7 hHeld (h := ?_)
  refine wpAnyH_done (by kernel_rfl) ?_ _
  have HOB := hide (Blk.new w6 (opC D id tot (.slice none 0 0) 0 0 ⟨#[]⟩) 246)
  have HB7 := hide (HB6.out.alloc HB6.out.size (.cells (opC D id tot (.slice none 0 0) 0 0 ⟨#[]⟩).toArray 246))
  have HOW := hide (Nat.le_trans HBL5.out.size HB6.out.size)
  have HO5 := hide HB6.out.size
  simp only [opC] at HOB HB7
  clear hHeld
  generalize w6.alloc (.cells (List.toArray [.pointer (some ⟨D, 0, none⟩), .string id, .int .i64 tot, .slice none 0 0, .int .i64 0, .int .i64 0, .string ⟨#[]⟩]) 246) = W7 at HOB HB7 ⊢
  obtain ⟨O, hO⟩ : ∃ O, w6.heap.size = O := ⟨_, rfl⟩
  rw [hO] at HOB HOW HO5 ⊢
  clear hO
  obtain ⟨F1, HD1, HK1, HF1, HF4, HNO⟩ : ∃ F1, Hid (DSk lo D { st with term := st.term + 1 } W7 F1) ∧ Hid (Kept F w W7) ∧ Hid (∀ k, F1 k → F k ∨ w.heap.size ≤ k) ∧ Hid (∀ k, F1 k → F k ∨ W4.heap.size ≤ k) ∧ Hid (¬ F1 O) := by
    obtain ⟨F1, a, b, c⟩ := HL5W.out
    refine ⟨F1, a.below HB7.out, ((Kept.of_below (F := F) HBw4.out).trans b (fun i hi => .inl hi)).after HB7.out, fun k hk => ?_, c, fun h => by have := (a.lt O h).2; have := HO5.out; omega⟩
    rcases c k hk with h | h
    · exact .inl h
    · exact .inr (Nat.le_trans HBw4.out.size h)
  have HDC := hide (HDN.out W7 O F1 HD1.out HK1.out HF1.out HOW.out HNO.out HOB.out)
  have HE7 := hide (HE5.out.on HB7.out)
  have HZ7 := hide (HZ5.out.on HB7.out)
  have HK7 := hide (HK5.out.on HB7.out)
  have HW45 := hide (show W4.heap.size ≤ w5.heap.size by obtain ⟨_, _, b, _⟩ := HL5W.out; exact b.size)
  go_wp2_with fail
  refine HDC.out.mono ?_
  rintro e w8 ⟨rfl, hop1, F2, hd2, hk2, hf2⟩
  have hng : ∀ g, w.heap.size ≤ g → g < W4.heap.size → ¬ (g = O ∨ F1 g) := by
    intro g g1 g2 h
    rcases h with rfl | h
    · have := HO5.out; have := HW45.out; omega
    · rcases HF4.out g h with h | h
      · exact HNF.out g g1 h
      · omega
  have HE8 := hide (hk2.blk HE7.out (hng _ (by omega) HSZ.out.1))
  have HZ8 := hide (hk2.blk HZ7.out (hng _ HZW.out HSZ.out.2.1))
  have HK8 := hide (hk2.blk HK7.out (hng _ HKBW.out HSZ.out.2.2))
  have HO8 := hide hop1
  have HD8 := hide hd2
  have HX8 := hide (And.intro hk2 hf2)
  have HTM := hide (term_on D (st.term + 1) w8.drew (by rw [← HP.out.2.2.2.2.2.2.1]; exact hd2.term))
  clear hng hop1 hd2 hk2 hf2
  have HS14 := hide (fun (V : World) (h : Below w8.heap.size w8 V) => (by
    have q1 := HK8.out.on h
    have q2 := HZ8.out.on h
    have q3 := HE8.out.on h
    have q4 := HO8.out.on h
    exact ⟨q1.cell 0, q1.cell 1, q1.cell 2, q1.cell 3, q1.cell 4, q1.cell 5, q1.cell 6, q2.cell 3, q3.cell 0, q3.cell 1, q3.cell 2, q4.cell 4, q4.cell 5, q4.cell 6⟩ : V.cell? ⟨KB, 0, none⟩ = some (.int .i64 k) ∧ V.cell? ⟨KB, 1, none⟩ = some (.int .i64 b) ∧ V.cell? ⟨KB, 2, none⟩ = some (.int .i64 x) ∧ V.cell? ⟨KB, 3, none⟩ = some (.int .i64 t) ∧ V.cell? ⟨KB, 4, none⟩ = some (.int .i64 l) ∧ V.cell? ⟨KB, 5, none⟩ = some (.string root) ∧ V.cell? ⟨KB, 6, none⟩ = some (.string pub) ∧ V.cell? ⟨Z, 3, none⟩ = some (.int .i64 tot) ∧ V.cell? ⟨w.heap.size + 1, 0, none⟩ = some (.string sec) ∧ V.cell? ⟨w.heap.size + 1, 1, none⟩ = some (.string rnd) ∧ V.cell? ⟨w.heap.size + 1, 2, none⟩ = some (.string pub) ∧ V.cell? ⟨O, 4, none⟩ = some (.int .i64 q) ∧ V.cell? ⟨O, 5, none⟩ = some (.int .i64 bd) ∧ V.cell? ⟨O, 6, none⟩ = some (.string di)))
  go_wp2_with fail
  refine wp_region_held_drew (S := fun V => V.cell? ⟨KB, 0, none⟩ = some (.int .i64 k) ∧ V.cell? ⟨KB, 1, none⟩ = some (.int .i64 b) ∧ V.cell? ⟨KB, 2, none⟩ = some (.int .i64 x) ∧ V.cell? ⟨KB, 3, none⟩ = some (.int .i64 t) ∧ V.cell? ⟨KB, 4, none⟩ = some (.int .i64 l) ∧ V.cell? ⟨KB, 5, none⟩ = some (.string root) ∧ V.cell? ⟨KB, 6, none⟩ = some (.string pub) ∧ V.cell? ⟨Z, 3, none⟩ = some (.int .i64 tot) ∧ V.cell? ⟨w.heap.size + 1, 0, none⟩ = some (.string sec) ∧ V.cell? ⟨w.heap.size + 1, 1, none⟩ = some (.string rnd) ∧ V.cell? ⟨w.heap.size + 1, 2, none⟩ = some (.string pub) ∧ V.cell? ⟨O, 4, none⟩ = some (.int .i64 q) ∧ V.cell? ⟨O, 5, none⟩ = some (.int .i64 bd) ∧ V.cell? ⟨O, 6, none⟩ = some (.string di)) (by kernel_rfl) (HS14.out _ ((Below.refl w8.heap.size w8).drew)) (fun hHeld => ?_)
  refine tk 0 hHeld (h := ?_)
  refine tk 1 hHeld (h := ?_)
  refine tk 3 hHeld (h := ?_)
  refine tk 4 hHeld (h := ?_)
  refine tk 5 hHeld (h := ?_)
  refine tk 6 hHeld (h := ?_)
  refine tk 7 hHeld (h := ?_)
  refine tk 8 hHeld (h := ?_)
  refine tk 9 hHeld (h := ?_)
  refine tk 10 hHeld (h := ?_)
  refine tk 11 hHeld (h := ?_)
  refine tk 12 hHeld (h := ?_)
  refine tk 13 hHeld (h := ?_)
  refine tk 14 hHeld (h := ?_)
  refine tk 15 hHeld (h := ?_)
  refine tk 16 hHeld (h := ?_)
  refine wpAnyH_ready (rs := [2]) (by kernel_rfl) (by simp) ?_
  refine AllReadyH.cons (o := ?og2) ?hog2 (fun K hK => ?hsg2) AllReadyH.nil
  case hog2 => (simp only [List.getElem?_toArray, List.getElem?_cons_succ, List.getElem?_cons_zero]; rfl)
  go_simp
  go_at_call 181
  refine HTM.out.mono ?_
  rintro e w9 ⟨rfl, hb9⟩
  have HB9 := hide (heldB (Below.refl w8.heap.size w8).drew hb9 (Nat.le_refl _))
  clear hb9
  try go_wp2_with fail
  refine hK.out _ _ (HS14.out _ (HB9.out)) (fun hHeld => ?_)
  clear hK K
  try simp only [Act.put, List.setIfInBounds_toArray, List.set_cons_zero, List.set_cons_succ]
  refine tk 17 hHeld (h := ?_)
  refine wpAnyH_ready (rs := [18]) (by kernel_rfl) (by simp) ?_
  refine AllReadyH.cons (o := ?og18) ?hog18 (fun K hK => ?hsg18) AllReadyH.nil
  case hog18 => (simp only [List.getElem?_toArray, List.getElem?_cons_succ, List.getElem?_cons_zero]; rfl)
  go_simp
  refine hK.out _ _ (HS14.out _ (HB9.out.alloc HB9.out.size _)) (fun hHeld => ?_)
  clear hK K
  try simp only [Act.put, List.setIfInBounds_toArray, List.set_cons_zero, List.set_cons_succ]
  refine tk 19 hHeld (h := ?_)
  refine tk 20 hHeld (h := ?_)
  refine wpAnyH_done (by kernel_rfl) ?_ _
  have HSB := hide (Blk.new w9 (sgC D (st.term + 1) k b x t l root pub sec rnd tot bat bd q bd di false) 188)
  have HB10 := hide (HB9.out.alloc HB9.out.size (.cells (sgC D (st.term + 1) k b x t l root pub sec rnd tot bat bd q bd di false).toArray 188))
  have HSS := hide HB9.out.size
  simp only [sgC] at HSB HB10
  clear hHeld
  go_wp2
  go_ret2
  have z7 := HK1.out.size
  have z8 := HX8.out.1.size
  have zs := HSS.out
  refine ⟨w9.heap.size, F2, rfl, HSB.out, HD8.out.below HB10.out, fun h => by have := (HD8.out.lt _ h).2; omega, by omega, ?_, fun i hi => ?_⟩
  · refine (HK1.out.trans HX8.out.1 (fun i hi => ?_)).after HB10.out
    rcases hi with rfl | hi
    · exact .inr HOW.out
    · exact HF1.out i hi
  · rcases HX8.out.2 i hi with h | h
    · exact HF1.out i h
    · exact .inr (by omega)
end Go.Proofs.YtgaoeoijdpdjiabGreatDoor

namespace Go.Proofs.YtgaoeoijdpdjiabGreatDoor
open Go.RowKit

set_option maxRecDepth 20000 in
set_option maxHeartbeats 4000000 in
theorem sreserve_fail (lo S D : Nat) (st : DSt) (F : Nat → Prop) (tm k b x t l : Int) (root pub sec rnd : ByteArray) (tot bat nx q bd : Int) (id : ByteArray) (m c : Int) (s2 : DSt) (hc : c ≠ 0) (w : World) (hB : Blk w S (sgC D tm k b x t l root pub sec rnd tot bat nx q bd id false) 188) (hD : DSk lo D st w F) (_hSF : ¬ F S) (htm : st.term = tm) (h1 : 1 ≤ m) (h2 : m ≤ 64) (hsp : bd ≠ tot) (hq : q ≠ 2147483647)
    (hRS : ∀ V : World, Below w.heap.size w V → Calls Tryz.prog 116 #[.pointer (some ⟨S, 0, none⟩), .int .i64 m] V fun e w' => e = .returned (.int .i64 c) ∧ SGL lo S D s2 (sgC D tm k b x t l root pub sec rnd tot bat nx q bd id true) F V w') :
    Calls Tryz.prog 72 #[.pointer (some ⟨S, 0, none⟩), .int .i64 m] w fun e w' => e = .returned (.tuple #[.int .i64 0, .int .i64 c]) ∧ SGL lo S D s2 (sgC D tm k b x t l root pub sec rnd tot bat nx q bd id true) F w w' := by
  have hSl := hB.lt
  have HOV := hide (isOver_no S D tm w hSl hD.ltD (hB.cell 0) (hB.cell 1) (hB.cell 18) (by rw [← htm]; exact hD.term))
  have HBA := hide (fun V : World => batch_yes m V h1 h2)
  have e1 : (bd == tot) = false := by simpa using hsp
  have e2 : (q == 2147483647) = false := by simpa using hq
  have HRS := hide hRS
  have e8 : (c == 0) = false := by simpa using hc
  have e9 : (c != 0) = true := by simpa using hc
  have HS := hide (fun (V : World) (h : Below w.heap.size w V) => (by
    have q1 := hB.on h
    exact ⟨q1.cell 12, q1.cell 15, q1.cell 16⟩ : V.cell? ⟨S, 12, none⟩ = some (.int .i64 tot) ∧ V.cell? ⟨S, 15, none⟩ = some (.int .i64 q) ∧ V.cell? ⟨S, 16, none⟩ = some (.int .i64 bd)))
  clear hB hD _hSF htm h1 h2 hsp hq hRS hc
  go_enter Tryz.func72, Tryz.ntmps72
  go_wp2_with fail
  refine HOV.out.mono ?_
  rintro e w1 ⟨rfl, hb1⟩
  have HB1 := hide hb1
  clear hb1
  go_wp2_with fail
  refine (HBA.out _).mono ?_
  rintro e w2 ⟨rfl, hb2⟩
  have HB2 := hide (heldB HB1.out hb2 (Nat.le_refl _))
  clear hb2
  go_wp2_with fail
  refine wp_region_held_drew (S := fun V => V.cell? ⟨S, 12, none⟩ = some (.int .i64 tot) ∧ V.cell? ⟨S, 15, none⟩ = some (.int .i64 q) ∧ V.cell? ⟨S, 16, none⟩ = some (.int .i64 bd)) (by kernel_rfl) (HS.out _ (HB2.out.drew)) (fun hHeld => ?_)
  refine tk 0 hHeld (h := ?_)
  refine tk 1 hHeld (h := ?_)
  refine tk 2 hHeld (h := ?_)
  refine tk 3 hHeld (h := ?_)
  refine tk 4 hHeld (h := ?_)
  refine tk 5 hHeld (h := ?_)
  refine tk 6 hHeld (h := ?_)
  refine tk 7 hHeld (h := ?_)
  refine tk 8 hHeld (h := ?_)
  refine tk 9 hHeld (h := ?_)
  refine tk 10 hHeld (h := ?_)
  refine tk 11 hHeld (h := ?_)
  refine tk 12 hHeld (h := ?_)
  refine tk 13 hHeld (h := ?_)
  refine tk 14 hHeld (h := ?_)
  refine tk 15 hHeld (h := ?_)
  refine tk 16 hHeld (h := ?_)
  refine tk 17 hHeld (h := ?_)
  refine wpAnyH_done (by kernel_rfl) ?_ _
  have HB3 := hide HB2.out.drew
  go_wp2_with fail
  refine (HRS.out _ HB3.out).mono ?_
  rintro e w4 ⟨rfl, hl⟩
  have HL := hide (hl.of_below HB3.out)
  clear hl
  go_wp2
  go_ret2
  exact ⟨rfl, HL.out⟩

set_option maxRecDepth 20000 in
set_option maxHeartbeats 8000000 in
theorem ssign_fail (lo S D : Nat) (st : DSt) (F : Nat → Prop) (tm k b x t l : Int) (root pub sec rnd : ByteArray) (tot bat nx q bd : Int) (id : ByteArray) (msg : ByteArray) (c : Int) (s2 : DSt) (hc : c ≠ 0) (w : World) (hB : Blk w S (sgC D tm k b x t l root pub sec rnd tot bat nx q bd id false) 188) (hD : DSk lo D st w F) (_hSF : ¬ F S) (htm : st.term = tm) (hsp : nx ≠ tot) (hnb : nx = bd) (hq : q ≠ 2147483647) (hm : msg.size ≤ 200)
    (hRS : ∀ V : World, Below w.heap.size w V → Calls Tryz.prog 116 #[.pointer (some ⟨S, 0, none⟩), .int .i64 bat] V fun e w' => e = .returned (.int .i64 c) ∧ SGL lo S D s2 (sgC D tm k b x t l root pub sec rnd tot bat nx q bd id true) F V w') :
    Calls Tryz.prog 99 #[.pointer (some ⟨S, 0, none⟩), .string msg] w fun e w' => e = .returned (.tuple #[.string ⟨#[]⟩, .int .i64 c]) ∧ SGL lo S D s2 (sgC D tm k b x t l root pub sec rnd tot bat nx q bd id true) F w w' := by
  have hSl := hB.lt
  have HOV := hide (isOver_no S D tm w hSl hD.ltD (hB.cell 0) (hB.cell 1) (hB.cell 18) (by rw [← htm]; exact hD.term))
  have e1 : (nx == tot) = false := by simpa using hsp
  have e2 : (nx == bd) = true := by simpa using hnb
  have e3 : (q == 2147483647) = false := by simpa using hq
  have hm2 : (msg.size : Int) ≤ 200 := by omega
  have HS := hide (fun (V : World) (h : Below w.heap.size w V) => (by
    have q1 := hB.on h
    exact ⟨q1.cell 12, q1.cell 14, q1.cell 15, q1.cell 16⟩ : V.cell? ⟨S, 12, none⟩ = some (.int .i64 tot) ∧ V.cell? ⟨S, 14, none⟩ = some (.int .i64 nx) ∧ V.cell? ⟨S, 15, none⟩ = some (.int .i64 q) ∧ V.cell? ⟨S, 16, none⟩ = some (.int .i64 bd)))
  have HRS := hide hRS
  have e8 : (c == 0) = false := by simpa using hc
  have e9 : (c != 0) = true := by simpa using hc
  have HBK := hide hB
  clear hB hD _hSF htm hm hsp hnb hSl hRS hq hc
  go_enter Tryz.func99, Tryz.ntmps99
  go_wp2_with fail
  refine HOV.out.mono ?_
  rintro e w1 ⟨rfl, hb1⟩
  have HB1 := hide hb1
  clear hb1
  go_wp2_with fail
  refine wp_region_held_drew (S := fun V => V.cell? ⟨S, 12, none⟩ = some (.int .i64 tot) ∧ V.cell? ⟨S, 14, none⟩ = some (.int .i64 nx) ∧ V.cell? ⟨S, 15, none⟩ = some (.int .i64 q) ∧ V.cell? ⟨S, 16, none⟩ = some (.int .i64 bd)) (by kernel_rfl) (HS.out _ (HB1.out.drew)) (fun hHeld => ?_)
  refine tk 0 hHeld (h := ?_)
  refine tk 1 hHeld (h := ?_)
  refine tk 2 hHeld (h := ?_)
  refine tk 3 hHeld (h := ?_)
  refine tk 4 hHeld (h := ?_)
  refine tk 5 hHeld (h := ?_)
  refine tk 6 hHeld (h := ?_)
  refine tk 7 hHeld (h := ?_)
  refine tk 8 hHeld (h := ?_)
  refine tk 9 hHeld (h := ?_)
  refine tk 10 hHeld (h := ?_)
  refine wpAnyH_done (by kernel_rfl) ?_ _
  go_wp2_with fail
  refine wp_region_held_drew (S := fun V => V.cell? ⟨S, 12, none⟩ = some (.int .i64 tot) ∧ V.cell? ⟨S, 14, none⟩ = some (.int .i64 nx) ∧ V.cell? ⟨S, 15, none⟩ = some (.int .i64 q) ∧ V.cell? ⟨S, 16, none⟩ = some (.int .i64 bd)) (by kernel_rfl) (HS.out _ (HB1.out.drew.drew)) (fun hHeld => ?_)
  refine tk 0 hHeld (h := ?_)
  refine tk 1 hHeld (h := ?_)
  refine tk 2 hHeld (h := ?_)
  refine tk 3 hHeld (h := ?_)
  refine tk 4 hHeld (h := ?_)
  refine tk 5 hHeld (h := ?_)
  refine tk 6 hHeld (h := ?_)
  refine tk 7 hHeld (h := ?_)
  refine tk 8 hHeld (h := ?_)
  refine tk 9 hHeld (h := ?_)
  refine tk 10 hHeld (h := ?_)
  refine tk 11 hHeld (h := ?_)
  refine tk 12 hHeld (h := ?_)
  refine tk 13 hHeld (h := ?_)
  refine tk 14 hHeld (h := ?_)
  refine tk 15 hHeld (h := ?_)
  refine tk 16 hHeld (h := ?_)
  refine tk 17 hHeld (h := ?_)
  refine tk 18 hHeld (h := ?_)
  refine tk 19 hHeld (h := ?_)
  refine wpAnyH_done (by kernel_rfl) ?_ _
  have HB2 := hide HB1.out.drew.drew
  have c13 : w1.drew.drew.cell? ⟨S, 13, none⟩ = some (.int .i64 bat) := (HBK.out.on HB2.out).cell 13
  clear HS HB1
  generalize w1.drew.drew = w2 at HB2 c13 ⊢
  go_wp2_with fail
  refine (HRS.out _ HB2.out).mono ?_
  rintro e w4 ⟨rfl, hl⟩
  have HL1 := hide (hl.of_below HB2.out)
  clear hl c13
  go_wp2
  go_ret2
  exact ⟨rfl, HL1.out⟩
end Go.Proofs.YtgaoeoijdpdjiabGreatDoor

namespace Go.Proofs.YtgaoeoijdpdjiabGreatDoor
open Go.RowKit

set_option maxRecDepth 20000 in
set_option maxHeartbeats 2000000 in
theorem isOver_yes (S D : Nat) (tm tm2 : Int) (ov : Bool) (w : World) (hS : S < w.heap.size) (hD : D < w.heap.size) (h0 : w.cell? ⟨S, 0, none⟩ = some (.pointer (some ⟨D, 0, none⟩))) (h1 : w.cell? ⟨S, 1, none⟩ = some (.int .i64 tm)) (h18 : w.cell? ⟨S, 18, none⟩ = some (.bool ov)) (h5 : w.cell? ⟨D, 5, none⟩ = some (.int .i64 tm2)) (ho : ov = true ∨ tm ≠ tm2) :
    Calls Tryz.prog 114 #[.pointer (some ⟨S, 0, none⟩)] w fun e w' => e = .returned (.bool true) ∧ Below w.heap.size w w' := by
  have HT := hide (fun (V : World) (hb : Below w.heap.size w V) => term_on D tm2 V ((hb.cell (p := ⟨D, 5, none⟩) hD).trans h5))
  clear h5 hD
  cases ov
  · have e1 : (tm != tm2) = true := by simpa using ho
    clear ho
    have HS := hide (fun (V : World) (hb : Below w.heap.size w V) => (⟨(hb.cell (p := ⟨S, 0, none⟩) hS).trans h0, (hb.cell (p := ⟨S, 1, none⟩) hS).trans h1, (hb.cell (p := ⟨S, 18, none⟩) hS).trans h18⟩ : V.cell? ⟨S, 0, none⟩ = some (.pointer (some ⟨D, 0, none⟩)) ∧ V.cell? ⟨S, 1, none⟩ = some (.int .i64 tm) ∧ V.cell? ⟨S, 18, none⟩ = some (.bool false)))
    clear h0 h1 h18 hS
    go_enter Tryz.func114, Tryz.ntmps114
    go_wp2_with fail
    refine wp_region_held_drew (S := fun V => V.cell? ⟨S, 0, none⟩ = some (.pointer (some ⟨D, 0, none⟩)) ∧ V.cell? ⟨S, 1, none⟩ = some (.int .i64 tm) ∧ V.cell? ⟨S, 18, none⟩ = some (.bool false)) (by kernel_rfl) (HS.out _ ((Below.refl w.heap.size w).drew)) (fun hHeld => ?_)
    refine tk 0 hHeld (h := ?_)
    refine tk 1 hHeld (h := ?_)
    refine tk 2 hHeld (h := ?_)
    refine tk 3 hHeld (h := ?_)
    refine tk 4 hHeld (h := ?_)
    refine tk 5 hHeld (h := ?_)
    refine tk 6 hHeld (h := ?_)
    refine tk 7 hHeld (h := ?_)
    refine tk 8 hHeld (h := ?_)
    refine tk 9 hHeld (h := ?_)
    refine tk 10 hHeld (h := ?_)
    refine tk 11 hHeld (h := ?_)
    refine tk 12 hHeld (h := ?_)
    refine wpAnyH_ready (rs := [13]) (by kernel_rfl) (by simp) ?_
    refine AllReadyH.cons (o := ?ob13) ?hob13 (fun K hK => ?hsb13) AllReadyH.nil
    case hob13 => (simp only [List.getElem?_toArray, List.getElem?_cons_succ, List.getElem?_cons_zero]; rfl)
    go_simp
    go_at_call 181
    refine (HT.out _ (Below.refl w.heap.size w).drew).mono ?_
    rintro e w1 ⟨rfl, hb1⟩
    have HB1 := hide (heldB (Below.refl w.heap.size w).drew hb1 (Nat.le_refl _))
    clear hb1
    try go_wp2_with fail
    refine hK.out _ _ (HS.out _ (HB1.out)) (fun hHeld => ?_)
    clear hK K
    try simp only [Act.put, List.setIfInBounds_toArray, List.set_cons_zero, List.set_cons_succ]
    refine tk 14 hHeld (h := ?_)
    refine tk 15 hHeld (h := ?_)
    refine tk 16 hHeld (h := ?_)
    refine wpAnyH_done (by kernel_rfl) ?_ _
    clear hHeld
    go_wp2
    go_ret
    exact ⟨rfl, HB1.out⟩
  · clear ho
    have HS := hide (fun (V : World) (hb : Below w.heap.size w V) => (⟨(hb.cell (p := ⟨S, 0, none⟩) hS).trans h0, (hb.cell (p := ⟨S, 1, none⟩) hS).trans h1, (hb.cell (p := ⟨S, 18, none⟩) hS).trans h18⟩ : V.cell? ⟨S, 0, none⟩ = some (.pointer (some ⟨D, 0, none⟩)) ∧ V.cell? ⟨S, 1, none⟩ = some (.int .i64 tm) ∧ V.cell? ⟨S, 18, none⟩ = some (.bool true)))
    clear h0 h1 h18 hS
    go_enter Tryz.func114, Tryz.ntmps114
    go_wp2_with fail
    refine wp_region_held_drew (S := fun V => V.cell? ⟨S, 0, none⟩ = some (.pointer (some ⟨D, 0, none⟩)) ∧ V.cell? ⟨S, 1, none⟩ = some (.int .i64 tm) ∧ V.cell? ⟨S, 18, none⟩ = some (.bool true)) (by kernel_rfl) (HS.out _ ((Below.refl w.heap.size w).drew)) (fun hHeld => ?_)
    refine tk 0 hHeld (h := ?_)
    refine tk 1 hHeld (h := ?_)
    refine tk 2 hHeld (h := ?_)
    refine tk 3 hHeld (h := ?_)
    refine tk 4 hHeld (h := ?_)
    refine sk 5 hHeld (h := ?_)
    refine sk 6 hHeld (h := ?_)
    refine sk 7 hHeld (h := ?_)
    refine sk 8 hHeld (h := ?_)
    refine sk 9 hHeld (h := ?_)
    refine sk 10 hHeld (h := ?_)
    refine sk 11 hHeld (h := ?_)
    refine sk 12 hHeld (h := ?_)
    refine sk 13 hHeld (h := ?_)
    refine sk 14 hHeld (h := ?_)
    refine tk 15 hHeld (h := ?_)
    refine tk 16 hHeld (h := ?_)
    refine wpAnyH_done (by kernel_rfl) ?_ _
    clear hHeld
    go_wp2
    go_ret
    exact ⟨rfl, (Below.refl w.heap.size w).drew⟩

set_option maxRecDepth 20000 in
theorem sreserve_over (S D : Nat) (tm2 : Int) (tm k b x t l : Int) (root pub sec rnd : ByteArray) (tot bat nx q bd : Int) (id : ByteArray) (ov : Bool) (m : Int) (w : World) (hB : Blk w S (sgC D tm k b x t l root pub sec rnd tot bat nx q bd id ov) 188) (hD : D < w.heap.size) (h5 : w.cell? ⟨D, 5, none⟩ = some (.int .i64 tm2)) (ho : ov = true ∨ tm ≠ tm2) :
    Calls Tryz.prog 72 #[.pointer (some ⟨S, 0, none⟩), .int .i64 m] w fun e w' => e = .returned (.tuple #[.int .i64 0, .int .i64 9]) ∧ Below w.heap.size w w' := by
  have HOV := hide (isOver_yes S D tm tm2 ov w hB.lt hD (hB.cell 0) (hB.cell 1) (hB.cell 18) h5 ho)
  clear hB hD h5 ho
  go_enter Tryz.func72, Tryz.ntmps72
  go_wp2_with fail
  refine HOV.out.mono ?_
  rintro e w1 ⟨rfl, hb1⟩
  have HB1 := hide hb1
  clear hb1
  go_wp2
  go_ret2
  exact ⟨rfl, HB1.out⟩

set_option maxRecDepth 20000 in
theorem ssign_over (S D : Nat) (tm2 : Int) (tm k b x t l : Int) (root pub sec rnd : ByteArray) (tot bat nx q bd : Int) (id : ByteArray) (ov : Bool) (msg : ByteArray) (w : World) (hB : Blk w S (sgC D tm k b x t l root pub sec rnd tot bat nx q bd id ov) 188) (hD : D < w.heap.size) (h5 : w.cell? ⟨D, 5, none⟩ = some (.int .i64 tm2)) (ho : ov = true ∨ tm ≠ tm2) :
    Calls Tryz.prog 99 #[.pointer (some ⟨S, 0, none⟩), .string msg] w fun e w' => e = .returned (.tuple #[.string ⟨#[]⟩, .int .i64 9]) ∧ Below w.heap.size w w' := by
  have HOV := hide (isOver_yes S D tm tm2 ov w hB.lt hD (hB.cell 0) (hB.cell 1) (hB.cell 18) h5 ho)
  clear hB hD h5 ho
  go_enter Tryz.func99, Tryz.ntmps99
  go_wp2_with fail
  refine HOV.out.mono ?_
  rintro e w1 ⟨rfl, hb1⟩
  have HB1 := hide hb1
  clear hb1
  go_wp2
  go_ret2
  exact ⟨rfl, HB1.out⟩
end Go.Proofs.YtgaoeoijdpdjiabGreatDoor
