/-
  A signer begins, where nothing fails.
-/
import Derived.Test.YtgaoeoijdpdjiabGreatDoorPart38
import Derived.Test.YtgaoeoijdpdjiabGreatDoorPart26
namespace Go.Proofs.YtgaoeoijdpdjiabGreatDoor
open Go.RowKit

/-- What the steps leave: what was found out, the disk; all else is as it was. -/
def OPL (lo O D : Nat) (st : DSt) (vs : List Value) (F : Nat → Prop) (w w' : World) : Prop := Blk w' O vs 246 ∧ ∃ F', DSk lo D st w' F' ∧ Kept (fun k => k = O ∨ F k) w w' ∧ ∀ k, F' k → F k ∨ w.heap.size ≤ k

theorem Kept.blk {F : Nat → Prop} {w w' : World} (k : Kept F w w') {g : Nat} {vs : List Value} {T : TypeId} (h : Blk w g vs T) (hn : ¬ F g) : Blk w' g vs T := by
  unfold Blk at h ⊢
  rw [k.block g (Blk.lt h) hn]; exact h

set_option maxRecDepth 20000 in
set_option maxHeartbeats 8000000 in
theorem begun_yes (lo D : Nat) (st s2 : DSt) (F : Nat → Prop) (k b x t l : Int) (root pub sec rnd id di : ByteArray) (tot bat q bd z0 z1 z2 z4 z5 : Int) (sv fv : Value) (w : World) (hD : DSk lo D st w F) (hn : 2 ≤ st.n) (hT : Tn w) (hTB : 1 < lo) (hlo : lo ≤ w.heap.size) (hb1 : 1 ≤ bat) (hb2 : bat ≤ 64) (ht0 : 0 ≤ st.term) (ht1 : st.term < 9223372036854775807) (htm : s2.term = st.term + 1)
    (hM : ∀ V : World, Calls Tryz.prog 155 #[.agg #[.int .i64 k, .int .i64 b, .int .i64 x, .int .i64 t, .int .i64 l]] V fun e w' => e = .returned (.tuple #[.agg #[.int .i64 z0, .int .i64 z1, .int .i64 z2, .int .i64 tot, .int .i64 z4, .int .i64 z5], .int .i64 0]) ∧ Below V.heap.size V w')
    (hOf : ∀ V : World, Tn V → Calls Tryz.prog 178 #[.agg #[.int .i64 k, .int .i64 b, .int .i64 x, .int .i64 t, .int .i64 l], .agg #[.string sec, .string rnd, .string pub]] V fun e w' => e = .returned (.tuple #[.agg #[.int .i64 k, .int .i64 b, .int .i64 x, .int .i64 t, .int .i64 l, .string root, .string pub], .int .i64 0]) ∧ Below V.heap.size V w')
    (hId : ∀ V : World, Tn V → Calls Tryz.prog 179 #[.agg #[.int .i64 k, .int .i64 b, .int .i64 x, .int .i64 t, .int .i64 l, .string root, .string pub]] V fun e w' => e = .returned (.string id) ∧ Below V.heap.size V w')
    (hDone : ∀ (V : World) (O : Nat) (F1 : Nat → Prop), DSk lo D { st with term := st.term + 1 } V F1 → Kept F w V → (∀ k, F1 k → F k ∨ w.heap.size ≤ k) → w.heap.size ≤ O → ¬ F1 O → Blk V O (opC D id tot (.slice none 0 0) 0 0 ⟨#[]⟩) 246 → Calls Tryz.prog 180 #[.pointer (some ⟨O, 0, none⟩), sv] V fun e w' => e = .returned (.int .i64 0) ∧ OPL lo O D s2 (opC D id tot fv q bd di) F1 V w') :
    Calls Tryz.prog 106 #[.pointer (some ⟨D, 0, none⟩), .agg #[.int .i64 k, .int .i64 b, .int .i64 x, .int .i64 t, .int .i64 l], .agg #[.string sec, .string rnd, .string pub], .int .i64 bat, sv] w fun e w' => ∃ S F', e = .returned (.tuple #[.pointer (some ⟨S, 0, none⟩), .int .i64 0]) ∧ Blk w' S (sgC D (st.term + 1) k b x t l root pub sec rnd tot bat bd q bd di false) 188 ∧ DSk lo D s2 w' F' ∧ ¬ F' S ∧ w.heap.size ≤ S ∧ Kept F w w' ∧ ∀ k, F' k → F k ∨ w.heap.size ≤ k := by
  have hFlo : ∀ i, F i → lo ≤ i ∧ i < w.heap.size := hD.lt
  obtain ⟨W0, hW⟩ : ∃ W0, (w.alloc (.cells #[.int .i64 k, .int .i64 b, .int .i64 x, .int .i64 t, .int .i64 l] 26)).alloc (.cells #[.string sec, .string rnd, .string pub] 42) = W0 := ⟨_, rfl⟩
  have HB0 := hide (show Below w.heap.size w W0 by subst hW; exact ((Below.refl _ _).alloc (Nat.le_refl _) _).alloc (by simp) _)
  have HC := hide (show Blk W0 w.heap.size [.int .i64 k, .int .i64 b, .int .i64 x, .int .i64 t, .int .i64 l] 26 by rw [← hW]; exact (Blk.new w _ _).alloc _)
  have HE := hide (show Blk W0 (w.heap.size + 1) [.string sec, .string rnd, .string pub] 42 by
    rw [← hW]
    have h := Blk.new (w.alloc (.cells #[.int .i64 k, .int .i64 b, .int .i64 x, .int .i64 t, .int .i64 l] 26)) [.string sec, .string rnd, .string pub] 42
    simp only [World.size_alloc] at h
    exact h)
  have HM := hide hM
  have HOF := hide hOf
  have HID := hide hId
  have HDN := hide hDone
  have HBT := hide (fun V : World => batch_yes bat V hb1 hb2)
  obtain ⟨sa, hsa⟩ := hD.sectors
  have HSC := hide (fun (V : World) (h : Below w.heap.size w V) => sectors_on D sa st.n st.n V ((h.cell (p := ⟨D, 0, none⟩) hD.ltD).trans hsa))
  have hnn : (2 : Int) ≤ (st.n : Int) := by omega
  have HP := hide (And.intro hD (And.intro hT (And.intro hTB (And.intro hlo (And.intro ht0 (And.intro ht1 (And.intro htm hFlo)))))))
  have HWE := hide hW
  clear hW hM hOf hId hDone hb1 hb2 hsa hD hT hTB hlo ht0 ht1 htm hFlo hn
  go_enter Tryz.func106, Tryz.ntmps106
  go_wp2_with fail
  rw [HWE.out]
  refine (HM.out _).mono ?_
  rintro e w1 ⟨rfl, hb1⟩
  obtain ⟨W1, hW1⟩ : ∃ W1, w1.alloc (.cells #[.int .i64 z0, .int .i64 z1, .int .i64 z2, .int .i64 tot, .int .i64 z4, .int .i64 z5] 158) = W1 := ⟨_, rfl⟩
  have HB1 := hide (show Below W0.heap.size W0 W1 by rw [← hW1]; exact hb1.alloc hb1.size _)
  have HZ := hide (show Blk W1 w1.heap.size [.int .i64 z0, .int .i64 z1, .int .i64 z2, .int .i64 tot, .int .i64 z4, .int .i64 z5] 158 by rw [← hW1]; exact Blk.new w1 _ _)
  have HW1 := hide hW1
  have hZw := HB0.out.size
  have hZw1 := hb1.size
  obtain ⟨Z, hZ⟩ : ∃ Z, w1.heap.size = Z := ⟨_, rfl⟩
  rw [hZ] at HZ hZw1
  have HZE := hide hZ
  have HZW := hide (Nat.le_trans hZw hZw1)
  clear hb1 hW1 hZ hZw hZw1
  go_wp2_with fail
  rw [HW1.out]
  refine (HSC.out _ (HB0.out.trans (HB1.out.mono HB0.out.size))).mono ?_
  rintro e w2 ⟨rfl, hb2⟩
  have HB2 := hide hb2
  clear hb2
  go_wp2_with fail
  refine (HBT.out _).mono ?_
  rintro e w3 ⟨rfl, hb3⟩
  have HB3 := hide (heldB HB2.out hb3 (Nat.le_refl _))
  clear hb3
  have HB03 := hide (HB1.out.trans (HB3.out.mono HB1.out.size))
  have HC3 := hide (HC.out.on HB03.out)
  have HE3 := hide (HE.out.on HB03.out)
  have c0 : w3.cell? ⟨w.heap.size, 0, none⟩ = some (.int .i64 k) := HC3.out.cell 0
  have c1 : w3.cell? ⟨w.heap.size, 1, none⟩ = some (.int .i64 b) := HC3.out.cell 1
  have c2 : w3.cell? ⟨w.heap.size, 2, none⟩ = some (.int .i64 x) := HC3.out.cell 2
  have c3 : w3.cell? ⟨w.heap.size, 3, none⟩ = some (.int .i64 t) := HC3.out.cell 3
  have c4 : w3.cell? ⟨w.heap.size, 4, none⟩ = some (.int .i64 l) := HC3.out.cell 4
  have d0 : w3.cell? ⟨w.heap.size + 1, 0, none⟩ = some (.string sec) := HE3.out.cell 0
  have d1 : w3.cell? ⟨w.heap.size + 1, 1, none⟩ = some (.string rnd) := HE3.out.cell 1
  have d2 : w3.cell? ⟨w.heap.size + 1, 2, none⟩ = some (.string pub) := HE3.out.cell 2
  have HBw3 := hide (HB0.out.trans (HB03.out.mono HB0.out.size))
  have HT3 := hide (HP.out.2.1.on HBw3.out)
  go_wp2_with fail
  refine (HOF.out _ HT3.out).mono ?_
  rintro e w4 ⟨rfl, hb4⟩
  clear c0 c1 c2 c3 c4 d0 d1 d2
  obtain ⟨W4, hW4⟩ : ∃ W4, w4.alloc (.cells #[.int .i64 k, .int .i64 b, .int .i64 x, .int .i64 t, .int .i64 l, .string root, .string pub] 184) = W4 := ⟨_, rfl⟩
  have HB4 := hide (show Below w3.heap.size w3 W4 by rw [← hW4]; exact hb4.alloc hb4.size _)
  have HKK := hide (show Blk W4 w4.heap.size [.int .i64 k, .int .i64 b, .int .i64 x, .int .i64 t, .int .i64 l, .string root, .string pub] 184 by rw [← hW4]; exact Blk.new w4 _ _)
  obtain ⟨KB, hKB⟩ : ∃ KB, w4.heap.size = KB := ⟨_, rfl⟩
  have HKBW := hide (show w.heap.size ≤ KB by rw [← hKB]; exact Nat.le_trans HBw3.out.size hb4.size)
  rw [hKB] at HKK
  have HW4 := hide hW4
  have HKE := hide hKB
  clear hb4 hW4 hKB
  have HBw4 := hide (HBw3.out.trans (HB4.out.mono HBw3.out.size))
  have HE4 := hide (HE3.out.on HB4.out)
  have HZ4 := hide ((HZ.out.on HB3.out).on HB4.out)
  have HD4 := hide (HP.out.1.below HBw4.out)
  have HNT := hide (dterm_any lo D st F W4 HD4.out HP.out.2.2.2.2.1 HP.out.2.2.2.2.2.1)
  go_wp2_with fail
  rw [HW4.out]
  refine HNT.out.mono ?_
  rintro e w5 ⟨rfl, hl5⟩
  have hnF : ∀ g, w.heap.size ≤ g → ¬ F g := fun g hg h => by have := (HP.out.2.2.2.2.2.2.2 g h).2; omega
  have HE5 := hide (hl5.blk HE4.out (hnF _ (by omega)))
  have HZ5 := hide (hl5.blk HZ4.out (hnF _ HZW.out))
  have HK5 := hide (hl5.blk HKK.out (hnF _ HKBW.out))
  have HL5 := hide (hl5.of_below HBw4.out (fun i hi => (HP.out.2.2.2.2.2.2.2 i hi).2))
  have HNF := hide hnF
  have HL5W := hide hl5
  have HSZ := hide (And.intro HE4.out.lt (And.intro HZ4.out.lt HKK.out.lt))
  clear hl5 hnF
  have HBL5 := hide (show Below lo w w5 by
    obtain ⟨F1, _, k1, _⟩ := HL5.out
    exact k1.below (fun i hi => (HP.out.2.2.2.2.2.2.2 i hi).1) HP.out.2.2.2.1)
  have HT5 := hide (show Tn w5.drew from (HP.out.2.1.below HBL5.out HP.out.2.2.1).on (Below.refl _ w5).drew)
  have HS := hide (fun (V : World) (h : Below w5.heap.size w5 V) => (by
    have q1 := HK5.out.on h
    have q2 := HZ5.out.on h
    exact ⟨q1.cell 0, q1.cell 1, q1.cell 2, q1.cell 3, q1.cell 4, q1.cell 5, q1.cell 6, q2.cell 3⟩ : V.cell? ⟨KB, 0, none⟩ = some (.int .i64 k) ∧ V.cell? ⟨KB, 1, none⟩ = some (.int .i64 b) ∧ V.cell? ⟨KB, 2, none⟩ = some (.int .i64 x) ∧ V.cell? ⟨KB, 3, none⟩ = some (.int .i64 t) ∧ V.cell? ⟨KB, 4, none⟩ = some (.int .i64 l) ∧ V.cell? ⟨KB, 5, none⟩ = some (.string root) ∧ V.cell? ⟨KB, 6, none⟩ = some (.string pub) ∧ V.cell? ⟨Z, 3, none⟩ = some (.int .i64 tot)))
  go_wp2_with fail
  try rw [HKE.out]
  try rw [HZE.out]
  refine wp_region_held_drew (S := fun V => V.cell? ⟨KB, 0, none⟩ = some (.int .i64 k) ∧ V.cell? ⟨KB, 1, none⟩ = some (.int .i64 b) ∧ V.cell? ⟨KB, 2, none⟩ = some (.int .i64 x) ∧ V.cell? ⟨KB, 3, none⟩ = some (.int .i64 t) ∧ V.cell? ⟨KB, 4, none⟩ = some (.int .i64 l) ∧ V.cell? ⟨KB, 5, none⟩ = some (.string root) ∧ V.cell? ⟨KB, 6, none⟩ = some (.string pub) ∧ V.cell? ⟨Z, 3, none⟩ = some (.int .i64 tot)) (by kernel_rfl) (HS.out _ ((Below.refl w5.heap.size w5).drew)) (fun hHeld => ?_)
  refine wpAnyH_take (i := 0) (oi := ?oia0) (v := ?va0) ?hia0 (by kernel_rfl) (by kernel_rfl) (by kernel_rfl) ?hQa0 (Or.inl ⟨?h1a0, ?hya0⟩) hHeld ?resta0
  case hia0 => (simp only [List.getElem?_toArray, List.getElem?_cons_zero]; rfl)
  case hQa0 => exact fun _ _ _ h => h
  case h1a0 => rfl
  case hya0 => intro V hSV; (try dsimp only at hSV); go_simp; (try with_reducible rfl)
  try simp only [Act.put, List.setIfInBounds_toArray, List.set_cons_zero, List.set_cons_succ]
  refine wpAnyH_take (i := 1) (oi := ?oia1) (v := ?va1) ?hia1 (by kernel_rfl) (by kernel_rfl) (by kernel_rfl) ?hQa1 (Or.inl ⟨?h1a1, ?hya1⟩) hHeld ?resta1
  case hia1 => (simp only [List.getElem?_toArray, List.getElem?_cons_succ, List.getElem?_cons_zero]; rfl)
  case hQa1 => exact fun _ _ _ h => h
  case h1a1 => rfl
  case hya1 => intro V hSV; (try dsimp only at hSV); go_simp; (try with_reducible rfl)
  try simp only [Act.put, List.setIfInBounds_toArray, List.set_cons_zero, List.set_cons_succ]
  refine wpAnyH_take (i := 3) (oi := ?oia3) (v := ?va3) ?hia3 (by kernel_rfl) (by kernel_rfl) (by kernel_rfl) ?hQa3 (Or.inl ⟨?h1a3, ?hya3⟩) hHeld ?resta3
  case hia3 => (simp only [List.getElem?_toArray, List.getElem?_cons_succ, List.getElem?_cons_zero]; rfl)
  case hQa3 => exact fun _ _ _ h => h
  case h1a3 => rfl
  case hya3 => intro V hSV; (try dsimp only at hSV); go_simp; (try with_reducible rfl)
  try simp only [Act.put, List.setIfInBounds_toArray, List.set_cons_zero, List.set_cons_succ]
  refine wpAnyH_take (i := 4) (oi := ?oia4) (v := ?va4) ?hia4 (by kernel_rfl) (by kernel_rfl) (by kernel_rfl) ?hQa4 (Or.inl ⟨?h1a4, ?hya4⟩) hHeld ?resta4
  case hia4 => (simp only [List.getElem?_toArray, List.getElem?_cons_succ, List.getElem?_cons_zero]; rfl)
  case hQa4 => exact fun _ _ _ h => h
  case h1a4 => rfl
  case hya4 => intro V hSV; (try dsimp only at hSV); go_simp; (try with_reducible rfl)
  try simp only [Act.put, List.setIfInBounds_toArray, List.set_cons_zero, List.set_cons_succ]
  refine wpAnyH_ready (rs := [2]) (by kernel_rfl) (by simp) ?_
  refine AllReadyH.cons (o := ?oa2) ?hoa2 (fun K hK => ?hsa2) AllReadyH.nil
  case hoa2 => (simp only [List.getElem?_toArray, List.getElem?_cons_succ, List.getElem?_cons_zero]; rfl)
  go_simp
  go_at_call 179
  refine (HID.out _ HT5.out).mono ?_
  rintro e w6 ⟨rfl, hb6⟩
  have HB6 := hide (heldB (Below.refl w5.heap.size w5).drew hb6 (Nat.le_refl _))
  clear hb6
  try go_wp2_with fail
  refine hK.out _ _ (HS.out _ (HB6.out)) (fun hHeld => ?_)
  clear hK K
  try simp only [Act.put, List.setIfInBounds_toArray, List.set_cons_zero, List.set_cons_succ]
  refine wpAnyH_take (i := 5) (oi := ?oia5) (v := ?va5) ?hia5 (by kernel_rfl) (by kernel_rfl) (by kernel_rfl) ?hQa5 (Or.inl ⟨?h1a5, ?hya5⟩) hHeld ?resta5
  case hia5 => (simp only [List.getElem?_toArray, List.getElem?_cons_succ, List.getElem?_cons_zero]; rfl)
  case hQa5 => exact fun _ _ _ h => h
  case h1a5 => rfl
  case hya5 => intro V hSV; (try dsimp only at hSV); go_simp; (try with_reducible rfl)
  try simp only [Act.put, List.setIfInBounds_toArray, List.set_cons_zero, List.set_cons_succ]
  refine wpAnyH_ready (rs := [6]) (by kernel_rfl) (by simp) ?_
  refine AllReadyH.cons (o := ?oa6) ?hoa6 (fun K hK => ?hsa6) AllReadyH.nil
  case hoa6 => (simp only [List.getElem?_toArray, List.getElem?_cons_succ, List.getElem?_cons_zero]; rfl)
  go_simp
  refine hK.out _ _ (HS.out _ (HB6.out.alloc HB6.out.size _)) (fun hHeld => ?_)
  clear hK K
  try simp only [Act.put, List.setIfInBounds_toArray, List.set_cons_zero, List.set_cons_succ]
  refine wpAnyH_take (i := 7) (oi := ?oia7) (v := ?va7) ?hia7 (by kernel_rfl) (by kernel_rfl) (by kernel_rfl) ?hQa7 (Or.inl ⟨?h1a7, ?hya7⟩) hHeld ?resta7
  case hia7 => (simp only [List.getElem?_toArray, List.getElem?_cons_succ, List.getElem?_cons_zero]; rfl)
  case hQa7 => exact fun _ _ _ h => h
  case h1a7 => rfl
  case hya7 => intro V hSV; (try dsimp only at hSV); go_simp; (try with_reducible rfl)
  try simp only [Act.put, List.setIfInBounds_toArray, List.set_cons_zero, List.set_cons_succ]
  refine wpAnyH_done (by kernel_rfl) ?_ _
  have HOB := hide (Blk.new w6 (opC D id tot (.slice none 0 0) 0 0 ⟨#[]⟩) 246)
  have HB7 := hide (HB6.out.alloc HB6.out.size (.cells (opC D id tot (.slice none 0 0) 0 0 ⟨#[]⟩).toArray 246))
  have HOW := hide (Nat.le_trans HBL5.out.size HB6.out.size)
  have HO5 := hide HB6.out.size
  simp only [opC] at HOB HB7
  clear hHeld
  generalize w6.alloc (.cells (List.toArray [.pointer (some ⟨D, 0, none⟩), .string id, .int .i64 tot, .slice none 0 0, .int .i64 0, .int .i64 0, .string ⟨#[]⟩]) 246) = W7 at HOB HB7 ⊢
  obtain ⟨O, hO⟩ : ∃ O, w6.heap.size = O := ⟨_, rfl⟩
  rw [hO] at HOB HOW HO5 ⊢
  clear hO
  obtain ⟨F1, HD1, HK1, HF1, HF4, HNO⟩ : ∃ F1, Hid (DSk lo D { st with term := st.term + 1 } W7 F1) ∧ Hid (Kept F w W7) ∧ Hid (∀ k, F1 k → F k ∨ w.heap.size ≤ k) ∧ Hid (∀ k, F1 k → F k ∨ W4.heap.size ≤ k) ∧ Hid (¬ F1 O) := by
    obtain ⟨F1, a, b, c⟩ := HL5W.out
    refine ⟨F1, a.below HB7.out, ((Kept.of_below (F := F) HBw4.out).trans b (fun i hi => .inl hi)).after HB7.out, fun k hk => ?_, c, fun h => by have := (a.lt O h).2; have := HO5.out; omega⟩
    rcases c k hk with h | h
    · exact .inl h
    · exact .inr (Nat.le_trans HBw4.out.size h)
  have HDC := hide (HDN.out W7 O F1 HD1.out HK1.out HF1.out HOW.out HNO.out HOB.out)
  have HE7 := hide (HE5.out.on HB7.out)
  have HZ7 := hide (HZ5.out.on HB7.out)
  have HK7 := hide (HK5.out.on HB7.out)
  have HW45 := hide (show W4.heap.size ≤ w5.heap.size by obtain ⟨_, _, b, _⟩ := HL5W.out; exact b.size)
  go_wp2_with fail
  refine HDC.out.mono ?_
  rintro e w8 ⟨rfl, hop1, F2, hd2, hk2, hf2⟩
  have hng : ∀ g, w.heap.size ≤ g → g < W4.heap.size → ¬ (g = O ∨ F1 g) := by
    intro g g1 g2 h
    rcases h with rfl | h
    · have := HO5.out; have := HW45.out; omega
    · rcases HF4.out g h with h | h
      · exact HNF.out g g1 h
      · omega
  have HE8 := hide (hk2.blk HE7.out (hng _ (by omega) HSZ.out.1))
  have HZ8 := hide (hk2.blk HZ7.out (hng _ HZW.out HSZ.out.2.1))
  have HK8 := hide (hk2.blk HK7.out (hng _ HKBW.out HSZ.out.2.2))
  have HO8 := hide hop1
  have HD8 := hide hd2
  have HX8 := hide (And.intro hk2 hf2)
  have HTM := hide (term_on D (st.term + 1) w8.drew (by rw [← HP.out.2.2.2.2.2.2.1]; exact hd2.term))
  clear hng hop1 hd2 hk2 hf2
  have HS14 := hide (fun (V : World) (h : Below w8.heap.size w8 V) => (by
    have q1 := HK8.out.on h
    have q2 := HZ8.out.on h
    have q3 := HE8.out.on h
    have q4 := HO8.out.on h
    exact ⟨q1.cell 0, q1.cell 1, q1.cell 2, q1.cell 3, q1.cell 4, q1.cell 5, q1.cell 6, q2.cell 3, q3.cell 0, q3.cell 1, q3.cell 2, q4.cell 4, q4.cell 5, q4.cell 6⟩ : V.cell? ⟨KB, 0, none⟩ = some (.int .i64 k) ∧ V.cell? ⟨KB, 1, none⟩ = some (.int .i64 b) ∧ V.cell? ⟨KB, 2, none⟩ = some (.int .i64 x) ∧ V.cell? ⟨KB, 3, none⟩ = some (.int .i64 t) ∧ V.cell? ⟨KB, 4, none⟩ = some (.int .i64 l) ∧ V.cell? ⟨KB, 5, none⟩ = some (.string root) ∧ V.cell? ⟨KB, 6, none⟩ = some (.string pub) ∧ V.cell? ⟨Z, 3, none⟩ = some (.int .i64 tot) ∧ V.cell? ⟨w.heap.size + 1, 0, none⟩ = some (.string sec) ∧ V.cell? ⟨w.heap.size + 1, 1, none⟩ = some (.string rnd) ∧ V.cell? ⟨w.heap.size + 1, 2, none⟩ = some (.string pub) ∧ V.cell? ⟨O, 4, none⟩ = some (.int .i64 q) ∧ V.cell? ⟨O, 5, none⟩ = some (.int .i64 bd) ∧ V.cell? ⟨O, 6, none⟩ = some (.string di)))
  go_wp2_with fail
  refine wp_region_held_drew (S := fun V => V.cell? ⟨KB, 0, none⟩ = some (.int .i64 k) ∧ V.cell? ⟨KB, 1, none⟩ = some (.int .i64 b) ∧ V.cell? ⟨KB, 2, none⟩ = some (.int .i64 x) ∧ V.cell? ⟨KB, 3, none⟩ = some (.int .i64 t) ∧ V.cell? ⟨KB, 4, none⟩ = some (.int .i64 l) ∧ V.cell? ⟨KB, 5, none⟩ = some (.string root) ∧ V.cell? ⟨KB, 6, none⟩ = some (.string pub) ∧ V.cell? ⟨Z, 3, none⟩ = some (.int .i64 tot) ∧ V.cell? ⟨w.heap.size + 1, 0, none⟩ = some (.string sec) ∧ V.cell? ⟨w.heap.size + 1, 1, none⟩ = some (.string rnd) ∧ V.cell? ⟨w.heap.size + 1, 2, none⟩ = some (.string pub) ∧ V.cell? ⟨O, 4, none⟩ = some (.int .i64 q) ∧ V.cell? ⟨O, 5, none⟩ = some (.int .i64 bd) ∧ V.cell? ⟨O, 6, none⟩ = some (.string di)) (by kernel_rfl) (HS14.out _ ((Below.refl w8.heap.size w8).drew)) (fun hHeld => ?_)
  refine wpAnyH_take (i := 0) (oi := ?oig0) (v := ?vg0) ?hig0 (by kernel_rfl) (by kernel_rfl) (by kernel_rfl) ?hQg0 (Or.inl ⟨?h1g0, ?hyg0⟩) hHeld ?restg0
  case hig0 => (simp only [List.getElem?_toArray, List.getElem?_cons_zero]; rfl)
  case hQg0 => exact fun _ _ _ h => h
  case h1g0 => rfl
  case hyg0 => intro V hSV; (try dsimp only at hSV); go_simp; (try with_reducible rfl)
  try simp only [Act.put, List.setIfInBounds_toArray, List.set_cons_zero, List.set_cons_succ]
  refine wpAnyH_take (i := 1) (oi := ?oig1) (v := ?vg1) ?hig1 (by kernel_rfl) (by kernel_rfl) (by kernel_rfl) ?hQg1 (Or.inl ⟨?h1g1, ?hyg1⟩) hHeld ?restg1
  case hig1 => (simp only [List.getElem?_toArray, List.getElem?_cons_succ, List.getElem?_cons_zero]; rfl)
  case hQg1 => exact fun _ _ _ h => h
  case h1g1 => rfl
  case hyg1 => intro V hSV; (try dsimp only at hSV); go_simp; (try with_reducible rfl)
  try simp only [Act.put, List.setIfInBounds_toArray, List.set_cons_zero, List.set_cons_succ]
  refine wpAnyH_take (i := 3) (oi := ?oig3) (v := ?vg3) ?hig3 (by kernel_rfl) (by kernel_rfl) (by kernel_rfl) ?hQg3 (Or.inl ⟨?h1g3, ?hyg3⟩) hHeld ?restg3
  case hig3 => (simp only [List.getElem?_toArray, List.getElem?_cons_succ, List.getElem?_cons_zero]; rfl)
  case hQg3 => exact fun _ _ _ h => h
  case h1g3 => rfl
  case hyg3 => intro V hSV; (try dsimp only at hSV); go_simp; (try with_reducible rfl)
  try simp only [Act.put, List.setIfInBounds_toArray, List.set_cons_zero, List.set_cons_succ]
  refine wpAnyH_take (i := 4) (oi := ?oig4) (v := ?vg4) ?hig4 (by kernel_rfl) (by kernel_rfl) (by kernel_rfl) ?hQg4 (Or.inl ⟨?h1g4, ?hyg4⟩) hHeld ?restg4
  case hig4 => (simp only [List.getElem?_toArray, List.getElem?_cons_succ, List.getElem?_cons_zero]; rfl)
  case hQg4 => exact fun _ _ _ h => h
  case h1g4 => rfl
  case hyg4 => intro V hSV; (try dsimp only at hSV); go_simp; (try with_reducible rfl)
  try simp only [Act.put, List.setIfInBounds_toArray, List.set_cons_zero, List.set_cons_succ]
  refine wpAnyH_take (i := 5) (oi := ?oig5) (v := ?vg5) ?hig5 (by kernel_rfl) (by kernel_rfl) (by kernel_rfl) ?hQg5 (Or.inl ⟨?h1g5, ?hyg5⟩) hHeld ?restg5
  case hig5 => (simp only [List.getElem?_toArray, List.getElem?_cons_succ, List.getElem?_cons_zero]; rfl)
  case hQg5 => exact fun _ _ _ h => h
  case h1g5 => rfl
  case hyg5 => intro V hSV; (try dsimp only at hSV); go_simp; (try with_reducible rfl)
  try simp only [Act.put, List.setIfInBounds_toArray, List.set_cons_zero, List.set_cons_succ]
  refine wpAnyH_take (i := 6) (oi := ?oig6) (v := ?vg6) ?hig6 (by kernel_rfl) (by kernel_rfl) (by kernel_rfl) ?hQg6 (Or.inl ⟨?h1g6, ?hyg6⟩) hHeld ?restg6
  case hig6 => (simp only [List.getElem?_toArray, List.getElem?_cons_succ, List.getElem?_cons_zero]; rfl)
  case hQg6 => exact fun _ _ _ h => h
  case h1g6 => rfl
  case hyg6 => intro V hSV; (try dsimp only at hSV); go_simp; (try with_reducible rfl)
  try simp only [Act.put, List.setIfInBounds_toArray, List.set_cons_zero, List.set_cons_succ]
  refine wpAnyH_take (i := 7) (oi := ?oig7) (v := ?vg7) ?hig7 (by kernel_rfl) (by kernel_rfl) (by kernel_rfl) ?hQg7 (Or.inl ⟨?h1g7, ?hyg7⟩) hHeld ?restg7
  case hig7 => (simp only [List.getElem?_toArray, List.getElem?_cons_succ, List.getElem?_cons_zero]; rfl)
  case hQg7 => exact fun _ _ _ h => h
  case h1g7 => rfl
  case hyg7 => intro V hSV; (try dsimp only at hSV); go_simp; (try with_reducible rfl)
  try simp only [Act.put, List.setIfInBounds_toArray, List.set_cons_zero, List.set_cons_succ]
  refine wpAnyH_take (i := 8) (oi := ?oig8) (v := ?vg8) ?hig8 (by kernel_rfl) (by kernel_rfl) (by kernel_rfl) ?hQg8 (Or.inl ⟨?h1g8, ?hyg8⟩) hHeld ?restg8
  case hig8 => (simp only [List.getElem?_toArray, List.getElem?_cons_succ, List.getElem?_cons_zero]; rfl)
  case hQg8 => exact fun _ _ _ h => h
  case h1g8 => rfl
  case hyg8 => intro V hSV; (try dsimp only at hSV); go_simp; (try with_reducible rfl)
  try simp only [Act.put, List.setIfInBounds_toArray, List.set_cons_zero, List.set_cons_succ]
  refine wpAnyH_take (i := 9) (oi := ?oig9) (v := ?vg9) ?hig9 (by kernel_rfl) (by kernel_rfl) (by kernel_rfl) ?hQg9 (Or.inl ⟨?h1g9, ?hyg9⟩) hHeld ?restg9
  case hig9 => (simp only [List.getElem?_toArray, List.getElem?_cons_succ, List.getElem?_cons_zero]; rfl)
  case hQg9 => exact fun _ _ _ h => h
  case h1g9 => rfl
  case hyg9 => intro V hSV; (try dsimp only at hSV); go_simp; (try with_reducible rfl)
  try simp only [Act.put, List.setIfInBounds_toArray, List.set_cons_zero, List.set_cons_succ]
  refine wpAnyH_take (i := 10) (oi := ?oig10) (v := ?vg10) ?hig10 (by kernel_rfl) (by kernel_rfl) (by kernel_rfl) ?hQg10 (Or.inl ⟨?h1g10, ?hyg10⟩) hHeld ?restg10
  case hig10 => (simp only [List.getElem?_toArray, List.getElem?_cons_succ, List.getElem?_cons_zero]; rfl)
  case hQg10 => exact fun _ _ _ h => h
  case h1g10 => rfl
  case hyg10 => intro V hSV; (try dsimp only at hSV); go_simp; (try with_reducible rfl)
  try simp only [Act.put, List.setIfInBounds_toArray, List.set_cons_zero, List.set_cons_succ]
  refine wpAnyH_take (i := 11) (oi := ?oig11) (v := ?vg11) ?hig11 (by kernel_rfl) (by kernel_rfl) (by kernel_rfl) ?hQg11 (Or.inl ⟨?h1g11, ?hyg11⟩) hHeld ?restg11
  case hig11 => (simp only [List.getElem?_toArray, List.getElem?_cons_succ, List.getElem?_cons_zero]; rfl)
  case hQg11 => exact fun _ _ _ h => h
  case h1g11 => rfl
  case hyg11 => intro V hSV; (try dsimp only at hSV); go_simp; (try with_reducible rfl)
  try simp only [Act.put, List.setIfInBounds_toArray, List.set_cons_zero, List.set_cons_succ]
  refine wpAnyH_take (i := 12) (oi := ?oig12) (v := ?vg12) ?hig12 (by kernel_rfl) (by kernel_rfl) (by kernel_rfl) ?hQg12 (Or.inl ⟨?h1g12, ?hyg12⟩) hHeld ?restg12
  case hig12 => (simp only [List.getElem?_toArray, List.getElem?_cons_succ, List.getElem?_cons_zero]; rfl)
  case hQg12 => exact fun _ _ _ h => h
  case h1g12 => rfl
  case hyg12 => intro V hSV; (try dsimp only at hSV); go_simp; (try with_reducible rfl)
  try simp only [Act.put, List.setIfInBounds_toArray, List.set_cons_zero, List.set_cons_succ]
  refine wpAnyH_take (i := 13) (oi := ?oig13) (v := ?vg13) ?hig13 (by kernel_rfl) (by kernel_rfl) (by kernel_rfl) ?hQg13 (Or.inl ⟨?h1g13, ?hyg13⟩) hHeld ?restg13
  case hig13 => (simp only [List.getElem?_toArray, List.getElem?_cons_succ, List.getElem?_cons_zero]; rfl)
  case hQg13 => exact fun _ _ _ h => h
  case h1g13 => rfl
  case hyg13 => intro V hSV; (try dsimp only at hSV); go_simp; (try with_reducible rfl)
  try simp only [Act.put, List.setIfInBounds_toArray, List.set_cons_zero, List.set_cons_succ]
  refine wpAnyH_take (i := 14) (oi := ?oig14) (v := ?vg14) ?hig14 (by kernel_rfl) (by kernel_rfl) (by kernel_rfl) ?hQg14 (Or.inl ⟨?h1g14, ?hyg14⟩) hHeld ?restg14
  case hig14 => (simp only [List.getElem?_toArray, List.getElem?_cons_succ, List.getElem?_cons_zero]; rfl)
  case hQg14 => exact fun _ _ _ h => h
  case h1g14 => rfl
  case hyg14 => intro V hSV; (try dsimp only at hSV); go_simp; (try with_reducible rfl)
  try simp only [Act.put, List.setIfInBounds_toArray, List.set_cons_zero, List.set_cons_succ]
  refine wpAnyH_take (i := 15) (oi := ?oig15) (v := ?vg15) ?hig15 (by kernel_rfl) (by kernel_rfl) (by kernel_rfl) ?hQg15 (Or.inl ⟨?h1g15, ?hyg15⟩) hHeld ?restg15
  case hig15 => (simp only [List.getElem?_toArray, List.getElem?_cons_succ, List.getElem?_cons_zero]; rfl)
  case hQg15 => exact fun _ _ _ h => h
  case h1g15 => rfl
  case hyg15 => intro V hSV; (try dsimp only at hSV); go_simp; (try with_reducible rfl)
  try simp only [Act.put, List.setIfInBounds_toArray, List.set_cons_zero, List.set_cons_succ]
  refine wpAnyH_take (i := 16) (oi := ?oig16) (v := ?vg16) ?hig16 (by kernel_rfl) (by kernel_rfl) (by kernel_rfl) ?hQg16 (Or.inl ⟨?h1g16, ?hyg16⟩) hHeld ?restg16
  case hig16 => (simp only [List.getElem?_toArray, List.getElem?_cons_succ, List.getElem?_cons_zero]; rfl)
  case hQg16 => exact fun _ _ _ h => h
  case h1g16 => rfl
  case hyg16 => intro V hSV; (try dsimp only at hSV); go_simp; (try with_reducible rfl)
  try simp only [Act.put, List.setIfInBounds_toArray, List.set_cons_zero, List.set_cons_succ]
  refine wpAnyH_ready (rs := [2]) (by kernel_rfl) (by simp) ?_
  refine AllReadyH.cons (o := ?og2) ?hog2 (fun K hK => ?hsg2) AllReadyH.nil
  case hog2 => (simp only [List.getElem?_toArray, List.getElem?_cons_succ, List.getElem?_cons_zero]; rfl)
  go_simp
  go_at_call 181
  refine HTM.out.mono ?_
  rintro e w9 ⟨rfl, hb9⟩
  have HB9 := hide (heldB (Below.refl w8.heap.size w8).drew hb9 (Nat.le_refl _))
  clear hb9
  try go_wp2_with fail
  refine hK.out _ _ (HS14.out _ (HB9.out)) (fun hHeld => ?_)
  clear hK K
  try simp only [Act.put, List.setIfInBounds_toArray, List.set_cons_zero, List.set_cons_succ]
  refine wpAnyH_take (i := 17) (oi := ?oig17) (v := ?vg17) ?hig17 (by kernel_rfl) (by kernel_rfl) (by kernel_rfl) ?hQg17 (Or.inl ⟨?h1g17, ?hyg17⟩) hHeld ?restg17
  case hig17 => (simp only [List.getElem?_toArray, List.getElem?_cons_succ, List.getElem?_cons_zero]; rfl)
  case hQg17 => exact fun _ _ _ h => h
  case h1g17 => rfl
  case hyg17 => intro V hSV; (try dsimp only at hSV); go_simp; (try with_reducible rfl)
  try simp only [Act.put, List.setIfInBounds_toArray, List.set_cons_zero, List.set_cons_succ]
  refine wpAnyH_ready (rs := [18]) (by kernel_rfl) (by simp) ?_
  refine AllReadyH.cons (o := ?og18) ?hog18 (fun K hK => ?hsg18) AllReadyH.nil
  case hog18 => (simp only [List.getElem?_toArray, List.getElem?_cons_succ, List.getElem?_cons_zero]; rfl)
  go_simp
  refine hK.out _ _ (HS14.out _ (HB9.out.alloc HB9.out.size _)) (fun hHeld => ?_)
  clear hK K
  try simp only [Act.put, List.setIfInBounds_toArray, List.set_cons_zero, List.set_cons_succ]
  refine wpAnyH_take (i := 19) (oi := ?oig19) (v := ?vg19) ?hig19 (by kernel_rfl) (by kernel_rfl) (by kernel_rfl) ?hQg19 (Or.inl ⟨?h1g19, ?hyg19⟩) hHeld ?restg19
  case hig19 => (simp only [List.getElem?_toArray, List.getElem?_cons_succ, List.getElem?_cons_zero]; rfl)
  case hQg19 => exact fun _ _ _ h => h
  case h1g19 => rfl
  case hyg19 => intro V hSV; (try dsimp only at hSV); go_simp; (try with_reducible rfl)
  try simp only [Act.put, List.setIfInBounds_toArray, List.set_cons_zero, List.set_cons_succ]
  refine wpAnyH_take (i := 20) (oi := ?oig20) (v := ?vg20) ?hig20 (by kernel_rfl) (by kernel_rfl) (by kernel_rfl) ?hQg20 (Or.inl ⟨?h1g20, ?hyg20⟩) hHeld ?restg20
  case hig20 => (simp only [List.getElem?_toArray, List.getElem?_cons_succ, List.getElem?_cons_zero]; rfl)
  case hQg20 => exact fun _ _ _ h => h
  case h1g20 => rfl
  case hyg20 => intro V hSV; (try dsimp only at hSV); go_simp; (try with_reducible rfl)
  try simp only [Act.put, List.setIfInBounds_toArray, List.set_cons_zero, List.set_cons_succ]
  refine wpAnyH_done (by kernel_rfl) ?_ _
  have HSB := hide (Blk.new w9 (sgC D (st.term + 1) k b x t l root pub sec rnd tot bat bd q bd di false) 188)
  have HB10 := hide (HB9.out.alloc HB9.out.size (.cells (sgC D (st.term + 1) k b x t l root pub sec rnd tot bat bd q bd di false).toArray 188))
  have HSS := hide HB9.out.size
  simp only [sgC] at HSB HB10
  clear hHeld
  go_wp2
  go_ret2
  have z7 := HK1.out.size
  have z8 := HX8.out.1.size
  have zs := HSS.out
  refine ⟨w9.heap.size, F2, rfl, HSB.out, HD8.out.below HB10.out, fun h => by have := (HD8.out.lt _ h).2; omega, by omega, ?_, fun i hi => ?_⟩
  · refine (HK1.out.trans HX8.out.1 (fun i hi => ?_)).after HB10.out
    rcases hi with rfl | hi
    · exact .inr HOW.out
    · exact HF1.out i hi
  · rcases HX8.out.2 i hi with h | h
    · exact HF1.out i h
    · exact .inr (by omega)
end Go.Proofs.YtgaoeoijdpdjiabGreatDoor
