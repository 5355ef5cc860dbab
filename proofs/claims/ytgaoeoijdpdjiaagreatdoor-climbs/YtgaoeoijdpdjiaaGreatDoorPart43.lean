/-
  The statement's own sown: seeds that are right, out of any texts. The program's Climb, its last cases.
-/
import Derived.Test.YtgaoeoijdpdjiaaGreatDoorPart5
import Derived.Test.YtgaoeoijdpdjiaaGreatDoorPart29
import Derived.Test.YtgaoeoijdpdjiaaGreatDoorPart20
import Derived.Test.YtgaoeoijdpdjiaaGreatDoorPart8
namespace Go.Proofs.YtgaoeoijdpdjiaaGreatDoor
open Go.RowKit
set_option maxRecDepth 20000 in
set_option maxHeartbeats 4000000 in
theorem sown_any (k x t l : Int) (b : Nat) (sec rnd pub : ByteArray) (w : World) (hb : b ≤ 16) (m1 : sec.size ≤ maxLen) (m2 : rnd.size ≤ maxLen) (m3 : pub.size ≤ maxLen) :
    Calls Tryz.prog 12 #[.agg #[.int .i64 k, .int .i64 b, .int .i64 x, .int .i64 t, .int .i64 l], .agg #[.string sec, .string rnd, .string pub]] w fun e w' => e = .returned (.agg #[.string (someB sec b), .string (someB rnd b), .string (someB pub b)]) ∧ Below w.heap.size w w' := by
  obtain ⟨W0, hW⟩ : ∃ W0, ((w.alloc (.cells #[.int .i64 k, .int .i64 b, .int .i64 x, .int .i64 t, .int .i64 l] 23)).alloc (.cells #[.string sec, .string rnd, .string pub] 25)).alloc (.cells #[.string ⟨#[]⟩, .string ⟨#[]⟩, .string ⟨#[]⟩] 25) = W0 := ⟨_, rfl⟩
  have HF := hide (show FiveC w.heap.size W0 k b x t l by subst hW; refine ⟨?_, ?_, ?_, ?_, ?_⟩ <;> simp [go_sem])
  have HSE := hide (show W0.cell? ⟨w.heap.size + 1, 0, none⟩ = some (.string sec) ∧ W0.cell? ⟨w.heap.size + 1, 1, none⟩ = some (.string rnd) ∧ W0.cell? ⟨w.heap.size + 1, 2, none⟩ = some (.string pub) by subst hW; refine ⟨?_, ?_, ?_⟩ <;> simp [go_sem])
  have HB := hide (show Below w.heap.size w W0 by subst hW; exact (((Below.refl _ _).alloc (Nat.le_refl _) _).alloc (by simp) _).alloc (by simp; omega) _)
  have hz : W0.heap.size ≤ w.heap.size + 3 := by subst hW; simp
  have hz' : w.heap.size + 3 ≤ W0.heap.size := by subst hW; simp
  have HBK := hide (show Blk W0 (w.heap.size + 1 + 1) [.string ⟨#[]⟩, .string ⟨#[]⟩, .string ⟨#[]⟩] 25 by
    subst hW
    have h := Blk.new ((w.alloc (.cells #[.int .i64 k, .int .i64 b, .int .i64 x, .int .i64 t, .int .i64 l] 23)).alloc (.cells #[.string sec, .string rnd, .string pub] 25)) [.string ⟨#[]⟩, .string ⟨#[]⟩, .string ⟨#[]⟩] 25
    simp only [World.size_alloc] at h
    exact h)
  have HS := hide (fun (V : World) (h : Below (w.heap.size + 1 + 1) W0 V) => (by
    obtain ⟨_, c1, _, _, _⟩ := HF.out.below h (by omega)
    exact ⟨c1, (h.cell (p := ⟨w.heap.size + 1, 0, none⟩) (by show w.heap.size + 1 < _; omega)).trans HSE.out.1, (h.cell (p := ⟨w.heap.size + 1, 1, none⟩) (by show w.heap.size + 1 < _; omega)).trans HSE.out.2.1, (h.cell (p := ⟨w.heap.size + 1, 2, none⟩) (by show w.heap.size + 1 < _; omega)).trans HSE.out.2.2⟩ : V.cell? ⟨w.heap.size, 1, none⟩ = some (.int .i64 b) ∧ V.cell? ⟨w.heap.size + 1, 0, none⟩ = some (.string sec) ∧ V.cell? ⟨w.heap.size + 1, 1, none⟩ = some (.string rnd) ∧ V.cell? ⟨w.heap.size + 1, 2, none⟩ = some (.string pub)))
  have H1 := hide (fun V : World => someN_any sec b V m1 (by omega))
  have H2 := hide (fun V : World => someN_any rnd b V m2 (by omega))
  have H3 := hide (fun V : World => someN_any pub b V m3 (by omega))
  clear m1 m2 m3
  have HWE := hide hW
  clear hW
  go_enter Tryz.func12, Tryz.ntmps12
  go_wp2_with fail
  rw [HWE.out]
  refine wp_region_held_drew (S := fun V => V.cell? ⟨w.heap.size, 1, none⟩ = some (.int .i64 b) ∧ V.cell? ⟨w.heap.size + 1, 0, none⟩ = some (.string sec) ∧ V.cell? ⟨w.heap.size + 1, 1, none⟩ = some (.string rnd) ∧ V.cell? ⟨w.heap.size + 1, 2, none⟩ = some (.string pub)) (by kernel_rfl) (HS.out _ ((Below.refl W0.heap.size W0).drew.mono (by omega))) (fun hHeld => ?_)
  refine tk 0 hHeld (h := ?_)
  refine tk 1 hHeld (h := ?_)
  refine tk 2 hHeld (h := ?_)
  refine tk 3 hHeld (h := ?_)
  refine tk 5 hHeld (h := ?_)
  refine tk 6 hHeld (h := ?_)
  refine tk 7 hHeld (h := ?_)
  refine tk 8 hHeld (h := ?_)
  refine tk 10 hHeld (h := ?_)
  refine tk 11 hHeld (h := ?_)
  refine tk 12 hHeld (h := ?_)
  refine tk 13 hHeld (h := ?_)
  refine wpAnyH_ready (rs := [4]) (by kernel_rfl) (by simp) ?_
  refine AllReadyH.cons (o := ?oa4) ?hoa4 (fun K hK => ?hsa4) AllReadyH.nil
  case hoa4 => (simp only [List.getElem?_toArray, List.getElem?_cons_succ, List.getElem?_cons_zero]; rfl)
  go_simp
  go_at_call 34
  refine (H1.out _).mono ?_
  rintro e w1 ⟨rfl, hb1⟩
  have hS1 := heldB (Below.refl W0.heap.size W0).drew hb1 (Nat.le_refl _)
  have HB1 := hide hS1
  clear hb1 hS1
  try go_wp2_with fail
  refine hK.out _ _ (HS.out _ (HB1.out.mono (by omega))) (fun hHeld => ?_)
  clear hK K
  try simp only [Act.put, List.setIfInBounds_toArray, List.set_cons_zero, List.set_cons_succ]
  refine wpAnyH_ready (rs := [9]) (by kernel_rfl) (by simp) ?_
  refine AllReadyH.cons (o := ?oa9) ?hoa9 (fun K hK => ?hsa9) AllReadyH.nil
  case hoa9 => (simp only [List.getElem?_toArray, List.getElem?_cons_succ, List.getElem?_cons_zero]; rfl)
  go_simp
  go_at_call 34
  refine (H2.out _).mono ?_
  rintro e w2 ⟨rfl, hb2⟩
  have hS2 := heldB HB1.out hb2 (Nat.le_refl _)
  have HB2 := hide hS2
  clear hb2 hS2
  try go_wp2_with fail
  refine hK.out _ _ (HS.out _ (HB2.out.mono (by omega))) (fun hHeld => ?_)
  clear hK K
  try simp only [Act.put, List.setIfInBounds_toArray, List.set_cons_zero, List.set_cons_succ]
  refine wpAnyH_ready (rs := [14]) (by kernel_rfl) (by simp) ?_
  refine AllReadyH.cons (o := ?oa14) ?hoa14 (fun K hK => ?hsa14) AllReadyH.nil
  case hoa14 => (simp only [List.getElem?_toArray, List.getElem?_cons_succ, List.getElem?_cons_zero]; rfl)
  go_simp
  go_at_call 34
  refine (H3.out _).mono ?_
  rintro e w3 ⟨rfl, hb3⟩
  have hS3 := heldB HB2.out hb3 (Nat.le_refl _)
  have HB3 := hide hS3
  have HK3 := hide (HBK.out.below hS3 (by omega))
  clear hb3 hS3
  try go_wp2_with fail
  refine hK.out _ _ (HS.out _ (HB3.out.mono (by omega))) (fun hHeld => ?_)
  clear hK K
  try simp only [Act.put, List.setIfInBounds_toArray, List.set_cons_zero, List.set_cons_succ]
  refine tk 15 hHeld (h := ?_)
  have r0 := HK3.out.cell 0
  have r1 := HK3.out.cell 1
  have r2 := HK3.out.cell 2
  have f0 := HK3.out.free 0
  have f1 := HK3.out.free 1
  have f2 := HK3.out.free 2
  simp only [List.getElem?_cons_zero, List.getElem?_cons_succ] at r0 r1 r2
  refine wpAnyH_ready (rs := [16]) (by kernel_rfl) (by simp) ?_
  refine AllReadyH.cons (o := ?oa16) ?hoa16 (fun K hK => ?hsa16) AllReadyH.nil
  case hoa16 => (simp only [List.getElem?_toArray, List.getElem?_cons_succ, List.getElem?_cons_zero]; rfl)
  go_simp
  refine hK.out _ _ (HS.out _ ((((HB3.out.mono (by omega)).setCell (by simp <;> omega) _).setCell (by simp <;> omega) _).setCell (by simp <;> omega) _)) (fun hHeld => ?_)
  clear hK K
  try simp only [Act.put, List.setIfInBounds_toArray, List.set_cons_zero, List.set_cons_succ]
  refine wpAnyH_done (by kernel_rfl) ?_ _
  go_wp2
  refine bodyPost_ret (v := .agg #[.string (someB sec b), .string (someB rnd b), .string (someB pub b)]) (by simp [results, Tryz.results12, go_sem, r0, r1, r2]) rfl ⟨rfl, ?_⟩
  have HBB := HB.out.trans (HB3.out.mono (by omega))
  iterate 3 refine Below.setCell ?_ (by simp <;> omega) _
  exact HBB
end Go.Proofs.YtgaoeoijdpdjiaaGreatDoor

namespace Go.Proofs.YtgaoeoijdpdjiaaGreatDoor
open Go.RowKit
set_option maxRecDepth 20000 in
set_option maxHeartbeats 4000000 in
theorem cT_val (k b x t l : Int) (pub y : ByteArray) (p0 p1 p2 p3 : Int) (sp : Option Addr) (n c : Nat) (w : World) (hC : ∀ V : World, Calls Tryz.prog 86 #[.agg #[.int .i64 k, .int .i64 b, .int .i64 x, .int .i64 t, .int .i64 l]] V fun e w' => e = .returned (.int .i64 0) ∧ Below V.heap.size V w') (hV : ∀ (V : World) (B : Nat), B = V.heap.size → Calls Tryz.prog 94 #[.agg #[.int .i64 k, .int .i64 b, .int .i64 x, .int .i64 t, .int .i64 l], .slice (some ⟨B, 0, none⟩) 2 2] (V.alloc (.cells #[.string pub, .string y] 9)) fun e w' => e = .returned (.bool true) ∧ Below (V.alloc (.cells #[.string pub, .string y] 9)).heap.size (V.alloc (.cells #[.string pub, .string y] 9)) w') (hI : ∀ V : World, Calls Tryz.prog 150 #[.agg #[.int .i64 k, .int .i64 b, .int .i64 x, .int .i64 t, .int .i64 l], .agg #[.int .i64 p0, .int .i64 p1, .int .i64 p2, .int .i64 p3]] V fun e w' => e = .returned (.bool true) ∧ Below V.heap.size V w') (g3 : ((n : Int) == t) = true) (hE : ∀ V : World, Below w.heap.size w V → Calls Tryz.prog 94 #[.agg #[.int .i64 k, .int .i64 b, .int .i64 x, .int .i64 t, .int .i64 l], .slice sp n c] V fun e w' => e = .returned (.bool false) ∧ Below V.heap.size V w') :
    Calls Tryz.prog 82 #[.agg #[.int .i64 k, .int .i64 b, .int .i64 x, .int .i64 t, .int .i64 l], .string pub, .agg #[.int .i64 p0, .int .i64 p1, .int .i64 p2, .int .i64 p3], .string y, .slice sp n c] w fun e w' => e = .returned (.tuple #[.string ⟨#[]⟩, .int .i64 2]) ∧ Below w.heap.size w w' := by
  obtain ⟨W0, hW⟩ : ∃ W0, (w.alloc (.cells #[.int .i64 k, .int .i64 b, .int .i64 x, .int .i64 t, .int .i64 l] 23)).alloc (.cells #[.int .i64 p0, .int .i64 p1, .int .i64 p2, .int .i64 p3] 27) = W0 := ⟨_, rfl⟩
  have HF := hide (show FiveC w.heap.size W0 k b x t l by subst hW; refine ⟨?_, ?_, ?_, ?_, ?_⟩ <;> simp [go_sem])
  have HP := hide (show FourC (w.heap.size + 1) W0 p0 p1 p2 p3 by subst hW; refine ⟨?_, ?_, ?_, ?_⟩ <;> simp [go_sem])
  have HB := hide (show Below w.heap.size w W0 by subst hW; exact ((Below.refl _ _).alloc (Nat.le_refl _) _).alloc (by simp) _)
  have hz : W0.heap.size ≤ w.heap.size + 2 := by subst hW; simp
  have hz' : w.heap.size + 2 ≤ W0.heap.size := by subst hW; simp
  have HBU := hide (fun (V : World) (h : Below W0.heap.size W0 V) => HB.out.trans (h.mono (by omega)))
  have HS := hide (fun (V : World) (h : Below W0.heap.size W0 V) => (by
    obtain ⟨c0, c1, c2, c3, c4⟩ := HF.out.below h (by omega)
    obtain ⟨d0, d1, d2, d3⟩ := HP.out.below h (by omega)
    exact ⟨c0, c1, c2, c3, c4, d0, d1, d2, d3⟩ : V.cell? ⟨w.heap.size, 0, none⟩ = some (.int .i64 k) ∧ V.cell? ⟨w.heap.size, 1, none⟩ = some (.int .i64 b) ∧ V.cell? ⟨w.heap.size, 2, none⟩ = some (.int .i64 x) ∧ V.cell? ⟨w.heap.size, 3, none⟩ = some (.int .i64 t) ∧ V.cell? ⟨w.heap.size, 4, none⟩ = some (.int .i64 l) ∧ V.cell? ⟨w.heap.size + 1, 0, none⟩ = some (.int .i64 p0) ∧ V.cell? ⟨w.heap.size + 1, 1, none⟩ = some (.int .i64 p1) ∧ V.cell? ⟨w.heap.size + 1, 2, none⟩ = some (.int .i64 p2) ∧ V.cell? ⟨w.heap.size + 1, 3, none⟩ = some (.int .i64 p3)))
  obtain ⟨c0, c1, c2, c3, c4, d0, d1, d2, d3⟩ := HS.out W0 (Below.refl _ _)
  have g3n : ((n : Int) != t) = false := by rw [bne, g3]; rfl
  have HC := hide hC
  have HV := hide hV
  have HI := hide hI
  have HE := hide hE
  clear hC hV hI hE
  go_enter Tryz.func82, Tryz.ntmps82
  go_wp2_with fail
  try rw [hW]
  refine (HC.out _).mono ?_
  rintro e w1 ⟨rfl, hb1⟩
  have HB1 := hide (heldB (Below.refl W0.heap.size W0) hb1 (Nat.le_refl _))
  clear hb1 c0 c1 c2 c3 c4 d0 d1 d2 d3 hW
  obtain ⟨c0, c1, c2, c3, c4, d0, d1, d2, d3⟩ := HS.out w1 HB1.out
  go_wp2_with fail
  refine (HV.out w1 _ (by simp)).mono ?_
  rintro e w2 ⟨rfl, hb2⟩
  have HB2 := hide (heldB (HB1.out.alloc HB1.out.size _) hb2 (Nat.le_refl _))
  clear hb2 c0 c1 c2 c3 c4 d0 d1 d2 d3 HB1
  obtain ⟨c0, c1, c2, c3, c4, d0, d1, d2, d3⟩ := HS.out w2 HB2.out
  go_wp2_with fail
  refine (HI.out _).mono ?_
  rintro e w3 ⟨rfl, hb3⟩
  have HB3 := hide (heldB HB2.out hb3 (Nat.le_refl _))
  clear hb3 c0 c1 c2 c3 c4 d0 d1 d2 d3 HB2
  obtain ⟨c0, c1, c2, c3, c4, d0, d1, d2, d3⟩ := HS.out w3 HB3.out
  go_wp2_with fail
  refine (HE.out _ (HBU.out _ HB3.out)).mono ?_
  rintro e w4 ⟨rfl, hb4⟩
  have HB4 := hide (heldB HB3.out hb4 (Nat.le_refl _))
  clear hb4 c0 c1 c2 c3 c4 d0 d1 d2 d3 HB3
  go_wp2
  go_ret2
  exact ⟨rfl, HBU.out _ HB4.out⟩
set_option maxRecDepth 20000 in
set_option maxHeartbeats 4000000 in
theorem cT_yes (k b x t l : Int) (pub y : ByteArray) (p0 p1 p2 p3 : Int) (sp : Option Addr) (n c : Nat) (cv : ByteArray) (w : World) (hC : ∀ V : World, Calls Tryz.prog 86 #[.agg #[.int .i64 k, .int .i64 b, .int .i64 x, .int .i64 t, .int .i64 l]] V fun e w' => e = .returned (.int .i64 0) ∧ Below V.heap.size V w') (hV : ∀ (V : World) (B : Nat), B = V.heap.size → Calls Tryz.prog 94 #[.agg #[.int .i64 k, .int .i64 b, .int .i64 x, .int .i64 t, .int .i64 l], .slice (some ⟨B, 0, none⟩) 2 2] (V.alloc (.cells #[.string pub, .string y] 9)) fun e w' => e = .returned (.bool true) ∧ Below (V.alloc (.cells #[.string pub, .string y] 9)).heap.size (V.alloc (.cells #[.string pub, .string y] 9)) w') (hI : ∀ V : World, Calls Tryz.prog 150 #[.agg #[.int .i64 k, .int .i64 b, .int .i64 x, .int .i64 t, .int .i64 l], .agg #[.int .i64 p0, .int .i64 p1, .int .i64 p2, .int .i64 p3]] V fun e w' => e = .returned (.bool true) ∧ Below V.heap.size V w') (g3 : ((n : Int) == t) = true) (hE : ∀ V : World, Below w.heap.size w V → Calls Tryz.prog 94 #[.agg #[.int .i64 k, .int .i64 b, .int .i64 x, .int .i64 t, .int .i64 l], .slice sp n c] V fun e w' => e = .returned (.bool true) ∧ Below V.heap.size V w') (hG : ∀ V : World, Below w.heap.size w V → Tn V → Calls Tryz.prog 158 #[.agg #[.int .i64 k, .int .i64 b, .int .i64 x, .int .i64 t, .int .i64 l, .string pub, .int .i64 p0, .int .i64 p1, .int .i64 p2, .int .i64 p3], .string y, .slice sp n c] V fun e w' => e = .returned (.string cv) ∧ Below V.heap.size V w') (hT : Tn w) :
    Calls Tryz.prog 82 #[.agg #[.int .i64 k, .int .i64 b, .int .i64 x, .int .i64 t, .int .i64 l], .string pub, .agg #[.int .i64 p0, .int .i64 p1, .int .i64 p2, .int .i64 p3], .string y, .slice sp n c] w fun e w' => e = .returned (.tuple #[.string cv, .int .i64 0]) ∧ Below w.heap.size w w' := by
  obtain ⟨W0, hW⟩ : ∃ W0, (w.alloc (.cells #[.int .i64 k, .int .i64 b, .int .i64 x, .int .i64 t, .int .i64 l] 23)).alloc (.cells #[.int .i64 p0, .int .i64 p1, .int .i64 p2, .int .i64 p3] 27) = W0 := ⟨_, rfl⟩
  have HF := hide (show FiveC w.heap.size W0 k b x t l by subst hW; refine ⟨?_, ?_, ?_, ?_, ?_⟩ <;> simp [go_sem])
  have HP := hide (show FourC (w.heap.size + 1) W0 p0 p1 p2 p3 by subst hW; refine ⟨?_, ?_, ?_, ?_⟩ <;> simp [go_sem])
  have HB := hide (show Below w.heap.size w W0 by subst hW; exact ((Below.refl _ _).alloc (Nat.le_refl _) _).alloc (by simp) _)
  have hz : W0.heap.size ≤ w.heap.size + 2 := by subst hW; simp
  have hz' : w.heap.size + 2 ≤ W0.heap.size := by subst hW; simp
  have HBU := hide (fun (V : World) (h : Below W0.heap.size W0 V) => HB.out.trans (h.mono (by omega)))
  have HS := hide (fun (V : World) (h : Below W0.heap.size W0 V) => (by
    obtain ⟨c0, c1, c2, c3, c4⟩ := HF.out.below h (by omega)
    obtain ⟨d0, d1, d2, d3⟩ := HP.out.below h (by omega)
    exact ⟨c0, c1, c2, c3, c4, d0, d1, d2, d3⟩ : V.cell? ⟨w.heap.size, 0, none⟩ = some (.int .i64 k) ∧ V.cell? ⟨w.heap.size, 1, none⟩ = some (.int .i64 b) ∧ V.cell? ⟨w.heap.size, 2, none⟩ = some (.int .i64 x) ∧ V.cell? ⟨w.heap.size, 3, none⟩ = some (.int .i64 t) ∧ V.cell? ⟨w.heap.size, 4, none⟩ = some (.int .i64 l) ∧ V.cell? ⟨w.heap.size + 1, 0, none⟩ = some (.int .i64 p0) ∧ V.cell? ⟨w.heap.size + 1, 1, none⟩ = some (.int .i64 p1) ∧ V.cell? ⟨w.heap.size + 1, 2, none⟩ = some (.int .i64 p2) ∧ V.cell? ⟨w.heap.size + 1, 3, none⟩ = some (.int .i64 p3)))
  obtain ⟨c0, c1, c2, c3, c4, d0, d1, d2, d3⟩ := HS.out W0 (Below.refl _ _)
  have g3n : ((n : Int) != t) = false := by rw [bne, g3]; rfl
  have HC := hide hC
  have HV := hide hV
  have HI := hide hI
  have HE := hide hE
  have HG := hide hG
  have HTT := hide (hT.on HB.out)
  clear hC hV hI hE hG hT
  go_enter Tryz.func82, Tryz.ntmps82
  go_wp2_with fail
  try rw [hW]
  refine (HC.out _).mono ?_
  rintro e w1 ⟨rfl, hb1⟩
  have HB1 := hide (heldB (Below.refl W0.heap.size W0) hb1 (Nat.le_refl _))
  clear hb1 c0 c1 c2 c3 c4 d0 d1 d2 d3 hW
  obtain ⟨c0, c1, c2, c3, c4, d0, d1, d2, d3⟩ := HS.out w1 HB1.out
  go_wp2_with fail
  refine (HV.out w1 _ (by simp)).mono ?_
  rintro e w2 ⟨rfl, hb2⟩
  have HB2 := hide (heldB (HB1.out.alloc HB1.out.size _) hb2 (Nat.le_refl _))
  clear hb2 c0 c1 c2 c3 c4 d0 d1 d2 d3 HB1
  obtain ⟨c0, c1, c2, c3, c4, d0, d1, d2, d3⟩ := HS.out w2 HB2.out
  go_wp2_with fail
  refine (HI.out _).mono ?_
  rintro e w3 ⟨rfl, hb3⟩
  have HB3 := hide (heldB HB2.out hb3 (Nat.le_refl _))
  clear hb3 c0 c1 c2 c3 c4 d0 d1 d2 d3 HB2
  obtain ⟨c0, c1, c2, c3, c4, d0, d1, d2, d3⟩ := HS.out w3 HB3.out
  go_wp2_with fail
  refine (HE.out _ (HBU.out _ HB3.out)).mono ?_
  rintro e w4 ⟨rfl, hb4⟩
  have HB4 := hide (heldB HB3.out hb4 (Nat.le_refl _))
  clear hb4 c0 c1 c2 c3 c4 d0 d1 d2 d3 HB3
  obtain ⟨c0, c1, c2, c3, c4, d0, d1, d2, d3⟩ := HS.out w4 HB4.out
  go_wp2_with fail
  refine (HG.out _ (HBU.out _ HB4.out) (HTT.out.on HB4.out)).mono ?_
  rintro e w5 ⟨rfl, hb5⟩
  have HB5 := hide (heldB HB4.out hb5 (Nat.le_refl _))
  clear hb5 c0 c1 c2 c3 c4 d0 d1 d2 d3 HB4
  go_wp2
  go_ret2
  exact ⟨rfl, HBU.out _ HB5.out⟩
end Go.Proofs.YtgaoeoijdpdjiaaGreatDoor
