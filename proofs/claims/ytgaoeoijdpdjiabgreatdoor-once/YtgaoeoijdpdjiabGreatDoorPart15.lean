/-
  Is it the place of a leaf? The program's isLeafOf. The program's Join where all is right. The program's spotOf. The program's Signing: the leaf that signs in a layer under an index. The program's Join and Node. The first record of a key. From a leaf up to the root: the program's climb. The disk by itself: every call, in one word. The program's cut: a text in pieces of one length. The program's IsIndex. Blocks over an append.
-/
import Derived.Test.YtgaoeoijdpdjiabGreatDoorPart3
import Derived.Test.YtgaoeoijdpdjiabGreatDoorPart14
import Derived.Test.YtgaoeoijdpdjiabGreatDoorPart11
import Derived.Test.YtgaoeoijdpdjiabGreatDoorPart2
namespace Go.Proofs.YtgaoeoijdpdjiabGreatDoor
open Go.RowKit

set_option maxRecDepth 20000 in
set_option maxHeartbeats 4000000 in
theorem isLeafOf_any (k b x : Int) (t l : Nat) (p0 p1 p2 p3 : Int) (w : World) (h1 : 1 ≤ t) (h2 : t ≤ 4) (h4 : l ≤ 3) :
    Calls Tryz.prog 323 #[.agg #[.int .i64 k, .int .i64 b, .int .i64 x, .int .i64 t, .int .i64 l], .agg #[.int .i64 p0, .int .i64 p1, .int .i64 p2, .int .i64 p3]] w fun e w' => e = .returned (.bool (leafB t l p0 p1 p2)) ∧ Below w.heap.size w w' := by
  obtain ⟨W0, hW⟩ : ∃ W0, (w.alloc (.cells #[.int .i64 k, .int .i64 b, .int .i64 x, .int .i64 t, .int .i64 l] 26)).alloc (.cells #[.int .i64 p0, .int .i64 p1, .int .i64 p2, .int .i64 p3] 91) = W0 := ⟨_, rfl⟩
  have HF := hide (show FiveC w.heap.size W0 k b x t l by subst hW; refine ⟨?_, ?_, ?_, ?_, ?_⟩ <;> simp [go_sem])
  have HP := hide (show FourC (w.heap.size + 1) W0 p0 p1 p2 p3 by subst hW; refine ⟨?_, ?_, ?_, ?_⟩ <;> simp [go_sem])
  have HB := hide (show Below w.heap.size w W0 by subst hW; exact ((Below.refl _ _).alloc (Nat.le_refl _) _).alloc (by simp) _)
  have hz : W0.heap.size ≤ w.heap.size + 2 := by subst hW; simp
  have hz' : w.heap.size + 2 ≤ W0.heap.size := by subst hW; simp
  have HS := hide (fun (V : World) (h : Below W0.heap.size W0 V) => (by
    obtain ⟨c0, c1, c2, c3, c4⟩ := HF.out.below h (by omega)
    obtain ⟨d0, d1, d2, d3⟩ := HP.out.below h (by omega)
    exact ⟨c0, c1, c2, c3, c4, d0, d1, d2, d3, h⟩ : V.cell? ⟨w.heap.size, 0, none⟩ = some (.int .i64 k) ∧ V.cell? ⟨w.heap.size, 1, none⟩ = some (.int .i64 b) ∧ V.cell? ⟨w.heap.size, 2, none⟩ = some (.int .i64 x) ∧ V.cell? ⟨w.heap.size, 3, none⟩ = some (.int .i64 t) ∧ V.cell? ⟨w.heap.size, 4, none⟩ = some (.int .i64 l) ∧ V.cell? ⟨w.heap.size + 1, 0, none⟩ = some (.int .i64 p0) ∧ V.cell? ⟨w.heap.size + 1, 1, none⟩ = some (.int .i64 p1) ∧ V.cell? ⟨w.heap.size + 1, 2, none⟩ = some (.int .i64 p2) ∧ V.cell? ⟨w.heap.size + 1, 3, none⟩ = some (.int .i64 p3) ∧ Below W0.heap.size W0 V))
  have HWI := hide (fun (v n : Int) (V : World) => within_any v n V)
  have HLV := hide (fun V : World => setsLeaves_any k b x l t V h1 h2)
  unfold leafB
  cases e1 : decide (0 ≤ p0 ∧ p0 < (l : Int)) with
  | false =>
    have HW1 := hide (fun V : World => within_any p0 l V)
    rw [e1] at HW1
    clear e1
    go_enter Tryz.func323, Tryz.ntmps323
    go_wp2_with fail
    try rw [hW]
    refine wp_region_held_drew (S := fun V => V.cell? ⟨w.heap.size, 0, none⟩ = some (.int .i64 k) ∧ V.cell? ⟨w.heap.size, 1, none⟩ = some (.int .i64 b) ∧ V.cell? ⟨w.heap.size, 2, none⟩ = some (.int .i64 x) ∧ V.cell? ⟨w.heap.size, 3, none⟩ = some (.int .i64 t) ∧ V.cell? ⟨w.heap.size, 4, none⟩ = some (.int .i64 l) ∧ V.cell? ⟨w.heap.size + 1, 0, none⟩ = some (.int .i64 p0) ∧ V.cell? ⟨w.heap.size + 1, 1, none⟩ = some (.int .i64 p1) ∧ V.cell? ⟨w.heap.size + 1, 2, none⟩ = some (.int .i64 p2) ∧ V.cell? ⟨w.heap.size + 1, 3, none⟩ = some (.int .i64 p3) ∧ Below W0.heap.size W0 V) (by kernel_rfl) (HS.out _ ((Below.refl W0.heap.size W0).drew)) (fun hHeld => ?_)
    refine tk 0 hHeld (h := ?_)
    refine tk 1 hHeld (h := ?_)
    refine tk 2 hHeld (h := ?_)
    refine tk 3 hHeld (h := ?_)
    refine wpAnyH_ready (rs := [4]) (by kernel_rfl) (by simp) ?_
    refine AllReadyH.cons (o := ?oa4) ?hoa4 (fun K hK => ?hsa4) AllReadyH.nil
    case hoa4 => (simp only [List.getElem?_toArray, List.getElem?_cons_succ, List.getElem?_cons_zero]; rfl)
    go_simp
    refine (HW1.out _).mono ?_
    rintro e w1 ⟨rfl, rfl⟩
    try go_wp2_with fail
    refine hK.out _ _ (HS.out _ ((Below.refl W0.heap.size W0).drew)) (fun hHeld => ?_)
    clear hK K
    try simp only [Act.put, List.setIfInBounds_toArray, List.set_cons_zero, List.set_cons_succ]
    refine tk 5 hHeld (h := ?_)
    refine sk 6 hHeld (h := ?_)
    refine sk 7 hHeld (h := ?_)
    refine sk 8 hHeld (h := ?_)
    refine sk 9 hHeld (h := ?_)
    refine sk 10 hHeld (h := ?_)
    refine sk 11 hHeld (h := ?_)
    refine sk 12 hHeld (h := ?_)
    refine tk 13 hHeld (h := ?_)
    refine tk 14 hHeld (h := ?_)
    refine sk 15 hHeld (h := ?_)
    refine sk 16 hHeld (h := ?_)
    refine sk 17 hHeld (h := ?_)
    refine sk 18 hHeld (h := ?_)
    refine sk 19 hHeld (h := ?_)
    refine tk 20 hHeld (h := ?_)
    refine tk 21 hHeld (h := ?_)
    refine wpAnyH_done (by kernel_rfl) ?_ _
    go_wp2
    go_ret
    exact ⟨rfl, HB.out.trans (((Below.refl W0.heap.size W0).drew).mono (by omega))⟩
  | true =>
    have hp0 : 0 ≤ p0 ∧ p0 < (l : Int) := of_decide_eq_true e1
    obtain ⟨q, hq⟩ : ∃ q : Nat, p0 = (q : Int) := ⟨p0.toNat, by omega⟩
    have HW1 := hide (fun V : World => within_any p0 l V)
    rw [e1] at HW1
    have HTR := hide (fun V : World => trees_any k b x t l q V h1 h2 h4 (by omega))
    rw [← hq] at HTR
    rw [show p0.toNat = q by omega]
    clear e1 hp0 hq
    have HW2 := hide (fun V : World => within_any p1 ((2 ^ (t * (l - 1 - q)) : Nat) : Int) V)
    generalize ((2 ^ (t * (l - 1 - q)) : Nat) : Int) = tr at HTR HW2 ⊢
    generalize decide (0 ≤ p1 ∧ p1 < tr) = bt at HW2 ⊢
    cases bt with
    | false =>
      go_enter Tryz.func323, Tryz.ntmps323
      go_wp2_with fail
      try rw [hW]
      refine wp_region_held_drew (S := fun V => V.cell? ⟨w.heap.size, 0, none⟩ = some (.int .i64 k) ∧ V.cell? ⟨w.heap.size, 1, none⟩ = some (.int .i64 b) ∧ V.cell? ⟨w.heap.size, 2, none⟩ = some (.int .i64 x) ∧ V.cell? ⟨w.heap.size, 3, none⟩ = some (.int .i64 t) ∧ V.cell? ⟨w.heap.size, 4, none⟩ = some (.int .i64 l) ∧ V.cell? ⟨w.heap.size + 1, 0, none⟩ = some (.int .i64 p0) ∧ V.cell? ⟨w.heap.size + 1, 1, none⟩ = some (.int .i64 p1) ∧ V.cell? ⟨w.heap.size + 1, 2, none⟩ = some (.int .i64 p2) ∧ V.cell? ⟨w.heap.size + 1, 3, none⟩ = some (.int .i64 p3) ∧ Below W0.heap.size W0 V) (by kernel_rfl) (HS.out _ ((Below.refl W0.heap.size W0).drew)) (fun hHeld => ?_)
      refine tk 0 hHeld (h := ?_)
      refine tk 1 hHeld (h := ?_)
      refine tk 2 hHeld (h := ?_)
      refine tk 3 hHeld (h := ?_)
      refine wpAnyH_ready (rs := [4]) (by kernel_rfl) (by simp) ?_
      refine AllReadyH.cons (o := ?ob4) ?hob4 (fun K hK => ?hsb4) AllReadyH.nil
      case hob4 => (simp only [List.getElem?_toArray, List.getElem?_cons_succ, List.getElem?_cons_zero]; rfl)
      go_simp
      refine (HW1.out _).mono ?_
      rintro e w1 ⟨rfl, rfl⟩
      try go_wp2_with fail
      refine hK.out _ _ (HS.out _ ((Below.refl W0.heap.size W0).drew)) (fun hHeld => ?_)
      clear hK K
      try simp only [Act.put, List.setIfInBounds_toArray, List.set_cons_zero, List.set_cons_succ]
      refine tk 5 hHeld (h := ?_)
      refine tk 6 hHeld (h := ?_)
      refine tk 7 hHeld (h := ?_)
      refine tk 8 hHeld (h := ?_)
      refine tk 9 hHeld (h := ?_)
      refine tk 10 hHeld (h := ?_)
      refine wpAnyH_ready (rs := [11]) (by kernel_rfl) (by simp) ?_
      refine AllReadyH.cons (o := ?ob11) ?hob11 (fun K hK => ?hsb11) AllReadyH.nil
      case hob11 => (simp only [List.getElem?_toArray, List.getElem?_cons_succ, List.getElem?_cons_zero]; rfl)
      go_simp
      refine (HTR.out _).mono ?_
      rintro e w2 ⟨rfl, hb2⟩
      have hS2 := heldB (Below.refl W0.heap.size W0).drew hb2 (Nat.le_refl _)
      try go_wp2_with fail
      refine hK.out _ _ (HS.out _ (hS2)) (fun hHeld => ?_)
      clear hK K
      try simp only [Act.put, List.setIfInBounds_toArray, List.set_cons_zero, List.set_cons_succ]
      refine wpAnyH_ready (rs := [12]) (by kernel_rfl) (by simp) ?_
      refine AllReadyH.cons (o := ?ob12) ?hob12 (fun K hK => ?hsb12) AllReadyH.nil
      case hob12 => (simp only [List.getElem?_toArray, List.getElem?_cons_succ, List.getElem?_cons_zero]; rfl)
      go_simp
      refine (HW2.out _).mono ?_
      rintro e w3 ⟨rfl, rfl⟩
      try go_wp2_with fail
      refine hK.out _ _ (HS.out _ (hS2)) (fun hHeld => ?_)
      clear hK K
      try simp only [Act.put, List.setIfInBounds_toArray, List.set_cons_zero, List.set_cons_succ]
      refine tk 13 hHeld (h := ?_)
      refine tk 14 hHeld (h := ?_)
      refine sk 15 hHeld (h := ?_)
      refine sk 16 hHeld (h := ?_)
      refine sk 17 hHeld (h := ?_)
      refine sk 18 hHeld (h := ?_)
      refine sk 19 hHeld (h := ?_)
      refine tk 20 hHeld (h := ?_)
      refine tk 21 hHeld (h := ?_)
      refine wpAnyH_done (by kernel_rfl) ?_ _
      go_wp2
      go_ret
      exact ⟨rfl, HB.out.trans ((hS2).mono (by omega))⟩
    | true =>
      have HW3 := hide (fun V : World => within_any p2 ((2 ^ t : Nat) : Int) V)
      generalize ((2 ^ t : Nat) : Int) = lv at HLV HW3 ⊢
      generalize decide (0 ≤ p2 ∧ p2 < lv) = bl at HW3 ⊢
      go_enter Tryz.func323, Tryz.ntmps323
      go_wp2_with fail
      try rw [hW]
      refine wp_region_held_drew (S := fun V => V.cell? ⟨w.heap.size, 0, none⟩ = some (.int .i64 k) ∧ V.cell? ⟨w.heap.size, 1, none⟩ = some (.int .i64 b) ∧ V.cell? ⟨w.heap.size, 2, none⟩ = some (.int .i64 x) ∧ V.cell? ⟨w.heap.size, 3, none⟩ = some (.int .i64 t) ∧ V.cell? ⟨w.heap.size, 4, none⟩ = some (.int .i64 l) ∧ V.cell? ⟨w.heap.size + 1, 0, none⟩ = some (.int .i64 p0) ∧ V.cell? ⟨w.heap.size + 1, 1, none⟩ = some (.int .i64 p1) ∧ V.cell? ⟨w.heap.size + 1, 2, none⟩ = some (.int .i64 p2) ∧ V.cell? ⟨w.heap.size + 1, 3, none⟩ = some (.int .i64 p3) ∧ Below W0.heap.size W0 V) (by kernel_rfl) (HS.out _ ((Below.refl W0.heap.size W0).drew)) (fun hHeld => ?_)
      refine tk 0 hHeld (h := ?_)
      refine tk 1 hHeld (h := ?_)
      refine tk 2 hHeld (h := ?_)
      refine tk 3 hHeld (h := ?_)
      refine wpAnyH_ready (rs := [4]) (by kernel_rfl) (by simp) ?_
      refine AllReadyH.cons (o := ?oc4) ?hoc4 (fun K hK => ?hsc4) AllReadyH.nil
      case hoc4 => (simp only [List.getElem?_toArray, List.getElem?_cons_succ, List.getElem?_cons_zero]; rfl)
      go_simp
      refine (HW1.out _).mono ?_
      rintro e w1 ⟨rfl, rfl⟩
      try go_wp2_with fail
      refine hK.out _ _ (HS.out _ ((Below.refl W0.heap.size W0).drew)) (fun hHeld => ?_)
      clear hK K
      try simp only [Act.put, List.setIfInBounds_toArray, List.set_cons_zero, List.set_cons_succ]
      refine tk 5 hHeld (h := ?_)
      refine tk 6 hHeld (h := ?_)
      refine tk 7 hHeld (h := ?_)
      refine tk 8 hHeld (h := ?_)
      refine tk 9 hHeld (h := ?_)
      refine tk 10 hHeld (h := ?_)
      refine wpAnyH_ready (rs := [11]) (by kernel_rfl) (by simp) ?_
      refine AllReadyH.cons (o := ?oc11) ?hoc11 (fun K hK => ?hsc11) AllReadyH.nil
      case hoc11 => (simp only [List.getElem?_toArray, List.getElem?_cons_succ, List.getElem?_cons_zero]; rfl)
      go_simp
      refine (HTR.out _).mono ?_
      rintro e w2 ⟨rfl, hb2⟩
      have hS2 := heldB (Below.refl W0.heap.size W0).drew hb2 (Nat.le_refl _)
      try go_wp2_with fail
      refine hK.out _ _ (HS.out _ (hS2)) (fun hHeld => ?_)
      clear hK K
      try simp only [Act.put, List.setIfInBounds_toArray, List.set_cons_zero, List.set_cons_succ]
      refine wpAnyH_ready (rs := [12]) (by kernel_rfl) (by simp) ?_
      refine AllReadyH.cons (o := ?oc12) ?hoc12 (fun K hK => ?hsc12) AllReadyH.nil
      case hoc12 => (simp only [List.getElem?_toArray, List.getElem?_cons_succ, List.getElem?_cons_zero]; rfl)
      go_simp
      refine (HW2.out _).mono ?_
      rintro e w3 ⟨rfl, rfl⟩
      try go_wp2_with fail
      refine hK.out _ _ (HS.out _ (hS2)) (fun hHeld => ?_)
      clear hK K
      try simp only [Act.put, List.setIfInBounds_toArray, List.set_cons_zero, List.set_cons_succ]
      refine tk 13 hHeld (h := ?_)
      refine tk 14 hHeld (h := ?_)
      refine tk 15 hHeld (h := ?_)
      refine tk 16 hHeld (h := ?_)
      refine tk 17 hHeld (h := ?_)
      refine wpAnyH_ready (rs := [18]) (by kernel_rfl) (by simp) ?_
      refine AllReadyH.cons (o := ?oc18) ?hoc18 (fun K hK => ?hsc18) AllReadyH.nil
      case hoc18 => (simp only [List.getElem?_toArray, List.getElem?_cons_succ, List.getElem?_cons_zero]; rfl)
      go_simp
      refine (HLV.out _).mono ?_
      rintro e w4 ⟨rfl, hb4⟩
      have hS4 := heldB hS2 hb4 (Nat.le_refl _)
      try go_wp2_with fail
      refine hK.out _ _ (HS.out _ (hS4)) (fun hHeld => ?_)
      clear hK K
      try simp only [Act.put, List.setIfInBounds_toArray, List.set_cons_zero, List.set_cons_succ]
      refine wpAnyH_ready (rs := [19]) (by kernel_rfl) (by simp) ?_
      refine AllReadyH.cons (o := ?oc19) ?hoc19 (fun K hK => ?hsc19) AllReadyH.nil
      case hoc19 => (simp only [List.getElem?_toArray, List.getElem?_cons_succ, List.getElem?_cons_zero]; rfl)
      go_simp
      refine (HW3.out _).mono ?_
      rintro e w5 ⟨rfl, rfl⟩
      try go_wp2_with fail
      refine hK.out _ _ (HS.out _ (hS4)) (fun hHeld => ?_)
      clear hK K
      try simp only [Act.put, List.setIfInBounds_toArray, List.set_cons_zero, List.set_cons_succ]
      refine tk 20 hHeld (h := ?_)
      refine tk 21 hHeld (h := ?_)
      refine wpAnyH_done (by kernel_rfl) ?_ _
      go_wp2
      go_ret
      exact ⟨rfl, HB.out.trans ((hS4).mono (by omega))⟩
end Go.Proofs.YtgaoeoijdpdjiabGreatDoor

namespace Go.Proofs.YtgaoeoijdpdjiabGreatDoor
open Go.RowKit

set_option maxRecDepth 20000 in
set_option maxHeartbeats 8000000 in
theorem join_yes (k b x t l a0 a1 a2 a3 a4 a5 idx : Int) (n g c : Nat) (rnd cs : ByteArray) (w : World) (hw1 : IntKind.i64.wrap (a2 + t) = a2 + t) (hw2 : IntKind.i64.wrap (l * (a2 + t)) = (n : Int)) (z1 : rnd.size ≤ 16) (z2 : cs.size ≤ 1000)
    (hM : ∀ V : World, Calls Tryz.prog 155 #[.agg #[.int .i64 k, .int .i64 b, .int .i64 x, .int .i64 t, .int .i64 l]] V fun e w' => e = .returned (.tuple #[.agg #[.int .i64 a0, .int .i64 a1, .int .i64 a2, .int .i64 a3, .int .i64 a4, .int .i64 a5], .int .i64 0]) ∧ Below V.heap.size V w')
    (hI : ∀ V : World, Calls Tryz.prog 157 #[.agg #[.int .i64 k, .int .i64 b, .int .i64 x, .int .i64 t, .int .i64 l], .int .i64 idx] V fun e w' => e = .returned (.bool true) ∧ Below V.heap.size V w')
    (hV1 : ∀ (V : World) (B : Nat), B = V.heap.size → Calls Tryz.prog 159 #[.agg #[.int .i64 k, .int .i64 b, .int .i64 x, .int .i64 t, .int .i64 l], .slice (some ⟨B, 0, none⟩) 1 1] (V.alloc (.cells #[.string rnd] 9)) fun e w' => e = .returned (.bool true) ∧ Below (V.alloc (.cells #[.string rnd] 9)).heap.size (V.alloc (.cells #[.string rnd] 9)) w')
    (hV2 : ∀ V : World, Below w.heap.size w V → Calls Tryz.prog 159 #[.agg #[.int .i64 k, .int .i64 b, .int .i64 x, .int .i64 t, .int .i64 l], .slice (some ⟨g, 0, none⟩) n c] V fun e w' => e = .returned (.bool true) ∧ Below V.heap.size V w')
    (hJ : ∀ V : World, Below w.heap.size w V → Calls Tryz.prog 161 #[.slice (some ⟨g, 0, none⟩) n c, .string ⟨#[]⟩] V fun e w' => e = .returned (.string cs) ∧ Below V.heap.size V w') :
    Calls Tryz.prog 85 #[.agg #[.int .i64 k, .int .i64 b, .int .i64 x, .int .i64 t, .int .i64 l], .agg #[.int .i64 idx, .string rnd, .slice (some ⟨g, 0, none⟩) n c]] w fun r w' => r = .returned (.tuple #[.string (numB 4 idx ++ rnd ++ cs), .int .i64 0]) ∧ Below w.heap.size w w' := by
  have HM := hide hM
  have HI := hide hI
  have HV1 := hide hV1
  have HV2 := hide hV2
  have HJ := hide hJ
  have HN := hide (fun V : World => number_any 4 idx V (by decide))
  have cc1 := sadd (numB 4 idx) rnd (by rw [numB_size]; omega) (by omega)
  have cc2 := sadd (numB 4 idx ++ rnd) cs (by simp only [ByteArray.size_append, numB_size]; omega) (by omega)
  clear hM hI hV1 hV2 hJ
  generalize numB 4 idx ++ rnd ++ cs = res at cc2 ⊢
  generalize numB 4 idx ++ rnd = hd at cc1 cc2
  generalize numB 4 idx = nb at HN cc1
  obtain ⟨W0, hW⟩ : ∃ W0, (w.alloc (.cells #[.int .i64 k, .int .i64 b, .int .i64 x, .int .i64 t, .int .i64 l] 26)).alloc (.cells #[.int .i64 idx, .string rnd, .slice (some ⟨g, 0, none⟩) n c] 29) = W0 := ⟨_, rfl⟩
  have HK := hide (show Blk W0 w.heap.size [.int .i64 k, .int .i64 b, .int .i64 x, .int .i64 t, .int .i64 l] 26 by rw [← hW]; exact (Blk.new w _ _).alloc _)
  have HPA := hide (show Blk W0 (w.heap.size + 1) [.int .i64 idx, .string rnd, .slice (some ⟨g, 0, none⟩) n c] 29 by
    rw [← hW]
    have h := Blk.new (w.alloc (.cells #[.int .i64 k, .int .i64 b, .int .i64 x, .int .i64 t, .int .i64 l] 26)) [.int .i64 idx, .string rnd, .slice (some ⟨g, 0, none⟩) n c] 29
    simp only [World.size_alloc] at h
    exact h)
  have HB := hide (show Below w.heap.size w W0 by subst hW; exact ((Below.refl _ _).alloc (Nat.le_refl _) _).alloc (by simp) _)
  have HS := hide (fun (V : World) (h : Below W0.heap.size W0 V) => (by
    have q1 := HK.out.on h
    have q2 := HPA.out.on h
    exact ⟨q1.cell 0, q1.cell 1, q1.cell 2, q1.cell 3, q1.cell 4, q2.cell 0, q2.cell 1, q2.cell 2⟩ : V.cell? ⟨w.heap.size, 0, none⟩ = some (.int .i64 k) ∧ V.cell? ⟨w.heap.size, 1, none⟩ = some (.int .i64 b) ∧ V.cell? ⟨w.heap.size, 2, none⟩ = some (.int .i64 x) ∧ V.cell? ⟨w.heap.size, 3, none⟩ = some (.int .i64 t) ∧ V.cell? ⟨w.heap.size, 4, none⟩ = some (.int .i64 l) ∧ V.cell? ⟨w.heap.size + 1, 0, none⟩ = some (.int .i64 idx) ∧ V.cell? ⟨w.heap.size + 1, 1, none⟩ = some (.string rnd) ∧ V.cell? ⟨w.heap.size + 1, 2, none⟩ = some (.slice (some ⟨g, 0, none⟩) n c)))
  obtain ⟨c0, c1, c2, c3, c4, d0, d1, d2⟩ := HS.out W0 (Below.refl _ _)
  have HWE := hide hW
  clear hW
  go_enter Tryz.func85, Tryz.ntmps85
  go_wp2_with fail
  rw [HWE.out]
  refine (HM.out _).mono ?_
  rintro e w1 ⟨rfl, hb1⟩
  have HB1 := hide (heldB (Below.refl W0.heap.size W0) hb1 (Nat.le_refl _))
  clear hb1 c0 c1 c2 c3 c4 d0 d1 d2 HWE
  have HB2 := hide (HB1.out.alloc HB1.out.size (.cells #[.int .i64 a0, .int .i64 a1, .int .i64 a2, .int .i64 a3, .int .i64 a4, .int .i64 a5] 158))
  have HZ2 := hide (Blk.new w1 [.int .i64 a0, .int .i64 a1, .int .i64 a2, .int .i64 a3, .int .i64 a4, .int .i64 a5] 158)
  obtain ⟨W2, hW2⟩ : ∃ W2, w1.alloc (.cells #[.int .i64 a0, .int .i64 a1, .int .i64 a2, .int .i64 a3, .int .i64 a4, .int .i64 a5] 158) = W2 := ⟨_, rfl⟩
  rw [hW2] at HB2 HZ2
  obtain ⟨c0, c1, c2, c3, c4, d0, d1, d2⟩ := HS.out W2 HB2.out
  go_wp2_with fail
  try rw [hW2]
  clear hW2
  refine (HI.out _).mono ?_
  rintro e w3 ⟨rfl, hb3⟩
  have HB3 := hide (heldB HB2.out hb3 (Nat.le_refl _))
  have HZ3 := hide (HZ2.out.on hb3)
  clear hb3 c0 c1 c2 c3 c4 d0 d1 d2 HB2 HZ2
  obtain ⟨c0, c1, c2, c3, c4, d0, d1, d2⟩ := HS.out w3 HB3.out
  have z2' := HZ3.out.cell 2
  simp only [List.getElem?_cons_zero, List.getElem?_cons_succ] at z2'
  have HV1a := hide (HV1.out w3 w3.heap.size rfl)
  go_wp2_with fail
  refine HV1a.out.mono ?_
  rintro e w4 ⟨rfl, hb4⟩
  have HB4 := hide (heldB (HB3.out.alloc HB3.out.size _) hb4 (Nat.le_refl _))
  clear hb4 c0 c1 c2 c3 c4 d0 d1 d2 z2' HV1a
  obtain ⟨c0, c1, c2, c3, c4, d0, d1, d2⟩ := HS.out w4 HB4.out
  have HV2a := hide (HV2.out w4 (HB.out.trans (HB4.out.mono HB.out.size)))
  go_wp2_with fail
  refine HV2a.out.mono ?_
  rintro e w5 ⟨rfl, hb5⟩
  have HB5 := hide (heldB HB4.out hb5 (Nat.le_refl _))
  clear hb5 c0 c1 c2 c3 c4 d0 d1 d2 HV2a
  go_wp2_with fail
  have HSW := hide (fun (V : World) (h : Below w5.heap.size w5 V) => HS.out V (heldB HB5.out h (Nat.le_refl _)))
  have HBW := hide (fun (V : World) (h : Below w5.heap.size w5 V) => HB.out.trans ((heldB HB5.out h (Nat.le_refl _)).mono HB.out.size))
  go_region_held3 (fun V => V.cell? ⟨w.heap.size, 0, none⟩ = some (.int .i64 k) ∧ V.cell? ⟨w.heap.size, 1, none⟩ = some (.int .i64 b) ∧ V.cell? ⟨w.heap.size, 2, none⟩ = some (.int .i64 x) ∧ V.cell? ⟨w.heap.size, 3, none⟩ = some (.int .i64 t) ∧ V.cell? ⟨w.heap.size, 4, none⟩ = some (.int .i64 l) ∧ V.cell? ⟨w.heap.size + 1, 0, none⟩ = some (.int .i64 idx) ∧ V.cell? ⟨w.heap.size + 1, 1, none⟩ = some (.string rnd) ∧ V.cell? ⟨w.heap.size + 1, 2, none⟩ = some (.slice (some ⟨g, 0, none⟩) n c)) (first | exact HSW.out _ hS2 | exact HSW.out _ hS1 | exact HSW.out _ (Below.refl w5.heap.size w5).drew) (first | (go_at_call 160; refine (HN.out _).mono ?_; rintro e w6 ⟨rfl, hb6⟩; have hS1 := heldB (Below.refl w5.heap.size w5).drew hb6 (Nat.le_refl _)) | (go_at_call 161; refine (HJ.out _ (HBW.out _ hS1)).mono ?_; rintro e w7 ⟨rfl, hb7⟩; have hS2 := heldB hS1 hb7 (Nat.le_refl _)))
  have HB7 := hide (HBW.out _ hS2)
  clear hS1 hS2 hb6 hb7
  go_wp2
  go_ret2
  exact ⟨rfl, HB7.out⟩
end Go.Proofs.YtgaoeoijdpdjiabGreatDoor

namespace Go.Proofs.YtgaoeoijdpdjiabGreatDoor
open Go.RowKit

set_option maxRecDepth 20000 in
theorem spotOf_any (k b x t l : Int) (sec rnd pub sd : ByteArray) (p0 p1 p2 p3 ch F i : Int) (w : World) :
    Calls Tryz.prog 269 #[.agg #[.int .i64 k, .int .i64 b, .int .i64 x, .int .i64 t, .int .i64 l, .string sec, .string rnd, .string pub, .int .i64 p0, .int .i64 p1, .int .i64 p2, .int .i64 p3, .int .i64 ch], .string sd, .int .i64 F, .int .i64 i] w fun e w' => e = .returned (.agg #[.int .i64 k, .int .i64 b, .int .i64 x, .int .i64 t, .int .i64 l, .string sd, .int .i64 p0, .int .i64 p1, .int .i64 F, .int .i64 i]) ∧ Below w.heap.size w w' := by
  go_enter Tryz.func269, Tryz.ntmps269
  go_wp2
  refine bodyPost_ret (v := .agg #[.int .i64 k, .int .i64 b, .int .i64 x, .int .i64 t, .int .i64 l, .string sd, .int .i64 p0, .int .i64 p1, .int .i64 F, .int .i64 i]) (by simp [results, Tryz.results269, go_sem]) rfl ⟨rfl, ?_⟩
  first
    | exact (((Below.refl _ _).alloc (Nat.le_refl _) _).alloc (by simp) _).alloc (by simp; omega) _
    | (repeat refine Below.setCell ?_ (by simp <;> omega) _
       exact (((Below.refl _ _).alloc (Nat.le_refl _) _).alloc (by simp) _).alloc (by simp; omega) _)
end Go.Proofs.YtgaoeoijdpdjiabGreatDoor

namespace Go.Proofs.YtgaoeoijdpdjiabGreatDoor
open Go.RowKit

set_option maxRecDepth 20000 in
set_option maxHeartbeats 4000000 in
theorem signing_any (k b x l : Int) (t q idx : Nat) (w : World) (h1 : 1 ≤ t) (h2 : t ≤ 4) (hq : q ≤ 3) (hi : idx ≤ 100000) :
    Calls Tryz.prog 240 #[.agg #[.int .i64 k, .int .i64 b, .int .i64 x, .int .i64 t, .int .i64 l], .int .i64 idx, .int .i64 q] w fun e w' => e = .returned (.agg #[.int .i64 q, .int .i64 ((idx / 2 ^ (t * q) / 2 ^ t : Nat) : Int), .int .i64 ((idx / 2 ^ (t * q) % 2 ^ t : Nat) : Int), .int .i64 0]) ∧ Below w.heap.size w w' := by
  obtain ⟨d, hd⟩ : ∃ d, t * q = d := ⟨_, rfl⟩
  have hd12 : d ≤ 12 := by rw [← hd]; exact Nat.le_trans (Nat.mul_le_mul h2 hq) (by decide)
  have hw1 : IntKind.i64.wrap ((t : Int) * (q : Int)) = (d : Int) := by
    have e : (t : Int) * (q : Int) = (d : Int) := by rw [← hd, Int.natCast_mul]
    rw [e, IntKind.wrap_i64] <;> omega
  rw [hd]
  obtain ⟨N, hN⟩ : ∃ N, idx / 2 ^ d = N := ⟨_, rfl⟩
  have hNb : N ≤ 100000 := by rw [← hN]; exact Nat.le_trans (Nat.div_le_self _ _) hi
  have hsh : (idx : Int) / 2 ^ d = (N : Int) := by rw [← hN, Int.natCast_ediv, Int.natCast_pow]; rfl
  rw [hN]
  have HL := hide (fun V : World => setsLeaves_any k b x l t V h1 h2)
  obtain ⟨L, hL⟩ : ∃ L : Nat, 2 ^ t = L := ⟨_, rfl⟩
  have hL1 : 1 ≤ L := by rw [← hL]; exact Nat.one_le_two_pow
  rw [hL] at HL ⊢
  have hL0 : L ≠ 0 := by omega
  obtain ⟨A, hA⟩ : ∃ A : Nat, N / L = A := ⟨_, rfl⟩
  obtain ⟨C, hC⟩ : ∃ C : Nat, N % L = C := ⟨_, rfl⟩
  have hdv : Int.tdiv (N : Int) (L : Int) = (A : Int) := by rw [← hA, Int.tdiv_eq_ediv_of_nonneg (by omega)]; exact (Int.natCast_ediv _ _).symm
  have hmd : Int.tmod (N : Int) (L : Int) = (C : Int) := by rw [← hC, Int.tmod_eq_emod_of_nonneg (by omega)]; exact (Int.natCast_emod _ _).symm
  have hAb : A ≤ 100000 := by rw [← hA]; exact Nat.le_trans (Nat.div_le_self _ _) hNb
  have hCb : C ≤ 100000 := by rw [← hC]; exact Nat.le_trans (Nat.mod_le _ _) hNb
  have hv1 : IntKind.i64.wrap (A : Int) = (A : Int) := by rw [IntKind.wrap_i64] <;> omega
  have hv2 : IntKind.i64.wrap (C : Int) = (C : Int) := by rw [IntKind.wrap_i64] <;> omega
  rw [hA, hC]
  clear hA hC
  clear hL hd hN
  obtain ⟨W0, hW⟩ : ∃ W0, (w.alloc (.cells #[.int .i64 k, .int .i64 b, .int .i64 x, .int .i64 t, .int .i64 l] 26)).alloc (.cells #[.int .i64 0, .int .i64 0, .int .i64 0, .int .i64 0] 91) = W0 := ⟨_, rfl⟩
  have HF := hide (show FiveC w.heap.size W0 k b x t l by subst hW; refine ⟨?_, ?_, ?_, ?_, ?_⟩ <;> simp [go_sem])
  have HB := hide (show Below w.heap.size w W0 by subst hW; exact ((Below.refl _ _).alloc (Nat.le_refl _) _).alloc (by simp) _)
  have hz : W0.heap.size ≤ w.heap.size + 2 := by subst hW; simp
  have hz' : w.heap.size + 2 ≤ W0.heap.size := by subst hW; simp
  have HBK := hide (show Blk W0 (w.heap.size + 1) [.int .i64 0, .int .i64 0, .int .i64 0, .int .i64 0] 91 by
    subst hW
    have h := Blk.new (w.alloc (.cells #[.int .i64 k, .int .i64 b, .int .i64 x, .int .i64 t, .int .i64 l] 26)) [.int .i64 0, .int .i64 0, .int .i64 0, .int .i64 0] 91
    simp only [World.size_alloc] at h
    exact h)
  have HS5 := hide (fun (V : World) (h : Below (w.heap.size + 1) W0 V) => (HF.out.below h (by omega) : V.cell? ⟨w.heap.size, 0, none⟩ = some (.int .i64 k) ∧ V.cell? ⟨w.heap.size, 1, none⟩ = some (.int .i64 b) ∧ V.cell? ⟨w.heap.size, 2, none⟩ = some (.int .i64 x) ∧ V.cell? ⟨w.heap.size, 3, none⟩ = some (.int .i64 t) ∧ V.cell? ⟨w.heap.size, 4, none⟩ = some (.int .i64 l)))
  have HS := hide (fun (V : World) (h : Below W0.heap.size W0 V) => HS5.out V (h.mono (by omega)))
  obtain ⟨c0, c1, c2, c3, c4⟩ := HS.out W0 (Below.refl _ _)
  have HWE := hide hW
  clear hW
  go_enter Tryz.func240, Tryz.ntmps240
  go_wp2_with fail
  rw [HWE.out]
  clear c0 c1 c2 c3 c4
  refine wp_region_held_drew (S := fun V => V.cell? ⟨w.heap.size, 0, none⟩ = some (.int .i64 k) ∧ V.cell? ⟨w.heap.size, 1, none⟩ = some (.int .i64 b) ∧ V.cell? ⟨w.heap.size, 2, none⟩ = some (.int .i64 x) ∧ V.cell? ⟨w.heap.size, 3, none⟩ = some (.int .i64 t) ∧ V.cell? ⟨w.heap.size, 4, none⟩ = some (.int .i64 l)) (by kernel_rfl) (HS.out _ ((Below.refl W0.heap.size W0).drew)) (fun hHeld => ?_)
  refine tk 0 hHeld (h := ?_)
  refine tk 1 hHeld (h := ?_)
  refine tk 2 hHeld (h := ?_)
  refine tk 5 hHeld (h := ?_)
  refine tk 6 hHeld (h := ?_)
  refine wpAnyH_ready (rs := [3]) (by kernel_rfl) (by simp) ?_
  refine AllReadyH.cons (o := ?oa3) ?hoa3 (fun K hK => ?hsa3) AllReadyH.nil
  case hoa3 => (simp only [List.getElem?_toArray, List.getElem?_cons_succ, List.getElem?_cons_zero]; rfl)
  go_simp
  go_at_call 282
  refine (HL.out _).mono ?_
  rintro e w1 ⟨rfl, hb1⟩
  have hS1 := heldB (Below.refl W0.heap.size W0).drew hb1 (Nat.le_refl _)
  have HB1 := hide hS1
  clear hb1 hS1
  try go_wp2_with fail
  refine hK.out _ _ (HS.out _ (HB1.out)) (fun hHeld => ?_)
  clear hK K
  try simp only [Act.put, List.setIfInBounds_toArray, List.set_cons_zero, List.set_cons_succ]
  refine tk 4 hHeld (h := ?_)
  refine wpAnyH_ready (rs := [7]) (by kernel_rfl) (by simp) ?_
  refine AllReadyH.cons (o := ?oa7) ?hoa7 (fun K hK => ?hsa7) AllReadyH.nil
  case hoa7 => (simp only [List.getElem?_toArray, List.getElem?_cons_succ, List.getElem?_cons_zero]; rfl)
  go_simp
  go_at_call 282
  refine (HL.out _).mono ?_
  rintro e w2 ⟨rfl, hb2⟩
  have hS2 := heldB HB1.out hb2 (Nat.le_refl _)
  have HB2 := hide hS2
  have HK2 := hide (HBK.out.below hS2 (by omega))
  clear hb2 hS2
  try go_wp2_with fail
  refine hK.out _ _ (HS.out _ (HB2.out)) (fun hHeld => ?_)
  clear hK K
  try simp only [Act.put, List.setIfInBounds_toArray, List.set_cons_zero, List.set_cons_succ]
  refine tk 8 hHeld (h := ?_)
  refine tk 9 hHeld (h := ?_)
  have r0 := HK2.out.cell 0
  have r1 := HK2.out.cell 1
  have r2 := HK2.out.cell 2
  have r3 := HK2.out.cell 3
  have f0 := HK2.out.free 0
  have f1 := HK2.out.free 1
  have f2 := HK2.out.free 2
  have f3 := HK2.out.free 3
  simp only [List.getElem?_cons_zero, List.getElem?_cons_succ] at r0 r1 r2 r3
  refine wpAnyH_ready (rs := [10]) (by kernel_rfl) (by simp) ?_
  refine AllReadyH.cons (o := ?oa10) ?hoa10 (fun K hK => ?hsa10) AllReadyH.nil
  case hoa10 => (simp only [List.getElem?_toArray, List.getElem?_cons_succ, List.getElem?_cons_zero]; rfl)
  go_simp
  refine hK.out _ _ (HS5.out _ (((((HB2.out.mono (by omega)).setCell (by simp <;> omega) _).setCell (by simp <;> omega) _).setCell (by simp <;> omega) _).setCell (by simp <;> omega) _)) (fun hHeld => ?_)
  clear hK K
  try simp only [Act.put, List.setIfInBounds_toArray, List.set_cons_zero, List.set_cons_succ]
  refine wpAnyH_done (by kernel_rfl) ?_ _
  go_wp2
  refine bodyPost_ret (v := .agg #[.int .i64 q, .int .i64 A, .int .i64 C, .int .i64 0]) (by simp [results, Tryz.results240, go_sem, r0, r1, r2, r3]) rfl ⟨rfl, ?_⟩
  have HBB := HB.out.trans (HB2.out.mono (by omega))
  iterate 4 refine Below.setCell ?_ (by simp <;> omega) _
  exact HBB
end Go.Proofs.YtgaoeoijdpdjiabGreatDoor

namespace Go.Proofs.YtgaoeoijdpdjiabGreatDoor
open Go.RowKit

set_option maxRecDepth 20000 in
set_option maxHeartbeats 4000000 in
theorem tjoin_any (k b x t l : Int) (sec rnd pub : ByteArray) (p0 p1 p2 p3 h j : Int) (ch : Nat) (y z : ByteArray) (w : World) (hk : k = 1 ∨ k = 2) (h1 : 1 ≤ b) (h2 : b ≤ 16) (hp : pub.size ≤ 16) (hy : y.size ≤ 16) (hz : z.size ≤ 16) (hT : Tn w) :
    Calls Tryz.prog 211 #[.agg #[.int .i64 k, .int .i64 b, .int .i64 x, .int .i64 t, .int .i64 l, .string sec, .string rnd, .string pub, .int .i64 p0, .int .i64 p1, .int .i64 p2, .int .i64 p3, .int .i64 ch], .int .i64 h, .int .i64 j, .string y, .string z] w fun e w' => e = .returned (.string (joinS k b pub p0 p1 h j y z)) ∧ Below w.heap.size w w' := by
  have HJ := hide (fun (V : World) (hV : Tn V) => sjoin_any k b x t l pub p0 p1 p2 p3 h j y z V hk h1 h2 hp hy hz hV)
  have HT := hide (hT.alloc (.cells #[.int .i64 k, .int .i64 b, .int .i64 x, .int .i64 t, .int .i64 l, .string sec, .string rnd, .string pub, .int .i64 p0, .int .i64 p1, .int .i64 p2, .int .i64 p3, .int .i64 ch] 274))
  clear hT
  go_enter Tryz.func211, Tryz.ntmps211
  go_wp2_with fail
  refine (HJ.out _ HT.out).mono ?_
  rintro e w1 ⟨rfl, hb1⟩
  have HB1 := hide (((Below.refl w.heap.size w).alloc (Nat.le_refl _) _).trans (hb1.mono (by simp)))
  clear hb1
  go_wp2
  go_ret
  exact ⟨rfl, HB1.out⟩

end Go.Proofs.YtgaoeoijdpdjiabGreatDoor

namespace Go.Proofs.YtgaoeoijdpdjiabGreatDoor
open Go.RowKit

/-- What Make and Open have found out so far. -/
def opC (D : Nat) (id : ByteArray) (tot : Int) (fv : Value) (q b : Int) (d : ByteArray) : List Value := [.pointer (some ⟨D, 0, none⟩), .string id, .int .i64 tot, fv, .int .i64 q, .int .i64 b, .string d]

set_option maxRecDepth 20000 in
set_option maxHeartbeats 2000000 in
theorem layFirst_on (Q : Int → World → Prop) (O D : Nat) (id i0 : ByteArray) (tot s0 b0 : Int) (fv : Value) (w W : World) (hO : Blk w O (opC D id tot fv s0 b0 i0) 246)
    (hW : ((w.setCell ⟨O, 4, none⟩ (.int .i64 1)).setCell ⟨O, 5, none⟩ (.int .i64 0)).setCell ⟨O, 6, none⟩ (.string id) = W)
    (hQ : ∀ c V, Q c V → Blk V O (opC D id tot fv 1 0 id) 246)
    (hL : ∀ V : World, Below W.heap.size W V → Calls Tryz.prog 183 #[.pointer (some ⟨D, 0, none⟩), .agg #[.int .i64 1, .int .i64 0, .string id]] V fun e w' => ∃ c, e = .returned (.int .i64 c) ∧ Q c w') :
    Calls Tryz.prog 111 #[.pointer (some ⟨O, 0, none⟩)] w fun e w' => ∃ c, e = .returned (.int .i64 c) ∧ Q c w' := by
  have HL := hide hL
  have c0 : w.cell? ⟨O, 0, none⟩ = some (.pointer (some ⟨D, 0, none⟩)) := hO.cell 0
  have c1 : w.cell? ⟨O, 1, none⟩ = some (.string id) := hO.cell 1
  have c4 : w.cell? ⟨O, 4, none⟩ = some (.int .i64 s0) := hO.cell 4
  have c5 : w.cell? ⟨O, 5, none⟩ = some (.int .i64 b0) := hO.cell 5
  have c6 : w.cell? ⟨O, 6, none⟩ = some (.string i0) := hO.cell 6
  have f4 := hO.free 4
  have f5 := hO.free 5
  have f6 := hO.free 6
  have HBW := hide (show Blk W O (opC D id tot fv 1 0 id) 246 by rw [← hW]; exact ((hO.set 4 _).set 5 _).set 6 _)
  have HS := hide (fun (V : World) (h : Blk V O (opC D id tot fv 1 0 id) 246) => (⟨h.cell 0, h.cell 4, h.cell 5, h.cell 6⟩ : V.cell? ⟨O, 0, none⟩ = some (.pointer (some ⟨D, 0, none⟩)) ∧ V.cell? ⟨O, 4, none⟩ = some (.int .i64 1) ∧ V.cell? ⟨O, 5, none⟩ = some (.int .i64 0) ∧ V.cell? ⟨O, 6, none⟩ = some (.string id)))
  have HQ := hide hQ
  have HWE := hide hW
  clear hL hQ hW hO
  go_enter Tryz.func111, Tryz.ntmps111
  go_wp2_with fail
  rw [HWE.out]
  clear c0 c1 c4 c5 c6 f4 f5 f6
  have hS : Blk W.drew O (opC D id tot fv 1 0 id) 246 := HBW.out
  go_region_held3 (fun V => V.cell? ⟨O, 0, none⟩ = some (.pointer (some ⟨D, 0, none⟩)) ∧ V.cell? ⟨O, 4, none⟩ = some (.int .i64 1) ∧ V.cell? ⟨O, 5, none⟩ = some (.int .i64 0) ∧ V.cell? ⟨O, 6, none⟩ = some (.string id)) (exact HS.out _ hS) (first | (go_at_call 183; refine (HL.out _ (Below.refl W.heap.size W).drew).mono ?_; rintro e wN ⟨c, rfl, hq⟩; have hS := HQ.out _ _ hq))
  have HQ9 := hide hq
  clear hq hS
  go_wp2
  go_ret
  exact ⟨c, rfl, HQ9.out⟩
end Go.Proofs.YtgaoeoijdpdjiabGreatDoor

namespace Go.Proofs.YtgaoeoijdpdjiabGreatDoor
open Go.RowKit

set_option maxRecDepth 20000 in
set_option maxHeartbeats 4000000 in
theorem sclimb_any (k b x t l : Int) (seed : ByteArray) (p0 p1 p3 : Int) (F : Nat) (g o c : Nat) (path : List ByteArray) (y : ByteArray) (w : World) (hcells : ∀ (j : Nat) z, path[j]? = some z → w.cell? ⟨g, o + j, none⟩ = some (.string z)) (hg : g < w.heap.size) (hN : path.length ≤ 64) (hF : F ≤ 1000)
    (hk : k = 1 ∨ k = 2) (h1 : 1 ≤ b) (h2 : b ≤ 16) (hs : seed.size ≤ 16) (hy : (y.size : Int) = b) (hxs : ∀ z ∈ path, (z.size : Int) = b) (hT : Tn w) :
    Calls Tryz.prog 286 #[.agg #[.int .i64 k, .int .i64 b, .int .i64 x, .int .i64 t, .int .i64 l, .string seed, .int .i64 p0, .int .i64 p1, .int .i64 F, .int .i64 p3], .string y, .slice (some ⟨g, o, none⟩) path.length c] w fun e w' => e = .returned (.string (climbS k b seed p0 p1 F path y path.length)) ∧ Below w.heap.size w w' := by
  obtain ⟨p2, hp2⟩ : ∃ p2 : Int, p2 = (F : Int) := ⟨_, rfl⟩
  rw [← hp2]
  obtain ⟨W0, hW⟩ : ∃ W0, w.alloc (.cells #[.int .i64 k, .int .i64 b, .int .i64 x, .int .i64 t, .int .i64 l, .string seed, .int .i64 p0, .int .i64 p1, .int .i64 p2, .int .i64 p3] 344) = W0 := ⟨_, rfl⟩
  have HF := hide (show TenC w.heap.size W0 k b x t l seed p0 p1 p2 p3 by subst hW; refine ⟨?_, ?_, ?_, ?_, ?_, ?_, ?_, ?_, ?_, ?_⟩ <;> simp [go_sem])
  have HB := hide (show Below w.heap.size w W0 by subst hW; exact (Below.refl _ _).alloc (Nat.le_refl _) _)
  have hz : W0.heap.size = w.heap.size + 1 := by subst hW; simp
  have HT := hide (hT.on HB.out)
  have HS := hide (fun (V : World) (h : Below W0.heap.size W0 V) => (by
    obtain ⟨c0, c1, c2, c3, c4, c5, c6, c7, c8, c9⟩ := HF.out.below h (by omega)
    exact ⟨c0, c1, c2, c3, c4, c5, c6, c7, c8, c9, h⟩ : V.cell? ⟨w.heap.size, 0, none⟩ = some (.int .i64 k) ∧ V.cell? ⟨w.heap.size, 1, none⟩ = some (.int .i64 b) ∧ V.cell? ⟨w.heap.size, 2, none⟩ = some (.int .i64 x) ∧ V.cell? ⟨w.heap.size, 3, none⟩ = some (.int .i64 t) ∧ V.cell? ⟨w.heap.size, 4, none⟩ = some (.int .i64 l) ∧ V.cell? ⟨w.heap.size, 5, none⟩ = some (.string seed) ∧ V.cell? ⟨w.heap.size, 6, none⟩ = some (.int .i64 p0) ∧ V.cell? ⟨w.heap.size, 7, none⟩ = some (.int .i64 p1) ∧ V.cell? ⟨w.heap.size, 8, none⟩ = some (.int .i64 p2) ∧ V.cell? ⟨w.heap.size, 9, none⟩ = some (.int .i64 p3) ∧ Below W0.heap.size W0 V))
  have HC0 := hide (fun (V : World) (hb : Below W0.heap.size W0 V) (j : Nat) (z : ByteArray) (hj : path[j]? = some z) => (hb.cell (p := ⟨g, o + j, none⟩) (by show g < _; omega)).trans ((HB.out.cell (p := ⟨g, o + j, none⟩) hg).trans (hcells j z hj)))
  have HCS := hide (climbS_size k b seed p0 p1 F path y hk h1 h2 hs hy hxs)
  have HJ := hide (fun (h j : Int) (u z : ByteArray) (hu : u.size ≤ 16) (hz : z.size ≤ 16) (V : World) (hb : Below W0.heap.size W0 V) => sjoin_any k b x t l seed p0 p1 p2 p3 h j u z V hk h1 h2 hs hu hz (HT.out.on hb))
  have HXS := hide hxs
  have HP2 := hide hp2
  clear hT hcells hxs hp2
  obtain ⟨c0, c1, c2, c3, c4, c5, c6, c7, c8, c9, _⟩ := HS.out W0 (Below.refl _ _)
  go_enter Tryz.func286, Tryz.ntmps286
  go_wp2_with fail
  try rw [hW]
  clear hW c0 c1 c2 c3 c4 c5 c6 c7 c8 c9
  go_loopw [1, 7, 17] (fun u n i wr => ∃ m : Nat, m ≤ path.length ∧ i = .int .i64 m ∧ n = .int .i64 ((F / 2 ^ m : Nat) : Int) ∧ u = .string (climbS k b seed p0 p1 F path y m) ∧ Hid (Below W0.heap.size W0 wr)) (fun _ _ i _ => path.length - (intOf i).toNat)
  case atStart => exact ⟨0, Nat.zero_le _, rfl, by rw [HP2.out]; simp, rfl, Below.refl _ _⟩
  case round =>
    obtain ⟨m, hm, rfl, rfl, rfl, hb⟩ := hrel
    by_cases hlt : m < path.length
    · obtain ⟨z, hz0⟩ : ∃ z, path[m]? = some z := ⟨_, List.getElem?_eq_getElem hlt⟩
      have cz := HC0.out wr hb.out m z hz0
      have hz : z.size ≤ 16 := by have := HXS.out z (List.mem_of_getElem? hz0); omega
      have HGD := hide (show path.getD m ⟨#[]⟩ = z by rw [List.getD_eq_getElem?_getD, hz0]; rfl)
      have HCM := hide (HCS.out m hm)
      have HST : Hid (climbS k b seed p0 p1 F path y (m + 1) = if F / 2 ^ m % 2 = 0 then joinS k b seed p0 p1 (m + 1 : Nat) (F / 2 ^ (m + 1) : Nat) (climbS k b seed p0 p1 F path y m) (path.getD m ⟨#[]⟩) else joinS k b seed p0 p1 (m + 1 : Nat) (F / 2 ^ (m + 1) : Nat) (path.getD m ⟨#[]⟩) (climbS k b seed p0 p1 F path y m)) := rfl
      rw [HGD.out] at HST
      have hu : (climbS k b seed p0 p1 F path y m).size ≤ 16 := by have := HCM.out; omega
      have hq1 : F / 2 ^ m ≤ 1000 := Nat.le_trans (Nat.div_le_self _ _) hF
      have HQ : Hid (F / 2 ^ m / 2 = F / 2 ^ (m + 1)) := by show F / 2 ^ m / 2 = F / 2 ^ (m + 1); rw [Nat.div_div_eq_div_mul, ← Nat.pow_succ]
      obtain ⟨q2, HQ2⟩ : ∃ q2, Hid (F / 2 ^ m / 2 = q2) := ⟨_, rfl⟩
      have hq2 : q2 ≤ 1000 := by have := HQ2.out; omega
      have hdv : Int.tdiv ((F / 2 ^ m : Nat) : Int) 2 = (q2 : Int) := by rw [tdiv_two, HQ2.out]
      have hwq : IntKind.i64.wrap (q2 : Int) = (q2 : Int) := by rw [IntKind.wrap_i64]; omega
      have HR2 : Hid (F / 2 ^ (m + 1) = q2) := HQ.out.symm.trans HQ2.out
      rw [HR2.out] at HST
      obtain ⟨d0, d1, d2, d3, d4, d5, d6, d7, d8, d9, _⟩ := HS.out wr hb.out
      have HRH := hide (HJ.out ((m : Int) + 1) (q2 : Int))
      clear hz0 HQ HGD
      by_cases hev : F / 2 ^ m % 2 = 0
      · have hmo : Int.tmod ((F / 2 ^ m : Nat) : Int) 2 = 0 := by rw [tmod_two, hev]; rfl
        have HJ1 := hide (HRH.out (climbS k b seed p0 p1 F path y m) z hu hz wr hb.out)
        have HE : Hid (climbS k b seed p0 p1 F path y (m + 1) = joinS k b seed p0 p1 ((m : Int) + 1) (q2 : Int) (climbS k b seed p0 p1 F path y m) z) := by
          show climbS k b seed p0 p1 F path y (m + 1) = _
          rw [HST.out, if_pos hev]; rfl
        clear hev HST HRH HQ2 HCM
        generalize climbS k b seed p0 p1 F path y m = u at HJ1 HE hu ⊢
        generalize F / 2 ^ m = q at hdv hmo hq1 ⊢
        go_wp2_with fail
        refine HJ1.out.mono ?_
        rintro e w1 ⟨rfl, hb1⟩
        have HB1 := hide (heldB hb.out hb1 (Nat.le_refl _))
        clear hb1 d0 d1 d2 d3 d4 d5 d6 d7 d8 d9 cz hdv hmo hwq
        go_wp2
        go_roundw
        case rel =>
          have R : ∃ m' : Nat, m' ≤ path.length ∧ Value.int .i64 ((m : Int) + 1) = .int .i64 m' ∧ Value.int .i64 (q2 : Int) = .int .i64 ((F / 2 ^ m' : Nat) : Int) ∧ Value.string (joinS k b seed p0 p1 ((m : Int) + 1) (q2 : Int) u z) = .string (climbS k b seed p0 p1 F path y m') ∧ Hid (Below W0.heap.size W0 w1) := ⟨m + 1, by omega, by go_num, by rw [HR2.out], by rw [HE.out], HB1.out⟩
          first | exact R | ((repeat apply Exists.intro); exact ⟨R, rfl⟩)
        case measure => simp [intOf]; omega
      · have hmo : Int.tmod ((F / 2 ^ m : Nat) : Int) 2 = 1 := by rw [tmod_two, show F / 2 ^ m % 2 = 1 by omega]; rfl
        have HJ1 := hide (HRH.out z (climbS k b seed p0 p1 F path y m) hz hu wr hb.out)
        have HE : Hid (climbS k b seed p0 p1 F path y (m + 1) = joinS k b seed p0 p1 ((m : Int) + 1) (q2 : Int) z (climbS k b seed p0 p1 F path y m)) := by
          show climbS k b seed p0 p1 F path y (m + 1) = _
          rw [HST.out, if_neg hev]; rfl
        clear hev HST HRH HQ2 HCM
        generalize climbS k b seed p0 p1 F path y m = u at HJ1 HE hu ⊢
        generalize F / 2 ^ m = q at hdv hmo hq1 ⊢
        go_wp2_with fail
        refine HJ1.out.mono ?_
        rintro e w1 ⟨rfl, hb1⟩
        have HB1 := hide (heldB hb.out hb1 (Nat.le_refl _))
        clear hb1 d0 d1 d2 d3 d4 d5 d6 d7 d8 d9 cz hdv hmo hwq
        go_wp2
        go_roundw
        case rel =>
          have R : ∃ m' : Nat, m' ≤ path.length ∧ Value.int .i64 ((m : Int) + 1) = .int .i64 m' ∧ Value.int .i64 (q2 : Int) = .int .i64 ((F / 2 ^ m' : Nat) : Int) ∧ Value.string (joinS k b seed p0 p1 ((m : Int) + 1) (q2 : Int) z u) = .string (climbS k b seed p0 p1 F path y m') ∧ Hid (Below W0.heap.size W0 w1) := ⟨m + 1, by omega, by go_num, by rw [HR2.out], by rw [HE.out], HB1.out⟩
          first | exact R | ((repeat apply Exists.intro); exact ⟨R, rfl⟩)
        case measure => simp [intOf]; omega
    · obtain rfl : m = path.length := by omega
      go_wp2
      go_ret
      exact ⟨rfl, HB.out.trans (hb.out.mono (by omega))⟩
end Go.Proofs.YtgaoeoijdpdjiabGreatDoor

namespace Go.Proofs.YtgaoeoijdpdjiabGreatDoor
open Go.RowKit

/-- A disk lies at block D: F are the blocks that are its own. -/
def DSk (lo D : Nat) (st : DSt) (w : World) (F : Nat → Prop) : Prop := ∃ E pv, DAt lo D E pv st w ∧ F = DFoot D E pv
/-- What a call leaves. -/
def DL (lo D : Nat) (st : DSt) (F : Nat → Prop) (w w' : World) : Prop := ∃ F', DSk lo D st w' F' ∧ Kept F w w' ∧ ∀ k, F' k → F k ∨ w.heap.size ≤ k
section
variable {lo D : Nat} {st s2 : DSt} {w w' w2 : World} {F G : Nat → Prop}
theorem DSk.lt (h : DSk lo D st w F) : ∀ k, F k → lo ≤ k ∧ k < w.heap.size := by
  obtain ⟨E, pv, hd, rfl⟩ := h
  exact hd.lt
theorem DSk.self (h : DSk lo D st w F) : F D := by
  obtain ⟨E, pv, hd, rfl⟩ := h
  exact .inl rfl
theorem DSk.kept (h : DSk lo D st w F) (hk : Kept G w w') (hn : ∀ k, F k → ¬ G k) : DSk lo D st w' F := by
  obtain ⟨E, pv, hd, rfl⟩ := h
  exact ⟨E, pv, hd.kept hk hn, rfl⟩
theorem DSk.below (h : DSk lo D st w F) (hb : Below w.heap.size w w') : DSk lo D st w' F := h.kept (Kept.of_below (F := fun _ => False) hb) (fun _ _ hf => hf)
theorem DSk.ok (h : DSk lo D st w F) : DOk st := by
  obtain ⟨E, pv, hd, _⟩ := h
  exact hd.ok
theorem DSk.term (h : DSk lo D st w F) : w.cell? ⟨D, 5, none⟩ = some (.int .i64 st.term) := by
  obtain ⟨E, pv, hd, _⟩ := h
  exact hd.c5
theorem DSk.sectors (h : DSk lo D st w F) : ∃ a, w.cell? ⟨D, 0, none⟩ = some (.slice a st.n st.n) := by
  obtain ⟨E, pv, hd, _⟩ := h
  exact ⟨_, hd.c0⟩
theorem DSk.ltD (h : DSk lo D st w F) : D < w.heap.size := (h.lt D h.self).2
theorem DL.trans (h : DL lo D st F w w') (k : ∀ F', DSk lo D st w' F' → DL lo D s2 F' w' w2) : DL lo D s2 F w w2 := by
  obtain ⟨F1, d1, k1, f1⟩ := h
  obtain ⟨F2, d2, k2, f2⟩ := k F1 d1
  refine ⟨F2, d2, k1.trans k2 f1, fun i hi => ?_⟩
  rcases f2 i hi with h | h
  · exact f1 i h
  · exact .inr (Nat.le_trans k1.size h)
theorem DL.of_below (hb : Below w.heap.size w w') (k : DL lo D s2 F w' w2) (_hF : ∀ i, F i → i < w.heap.size) : DL lo D s2 F w w2 := by
  obtain ⟨F2, d2, k2, f2⟩ := k
  refine ⟨F2, d2, (Kept.of_below (F := F) hb).trans k2 (fun i hi => .inl hi), fun i hi => ?_⟩
  rcases f2 i hi with h | h
  · exact .inl h
  · exact .inr (Nat.le_trans hb.size h)
theorem DL.refl (h : DSk lo D st w F) : DL lo D st F w w := ⟨F, h, Kept.refl _ _, fun _ hk => .inl hk⟩
theorem DL.then (k : DL lo D st F w w') (hb : Below w'.heap.size w' w2) : DL lo D st F w w2 := by
  obtain ⟨F2, d2, k2, f2⟩ := k
  exact ⟨F2, d2.below hb, k2.after hb, f2⟩
theorem DL.blk (k : DL lo D st F w w') {g : Nat} {vs : List Value} {T : TypeId} (h : Blk w g vs T) (hn : ¬ F g) : Blk w' g vs T := by
  obtain ⟨F2, d2, k2, f2⟩ := k
  unfold Blk at h ⊢
  rw [k2.block g (Blk.lt h) hn]; exact h
end
theorem dl_mk {lo D E : Nat} {pv pv' : Value} {st : DSt} {w w' : World} (hd : DAt lo D E pv' st w') (hk : Kept (DFoot D E pv) w w') (ho : ∀ k, pv'.ownBlock = some k → pv.ownBlock = some k ∨ w.heap.size ≤ k) : DL lo D st (DFoot D E pv) w w' := by
  refine ⟨_, ⟨E, pv', hd, rfl⟩, hk, ?_⟩
  rintro k (rfl | rfl | e)
  · exact .inl (.inl rfl)
  · exact .inl (.inr (.inl rfl))
  · rcases ho k e with h | h
    · exact .inl (.inr (.inr h))
    · exact .inr h

theorem dwrite_any (lo D : Nat) (st : DSt) (F : Nat → Prop) (i : Int) (t : ByteArray) (w : World) (h : DSk lo D st w F) (hlo : lo ≤ w.heap.size) (hw : 0 ≤ st.writes) (hw2 : st.writes < 9223372036854775807) :
    Calls Tryz.prog 104 #[.pointer (some ⟨D, 0, none⟩), .int .i64 i, .string t] w fun e w' => e = .returned (.int .i64 (wrAns st i t)) ∧ DL lo D (wrSt st i t) F w w' := by
  obtain ⟨E, pv, hd, rfl⟩ := h
  by_cases hi : 0 ≤ i ∧ i < st.n
  · by_cases ht : t.size = 32
    · by_cases hf : st.trouble = 1 ∨ st.pend.length = 16
      · rw [show wrAns st i t = 5 by rw [wrAns, if_neg (fun hn => hn hi), if_neg (fun hn => hn ht), if_pos hf], show wrSt st i t = { st with trouble := tick st.trouble } by rw [wrSt, if_neg (fun hn => hn hi), if_neg (fun hn => hn ht), if_pos hf]]
        refine (write_dsk lo D E pv st i t w hd hi ht hf).mono ?_
        rintro e w' ⟨rfl, a, b⟩
        exact ⟨rfl, dl_mk a (foot_of_D b) (fun k e => .inl e)⟩
      · rw [show wrAns st i t = 0 by rw [wrAns, if_neg (fun hn => hn hi), if_neg (fun hn => hn ht), if_neg hf], show wrSt st i t = { st with trouble := tick st.trouble, pend := st.pend ++ [(i.toNat, t)], writes := st.writes + 1 } by rw [wrSt, if_neg (fun hn => hn hi), if_neg (fun hn => hn ht), if_neg hf]]
        obtain ⟨k, rfl⟩ := Int.eq_ofNat_of_zero_le hi.1
        refine (write_ok lo D E pv st k t w hd hlo (by omega) ht (fun e => hf (.inl e)) (fun e => hf (.inr e)) hw hw2).mono ?_
        rintro e w' ⟨rfl, pv', a, b, c⟩
        exact ⟨rfl, dl_mk (by simpa using a) b c⟩
    · rw [show wrAns st i t = 2 by rw [wrAns, if_neg (fun hn => hn hi), if_pos ht], show wrSt st i t = st by rw [wrSt, if_neg (fun hn => hn hi), if_pos ht]]
      refine (write_arg lo D E pv st i t w hd hi ht).mono ?_
      rintro e w' ⟨rfl, rfl⟩
      exact ⟨rfl, dl_mk hd (Kept.refl _ _) (fun k e => .inl e)⟩
  · rw [show wrAns st i t = 4 by rw [wrAns, if_pos hi], show wrSt st i t = st by rw [wrSt, if_pos hi]]
    refine (write_sec lo D E pv st i t w hd hi).mono ?_
    rintro e w' ⟨rfl, rfl⟩
    exact ⟨rfl, dl_mk hd (Kept.refl _ _) (fun k e => .inl e)⟩

theorem dsync_any (lo D : Nat) (st : DSt) (F : Nat → Prop) (w : World) (h : DSk lo D st w F) (hw : 0 ≤ st.syncs) (hw2 : st.syncs < 9223372036854775807) :
    Calls Tryz.prog 105 #[.pointer (some ⟨D, 0, none⟩)] w fun e w' => e = .returned (.int .i64 (syAns st)) ∧ DL lo D (sySt st) F w w' := by
  obtain ⟨E, pv, hd, rfl⟩ := h
  by_cases ht : st.trouble = 1
  · rw [show syAns st = 5 by rw [syAns, if_pos ht], show sySt st = { st with trouble := tick st.trouble } by rw [sySt, if_pos ht]]
    refine (sync_no lo D E pv st w hd ht).mono ?_
    rintro e w' ⟨rfl, a, b⟩
    exact ⟨rfl, dl_mk a (foot_of_D b) (fun k e => .inl e)⟩
  · rw [show syAns st = 0 by rw [syAns, if_neg ht], show sySt st = { st with trouble := tick st.trouble, dur := laidJ st st.pend.length, pend := [], syncs := st.syncs + 1 } by rw [sySt, if_neg ht]]
    refine (sync_ok lo D E pv st w hd ht hw hw2).mono ?_
    rintro e w' ⟨rfl, a, b⟩
    exact ⟨rfl, dl_mk a b (fun k e => by simp [Value.ownBlock] at e)⟩

theorem dread_any (lo D : Nat) (st : DSt) (F : Nat → Prop) (i : Int) (w : World) (h : DSk lo D st w F) :
    Calls Tryz.prog 103 #[.pointer (some ⟨D, 0, none⟩), .int .i64 i] w fun e w' => e = .returned (.tuple #[.string (rdAns st i).1, .int .i64 (rdAns st i).2]) ∧ DL lo D (rdSt st i) F w w' := by
  obtain ⟨E, pv, hd, rfl⟩ := h
  refine (read_any lo D E pv st i w hd).mono ?_
  rintro e w' ⟨rfl, a, b⟩
  exact ⟨rfl, dl_mk a (foot_of_D b) (fun k e => .inl e)⟩

theorem dterm_any (lo D : Nat) (st : DSt) (F : Nat → Prop) (w : World) (h : DSk lo D st w F) (h1 : 0 ≤ st.term) (h2 : st.term < 9223372036854775807) :
    Calls Tryz.prog 173 #[.pointer (some ⟨D, 0, none⟩)] w fun e w' => e = .returned (.tuple #[]) ∧ DL lo D { st with term := st.term + 1 } F w w' := by
  obtain ⟨E, pv, hd, rfl⟩ := h
  refine (newTerm_on D st.term w hd.c5 (hd.free 5) (by rw [IntKind.wrap_i64] <;> omega)).mono ?_
  rintro e w' ⟨rfl, rfl⟩
  exact ⟨rfl, dl_mk (hd.setTerm _) (foot_of_D (kept_set w ⟨D, 5, none⟩ _)) (fun k e => .inl e)⟩

/-- A record is laid. -/
theorem jlay_any (lo D : Nat) (st : DSt) (F : Nat → Prop) (q b q2 : Int) (d : ByteArray) (w : World) (h : DSk lo D st w F) (hlo : lo ≤ w.heap.size) (hw : 0 ≤ st.writes) (hw2 : st.writes < 9223372036854775807) (hR : RecR q b d) (hq : Int.tmod q 2 = q2) (hv : IntKind.i64.wrap q2 = q2) :
    Calls Tryz.prog 183 #[.pointer (some ⟨D, 0, none⟩), .agg #[.int .i64 q, .int .i64 b, .string d]] w fun e w' => e = .returned (.int .i64 (wrAns st q2 (sealS q b d))) ∧ DL lo D (wrSt st q2 (sealS q b d)) F w w' := by
  refine (lay_on (fun c w' => c = wrAns st q2 (sealS q b d) ∧ DL lo D (wrSt st q2 (sealS q b d)) F w w') D q b q2 d w hR hq hv ?_).mono ?_
  · intro V hb
    refine (dwrite_any lo D st F q2 (sealS q b d) V (h.below hb) (Nat.le_trans hlo hb.size) hw hw2).mono ?_
    rintro e w' ⟨rfl, hl⟩
    exact ⟨_, rfl, rfl, hl.of_below hb (fun i hi => (h.lt i hi).2)⟩
  · rintro e w' ⟨c, rfl, rfl, hl⟩
    exact ⟨rfl, hl⟩
end Go.Proofs.YtgaoeoijdpdjiabGreatDoor

namespace Go.Proofs.YtgaoeoijdpdjiabGreatDoor
open Go.RowKit

theorem sliceV (s : ByteArray) (a b : Nat) (h1 : a ≤ b) (h2 : b ≤ s.size) (w : World) : (Instr.slice 9 (.string s) (some (.int .i64 (a : Int))) (some (.int .i64 (b : Int))) none).run Tryz.prog w = .ok (.string (s.extract a b)) w := by
  have e3 : (a : Int) ≤ (b : Int) := by omega
  have e4 : (b : Int) ≤ (s.size : Int) := by omega
  simp [go_sem, e3, e4]

/-- The first n pieces of length b. -/
def cutS (s : ByteArray) (b n : Nat) : List ByteArray := (List.range n).map fun i => s.extract (i * b) ((i + 1) * b)
theorem cutS_length (s : ByteArray) (b n : Nat) : (cutS s b n).length = n := by simp [cutS]
theorem cutS_succ (s : ByteArray) (b n : Nat) : cutS s b (n + 1) = cutS s b n ++ [s.extract (n * b) ((n + 1) * b)] := by simp [cutS, List.range_succ]
theorem cutS_size (s : ByteArray) (b n : Nat) (h : n * b ≤ s.size) : ∀ y ∈ cutS s b n, (y.size : Int) = b := by
  intro y hy
  simp only [cutS, List.mem_map, List.mem_range] at hy
  obtain ⟨i, hi, rfl⟩ := hy
  have h2 : (i + 1) * b ≤ s.size := Nat.le_trans (Nat.mul_le_mul_right _ hi) h
  rw [ByteArray.size_extract, Nat.min_eq_left h2, Nat.add_mul, Nat.one_mul, Nat.add_sub_cancel_left]

set_option maxRecDepth 20000 in
set_option maxHeartbeats 4000000 in
theorem cut_on (s : ByteArray) (b n : Nat) (w : World) (hb1 : 1 ≤ b) (hb2 : b ≤ 8) (hs1 : s.size ≤ n * b) (hs2 : n * b ≤ s.size) (hn : n ≤ 200) :
    Calls Tryz.prog 158 #[.string s, .int .i64 b] w fun e w' => e = .returned (.slice (some ⟨w.heap.size, 0, none⟩) n n) ∧ Blk w' w.heap.size ((cutS s b n).map Value.string) 9 ∧ Below w.heap.size w w' := by
  have hmk := makeStr n (by omega)
  have hnb : n * b ≤ 1600 := Nat.le_trans (Nat.mul_le_mul hn hb2) (by decide)
  have htd : Int.tdiv (s.size : Int) (b : Int) = (n : Int) := by
    rw [show s.size = n * b by omega, Int.natCast_mul, Int.mul_tdiv_cancel _ (by omega)]
  have hb0 : b ≠ 0 := by omega
  have HSL := hide (fun (m : Nat) (hm : m < n) => sliceV s (m * b) ((m + 1) * b) (Nat.mul_le_mul_right _ (by omega)) (Nat.le_trans (Nat.mul_le_mul_right _ hm) hs2))
  have HV := hide (fun (m : Nat) (hm : m < n) => (show IntKind.i64.wrap ((m : Int) * (b : Int)) = ((m * b : Nat) : Int) ∧ IntKind.i64.wrap (((m : Int) + 1) * (b : Int)) = (((m + 1) * b : Nat) : Int) by
    have h1 : m * b ≤ n * b := Nat.mul_le_mul_right _ (by omega)
    have h2 : (m + 1) * b ≤ n * b := Nat.mul_le_mul_right _ hm
    have e1 : (m : Int) * (b : Int) = ((m * b : Nat) : Int) := by rw [Int.natCast_mul]
    have e2 : ((m : Int) + 1) * (b : Int) = (((m + 1) * b : Nat) : Int) := by rw [Int.natCast_mul]; rfl
    rw [e1, e2]
    constructor <;> rw [IntKind.wrap_i64] <;> omega))
  have HSU := hide (fun m => cutS_succ s b m)
  have HLE := hide (fun m => cutS_length s b m)
  have hsz : s.size ≤ 1600 := by omega
  have HW3 := hide (show Blk (w.alloc (.cells (Array.replicate n (Value.string ⟨#[]⟩)) 9)) w.heap.size (List.replicate n (Value.string ⟨#[]⟩)) 9 ∧ Below w.heap.size w (w.alloc (.cells (Array.replicate n (Value.string ⟨#[]⟩)) 9)) by
    refine ⟨?_, (Below.refl _ _).alloc (Nat.le_refl _) _⟩
    have h := Blk.new w (List.replicate n (Value.string ⟨#[]⟩)) 9
    rw [List.toArray_replicate] at h; exact h)
  clear hs1 hs2 hnb
  go_enter Tryz.func158, Tryz.ntmps158
  go_wp2_with fail
  obtain ⟨W3, hW3⟩ : ∃ W3, w.alloc (.cells (Array.replicate n (Value.string ⟨#[]⟩)) 9) = W3 := ⟨_, rfl⟩
  rw [hW3] at HW3 ⊢
  clear hW3 hmk htd hb0
  go_loopw [14] (fun i wr => ∃ m : Nat, m ≤ n ∧ i = .int .i64 m ∧ Hid (Blk wr w.heap.size ((cutS s b m).map Value.string ++ List.replicate (n - m) (Value.string ⟨#[]⟩)) 9) ∧ Hid (Below w.heap.size w wr)) (fun i _ => n - (intOf i).toNat)
  case atStart => exact ⟨0, Nat.zero_le _, rfl, show Blk _ _ _ _ by simpa [cutS] using HW3.out.1, HW3.out.2⟩
  case round =>
    obtain ⟨m, hm, rfl, hen, hb⟩ := hrel
    by_cases hlt : m < n
    · have hsl := HSL.out m hlt
      obtain ⟨v1, v2⟩ := HV.out m hlt
      have hl := HLE.out m
      obtain ⟨A, hA⟩ : ∃ A, m * b = A := ⟨_, rfl⟩
      obtain ⟨C, hC⟩ : ∃ C, (m + 1) * b = C := ⟨_, rfl⟩
      have HES1 := hide (HSU.out m)
      rw [hA, hC] at hsl HES1
      rw [hA] at v1
      rw [hC] at v2
      generalize s.extract A C = pS at hsl HES1
      have e0 : wr.cell? ⟨w.heap.size, m, none⟩ = some (.string ⟨#[]⟩) := by
        rw [hen.out.cell, List.getElem?_append_right (by simp [hl]), List.length_map, hl, Nat.sub_self, List.getElem?_replicate, if_pos (by omega)]
      have e1 := hen.out.free m
      have HEE := hide (show Blk (wr.setCell ⟨w.heap.size, m, none⟩ (.string pS)) w.heap.size ((cutS s b (m + 1)).map Value.string ++ List.replicate (n - (m + 1)) (Value.string ⟨#[]⟩)) 9 by
        have h := hen.out.set m (.string pS)
        rw [List.set_append_right _ _ (by simp [hl]), List.length_map, hl, Nat.sub_self, show n - m = (n - (m + 1)) + 1 by omega, List.replicate_succ, List.set_cons_zero] at h
        rw [HES1.out, List.map_append, List.append_assoc]
        exact h)
      have HBE := hide (hb.out.setCell (p := ⟨w.heap.size, m, none⟩) (Nat.le_refl _) (.string pS))
      clear hl HES1 hA hC
      have hms : (m : Int) < (n : Int) := by omega
      go_wp2
      go_roundw
      case rel =>
        have R : ∃ m' : Nat, m' ≤ n ∧ Value.int .i64 ((m : Int) + 1) = .int .i64 m' ∧ Hid (Blk (wr.setCell ⟨w.heap.size, m, none⟩ (.string pS)) w.heap.size ((cutS s b m').map Value.string ++ List.replicate (n - m') (Value.string ⟨#[]⟩)) 9) ∧ Hid (Below w.heap.size w (wr.setCell ⟨w.heap.size, m, none⟩ (.string pS))) := ⟨m + 1, by omega, by go_num, HEE.out, HBE.out⟩
        first | exact R | ((repeat apply Exists.intro); exact ⟨R, rfl⟩)
      case measure => simp [intOf]; omega
    · obtain rfl : m = n := by omega
      go_wp2
      go_ret
      have h := hen.out
      rw [Nat.sub_self, List.replicate_zero, List.append_nil] at h
      exact ⟨rfl, h, hb.out⟩
end Go.Proofs.YtgaoeoijdpdjiabGreatDoor

namespace Go.Proofs.YtgaoeoijdpdjiabGreatDoor
open Go.RowKit

set_option maxRecDepth 20000 in
set_option maxHeartbeats 4000000 in
theorem isIndex_on (k b x t l i a0 a1 a2 tot a4 a5 : Int) (w : World)
    (hM : ∀ V : World, Calls Tryz.prog 155 #[.agg #[.int .i64 k, .int .i64 b, .int .i64 x, .int .i64 t, .int .i64 l]] V fun e w' => e = .returned (.tuple #[.agg #[.int .i64 a0, .int .i64 a1, .int .i64 a2, .int .i64 tot, .int .i64 a4, .int .i64 a5], .int .i64 0]) ∧ Below V.heap.size V w') :
    Calls Tryz.prog 157 #[.agg #[.int .i64 k, .int .i64 b, .int .i64 x, .int .i64 t, .int .i64 l], .int .i64 i] w fun e w' => e = .returned (.bool (decide (0 ≤ i ∧ i < tot))) ∧ Below w.heap.size w w' := by
  have HM := hide (hM (w.alloc (.cells #[.int .i64 k, .int .i64 b, .int .i64 x, .int .i64 t, .int .i64 l] 26)))
  have HW := hide (fun V : World => within_any i tot V)
  clear hM
  generalize decide (0 ≤ i ∧ i < tot) = r at HW ⊢
  go_enter Tryz.func157, Tryz.ntmps157
  go_wp2_with fail
  refine HM.out.mono ?_
  rintro e w1 ⟨rfl, hb1⟩
  have HB1 := hide (((Below.refl w.heap.size w).alloc (Nat.le_refl _) _).trans (hb1.mono (by simp)))
  clear hb1 HM
  go_wp2_with fail
  refine (HW.out _).mono ?_
  rintro e w2 ⟨rfl, hw⟩
  obtain rfl := hw.symm
  clear hw
  go_wp2
  go_ret
  exact ⟨rfl, HB1.out.alloc HB1.out.size _⟩
end Go.Proofs.YtgaoeoijdpdjiabGreatDoor

namespace Go.Proofs.YtgaoeoijdpdjiabGreatDoor
open Go.RowKit

theorem grownBy_cell (W : World) (g i : Nat) (v : Value) : W.grownBy (W.setCell ⟨g, i, none⟩ v) (some g) :=
  ⟨rfl, rfl, rfl, by simp [World.setCell], fun k _ hk => Below.heap_setCell _ _ _ _ (fun e => hk (by rw [e]))⟩

theorem own_ne {w : World} {base : Nat} {e : TypeId} {s : Nat} {v : Value} {n : Nat} {xs : List Value} (h : w.ownsRow base e s v n xs) {g : Nat} (hg : g < base) : v.ownBlock = none ∨ v.ownBlock ≠ some g := by
  cases hv : v.ownBlock with
  | none => exact .inl rfl
  | some p =>
    refine .inr (fun e => ?_)
    have := (owns_lt h p hv).1
    simp at e
    omega

theorem blk_grown {w w' : World} {g : Nat} {vs : List Value} {T : TypeId} {row : Option Nat} (h : Blk w g vs T) (hg : w.grownBy w' row) (hne : ∀ p, row = some p → g < p) : Blk w' g vs T := by
  have hlt := h.lt
  unfold Blk at h ⊢
  rw [hg.block g hlt (fun e => by have := hne g e.symm; omega)]
  exact h
end Go.Proofs.YtgaoeoijdpdjiabGreatDoor
