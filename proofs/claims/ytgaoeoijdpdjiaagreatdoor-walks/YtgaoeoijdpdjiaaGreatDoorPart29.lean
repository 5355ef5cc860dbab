/-
  The program's Join and Node. The program's spotOf. Is it the place of a leaf? The program's isLeafOf. Blocks over an append.
-/
import Derived.Test.YtgaoeoijdpdjiaaGreatDoorPart27
import Derived.Test.YtgaoeoijdpdjiaaGreatDoorPart4
import Derived.Test.YtgaoeoijdpdjiaaGreatDoorPart28
namespace Go.Proofs.YtgaoeoijdpdjiaaGreatDoor
open Go.RowKit
set_option maxRecDepth 20000 in
set_option maxHeartbeats 4000000 in
theorem tjoin_any (k b x t l : Int) (sec rnd pub : ByteArray) (p0 p1 p2 p3 h j : Int) (ch : Nat) (y z : ByteArray) (w : World) (hk : k = 1 ∨ k = 2) (h1 : 1 ≤ b) (h2 : b ≤ 16) (hp : pub.size ≤ 16) (hy : y.size ≤ 16) (hz : z.size ≤ 16) (hT : Tn w) :
    Calls Tryz.prog 40 #[.agg #[.int .i64 k, .int .i64 b, .int .i64 x, .int .i64 t, .int .i64 l, .string sec, .string rnd, .string pub, .int .i64 p0, .int .i64 p1, .int .i64 p2, .int .i64 p3, .int .i64 ch], .int .i64 h, .int .i64 j, .string y, .string z] w fun e w' => e = .returned (.string (joinS k b pub p0 p1 h j y z)) ∧ Below w.heap.size w w' := by
  have HJ := hide (fun (V : World) (hV : Tn V) => sjoin_any k b x t l pub p0 p1 p2 p3 h j y z V hk h1 h2 hp hy hz hV)
  have HT := hide (hT.alloc (.cells #[.int .i64 k, .int .i64 b, .int .i64 x, .int .i64 t, .int .i64 l, .string sec, .string rnd, .string pub, .int .i64 p0, .int .i64 p1, .int .i64 p2, .int .i64 p3, .int .i64 ch] 83))
  clear hT
  go_enter Tryz.func40, Tryz.ntmps40
  go_wp2_with fail
  refine (HJ.out _ HT.out).mono ?_
  rintro e w1 ⟨rfl, hb1⟩
  have HB1 := hide (((Below.refl w.heap.size w).alloc (Nat.le_refl _) _).trans (hb1.mono (by simp)))
  clear hb1
  go_wp2
  go_ret
  exact ⟨rfl, HB1.out⟩
end Go.Proofs.YtgaoeoijdpdjiaaGreatDoor

namespace Go.Proofs.YtgaoeoijdpdjiaaGreatDoor
open Go.RowKit
set_option maxRecDepth 20000 in
theorem spotOf_any (k b x t l : Int) (sec rnd pub sd : ByteArray) (p0 p1 p2 p3 ch F i : Int) (w : World) :
    Calls Tryz.prog 74 #[.agg #[.int .i64 k, .int .i64 b, .int .i64 x, .int .i64 t, .int .i64 l, .string sec, .string rnd, .string pub, .int .i64 p0, .int .i64 p1, .int .i64 p2, .int .i64 p3, .int .i64 ch], .string sd, .int .i64 F, .int .i64 i] w fun e w' => e = .returned (.agg #[.int .i64 k, .int .i64 b, .int .i64 x, .int .i64 t, .int .i64 l, .string sd, .int .i64 p0, .int .i64 p1, .int .i64 F, .int .i64 i]) ∧ Below w.heap.size w w' := by
  go_enter Tryz.func74, Tryz.ntmps74
  go_wp2
  refine bodyPost_ret (v := .agg #[.int .i64 k, .int .i64 b, .int .i64 x, .int .i64 t, .int .i64 l, .string sd, .int .i64 p0, .int .i64 p1, .int .i64 F, .int .i64 i]) (by simp [results, Tryz.results74, go_sem]) rfl ⟨rfl, ?_⟩
  first
    | exact (((Below.refl _ _).alloc (Nat.le_refl _) _).alloc (by simp) _).alloc (by simp; omega) _
    | (repeat refine Below.setCell ?_ (by simp <;> omega) _
       exact (((Below.refl _ _).alloc (Nat.le_refl _) _).alloc (by simp) _).alloc (by simp; omega) _)
end Go.Proofs.YtgaoeoijdpdjiaaGreatDoor

namespace Go.Proofs.YtgaoeoijdpdjiaaGreatDoor
open Go.RowKit
set_option maxRecDepth 20000 in
set_option maxHeartbeats 4000000 in
theorem isLeafOf_any (k b x : Int) (t l : Nat) (p0 p1 p2 p3 : Int) (w : World) (h1 : 1 ≤ t) (h2 : t ≤ 4) (h4 : l ≤ 3) :
    Calls Tryz.prog 163 #[.agg #[.int .i64 k, .int .i64 b, .int .i64 x, .int .i64 t, .int .i64 l], .agg #[.int .i64 p0, .int .i64 p1, .int .i64 p2, .int .i64 p3]] w fun e w' => e = .returned (.bool (leafB t l p0 p1 p2)) ∧ Below w.heap.size w w' := by
  obtain ⟨W0, hW⟩ : ∃ W0, (w.alloc (.cells #[.int .i64 k, .int .i64 b, .int .i64 x, .int .i64 t, .int .i64 l] 23)).alloc (.cells #[.int .i64 p0, .int .i64 p1, .int .i64 p2, .int .i64 p3] 27) = W0 := ⟨_, rfl⟩
  have HF := hide (show FiveC w.heap.size W0 k b x t l by subst hW; refine ⟨?_, ?_, ?_, ?_, ?_⟩ <;> simp [go_sem])
  have HP := hide (show FourC (w.heap.size + 1) W0 p0 p1 p2 p3 by subst hW; refine ⟨?_, ?_, ?_, ?_⟩ <;> simp [go_sem])
  have HB := hide (show Below w.heap.size w W0 by subst hW; exact ((Below.refl _ _).alloc (Nat.le_refl _) _).alloc (by simp) _)
  have hz : W0.heap.size ≤ w.heap.size + 2 := by subst hW; simp
  have hz' : w.heap.size + 2 ≤ W0.heap.size := by subst hW; simp
  have HS := hide (fun (V : World) (h : Below W0.heap.size W0 V) => (by
    obtain ⟨c0, c1, c2, c3, c4⟩ := HF.out.below h (by omega)
    obtain ⟨d0, d1, d2, d3⟩ := HP.out.below h (by omega)
    exact ⟨c0, c1, c2, c3, c4, d0, d1, d2, d3, h⟩ : V.cell? ⟨w.heap.size, 0, none⟩ = some (.int .i64 k) ∧ V.cell? ⟨w.heap.size, 1, none⟩ = some (.int .i64 b) ∧ V.cell? ⟨w.heap.size, 2, none⟩ = some (.int .i64 x) ∧ V.cell? ⟨w.heap.size, 3, none⟩ = some (.int .i64 t) ∧ V.cell? ⟨w.heap.size, 4, none⟩ = some (.int .i64 l) ∧ V.cell? ⟨w.heap.size + 1, 0, none⟩ = some (.int .i64 p0) ∧ V.cell? ⟨w.heap.size + 1, 1, none⟩ = some (.int .i64 p1) ∧ V.cell? ⟨w.heap.size + 1, 2, none⟩ = some (.int .i64 p2) ∧ V.cell? ⟨w.heap.size + 1, 3, none⟩ = some (.int .i64 p3) ∧ Below W0.heap.size W0 V))
  have HWI := hide (fun (v n : Int) (V : World) => within_any v n V)
  have HLV := hide (fun V : World => setsLeaves_any k b x l t V h1 h2)
  unfold leafB
  cases e1 : decide (0 ≤ p0 ∧ p0 < (l : Int)) with
  | false =>
    have HW1 := hide (fun V : World => within_any p0 l V)
    rw [e1] at HW1
    clear e1
    go_enter Tryz.func163, Tryz.ntmps163
    go_wp2_with fail
    try rw [hW]
    refine wp_region_held_drew (S := fun V => V.cell? ⟨w.heap.size, 0, none⟩ = some (.int .i64 k) ∧ V.cell? ⟨w.heap.size, 1, none⟩ = some (.int .i64 b) ∧ V.cell? ⟨w.heap.size, 2, none⟩ = some (.int .i64 x) ∧ V.cell? ⟨w.heap.size, 3, none⟩ = some (.int .i64 t) ∧ V.cell? ⟨w.heap.size, 4, none⟩ = some (.int .i64 l) ∧ V.cell? ⟨w.heap.size + 1, 0, none⟩ = some (.int .i64 p0) ∧ V.cell? ⟨w.heap.size + 1, 1, none⟩ = some (.int .i64 p1) ∧ V.cell? ⟨w.heap.size + 1, 2, none⟩ = some (.int .i64 p2) ∧ V.cell? ⟨w.heap.size + 1, 3, none⟩ = some (.int .i64 p3) ∧ Below W0.heap.size W0 V) (by kernel_rfl) (HS.out _ ((Below.refl W0.heap.size W0).drew)) (fun hHeld => ?_)
    refine tk 0 hHeld (h := ?_)
    refine tk 1 hHeld (h := ?_)
    refine tk 2 hHeld (h := ?_)
    refine tk 3 hHeld (h := ?_)
    refine wpAnyH_ready (rs := [4]) (by kernel_rfl) (by simp) ?_
    refine AllReadyH.cons (o := ?oa4) ?hoa4 (fun K hK => ?hsa4) AllReadyH.nil
    case hoa4 => (simp only [List.getElem?_toArray, List.getElem?_cons_succ, List.getElem?_cons_zero]; rfl)
    go_simp
    refine (HW1.out _).mono ?_
    rintro e w1 ⟨rfl, rfl⟩
    try go_wp2_with fail
    refine hK.out _ _ (HS.out _ ((Below.refl W0.heap.size W0).drew)) (fun hHeld => ?_)
    clear hK K
    try simp only [Act.put, List.setIfInBounds_toArray, List.set_cons_zero, List.set_cons_succ]
    refine tk 5 hHeld (h := ?_)
    refine sk 6 hHeld (h := ?_)
    refine sk 7 hHeld (h := ?_)
    refine sk 8 hHeld (h := ?_)
    refine sk 9 hHeld (h := ?_)
    refine sk 10 hHeld (h := ?_)
    refine sk 11 hHeld (h := ?_)
    refine sk 12 hHeld (h := ?_)
    refine tk 13 hHeld (h := ?_)
    refine tk 14 hHeld (h := ?_)
    refine sk 15 hHeld (h := ?_)
    refine sk 16 hHeld (h := ?_)
    refine sk 17 hHeld (h := ?_)
    refine sk 18 hHeld (h := ?_)
    refine sk 19 hHeld (h := ?_)
    refine tk 20 hHeld (h := ?_)
    refine tk 21 hHeld (h := ?_)
    refine wpAnyH_done (by kernel_rfl) ?_ _
    go_wp2
    go_ret
    exact ⟨rfl, HB.out.trans (((Below.refl W0.heap.size W0).drew).mono (by omega))⟩
  | true =>
    have hp0 : 0 ≤ p0 ∧ p0 < (l : Int) := of_decide_eq_true e1
    obtain ⟨q, hq⟩ : ∃ q : Nat, p0 = (q : Int) := ⟨p0.toNat, by omega⟩
    have HW1 := hide (fun V : World => within_any p0 l V)
    rw [e1] at HW1
    have HTR := hide (fun V : World => trees_any k b x t l q V h1 h2 h4 (by omega))
    rw [← hq] at HTR
    rw [show p0.toNat = q by omega]
    clear e1 hp0 hq
    have HW2 := hide (fun V : World => within_any p1 ((2 ^ (t * (l - 1 - q)) : Nat) : Int) V)
    generalize ((2 ^ (t * (l - 1 - q)) : Nat) : Int) = tr at HTR HW2 ⊢
    generalize decide (0 ≤ p1 ∧ p1 < tr) = bt at HW2 ⊢
    cases bt with
    | false =>
      go_enter Tryz.func163, Tryz.ntmps163
      go_wp2_with fail
      try rw [hW]
      refine wp_region_held_drew (S := fun V => V.cell? ⟨w.heap.size, 0, none⟩ = some (.int .i64 k) ∧ V.cell? ⟨w.heap.size, 1, none⟩ = some (.int .i64 b) ∧ V.cell? ⟨w.heap.size, 2, none⟩ = some (.int .i64 x) ∧ V.cell? ⟨w.heap.size, 3, none⟩ = some (.int .i64 t) ∧ V.cell? ⟨w.heap.size, 4, none⟩ = some (.int .i64 l) ∧ V.cell? ⟨w.heap.size + 1, 0, none⟩ = some (.int .i64 p0) ∧ V.cell? ⟨w.heap.size + 1, 1, none⟩ = some (.int .i64 p1) ∧ V.cell? ⟨w.heap.size + 1, 2, none⟩ = some (.int .i64 p2) ∧ V.cell? ⟨w.heap.size + 1, 3, none⟩ = some (.int .i64 p3) ∧ Below W0.heap.size W0 V) (by kernel_rfl) (HS.out _ ((Below.refl W0.heap.size W0).drew)) (fun hHeld => ?_)
      refine tk 0 hHeld (h := ?_)
      refine tk 1 hHeld (h := ?_)
      refine tk 2 hHeld (h := ?_)
      refine tk 3 hHeld (h := ?_)
      refine wpAnyH_ready (rs := [4]) (by kernel_rfl) (by simp) ?_
      refine AllReadyH.cons (o := ?ob4) ?hob4 (fun K hK => ?hsb4) AllReadyH.nil
      case hob4 => (simp only [List.getElem?_toArray, List.getElem?_cons_succ, List.getElem?_cons_zero]; rfl)
      go_simp
      refine (HW1.out _).mono ?_
      rintro e w1 ⟨rfl, rfl⟩
      try go_wp2_with fail
      refine hK.out _ _ (HS.out _ ((Below.refl W0.heap.size W0).drew)) (fun hHeld => ?_)
      clear hK K
      try simp only [Act.put, List.setIfInBounds_toArray, List.set_cons_zero, List.set_cons_succ]
      refine tk 5 hHeld (h := ?_)
      refine tk 6 hHeld (h := ?_)
      refine tk 7 hHeld (h := ?_)
      refine tk 8 hHeld (h := ?_)
      refine tk 9 hHeld (h := ?_)
      refine tk 10 hHeld (h := ?_)
      refine wpAnyH_ready (rs := [11]) (by kernel_rfl) (by simp) ?_
      refine AllReadyH.cons (o := ?ob11) ?hob11 (fun K hK => ?hsb11) AllReadyH.nil
      case hob11 => (simp only [List.getElem?_toArray, List.getElem?_cons_succ, List.getElem?_cons_zero]; rfl)
      go_simp
      refine (HTR.out _).mono ?_
      rintro e w2 ⟨rfl, hb2⟩
      have hS2 := heldB (Below.refl W0.heap.size W0).drew hb2 (Nat.le_refl _)
      try go_wp2_with fail
      refine hK.out _ _ (HS.out _ (hS2)) (fun hHeld => ?_)
      clear hK K
      try simp only [Act.put, List.setIfInBounds_toArray, List.set_cons_zero, List.set_cons_succ]
      refine wpAnyH_ready (rs := [12]) (by kernel_rfl) (by simp) ?_
      refine AllReadyH.cons (o := ?ob12) ?hob12 (fun K hK => ?hsb12) AllReadyH.nil
      case hob12 => (simp only [List.getElem?_toArray, List.getElem?_cons_succ, List.getElem?_cons_zero]; rfl)
      go_simp
      refine (HW2.out _).mono ?_
      rintro e w3 ⟨rfl, rfl⟩
      try go_wp2_with fail
      refine hK.out _ _ (HS.out _ (hS2)) (fun hHeld => ?_)
      clear hK K
      try simp only [Act.put, List.setIfInBounds_toArray, List.set_cons_zero, List.set_cons_succ]
      refine tk 13 hHeld (h := ?_)
      refine tk 14 hHeld (h := ?_)
      refine sk 15 hHeld (h := ?_)
      refine sk 16 hHeld (h := ?_)
      refine sk 17 hHeld (h := ?_)
      refine sk 18 hHeld (h := ?_)
      refine sk 19 hHeld (h := ?_)
      refine tk 20 hHeld (h := ?_)
      refine tk 21 hHeld (h := ?_)
      refine wpAnyH_done (by kernel_rfl) ?_ _
      go_wp2
      go_ret
      exact ⟨rfl, HB.out.trans ((hS2).mono (by omega))⟩
    | true =>
      have HW3 := hide (fun V : World => within_any p2 ((2 ^ t : Nat) : Int) V)
      generalize ((2 ^ t : Nat) : Int) = lv at HLV HW3 ⊢
      generalize decide (0 ≤ p2 ∧ p2 < lv) = bl at HW3 ⊢
      go_enter Tryz.func163, Tryz.ntmps163
      go_wp2_with fail
      try rw [hW]
      refine wp_region_held_drew (S := fun V => V.cell? ⟨w.heap.size, 0, none⟩ = some (.int .i64 k) ∧ V.cell? ⟨w.heap.size, 1, none⟩ = some (.int .i64 b) ∧ V.cell? ⟨w.heap.size, 2, none⟩ = some (.int .i64 x) ∧ V.cell? ⟨w.heap.size, 3, none⟩ = some (.int .i64 t) ∧ V.cell? ⟨w.heap.size, 4, none⟩ = some (.int .i64 l) ∧ V.cell? ⟨w.heap.size + 1, 0, none⟩ = some (.int .i64 p0) ∧ V.cell? ⟨w.heap.size + 1, 1, none⟩ = some (.int .i64 p1) ∧ V.cell? ⟨w.heap.size + 1, 2, none⟩ = some (.int .i64 p2) ∧ V.cell? ⟨w.heap.size + 1, 3, none⟩ = some (.int .i64 p3) ∧ Below W0.heap.size W0 V) (by kernel_rfl) (HS.out _ ((Below.refl W0.heap.size W0).drew)) (fun hHeld => ?_)
      refine tk 0 hHeld (h := ?_)
      refine tk 1 hHeld (h := ?_)
      refine tk 2 hHeld (h := ?_)
      refine tk 3 hHeld (h := ?_)
      refine wpAnyH_ready (rs := [4]) (by kernel_rfl) (by simp) ?_
      refine AllReadyH.cons (o := ?oc4) ?hoc4 (fun K hK => ?hsc4) AllReadyH.nil
      case hoc4 => (simp only [List.getElem?_toArray, List.getElem?_cons_succ, List.getElem?_cons_zero]; rfl)
      go_simp
      refine (HW1.out _).mono ?_
      rintro e w1 ⟨rfl, rfl⟩
      try go_wp2_with fail
      refine hK.out _ _ (HS.out _ ((Below.refl W0.heap.size W0).drew)) (fun hHeld => ?_)
      clear hK K
      try simp only [Act.put, List.setIfInBounds_toArray, List.set_cons_zero, List.set_cons_succ]
      refine tk 5 hHeld (h := ?_)
      refine tk 6 hHeld (h := ?_)
      refine tk 7 hHeld (h := ?_)
      refine tk 8 hHeld (h := ?_)
      refine tk 9 hHeld (h := ?_)
      refine tk 10 hHeld (h := ?_)
      refine wpAnyH_ready (rs := [11]) (by kernel_rfl) (by simp) ?_
      refine AllReadyH.cons (o := ?oc11) ?hoc11 (fun K hK => ?hsc11) AllReadyH.nil
      case hoc11 => (simp only [List.getElem?_toArray, List.getElem?_cons_succ, List.getElem?_cons_zero]; rfl)
      go_simp
      refine (HTR.out _).mono ?_
      rintro e w2 ⟨rfl, hb2⟩
      have hS2 := heldB (Below.refl W0.heap.size W0).drew hb2 (Nat.le_refl _)
      try go_wp2_with fail
      refine hK.out _ _ (HS.out _ (hS2)) (fun hHeld => ?_)
      clear hK K
      try simp only [Act.put, List.setIfInBounds_toArray, List.set_cons_zero, List.set_cons_succ]
      refine wpAnyH_ready (rs := [12]) (by kernel_rfl) (by simp) ?_
      refine AllReadyH.cons (o := ?oc12) ?hoc12 (fun K hK => ?hsc12) AllReadyH.nil
      case hoc12 => (simp only [List.getElem?_toArray, List.getElem?_cons_succ, List.getElem?_cons_zero]; rfl)
      go_simp
      refine (HW2.out _).mono ?_
      rintro e w3 ⟨rfl, rfl⟩
      try go_wp2_with fail
      refine hK.out _ _ (HS.out _ (hS2)) (fun hHeld => ?_)
      clear hK K
      try simp only [Act.put, List.setIfInBounds_toArray, List.set_cons_zero, List.set_cons_succ]
      refine tk 13 hHeld (h := ?_)
      refine tk 14 hHeld (h := ?_)
      refine tk 15 hHeld (h := ?_)
      refine tk 16 hHeld (h := ?_)
      refine tk 17 hHeld (h := ?_)
      refine wpAnyH_ready (rs := [18]) (by kernel_rfl) (by simp) ?_
      refine AllReadyH.cons (o := ?oc18) ?hoc18 (fun K hK => ?hsc18) AllReadyH.nil
      case hoc18 => (simp only [List.getElem?_toArray, List.getElem?_cons_succ, List.getElem?_cons_zero]; rfl)
      go_simp
      refine (HLV.out _).mono ?_
      rintro e w4 ⟨rfl, hb4⟩
      have hS4 := heldB hS2 hb4 (Nat.le_refl _)
      try go_wp2_with fail
      refine hK.out _ _ (HS.out _ (hS4)) (fun hHeld => ?_)
      clear hK K
      try simp only [Act.put, List.setIfInBounds_toArray, List.set_cons_zero, List.set_cons_succ]
      refine wpAnyH_ready (rs := [19]) (by kernel_rfl) (by simp) ?_
      refine AllReadyH.cons (o := ?oc19) ?hoc19 (fun K hK => ?hsc19) AllReadyH.nil
      case hoc19 => (simp only [List.getElem?_toArray, List.getElem?_cons_succ, List.getElem?_cons_zero]; rfl)
      go_simp
      refine (HW3.out _).mono ?_
      rintro e w5 ⟨rfl, rfl⟩
      try go_wp2_with fail
      refine hK.out _ _ (HS.out _ (hS4)) (fun hHeld => ?_)
      clear hK K
      try simp only [Act.put, List.setIfInBounds_toArray, List.set_cons_zero, List.set_cons_succ]
      refine tk 20 hHeld (h := ?_)
      refine tk 21 hHeld (h := ?_)
      refine wpAnyH_done (by kernel_rfl) ?_ _
      go_wp2
      go_ret
      exact ⟨rfl, HB.out.trans ((hS4).mono (by omega))⟩
end Go.Proofs.YtgaoeoijdpdjiaaGreatDoor

namespace Go.Proofs.YtgaoeoijdpdjiaaGreatDoor
open Go.RowKit
theorem grownBy_cell (W : World) (g i : Nat) (v : Value) : W.grownBy (W.setCell ⟨g, i, none⟩ v) (some g) :=
  ⟨rfl, rfl, rfl, by simp [World.setCell], fun k _ hk => Below.heap_setCell _ _ _ _ (fun e => hk (by rw [e]))⟩
theorem own_ne {w : World} {base : Nat} {e : TypeId} {s : Nat} {v : Value} {n : Nat} {xs : List Value} (h : w.ownsRow base e s v n xs) {g : Nat} (hg : g < base) : v.ownBlock = none ∨ v.ownBlock ≠ some g := by
  cases hv : v.ownBlock with
  | none => exact .inl rfl
  | some p =>
    refine .inr (fun e => ?_)
    have := (owns_lt h p hv).1
    simp at e
    omega
theorem blk_grown {w w' : World} {g : Nat} {vs : List Value} {T : TypeId} {row : Option Nat} (h : Blk w g vs T) (hg : w.grownBy w' row) (hne : ∀ p, row = some p → g < p) : Blk w' g vs T := by
  have hlt := h.lt
  unfold Blk at h ⊢
  rw [hg.block g hlt (fun e => by have := hne g e.symm; omega)]
  exact h
end Go.Proofs.YtgaoeoijdpdjiaaGreatDoor
