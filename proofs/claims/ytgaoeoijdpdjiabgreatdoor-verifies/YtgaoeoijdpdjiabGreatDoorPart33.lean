/-
  Is it the place of a leaf? The program's isLeafOf. The program's Join where all is right. The statement's keepTexts: the caller writes a mark into a whole list and appends to it three times; the book holds four lists more. The program's Signing: the leaf that signs in a layer under an index. The statement's own lent and whole: a list with spare room behind it, handed in, and looked at again.
-/
import Derived.Test.YtgaoeoijdpdjiabGreatDoorPart30
import Derived.Test.YtgaoeoijdpdjiabGreatDoorPart26
import Derived.Test.YtgaoeoijdpdjiabGreatDoorPart31
import Derived.Test.YtgaoeoijdpdjiabGreatDoorPart27
import Derived.Test.YtgaoeoijdpdjiabGreatDoorPart21
import Derived.Laws.CopyOwn
import Derived.WalkSpells
namespace Go.Proofs.YtgaoeoijdpdjiabGreatDoor
open Go.RowKit

set_option maxRecDepth 20000 in
set_option maxHeartbeats 4000000 in
theorem isLeafOf_any (k b x : Int) (t l : Nat) (p0 p1 p2 p3 : Int) (w : World) (h1 : 1 ≤ t) (h2 : t ≤ 4) (h4 : l ≤ 3) :
    Calls Tryz.prog 323 #[.agg #[.int .i64 k, .int .i64 b, .int .i64 x, .int .i64 t, .int .i64 l], .agg #[.int .i64 p0, .int .i64 p1, .int .i64 p2, .int .i64 p3]] w fun e w' => e = .returned (.bool (leafB t l p0 p1 p2)) ∧ Below w.heap.size w w' := by
  obtain ⟨W0, hW⟩ : ∃ W0, (w.alloc (.cells #[.int .i64 k, .int .i64 b, .int .i64 x, .int .i64 t, .int .i64 l] 26)).alloc (.cells #[.int .i64 p0, .int .i64 p1, .int .i64 p2, .int .i64 p3] 91) = W0 := ⟨_, rfl⟩
  have HF := hide (show FiveC w.heap.size W0 k b x t l by subst hW; refine ⟨?_, ?_, ?_, ?_, ?_⟩ <;> simp [go_sem])
  have HP := hide (show FourC (w.heap.size + 1) W0 p0 p1 p2 p3 by subst hW; refine ⟨?_, ?_, ?_, ?_⟩ <;> simp [go_sem])
  have HB := hide (show Below w.heap.size w W0 by subst hW; exact ((Below.refl _ _).alloc (Nat.le_refl _) _).alloc (by simp) _)
  have hz : W0.heap.size ≤ w.heap.size + 2 := by subst hW; simp
  have hz' : w.heap.size + 2 ≤ W0.heap.size := by subst hW; simp
  have HS := hide (fun (V : World) (h : Below W0.heap.size W0 V) => (by
    obtain ⟨c0, c1, c2, c3, c4⟩ := HF.out.below h (by omega)
    obtain ⟨d0, d1, d2, d3⟩ := HP.out.below h (by omega)
    exact ⟨c0, c1, c2, c3, c4, d0, d1, d2, d3, h⟩ : V.cell? ⟨w.heap.size, 0, none⟩ = some (.int .i64 k) ∧ V.cell? ⟨w.heap.size, 1, none⟩ = some (.int .i64 b) ∧ V.cell? ⟨w.heap.size, 2, none⟩ = some (.int .i64 x) ∧ V.cell? ⟨w.heap.size, 3, none⟩ = some (.int .i64 t) ∧ V.cell? ⟨w.heap.size, 4, none⟩ = some (.int .i64 l) ∧ V.cell? ⟨w.heap.size + 1, 0, none⟩ = some (.int .i64 p0) ∧ V.cell? ⟨w.heap.size + 1, 1, none⟩ = some (.int .i64 p1) ∧ V.cell? ⟨w.heap.size + 1, 2, none⟩ = some (.int .i64 p2) ∧ V.cell? ⟨w.heap.size + 1, 3, none⟩ = some (.int .i64 p3) ∧ Below W0.heap.size W0 V))
  have HWI := hide (fun (v n : Int) (V : World) => within_any v n V)
  have HLV := hide (fun V : World => setsLeaves_any k b x l t V h1 h2)
  unfold leafB
  cases e1 : decide (0 ≤ p0 ∧ p0 < (l : Int)) with
  | false =>
    have HW1 := hide (fun V : World => within_any p0 l V)
    rw [e1] at HW1
    clear e1
    go_enter Tryz.func323, Tryz.ntmps323
    go_wp2_with fail
    try rw [hW]
    refine wp_region_held_drew (S := fun V => V.cell? ⟨w.heap.size, 0, none⟩ = some (.int .i64 k) ∧ V.cell? ⟨w.heap.size, 1, none⟩ = some (.int .i64 b) ∧ V.cell? ⟨w.heap.size, 2, none⟩ = some (.int .i64 x) ∧ V.cell? ⟨w.heap.size, 3, none⟩ = some (.int .i64 t) ∧ V.cell? ⟨w.heap.size, 4, none⟩ = some (.int .i64 l) ∧ V.cell? ⟨w.heap.size + 1, 0, none⟩ = some (.int .i64 p0) ∧ V.cell? ⟨w.heap.size + 1, 1, none⟩ = some (.int .i64 p1) ∧ V.cell? ⟨w.heap.size + 1, 2, none⟩ = some (.int .i64 p2) ∧ V.cell? ⟨w.heap.size + 1, 3, none⟩ = some (.int .i64 p3) ∧ Below W0.heap.size W0 V) (by kernel_rfl) (HS.out _ ((Below.refl W0.heap.size W0).drew)) (fun hHeld => ?_)
    refine wpAnyH_take (i := 0) (oi := ?oia0) (v := ?va0) ?hia0 (by kernel_rfl) (by kernel_rfl) (by kernel_rfl) ?hQa0 (Or.inl ⟨?h1a0, ?hya0⟩) hHeld ?resta0
    case hia0 => (simp only [List.getElem?_toArray, List.getElem?_cons_zero]; rfl)
    case hQa0 => exact fun _ _ _ h => h
    case h1a0 => rfl
    case hya0 => intro V hSV; (try dsimp only at hSV); go_simp; (try with_reducible rfl)
    try simp only [Act.put, List.setIfInBounds_toArray, List.set_cons_zero, List.set_cons_succ]
    refine wpAnyH_take (i := 1) (oi := ?oia1) (v := ?va1) ?hia1 (by kernel_rfl) (by kernel_rfl) (by kernel_rfl) ?hQa1 (Or.inl ⟨?h1a1, ?hya1⟩) hHeld ?resta1
    case hia1 => (simp only [List.getElem?_toArray, List.getElem?_cons_succ, List.getElem?_cons_zero]; rfl)
    case hQa1 => exact fun _ _ _ h => h
    case h1a1 => rfl
    case hya1 => intro V hSV; (try dsimp only at hSV); go_simp; (try with_reducible rfl)
    try simp only [Act.put, List.setIfInBounds_toArray, List.set_cons_zero, List.set_cons_succ]
    refine wpAnyH_take (i := 2) (oi := ?oia2) (v := ?va2) ?hia2 (by kernel_rfl) (by kernel_rfl) (by kernel_rfl) ?hQa2 (Or.inl ⟨?h1a2, ?hya2⟩) hHeld ?resta2
    case hia2 => (simp only [List.getElem?_toArray, List.getElem?_cons_succ, List.getElem?_cons_zero]; rfl)
    case hQa2 => exact fun _ _ _ h => h
    case h1a2 => rfl
    case hya2 => intro V hSV; (try dsimp only at hSV); go_simp; (try with_reducible rfl)
    try simp only [Act.put, List.setIfInBounds_toArray, List.set_cons_zero, List.set_cons_succ]
    refine wpAnyH_take (i := 3) (oi := ?oia3) (v := ?va3) ?hia3 (by kernel_rfl) (by kernel_rfl) (by kernel_rfl) ?hQa3 (Or.inl ⟨?h1a3, ?hya3⟩) hHeld ?resta3
    case hia3 => (simp only [List.getElem?_toArray, List.getElem?_cons_succ, List.getElem?_cons_zero]; rfl)
    case hQa3 => exact fun _ _ _ h => h
    case h1a3 => rfl
    case hya3 => intro V hSV; (try dsimp only at hSV); go_simp; (try with_reducible rfl)
    try simp only [Act.put, List.setIfInBounds_toArray, List.set_cons_zero, List.set_cons_succ]
    refine wpAnyH_ready (rs := [4]) (by kernel_rfl) (by simp) ?_
    refine AllReadyH.cons (o := ?oa4) ?hoa4 (fun K hK => ?hsa4) AllReadyH.nil
    case hoa4 => (simp only [List.getElem?_toArray, List.getElem?_cons_succ, List.getElem?_cons_zero]; rfl)
    go_simp
    refine (HW1.out _).mono ?_
    rintro e w1 ⟨rfl, rfl⟩
    try go_wp2_with fail
    refine hK.out _ _ (HS.out _ ((Below.refl W0.heap.size W0).drew)) (fun hHeld => ?_)
    clear hK K
    try simp only [Act.put, List.setIfInBounds_toArray, List.set_cons_zero, List.set_cons_succ]
    refine wpAnyH_take (i := 5) (oi := ?oia5) (v := ?va5) ?hia5 (by kernel_rfl) (by kernel_rfl) (by kernel_rfl) ?hQa5 (Or.inl ⟨?h1a5, ?hya5⟩) hHeld ?resta5
    case hia5 => (simp only [List.getElem?_toArray, List.getElem?_cons_succ, List.getElem?_cons_zero]; rfl)
    case hQa5 => exact fun _ _ _ h => h
    case h1a5 => rfl
    case hya5 => intro V hSV; (try dsimp only at hSV); go_simp; (try with_reducible rfl)
    try simp only [Act.put, List.setIfInBounds_toArray, List.set_cons_zero, List.set_cons_succ]
    refine wpAnyH_take (i := 6) (oi := ?oia6) (v := undef) ?hia6 (by kernel_rfl) (by kernel_rfl) (by kernel_rfl) ?hQa6 (Or.inr ⟨?h1a6, rfl⟩) hHeld ?resta6
    case hia6 => (simp only [List.getElem?_toArray, List.getElem?_cons_succ, List.getElem?_cons_zero]; rfl)
    case hQa6 => exact fun _ _ _ h => h
    case h1a6 => rfl
    try simp only [Act.put, List.setIfInBounds_toArray, List.set_cons_zero, List.set_cons_succ]
    refine wpAnyH_take (i := 7) (oi := ?oia7) (v := undef) ?hia7 (by kernel_rfl) (by kernel_rfl) (by kernel_rfl) ?hQa7 (Or.inr ⟨?h1a7, rfl⟩) hHeld ?resta7
    case hia7 => (simp only [List.getElem?_toArray, List.getElem?_cons_succ, List.getElem?_cons_zero]; rfl)
    case hQa7 => exact fun _ _ _ h => h
    case h1a7 => rfl
    try simp only [Act.put, List.setIfInBounds_toArray, List.set_cons_zero, List.set_cons_succ]
    refine wpAnyH_take (i := 8) (oi := ?oia8) (v := undef) ?hia8 (by kernel_rfl) (by kernel_rfl) (by kernel_rfl) ?hQa8 (Or.inr ⟨?h1a8, rfl⟩) hHeld ?resta8
    case hia8 => (simp only [List.getElem?_toArray, List.getElem?_cons_succ, List.getElem?_cons_zero]; rfl)
    case hQa8 => exact fun _ _ _ h => h
    case h1a8 => rfl
    try simp only [Act.put, List.setIfInBounds_toArray, List.set_cons_zero, List.set_cons_succ]
    refine wpAnyH_take (i := 9) (oi := ?oia9) (v := undef) ?hia9 (by kernel_rfl) (by kernel_rfl) (by kernel_rfl) ?hQa9 (Or.inr ⟨?h1a9, rfl⟩) hHeld ?resta9
    case hia9 => (simp only [List.getElem?_toArray, List.getElem?_cons_succ, List.getElem?_cons_zero]; rfl)
    case hQa9 => exact fun _ _ _ h => h
    case h1a9 => rfl
    try simp only [Act.put, List.setIfInBounds_toArray, List.set_cons_zero, List.set_cons_succ]
    refine wpAnyH_take (i := 10) (oi := ?oia10) (v := undef) ?hia10 (by kernel_rfl) (by kernel_rfl) (by kernel_rfl) ?hQa10 (Or.inr ⟨?h1a10, rfl⟩) hHeld ?resta10
    case hia10 => (simp only [List.getElem?_toArray, List.getElem?_cons_succ, List.getElem?_cons_zero]; rfl)
    case hQa10 => exact fun _ _ _ h => h
    case h1a10 => rfl
    try simp only [Act.put, List.setIfInBounds_toArray, List.set_cons_zero, List.set_cons_succ]
    refine wpAnyH_take (i := 11) (oi := ?oia11) (v := undef) ?hia11 (by kernel_rfl) (by kernel_rfl) (by kernel_rfl) ?hQa11 (Or.inr ⟨?h1a11, rfl⟩) hHeld ?resta11
    case hia11 => (simp only [List.getElem?_toArray, List.getElem?_cons_succ, List.getElem?_cons_zero]; rfl)
    case hQa11 => exact fun _ _ _ h => h
    case h1a11 => rfl
    try simp only [Act.put, List.setIfInBounds_toArray, List.set_cons_zero, List.set_cons_succ]
    refine wpAnyH_take (i := 12) (oi := ?oia12) (v := undef) ?hia12 (by kernel_rfl) (by kernel_rfl) (by kernel_rfl) ?hQa12 (Or.inr ⟨?h1a12, rfl⟩) hHeld ?resta12
    case hia12 => (simp only [List.getElem?_toArray, List.getElem?_cons_succ, List.getElem?_cons_zero]; rfl)
    case hQa12 => exact fun _ _ _ h => h
    case h1a12 => rfl
    try simp only [Act.put, List.setIfInBounds_toArray, List.set_cons_zero, List.set_cons_succ]
    refine wpAnyH_take (i := 13) (oi := ?oia13) (v := ?va13) ?hia13 (by kernel_rfl) (by kernel_rfl) (by kernel_rfl) ?hQa13 (Or.inl ⟨?h1a13, ?hya13⟩) hHeld ?resta13
    case hia13 => (simp only [List.getElem?_toArray, List.getElem?_cons_succ, List.getElem?_cons_zero]; rfl)
    case hQa13 => exact fun _ _ _ h => h
    case h1a13 => rfl
    case hya13 => intro V hSV; (try dsimp only at hSV); go_simp; (try with_reducible rfl)
    try simp only [Act.put, List.setIfInBounds_toArray, List.set_cons_zero, List.set_cons_succ]
    refine wpAnyH_take (i := 14) (oi := ?oia14) (v := ?va14) ?hia14 (by kernel_rfl) (by kernel_rfl) (by kernel_rfl) ?hQa14 (Or.inl ⟨?h1a14, ?hya14⟩) hHeld ?resta14
    case hia14 => (simp only [List.getElem?_toArray, List.getElem?_cons_succ, List.getElem?_cons_zero]; rfl)
    case hQa14 => exact fun _ _ _ h => h
    case h1a14 => rfl
    case hya14 => intro V hSV; (try dsimp only at hSV); go_simp; (try with_reducible rfl)
    try simp only [Act.put, List.setIfInBounds_toArray, List.set_cons_zero, List.set_cons_succ]
    refine wpAnyH_take (i := 15) (oi := ?oia15) (v := undef) ?hia15 (by kernel_rfl) (by kernel_rfl) (by kernel_rfl) ?hQa15 (Or.inr ⟨?h1a15, rfl⟩) hHeld ?resta15
    case hia15 => (simp only [List.getElem?_toArray, List.getElem?_cons_succ, List.getElem?_cons_zero]; rfl)
    case hQa15 => exact fun _ _ _ h => h
    case h1a15 => rfl
    try simp only [Act.put, List.setIfInBounds_toArray, List.set_cons_zero, List.set_cons_succ]
    refine wpAnyH_take (i := 16) (oi := ?oia16) (v := undef) ?hia16 (by kernel_rfl) (by kernel_rfl) (by kernel_rfl) ?hQa16 (Or.inr ⟨?h1a16, rfl⟩) hHeld ?resta16
    case hia16 => (simp only [List.getElem?_toArray, List.getElem?_cons_succ, List.getElem?_cons_zero]; rfl)
    case hQa16 => exact fun _ _ _ h => h
    case h1a16 => rfl
    try simp only [Act.put, List.setIfInBounds_toArray, List.set_cons_zero, List.set_cons_succ]
    refine wpAnyH_take (i := 17) (oi := ?oia17) (v := undef) ?hia17 (by kernel_rfl) (by kernel_rfl) (by kernel_rfl) ?hQa17 (Or.inr ⟨?h1a17, rfl⟩) hHeld ?resta17
    case hia17 => (simp only [List.getElem?_toArray, List.getElem?_cons_succ, List.getElem?_cons_zero]; rfl)
    case hQa17 => exact fun _ _ _ h => h
    case h1a17 => rfl
    try simp only [Act.put, List.setIfInBounds_toArray, List.set_cons_zero, List.set_cons_succ]
    refine wpAnyH_take (i := 18) (oi := ?oia18) (v := undef) ?hia18 (by kernel_rfl) (by kernel_rfl) (by kernel_rfl) ?hQa18 (Or.inr ⟨?h1a18, rfl⟩) hHeld ?resta18
    case hia18 => (simp only [List.getElem?_toArray, List.getElem?_cons_succ, List.getElem?_cons_zero]; rfl)
    case hQa18 => exact fun _ _ _ h => h
    case h1a18 => rfl
    try simp only [Act.put, List.setIfInBounds_toArray, List.set_cons_zero, List.set_cons_succ]
    refine wpAnyH_take (i := 19) (oi := ?oia19) (v := undef) ?hia19 (by kernel_rfl) (by kernel_rfl) (by kernel_rfl) ?hQa19 (Or.inr ⟨?h1a19, rfl⟩) hHeld ?resta19
    case hia19 => (simp only [List.getElem?_toArray, List.getElem?_cons_succ, List.getElem?_cons_zero]; rfl)
    case hQa19 => exact fun _ _ _ h => h
    case h1a19 => rfl
    try simp only [Act.put, List.setIfInBounds_toArray, List.set_cons_zero, List.set_cons_succ]
    refine wpAnyH_take (i := 20) (oi := ?oia20) (v := ?va20) ?hia20 (by kernel_rfl) (by kernel_rfl) (by kernel_rfl) ?hQa20 (Or.inl ⟨?h1a20, ?hya20⟩) hHeld ?resta20
    case hia20 => (simp only [List.getElem?_toArray, List.getElem?_cons_succ, List.getElem?_cons_zero]; rfl)
    case hQa20 => exact fun _ _ _ h => h
    case h1a20 => rfl
    case hya20 => intro V hSV; (try dsimp only at hSV); go_simp; (try with_reducible rfl)
    try simp only [Act.put, List.setIfInBounds_toArray, List.set_cons_zero, List.set_cons_succ]
    refine wpAnyH_take (i := 21) (oi := ?oia21) (v := ?va21) ?hia21 (by kernel_rfl) (by kernel_rfl) (by kernel_rfl) ?hQa21 (Or.inl ⟨?h1a21, ?hya21⟩) hHeld ?resta21
    case hia21 => (simp only [List.getElem?_toArray, List.getElem?_cons_succ, List.getElem?_cons_zero]; rfl)
    case hQa21 => exact fun _ _ _ h => h
    case h1a21 => rfl
    case hya21 => intro V hSV; (try dsimp only at hSV); go_simp; (try with_reducible rfl)
    try simp only [Act.put, List.setIfInBounds_toArray, List.set_cons_zero, List.set_cons_succ]
    refine wpAnyH_done (by kernel_rfl) ?_ _
    go_wp2
    go_ret
    exact ⟨rfl, HB.out.trans (((Below.refl W0.heap.size W0).drew).mono (by omega))⟩
  | true =>
    have hp0 : 0 ≤ p0 ∧ p0 < (l : Int) := of_decide_eq_true e1
    obtain ⟨q, hq⟩ : ∃ q : Nat, p0 = (q : Int) := ⟨p0.toNat, by omega⟩
    have HW1 := hide (fun V : World => within_any p0 l V)
    rw [e1] at HW1
    have HTR := hide (fun V : World => trees_any k b x t l q V h1 h2 h4 (by omega))
    rw [← hq] at HTR
    rw [show p0.toNat = q by omega]
    clear e1 hp0 hq
    have HW2 := hide (fun V : World => within_any p1 ((2 ^ (t * (l - 1 - q)) : Nat) : Int) V)
    generalize ((2 ^ (t * (l - 1 - q)) : Nat) : Int) = tr at HTR HW2 ⊢
    generalize decide (0 ≤ p1 ∧ p1 < tr) = bt at HW2 ⊢
    cases bt with
    | false =>
      go_enter Tryz.func323, Tryz.ntmps323
      go_wp2_with fail
      try rw [hW]
      refine wp_region_held_drew (S := fun V => V.cell? ⟨w.heap.size, 0, none⟩ = some (.int .i64 k) ∧ V.cell? ⟨w.heap.size, 1, none⟩ = some (.int .i64 b) ∧ V.cell? ⟨w.heap.size, 2, none⟩ = some (.int .i64 x) ∧ V.cell? ⟨w.heap.size, 3, none⟩ = some (.int .i64 t) ∧ V.cell? ⟨w.heap.size, 4, none⟩ = some (.int .i64 l) ∧ V.cell? ⟨w.heap.size + 1, 0, none⟩ = some (.int .i64 p0) ∧ V.cell? ⟨w.heap.size + 1, 1, none⟩ = some (.int .i64 p1) ∧ V.cell? ⟨w.heap.size + 1, 2, none⟩ = some (.int .i64 p2) ∧ V.cell? ⟨w.heap.size + 1, 3, none⟩ = some (.int .i64 p3) ∧ Below W0.heap.size W0 V) (by kernel_rfl) (HS.out _ ((Below.refl W0.heap.size W0).drew)) (fun hHeld => ?_)
      refine wpAnyH_take (i := 0) (oi := ?oib0) (v := ?vb0) ?hib0 (by kernel_rfl) (by kernel_rfl) (by kernel_rfl) ?hQb0 (Or.inl ⟨?h1b0, ?hyb0⟩) hHeld ?restb0
      case hib0 => (simp only [List.getElem?_toArray, List.getElem?_cons_zero]; rfl)
      case hQb0 => exact fun _ _ _ h => h
      case h1b0 => rfl
      case hyb0 => intro V hSV; (try dsimp only at hSV); go_simp; (try with_reducible rfl)
      try simp only [Act.put, List.setIfInBounds_toArray, List.set_cons_zero, List.set_cons_succ]
      refine wpAnyH_take (i := 1) (oi := ?oib1) (v := ?vb1) ?hib1 (by kernel_rfl) (by kernel_rfl) (by kernel_rfl) ?hQb1 (Or.inl ⟨?h1b1, ?hyb1⟩) hHeld ?restb1
      case hib1 => (simp only [List.getElem?_toArray, List.getElem?_cons_succ, List.getElem?_cons_zero]; rfl)
      case hQb1 => exact fun _ _ _ h => h
      case h1b1 => rfl
      case hyb1 => intro V hSV; (try dsimp only at hSV); go_simp; (try with_reducible rfl)
      try simp only [Act.put, List.setIfInBounds_toArray, List.set_cons_zero, List.set_cons_succ]
      refine wpAnyH_take (i := 2) (oi := ?oib2) (v := ?vb2) ?hib2 (by kernel_rfl) (by kernel_rfl) (by kernel_rfl) ?hQb2 (Or.inl ⟨?h1b2, ?hyb2⟩) hHeld ?restb2
      case hib2 => (simp only [List.getElem?_toArray, List.getElem?_cons_succ, List.getElem?_cons_zero]; rfl)
      case hQb2 => exact fun _ _ _ h => h
      case h1b2 => rfl
      case hyb2 => intro V hSV; (try dsimp only at hSV); go_simp; (try with_reducible rfl)
      try simp only [Act.put, List.setIfInBounds_toArray, List.set_cons_zero, List.set_cons_succ]
      refine wpAnyH_take (i := 3) (oi := ?oib3) (v := ?vb3) ?hib3 (by kernel_rfl) (by kernel_rfl) (by kernel_rfl) ?hQb3 (Or.inl ⟨?h1b3, ?hyb3⟩) hHeld ?restb3
      case hib3 => (simp only [List.getElem?_toArray, List.getElem?_cons_succ, List.getElem?_cons_zero]; rfl)
      case hQb3 => exact fun _ _ _ h => h
      case h1b3 => rfl
      case hyb3 => intro V hSV; (try dsimp only at hSV); go_simp; (try with_reducible rfl)
      try simp only [Act.put, List.setIfInBounds_toArray, List.set_cons_zero, List.set_cons_succ]
      refine wpAnyH_ready (rs := [4]) (by kernel_rfl) (by simp) ?_
      refine AllReadyH.cons (o := ?ob4) ?hob4 (fun K hK => ?hsb4) AllReadyH.nil
      case hob4 => (simp only [List.getElem?_toArray, List.getElem?_cons_succ, List.getElem?_cons_zero]; rfl)
      go_simp
      refine (HW1.out _).mono ?_
      rintro e w1 ⟨rfl, rfl⟩
      try go_wp2_with fail
      refine hK.out _ _ (HS.out _ ((Below.refl W0.heap.size W0).drew)) (fun hHeld => ?_)
      clear hK K
      try simp only [Act.put, List.setIfInBounds_toArray, List.set_cons_zero, List.set_cons_succ]
      refine wpAnyH_take (i := 5) (oi := ?oib5) (v := ?vb5) ?hib5 (by kernel_rfl) (by kernel_rfl) (by kernel_rfl) ?hQb5 (Or.inl ⟨?h1b5, ?hyb5⟩) hHeld ?restb5
      case hib5 => (simp only [List.getElem?_toArray, List.getElem?_cons_succ, List.getElem?_cons_zero]; rfl)
      case hQb5 => exact fun _ _ _ h => h
      case h1b5 => rfl
      case hyb5 => intro V hSV; (try dsimp only at hSV); go_simp; (try with_reducible rfl)
      try simp only [Act.put, List.setIfInBounds_toArray, List.set_cons_zero, List.set_cons_succ]
      refine wpAnyH_take (i := 6) (oi := ?oib6) (v := ?vb6) ?hib6 (by kernel_rfl) (by kernel_rfl) (by kernel_rfl) ?hQb6 (Or.inl ⟨?h1b6, ?hyb6⟩) hHeld ?restb6
      case hib6 => (simp only [List.getElem?_toArray, List.getElem?_cons_succ, List.getElem?_cons_zero]; rfl)
      case hQb6 => exact fun _ _ _ h => h
      case h1b6 => rfl
      case hyb6 => intro V hSV; (try dsimp only at hSV); go_simp; (try with_reducible rfl)
      try simp only [Act.put, List.setIfInBounds_toArray, List.set_cons_zero, List.set_cons_succ]
      refine wpAnyH_take (i := 7) (oi := ?oib7) (v := ?vb7) ?hib7 (by kernel_rfl) (by kernel_rfl) (by kernel_rfl) ?hQb7 (Or.inl ⟨?h1b7, ?hyb7⟩) hHeld ?restb7
      case hib7 => (simp only [List.getElem?_toArray, List.getElem?_cons_succ, List.getElem?_cons_zero]; rfl)
      case hQb7 => exact fun _ _ _ h => h
      case h1b7 => rfl
      case hyb7 => intro V hSV; (try dsimp only at hSV); go_simp; (try with_reducible rfl)
      try simp only [Act.put, List.setIfInBounds_toArray, List.set_cons_zero, List.set_cons_succ]
      refine wpAnyH_take (i := 8) (oi := ?oib8) (v := ?vb8) ?hib8 (by kernel_rfl) (by kernel_rfl) (by kernel_rfl) ?hQb8 (Or.inl ⟨?h1b8, ?hyb8⟩) hHeld ?restb8
      case hib8 => (simp only [List.getElem?_toArray, List.getElem?_cons_succ, List.getElem?_cons_zero]; rfl)
      case hQb8 => exact fun _ _ _ h => h
      case h1b8 => rfl
      case hyb8 => intro V hSV; (try dsimp only at hSV); go_simp; (try with_reducible rfl)
      try simp only [Act.put, List.setIfInBounds_toArray, List.set_cons_zero, List.set_cons_succ]
      refine wpAnyH_take (i := 9) (oi := ?oib9) (v := ?vb9) ?hib9 (by kernel_rfl) (by kernel_rfl) (by kernel_rfl) ?hQb9 (Or.inl ⟨?h1b9, ?hyb9⟩) hHeld ?restb9
      case hib9 => (simp only [List.getElem?_toArray, List.getElem?_cons_succ, List.getElem?_cons_zero]; rfl)
      case hQb9 => exact fun _ _ _ h => h
      case h1b9 => rfl
      case hyb9 => intro V hSV; (try dsimp only at hSV); go_simp; (try with_reducible rfl)
      try simp only [Act.put, List.setIfInBounds_toArray, List.set_cons_zero, List.set_cons_succ]
      refine wpAnyH_take (i := 10) (oi := ?oib10) (v := ?vb10) ?hib10 (by kernel_rfl) (by kernel_rfl) (by kernel_rfl) ?hQb10 (Or.inl ⟨?h1b10, ?hyb10⟩) hHeld ?restb10
      case hib10 => (simp only [List.getElem?_toArray, List.getElem?_cons_succ, List.getElem?_cons_zero]; rfl)
      case hQb10 => exact fun _ _ _ h => h
      case h1b10 => rfl
      case hyb10 => intro V hSV; (try dsimp only at hSV); go_simp; (try with_reducible rfl)
      try simp only [Act.put, List.setIfInBounds_toArray, List.set_cons_zero, List.set_cons_succ]
      refine wpAnyH_ready (rs := [11]) (by kernel_rfl) (by simp) ?_
      refine AllReadyH.cons (o := ?ob11) ?hob11 (fun K hK => ?hsb11) AllReadyH.nil
      case hob11 => (simp only [List.getElem?_toArray, List.getElem?_cons_succ, List.getElem?_cons_zero]; rfl)
      go_simp
      refine (HTR.out _).mono ?_
      rintro e w2 ⟨rfl, hb2⟩
      have hS2 := heldB (Below.refl W0.heap.size W0).drew hb2 (Nat.le_refl _)
      try go_wp2_with fail
      refine hK.out _ _ (HS.out _ (hS2)) (fun hHeld => ?_)
      clear hK K
      try simp only [Act.put, List.setIfInBounds_toArray, List.set_cons_zero, List.set_cons_succ]
      refine wpAnyH_ready (rs := [12]) (by kernel_rfl) (by simp) ?_
      refine AllReadyH.cons (o := ?ob12) ?hob12 (fun K hK => ?hsb12) AllReadyH.nil
      case hob12 => (simp only [List.getElem?_toArray, List.getElem?_cons_succ, List.getElem?_cons_zero]; rfl)
      go_simp
      refine (HW2.out _).mono ?_
      rintro e w3 ⟨rfl, rfl⟩
      try go_wp2_with fail
      refine hK.out _ _ (HS.out _ (hS2)) (fun hHeld => ?_)
      clear hK K
      try simp only [Act.put, List.setIfInBounds_toArray, List.set_cons_zero, List.set_cons_succ]
      refine wpAnyH_take (i := 13) (oi := ?oib13) (v := ?vb13) ?hib13 (by kernel_rfl) (by kernel_rfl) (by kernel_rfl) ?hQb13 (Or.inl ⟨?h1b13, ?hyb13⟩) hHeld ?restb13
      case hib13 => (simp only [List.getElem?_toArray, List.getElem?_cons_succ, List.getElem?_cons_zero]; rfl)
      case hQb13 => exact fun _ _ _ h => h
      case h1b13 => rfl
      case hyb13 => intro V hSV; (try dsimp only at hSV); go_simp; (try with_reducible rfl)
      try simp only [Act.put, List.setIfInBounds_toArray, List.set_cons_zero, List.set_cons_succ]
      refine wpAnyH_take (i := 14) (oi := ?oib14) (v := ?vb14) ?hib14 (by kernel_rfl) (by kernel_rfl) (by kernel_rfl) ?hQb14 (Or.inl ⟨?h1b14, ?hyb14⟩) hHeld ?restb14
      case hib14 => (simp only [List.getElem?_toArray, List.getElem?_cons_succ, List.getElem?_cons_zero]; rfl)
      case hQb14 => exact fun _ _ _ h => h
      case h1b14 => rfl
      case hyb14 => intro V hSV; (try dsimp only at hSV); go_simp; (try with_reducible rfl)
      try simp only [Act.put, List.setIfInBounds_toArray, List.set_cons_zero, List.set_cons_succ]
      refine wpAnyH_take (i := 15) (oi := ?oib15) (v := undef) ?hib15 (by kernel_rfl) (by kernel_rfl) (by kernel_rfl) ?hQb15 (Or.inr ⟨?h1b15, rfl⟩) hHeld ?restb15
      case hib15 => (simp only [List.getElem?_toArray, List.getElem?_cons_succ, List.getElem?_cons_zero]; rfl)
      case hQb15 => exact fun _ _ _ h => h
      case h1b15 => rfl
      try simp only [Act.put, List.setIfInBounds_toArray, List.set_cons_zero, List.set_cons_succ]
      refine wpAnyH_take (i := 16) (oi := ?oib16) (v := undef) ?hib16 (by kernel_rfl) (by kernel_rfl) (by kernel_rfl) ?hQb16 (Or.inr ⟨?h1b16, rfl⟩) hHeld ?restb16
      case hib16 => (simp only [List.getElem?_toArray, List.getElem?_cons_succ, List.getElem?_cons_zero]; rfl)
      case hQb16 => exact fun _ _ _ h => h
      case h1b16 => rfl
      try simp only [Act.put, List.setIfInBounds_toArray, List.set_cons_zero, List.set_cons_succ]
      refine wpAnyH_take (i := 17) (oi := ?oib17) (v := undef) ?hib17 (by kernel_rfl) (by kernel_rfl) (by kernel_rfl) ?hQb17 (Or.inr ⟨?h1b17, rfl⟩) hHeld ?restb17
      case hib17 => (simp only [List.getElem?_toArray, List.getElem?_cons_succ, List.getElem?_cons_zero]; rfl)
      case hQb17 => exact fun _ _ _ h => h
      case h1b17 => rfl
      try simp only [Act.put, List.setIfInBounds_toArray, List.set_cons_zero, List.set_cons_succ]
      refine wpAnyH_take (i := 18) (oi := ?oib18) (v := undef) ?hib18 (by kernel_rfl) (by kernel_rfl) (by kernel_rfl) ?hQb18 (Or.inr ⟨?h1b18, rfl⟩) hHeld ?restb18
      case hib18 => (simp only [List.getElem?_toArray, List.getElem?_cons_succ, List.getElem?_cons_zero]; rfl)
      case hQb18 => exact fun _ _ _ h => h
      case h1b18 => rfl
      try simp only [Act.put, List.setIfInBounds_toArray, List.set_cons_zero, List.set_cons_succ]
      refine wpAnyH_take (i := 19) (oi := ?oib19) (v := undef) ?hib19 (by kernel_rfl) (by kernel_rfl) (by kernel_rfl) ?hQb19 (Or.inr ⟨?h1b19, rfl⟩) hHeld ?restb19
      case hib19 => (simp only [List.getElem?_toArray, List.getElem?_cons_succ, List.getElem?_cons_zero]; rfl)
      case hQb19 => exact fun _ _ _ h => h
      case h1b19 => rfl
      try simp only [Act.put, List.setIfInBounds_toArray, List.set_cons_zero, List.set_cons_succ]
      refine wpAnyH_take (i := 20) (oi := ?oib20) (v := ?vb20) ?hib20 (by kernel_rfl) (by kernel_rfl) (by kernel_rfl) ?hQb20 (Or.inl ⟨?h1b20, ?hyb20⟩) hHeld ?restb20
      case hib20 => (simp only [List.getElem?_toArray, List.getElem?_cons_succ, List.getElem?_cons_zero]; rfl)
      case hQb20 => exact fun _ _ _ h => h
      case h1b20 => rfl
      case hyb20 => intro V hSV; (try dsimp only at hSV); go_simp; (try with_reducible rfl)
      try simp only [Act.put, List.setIfInBounds_toArray, List.set_cons_zero, List.set_cons_succ]
      refine wpAnyH_take (i := 21) (oi := ?oib21) (v := ?vb21) ?hib21 (by kernel_rfl) (by kernel_rfl) (by kernel_rfl) ?hQb21 (Or.inl ⟨?h1b21, ?hyb21⟩) hHeld ?restb21
      case hib21 => (simp only [List.getElem?_toArray, List.getElem?_cons_succ, List.getElem?_cons_zero]; rfl)
      case hQb21 => exact fun _ _ _ h => h
      case h1b21 => rfl
      case hyb21 => intro V hSV; (try dsimp only at hSV); go_simp; (try with_reducible rfl)
      try simp only [Act.put, List.setIfInBounds_toArray, List.set_cons_zero, List.set_cons_succ]
      refine wpAnyH_done (by kernel_rfl) ?_ _
      go_wp2
      go_ret
      exact ⟨rfl, HB.out.trans ((hS2).mono (by omega))⟩
    | true =>
      have HW3 := hide (fun V : World => within_any p2 ((2 ^ t : Nat) : Int) V)
      generalize ((2 ^ t : Nat) : Int) = lv at HLV HW3 ⊢
      generalize decide (0 ≤ p2 ∧ p2 < lv) = bl at HW3 ⊢
      go_enter Tryz.func323, Tryz.ntmps323
      go_wp2_with fail
      try rw [hW]
      refine wp_region_held_drew (S := fun V => V.cell? ⟨w.heap.size, 0, none⟩ = some (.int .i64 k) ∧ V.cell? ⟨w.heap.size, 1, none⟩ = some (.int .i64 b) ∧ V.cell? ⟨w.heap.size, 2, none⟩ = some (.int .i64 x) ∧ V.cell? ⟨w.heap.size, 3, none⟩ = some (.int .i64 t) ∧ V.cell? ⟨w.heap.size, 4, none⟩ = some (.int .i64 l) ∧ V.cell? ⟨w.heap.size + 1, 0, none⟩ = some (.int .i64 p0) ∧ V.cell? ⟨w.heap.size + 1, 1, none⟩ = some (.int .i64 p1) ∧ V.cell? ⟨w.heap.size + 1, 2, none⟩ = some (.int .i64 p2) ∧ V.cell? ⟨w.heap.size + 1, 3, none⟩ = some (.int .i64 p3) ∧ Below W0.heap.size W0 V) (by kernel_rfl) (HS.out _ ((Below.refl W0.heap.size W0).drew)) (fun hHeld => ?_)
      refine wpAnyH_take (i := 0) (oi := ?oic0) (v := ?vc0) ?hic0 (by kernel_rfl) (by kernel_rfl) (by kernel_rfl) ?hQc0 (Or.inl ⟨?h1c0, ?hyc0⟩) hHeld ?restc0
      case hic0 => (simp only [List.getElem?_toArray, List.getElem?_cons_zero]; rfl)
      case hQc0 => exact fun _ _ _ h => h
      case h1c0 => rfl
      case hyc0 => intro V hSV; (try dsimp only at hSV); go_simp; (try with_reducible rfl)
      try simp only [Act.put, List.setIfInBounds_toArray, List.set_cons_zero, List.set_cons_succ]
      refine wpAnyH_take (i := 1) (oi := ?oic1) (v := ?vc1) ?hic1 (by kernel_rfl) (by kernel_rfl) (by kernel_rfl) ?hQc1 (Or.inl ⟨?h1c1, ?hyc1⟩) hHeld ?restc1
      case hic1 => (simp only [List.getElem?_toArray, List.getElem?_cons_succ, List.getElem?_cons_zero]; rfl)
      case hQc1 => exact fun _ _ _ h => h
      case h1c1 => rfl
      case hyc1 => intro V hSV; (try dsimp only at hSV); go_simp; (try with_reducible rfl)
      try simp only [Act.put, List.setIfInBounds_toArray, List.set_cons_zero, List.set_cons_succ]
      refine wpAnyH_take (i := 2) (oi := ?oic2) (v := ?vc2) ?hic2 (by kernel_rfl) (by kernel_rfl) (by kernel_rfl) ?hQc2 (Or.inl ⟨?h1c2, ?hyc2⟩) hHeld ?restc2
      case hic2 => (simp only [List.getElem?_toArray, List.getElem?_cons_succ, List.getElem?_cons_zero]; rfl)
      case hQc2 => exact fun _ _ _ h => h
      case h1c2 => rfl
      case hyc2 => intro V hSV; (try dsimp only at hSV); go_simp; (try with_reducible rfl)
      try simp only [Act.put, List.setIfInBounds_toArray, List.set_cons_zero, List.set_cons_succ]
      refine wpAnyH_take (i := 3) (oi := ?oic3) (v := ?vc3) ?hic3 (by kernel_rfl) (by kernel_rfl) (by kernel_rfl) ?hQc3 (Or.inl ⟨?h1c3, ?hyc3⟩) hHeld ?restc3
      case hic3 => (simp only [List.getElem?_toArray, List.getElem?_cons_succ, List.getElem?_cons_zero]; rfl)
      case hQc3 => exact fun _ _ _ h => h
      case h1c3 => rfl
      case hyc3 => intro V hSV; (try dsimp only at hSV); go_simp; (try with_reducible rfl)
      try simp only [Act.put, List.setIfInBounds_toArray, List.set_cons_zero, List.set_cons_succ]
      refine wpAnyH_ready (rs := [4]) (by kernel_rfl) (by simp) ?_
      refine AllReadyH.cons (o := ?oc4) ?hoc4 (fun K hK => ?hsc4) AllReadyH.nil
      case hoc4 => (simp only [List.getElem?_toArray, List.getElem?_cons_succ, List.getElem?_cons_zero]; rfl)
      go_simp
      refine (HW1.out _).mono ?_
      rintro e w1 ⟨rfl, rfl⟩
      try go_wp2_with fail
      refine hK.out _ _ (HS.out _ ((Below.refl W0.heap.size W0).drew)) (fun hHeld => ?_)
      clear hK K
      try simp only [Act.put, List.setIfInBounds_toArray, List.set_cons_zero, List.set_cons_succ]
      refine wpAnyH_take (i := 5) (oi := ?oic5) (v := ?vc5) ?hic5 (by kernel_rfl) (by kernel_rfl) (by kernel_rfl) ?hQc5 (Or.inl ⟨?h1c5, ?hyc5⟩) hHeld ?restc5
      case hic5 => (simp only [List.getElem?_toArray, List.getElem?_cons_succ, List.getElem?_cons_zero]; rfl)
      case hQc5 => exact fun _ _ _ h => h
      case h1c5 => rfl
      case hyc5 => intro V hSV; (try dsimp only at hSV); go_simp; (try with_reducible rfl)
      try simp only [Act.put, List.setIfInBounds_toArray, List.set_cons_zero, List.set_cons_succ]
      refine wpAnyH_take (i := 6) (oi := ?oic6) (v := ?vc6) ?hic6 (by kernel_rfl) (by kernel_rfl) (by kernel_rfl) ?hQc6 (Or.inl ⟨?h1c6, ?hyc6⟩) hHeld ?restc6
      case hic6 => (simp only [List.getElem?_toArray, List.getElem?_cons_succ, List.getElem?_cons_zero]; rfl)
      case hQc6 => exact fun _ _ _ h => h
      case h1c6 => rfl
      case hyc6 => intro V hSV; (try dsimp only at hSV); go_simp; (try with_reducible rfl)
      try simp only [Act.put, List.setIfInBounds_toArray, List.set_cons_zero, List.set_cons_succ]
      refine wpAnyH_take (i := 7) (oi := ?oic7) (v := ?vc7) ?hic7 (by kernel_rfl) (by kernel_rfl) (by kernel_rfl) ?hQc7 (Or.inl ⟨?h1c7, ?hyc7⟩) hHeld ?restc7
      case hic7 => (simp only [List.getElem?_toArray, List.getElem?_cons_succ, List.getElem?_cons_zero]; rfl)
      case hQc7 => exact fun _ _ _ h => h
      case h1c7 => rfl
      case hyc7 => intro V hSV; (try dsimp only at hSV); go_simp; (try with_reducible rfl)
      try simp only [Act.put, List.setIfInBounds_toArray, List.set_cons_zero, List.set_cons_succ]
      refine wpAnyH_take (i := 8) (oi := ?oic8) (v := ?vc8) ?hic8 (by kernel_rfl) (by kernel_rfl) (by kernel_rfl) ?hQc8 (Or.inl ⟨?h1c8, ?hyc8⟩) hHeld ?restc8
      case hic8 => (simp only [List.getElem?_toArray, List.getElem?_cons_succ, List.getElem?_cons_zero]; rfl)
      case hQc8 => exact fun _ _ _ h => h
      case h1c8 => rfl
      case hyc8 => intro V hSV; (try dsimp only at hSV); go_simp; (try with_reducible rfl)
      try simp only [Act.put, List.setIfInBounds_toArray, List.set_cons_zero, List.set_cons_succ]
      refine wpAnyH_take (i := 9) (oi := ?oic9) (v := ?vc9) ?hic9 (by kernel_rfl) (by kernel_rfl) (by kernel_rfl) ?hQc9 (Or.inl ⟨?h1c9, ?hyc9⟩) hHeld ?restc9
      case hic9 => (simp only [List.getElem?_toArray, List.getElem?_cons_succ, List.getElem?_cons_zero]; rfl)
      case hQc9 => exact fun _ _ _ h => h
      case h1c9 => rfl
      case hyc9 => intro V hSV; (try dsimp only at hSV); go_simp; (try with_reducible rfl)
      try simp only [Act.put, List.setIfInBounds_toArray, List.set_cons_zero, List.set_cons_succ]
      refine wpAnyH_take (i := 10) (oi := ?oic10) (v := ?vc10) ?hic10 (by kernel_rfl) (by kernel_rfl) (by kernel_rfl) ?hQc10 (Or.inl ⟨?h1c10, ?hyc10⟩) hHeld ?restc10
      case hic10 => (simp only [List.getElem?_toArray, List.getElem?_cons_succ, List.getElem?_cons_zero]; rfl)
      case hQc10 => exact fun _ _ _ h => h
      case h1c10 => rfl
      case hyc10 => intro V hSV; (try dsimp only at hSV); go_simp; (try with_reducible rfl)
      try simp only [Act.put, List.setIfInBounds_toArray, List.set_cons_zero, List.set_cons_succ]
      refine wpAnyH_ready (rs := [11]) (by kernel_rfl) (by simp) ?_
      refine AllReadyH.cons (o := ?oc11) ?hoc11 (fun K hK => ?hsc11) AllReadyH.nil
      case hoc11 => (simp only [List.getElem?_toArray, List.getElem?_cons_succ, List.getElem?_cons_zero]; rfl)
      go_simp
      refine (HTR.out _).mono ?_
      rintro e w2 ⟨rfl, hb2⟩
      have hS2 := heldB (Below.refl W0.heap.size W0).drew hb2 (Nat.le_refl _)
      try go_wp2_with fail
      refine hK.out _ _ (HS.out _ (hS2)) (fun hHeld => ?_)
      clear hK K
      try simp only [Act.put, List.setIfInBounds_toArray, List.set_cons_zero, List.set_cons_succ]
      refine wpAnyH_ready (rs := [12]) (by kernel_rfl) (by simp) ?_
      refine AllReadyH.cons (o := ?oc12) ?hoc12 (fun K hK => ?hsc12) AllReadyH.nil
      case hoc12 => (simp only [List.getElem?_toArray, List.getElem?_cons_succ, List.getElem?_cons_zero]; rfl)
      go_simp
      refine (HW2.out _).mono ?_
      rintro e w3 ⟨rfl, rfl⟩
      try go_wp2_with fail
      refine hK.out _ _ (HS.out _ (hS2)) (fun hHeld => ?_)
      clear hK K
      try simp only [Act.put, List.setIfInBounds_toArray, List.set_cons_zero, List.set_cons_succ]
      refine wpAnyH_take (i := 13) (oi := ?oic13) (v := ?vc13) ?hic13 (by kernel_rfl) (by kernel_rfl) (by kernel_rfl) ?hQc13 (Or.inl ⟨?h1c13, ?hyc13⟩) hHeld ?restc13
      case hic13 => (simp only [List.getElem?_toArray, List.getElem?_cons_succ, List.getElem?_cons_zero]; rfl)
      case hQc13 => exact fun _ _ _ h => h
      case h1c13 => rfl
      case hyc13 => intro V hSV; (try dsimp only at hSV); go_simp; (try with_reducible rfl)
      try simp only [Act.put, List.setIfInBounds_toArray, List.set_cons_zero, List.set_cons_succ]
      refine wpAnyH_take (i := 14) (oi := ?oic14) (v := ?vc14) ?hic14 (by kernel_rfl) (by kernel_rfl) (by kernel_rfl) ?hQc14 (Or.inl ⟨?h1c14, ?hyc14⟩) hHeld ?restc14
      case hic14 => (simp only [List.getElem?_toArray, List.getElem?_cons_succ, List.getElem?_cons_zero]; rfl)
      case hQc14 => exact fun _ _ _ h => h
      case h1c14 => rfl
      case hyc14 => intro V hSV; (try dsimp only at hSV); go_simp; (try with_reducible rfl)
      try simp only [Act.put, List.setIfInBounds_toArray, List.set_cons_zero, List.set_cons_succ]
      refine wpAnyH_take (i := 15) (oi := ?oic15) (v := ?vc15) ?hic15 (by kernel_rfl) (by kernel_rfl) (by kernel_rfl) ?hQc15 (Or.inl ⟨?h1c15, ?hyc15⟩) hHeld ?restc15
      case hic15 => (simp only [List.getElem?_toArray, List.getElem?_cons_succ, List.getElem?_cons_zero]; rfl)
      case hQc15 => exact fun _ _ _ h => h
      case h1c15 => rfl
      case hyc15 => intro V hSV; (try dsimp only at hSV); go_simp; (try with_reducible rfl)
      try simp only [Act.put, List.setIfInBounds_toArray, List.set_cons_zero, List.set_cons_succ]
      refine wpAnyH_take (i := 16) (oi := ?oic16) (v := ?vc16) ?hic16 (by kernel_rfl) (by kernel_rfl) (by kernel_rfl) ?hQc16 (Or.inl ⟨?h1c16, ?hyc16⟩) hHeld ?restc16
      case hic16 => (simp only [List.getElem?_toArray, List.getElem?_cons_succ, List.getElem?_cons_zero]; rfl)
      case hQc16 => exact fun _ _ _ h => h
      case h1c16 => rfl
      case hyc16 => intro V hSV; (try dsimp only at hSV); go_simp; (try with_reducible rfl)
      try simp only [Act.put, List.setIfInBounds_toArray, List.set_cons_zero, List.set_cons_succ]
      refine wpAnyH_take (i := 17) (oi := ?oic17) (v := ?vc17) ?hic17 (by kernel_rfl) (by kernel_rfl) (by kernel_rfl) ?hQc17 (Or.inl ⟨?h1c17, ?hyc17⟩) hHeld ?restc17
      case hic17 => (simp only [List.getElem?_toArray, List.getElem?_cons_succ, List.getElem?_cons_zero]; rfl)
      case hQc17 => exact fun _ _ _ h => h
      case h1c17 => rfl
      case hyc17 => intro V hSV; (try dsimp only at hSV); go_simp; (try with_reducible rfl)
      try simp only [Act.put, List.setIfInBounds_toArray, List.set_cons_zero, List.set_cons_succ]
      refine wpAnyH_ready (rs := [18]) (by kernel_rfl) (by simp) ?_
      refine AllReadyH.cons (o := ?oc18) ?hoc18 (fun K hK => ?hsc18) AllReadyH.nil
      case hoc18 => (simp only [List.getElem?_toArray, List.getElem?_cons_succ, List.getElem?_cons_zero]; rfl)
      go_simp
      refine (HLV.out _).mono ?_
      rintro e w4 ⟨rfl, hb4⟩
      have hS4 := heldB hS2 hb4 (Nat.le_refl _)
      try go_wp2_with fail
      refine hK.out _ _ (HS.out _ (hS4)) (fun hHeld => ?_)
      clear hK K
      try simp only [Act.put, List.setIfInBounds_toArray, List.set_cons_zero, List.set_cons_succ]
      refine wpAnyH_ready (rs := [19]) (by kernel_rfl) (by simp) ?_
      refine AllReadyH.cons (o := ?oc19) ?hoc19 (fun K hK => ?hsc19) AllReadyH.nil
      case hoc19 => (simp only [List.getElem?_toArray, List.getElem?_cons_succ, List.getElem?_cons_zero]; rfl)
      go_simp
      refine (HW3.out _).mono ?_
      rintro e w5 ⟨rfl, rfl⟩
      try go_wp2_with fail
      refine hK.out _ _ (HS.out _ (hS4)) (fun hHeld => ?_)
      clear hK K
      try simp only [Act.put, List.setIfInBounds_toArray, List.set_cons_zero, List.set_cons_succ]
      refine wpAnyH_take (i := 20) (oi := ?oic20) (v := ?vc20) ?hic20 (by kernel_rfl) (by kernel_rfl) (by kernel_rfl) ?hQc20 (Or.inl ⟨?h1c20, ?hyc20⟩) hHeld ?restc20
      case hic20 => (simp only [List.getElem?_toArray, List.getElem?_cons_succ, List.getElem?_cons_zero]; rfl)
      case hQc20 => exact fun _ _ _ h => h
      case h1c20 => rfl
      case hyc20 => intro V hSV; (try dsimp only at hSV); go_simp; (try with_reducible rfl)
      try simp only [Act.put, List.setIfInBounds_toArray, List.set_cons_zero, List.set_cons_succ]
      refine wpAnyH_take (i := 21) (oi := ?oic21) (v := ?vc21) ?hic21 (by kernel_rfl) (by kernel_rfl) (by kernel_rfl) ?hQc21 (Or.inl ⟨?h1c21, ?hyc21⟩) hHeld ?restc21
      case hic21 => (simp only [List.getElem?_toArray, List.getElem?_cons_succ, List.getElem?_cons_zero]; rfl)
      case hQc21 => exact fun _ _ _ h => h
      case h1c21 => rfl
      case hyc21 => intro V hSV; (try dsimp only at hSV); go_simp; (try with_reducible rfl)
      try simp only [Act.put, List.setIfInBounds_toArray, List.set_cons_zero, List.set_cons_succ]
      refine wpAnyH_done (by kernel_rfl) ?_ _
      go_wp2
      go_ret
      exact ⟨rfl, HB.out.trans ((hS4).mono (by omega))⟩
end Go.Proofs.YtgaoeoijdpdjiabGreatDoor

namespace Go.Proofs.YtgaoeoijdpdjiabGreatDoor
open Go.RowKit

set_option maxRecDepth 20000 in
set_option maxHeartbeats 8000000 in
theorem join_yes (k b x t l a0 a1 a2 a3 a4 a5 idx : Int) (n g c : Nat) (rnd cs : ByteArray) (w : World) (hw1 : IntKind.i64.wrap (a2 + t) = a2 + t) (hw2 : IntKind.i64.wrap (l * (a2 + t)) = (n : Int)) (z1 : rnd.size ≤ 16) (z2 : cs.size ≤ 1000)
    (hM : ∀ V : World, Calls Tryz.prog 155 #[.agg #[.int .i64 k, .int .i64 b, .int .i64 x, .int .i64 t, .int .i64 l]] V fun e w' => e = .returned (.tuple #[.agg #[.int .i64 a0, .int .i64 a1, .int .i64 a2, .int .i64 a3, .int .i64 a4, .int .i64 a5], .int .i64 0]) ∧ Below V.heap.size V w')
    (hI : ∀ V : World, Calls Tryz.prog 157 #[.agg #[.int .i64 k, .int .i64 b, .int .i64 x, .int .i64 t, .int .i64 l], .int .i64 idx] V fun e w' => e = .returned (.bool true) ∧ Below V.heap.size V w')
    (hV1 : ∀ (V : World) (B : Nat), B = V.heap.size → Calls Tryz.prog 159 #[.agg #[.int .i64 k, .int .i64 b, .int .i64 x, .int .i64 t, .int .i64 l], .slice (some ⟨B, 0, none⟩) 1 1] (V.alloc (.cells #[.string rnd] 9)) fun e w' => e = .returned (.bool true) ∧ Below (V.alloc (.cells #[.string rnd] 9)).heap.size (V.alloc (.cells #[.string rnd] 9)) w')
    (hV2 : ∀ V : World, Below w.heap.size w V → Calls Tryz.prog 159 #[.agg #[.int .i64 k, .int .i64 b, .int .i64 x, .int .i64 t, .int .i64 l], .slice (some ⟨g, 0, none⟩) n c] V fun e w' => e = .returned (.bool true) ∧ Below V.heap.size V w')
    (hJ : ∀ V : World, Below w.heap.size w V → Calls Tryz.prog 161 #[.slice (some ⟨g, 0, none⟩) n c, .string ⟨#[]⟩] V fun e w' => e = .returned (.string cs) ∧ Below V.heap.size V w') :
    Calls Tryz.prog 85 #[.agg #[.int .i64 k, .int .i64 b, .int .i64 x, .int .i64 t, .int .i64 l], .agg #[.int .i64 idx, .string rnd, .slice (some ⟨g, 0, none⟩) n c]] w fun r w' => r = .returned (.tuple #[.string (numB 4 idx ++ rnd ++ cs), .int .i64 0]) ∧ Below w.heap.size w w' := by
  have HM := hide hM
  have HI := hide hI
  have HV1 := hide hV1
  have HV2 := hide hV2
  have HJ := hide hJ
  have HN := hide (fun V : World => number_any 4 idx V (by decide))
  have cc1 := sadd (numB 4 idx) rnd (by rw [numB_size]; omega) (by omega)
  have cc2 := sadd (numB 4 idx ++ rnd) cs (by simp only [ByteArray.size_append, numB_size]; omega) (by omega)
  clear hM hI hV1 hV2 hJ
  generalize numB 4 idx ++ rnd ++ cs = res at cc2 ⊢
  generalize numB 4 idx ++ rnd = hd at cc1 cc2
  generalize numB 4 idx = nb at HN cc1
  obtain ⟨W0, hW⟩ : ∃ W0, (w.alloc (.cells #[.int .i64 k, .int .i64 b, .int .i64 x, .int .i64 t, .int .i64 l] 26)).alloc (.cells #[.int .i64 idx, .string rnd, .slice (some ⟨g, 0, none⟩) n c] 29) = W0 := ⟨_, rfl⟩
  have HK := hide (show Blk W0 w.heap.size [.int .i64 k, .int .i64 b, .int .i64 x, .int .i64 t, .int .i64 l] 26 by rw [← hW]; exact (Blk.new w _ _).alloc _)
  have HPA := hide (show Blk W0 (w.heap.size + 1) [.int .i64 idx, .string rnd, .slice (some ⟨g, 0, none⟩) n c] 29 by
    rw [← hW]
    have h := Blk.new (w.alloc (.cells #[.int .i64 k, .int .i64 b, .int .i64 x, .int .i64 t, .int .i64 l] 26)) [.int .i64 idx, .string rnd, .slice (some ⟨g, 0, none⟩) n c] 29
    simp only [World.size_alloc] at h
    exact h)
  have HB := hide (show Below w.heap.size w W0 by subst hW; exact ((Below.refl _ _).alloc (Nat.le_refl _) _).alloc (by simp) _)
  have HS := hide (fun (V : World) (h : Below W0.heap.size W0 V) => (by
    have q1 := HK.out.on h
    have q2 := HPA.out.on h
    exact ⟨q1.cell 0, q1.cell 1, q1.cell 2, q1.cell 3, q1.cell 4, q2.cell 0, q2.cell 1, q2.cell 2⟩ : V.cell? ⟨w.heap.size, 0, none⟩ = some (.int .i64 k) ∧ V.cell? ⟨w.heap.size, 1, none⟩ = some (.int .i64 b) ∧ V.cell? ⟨w.heap.size, 2, none⟩ = some (.int .i64 x) ∧ V.cell? ⟨w.heap.size, 3, none⟩ = some (.int .i64 t) ∧ V.cell? ⟨w.heap.size, 4, none⟩ = some (.int .i64 l) ∧ V.cell? ⟨w.heap.size + 1, 0, none⟩ = some (.int .i64 idx) ∧ V.cell? ⟨w.heap.size + 1, 1, none⟩ = some (.string rnd) ∧ V.cell? ⟨w.heap.size + 1, 2, none⟩ = some (.slice (some ⟨g, 0, none⟩) n c)))
  obtain ⟨c0, c1, c2, c3, c4, d0, d1, d2⟩ := HS.out W0 (Below.refl _ _)
  have HWE := hide hW
  clear hW
  go_enter Tryz.func85, Tryz.ntmps85
  go_wp2_with fail
  rw [HWE.out]
  refine (HM.out _).mono ?_
  rintro e w1 ⟨rfl, hb1⟩
  have HB1 := hide (heldB (Below.refl W0.heap.size W0) hb1 (Nat.le_refl _))
  clear hb1 c0 c1 c2 c3 c4 d0 d1 d2 HWE
  have HB2 := hide (HB1.out.alloc HB1.out.size (.cells #[.int .i64 a0, .int .i64 a1, .int .i64 a2, .int .i64 a3, .int .i64 a4, .int .i64 a5] 158))
  have HZ2 := hide (Blk.new w1 [.int .i64 a0, .int .i64 a1, .int .i64 a2, .int .i64 a3, .int .i64 a4, .int .i64 a5] 158)
  obtain ⟨W2, hW2⟩ : ∃ W2, w1.alloc (.cells #[.int .i64 a0, .int .i64 a1, .int .i64 a2, .int .i64 a3, .int .i64 a4, .int .i64 a5] 158) = W2 := ⟨_, rfl⟩
  rw [hW2] at HB2 HZ2
  obtain ⟨c0, c1, c2, c3, c4, d0, d1, d2⟩ := HS.out W2 HB2.out
  go_wp2_with fail
  try rw [hW2]
  clear hW2
  refine (HI.out _).mono ?_
  rintro e w3 ⟨rfl, hb3⟩
  have HB3 := hide (heldB HB2.out hb3 (Nat.le_refl _))
  have HZ3 := hide (HZ2.out.on hb3)
  clear hb3 c0 c1 c2 c3 c4 d0 d1 d2 HB2 HZ2
  obtain ⟨c0, c1, c2, c3, c4, d0, d1, d2⟩ := HS.out w3 HB3.out
  have z2' := HZ3.out.cell 2
  simp only [List.getElem?_cons_zero, List.getElem?_cons_succ] at z2'
  have HV1a := hide (HV1.out w3 w3.heap.size rfl)
  go_wp2_with fail
  refine HV1a.out.mono ?_
  rintro e w4 ⟨rfl, hb4⟩
  have HB4 := hide (heldB (HB3.out.alloc HB3.out.size _) hb4 (Nat.le_refl _))
  clear hb4 c0 c1 c2 c3 c4 d0 d1 d2 z2' HV1a
  obtain ⟨c0, c1, c2, c3, c4, d0, d1, d2⟩ := HS.out w4 HB4.out
  have HV2a := hide (HV2.out w4 (HB.out.trans (HB4.out.mono HB.out.size)))
  go_wp2_with fail
  refine HV2a.out.mono ?_
  rintro e w5 ⟨rfl, hb5⟩
  have HB5 := hide (heldB HB4.out hb5 (Nat.le_refl _))
  clear hb5 c0 c1 c2 c3 c4 d0 d1 d2 HV2a
  go_wp2_with fail
  have HSW := hide (fun (V : World) (h : Below w5.heap.size w5 V) => HS.out V (heldB HB5.out h (Nat.le_refl _)))
  have HBW := hide (fun (V : World) (h : Below w5.heap.size w5 V) => HB.out.trans ((heldB HB5.out h (Nat.le_refl _)).mono HB.out.size))
  go_region_held3 (fun V => V.cell? ⟨w.heap.size, 0, none⟩ = some (.int .i64 k) ∧ V.cell? ⟨w.heap.size, 1, none⟩ = some (.int .i64 b) ∧ V.cell? ⟨w.heap.size, 2, none⟩ = some (.int .i64 x) ∧ V.cell? ⟨w.heap.size, 3, none⟩ = some (.int .i64 t) ∧ V.cell? ⟨w.heap.size, 4, none⟩ = some (.int .i64 l) ∧ V.cell? ⟨w.heap.size + 1, 0, none⟩ = some (.int .i64 idx) ∧ V.cell? ⟨w.heap.size + 1, 1, none⟩ = some (.string rnd) ∧ V.cell? ⟨w.heap.size + 1, 2, none⟩ = some (.slice (some ⟨g, 0, none⟩) n c)) (first | exact HSW.out _ hS2 | exact HSW.out _ hS1 | exact HSW.out _ (Below.refl w5.heap.size w5).drew) (first | (go_at_call 160; refine (HN.out _).mono ?_; rintro e w6 ⟨rfl, hb6⟩; have hS1 := heldB (Below.refl w5.heap.size w5).drew hb6 (Nat.le_refl _)) | (go_at_call 161; refine (HJ.out _ (HBW.out _ hS1)).mono ?_; rintro e w7 ⟨rfl, hb7⟩; have hS2 := heldB hS1 hb7 (Nat.le_refl _)))
  have HB7 := hide (HBW.out _ hS2)
  clear hS1 hS2 hb6 hb7
  go_wp2
  go_ret2
  exact ⟨rfl, HB7.out⟩
end Go.Proofs.YtgaoeoijdpdjiabGreatDoor

namespace Go.Proofs.YtgaoeoijdpdjiabGreatDoor
open Go.RowKit

theorem infoSliceT : (Tryz.prog.info? 27).map (fun i => (i.zero, i.size, i.bytes)) = some (some (.slice none 0 0), 1, 24) := by kernel_rfl

set_option maxRecDepth 20000 in
theorem markText_any (n : Nat) (w : World) (h1 : n ≤ 1000000) : Calls Tryz.prog 47 #[.int .i64 n] w fun r w' => r = .returned (.string (markS n)) ∧ Below w.heap.size w w' := by
  have HN := hide (refNumber_any 8 n w (by decide) (by omega) (by omega))
  have hcc := sadd ⟨#[109, 97, 114, 107]⟩ (numB 8 n) (by decide) (by rw [numB_size]; omega)
  rw [show (⟨#[109, 97, 114, 107]⟩ : ByteArray) ++ numB 8 n = markS n from rfl] at hcc
  generalize markS n = res at hcc ⊢
  generalize numB 8 (n : Int) = nb at hcc HN
  go_enter Tryz.func47, Tryz.ntmps47
  go_wp2_with fail
  refine HN.out.mono ?_
  rintro r w1 ⟨rfl, hb⟩
  have HB := hide hb
  clear hb HN
  go_wp2
  go_ret
  exact ⟨rfl, HB.out⟩

/-- The row of marks as the loop makes it. -/
def marksV (L : List Value) (z : Value) (j : Nat) : List Value := List.replicate j z ++ L.drop j

theorem marksV_step (L : List Value) (z : Value) (j : Nat) (h : j < L.length) : (marksV L z j).set j z = marksV L z (j + 1) := by
  unfold marksV
  rw [List.set_append_right _ _ (by simp), List.length_replicate, Nat.sub_self, List.drop_eq_getElem_cons h, List.set_cons_zero, List.replicate_succ', List.append_assoc]
  rfl
theorem marksV_at (L : List Value) (z : Value) (j : Nat) (h : j < L.length) : (marksV L z j)[j]? = some L[j] := by
  unfold marksV
  rw [List.getElem?_append_right (by simp), List.length_replicate, Nat.sub_self, List.drop_eq_getElem_cons h]
  rfl
theorem marksV_end (L : List Value) (z : Value) : marksV L z L.length = List.replicate L.length z := by
  simp [marksV]

set_option maxRecDepth 20000 in
set_option maxHeartbeats 4000000 in
theorem keepT_row (B0 B bk g n : Nat) (v : Value) (S : List Value) (L : List Value) (w0 w : World) (hB : BookT w0 B bk v S) (h4 : S.length % 4 = 0) (hS : S.length ≤ 90) (hb : Below w0.heap.size w0 w) (hg : w0.heap.size ≤ g) (hr : Blk w g L 9) (hL : L.length = n) (hn : 0 < n) (hn2 : n ≤ 250) (b1 : B0 ≤ B) (b2 : B0 ≤ bk) (b3 : B0 ≤ w0.heap.size) (b4 : B ≤ w0.heap.size) :
    Calls Tryz.prog 39 #[.pointer (some ⟨bk, 0, none⟩), .slice (some ⟨g, 0, none⟩) n n] w fun r w' =>
      r = .returned (.tuple #[]) ∧ ∃ v' S', BookT w' B bk v' S' ∧ S'.length = S.length + 4 ∧ Below B0 w w' ∧ (∀ q, q < w0.heap.size → q ≠ bk → v.ownBlock ≠ some q → w'.heap[q]? = w0.heap[q]?) ∧ w.heap.size ≤ w'.heap.size := by
  obtain ⟨ao, cap, hv, hao⟩ := owns_form hB.row
  subst hv
  have HB := hideM hB
  have HBL := hideM hb
  have HR := hideM hr
  have HL := hideM hL
  have HAO := hideM hao
  have cb : w.cell? ⟨bk, 1, none⟩ = some (.slice ao S.length cap) := by
    have := (hB.below hb).blk
    simp [World.cell?, this]
  have hSZ : w0.heap.size ≤ w.heap.size := hb.size
  clear hB hb hr hL hao
  obtain ⟨i0, hi, hz0, hz1, hz2⟩ := info_parts infoStr
  obtain ⟨i1, hi', hz0', hz1', hz2'⟩ := info_parts infoSliceT
  go_enter Tryz.func39, Tryz.ntmps39
  go_wp2_with fail
  refine (markText_any S.length _ (by omega)).mono ?_
  rintro r w1 ⟨rfl, hbm⟩
  have HR := hideM (HR.out.on hbm)
  have HBL := hideM (HBL.out.trans (hbm.mono HBL.out.size))
  have HB0 := hideM (hbm.mono (show B0 ≤ w.heap.size by omega))
  have hSZ1 : w0.heap.size ≤ w1.heap.size := HBL.out.size
  clear hbm cb
  generalize hz : markS S.length = z
  have HZ := hideM hz
  clear hz
  go_wp2
  go_loopw [5] (fun i wr => ∃ j : Nat, j ≤ n ∧ i = .int .i64 j ∧ Hid (Blk wr g (marksV L (.string z) j) 9) ∧ Hid (OnlyM g w1 wr)) (fun i _ => n - (intOf i).toNat)
  case atStart => exact ⟨0, by omega, rfl, by unfold Hid marksV; simpa using HR.out, OnlyM.refl _ _⟩
  case round =>
    obtain ⟨j, hj, rfl, hr, ho⟩ := hrel
    by_cases hlt : j < n
    · have c := (hr.out.cell j).trans (marksV_at L (.string z) j (by rw [HL.out]; exact hlt))
      generalize L[j]'(by rw [HL.out]; exact hlt) = u0 at c
      have fz := hr.out.free j
      go_wp2
      go_roundw
      case rel => exact ⟨j + 1, by omega, by go_num, by have h := hr.out.set j (.string z); rw [marksV_step _ _ _ (by have := HL.out; omega)] at h; exact h, ho.out.setCell _ _⟩
      case measure => simp [intOf]; omega
    · obtain rfl : j = n := by omega
      have hrow : Blk wr g (List.replicate j (.string z)) 9 := by have h := hr.out; rw [← HL.out, marksV_end, HL.out] at h; exact h
      --TAIL
      have HBW := hideM (OnlyM.below HBL.out ho.out hg : Below w0.heap.size w0 wr)
      have HO0 := hideM (OnlyM.below HB0.out ho.out (by omega) : Below B0 w wr)
      have HRW := hideM hrow
      have ZW : w0.heap.size ≤ wr.heap.size := HBW.out.size
      have HCW := hideM (show ∀ q u, (List.replicate j (Value.string z))[q]? = some u → wr.cell? ⟨g, q, none⟩ = some u by
        intro q u hq
        have hqj : q < j := by have := (List.getElem?_eq_some_iff.1 hq).1; simpa using this
        rw [hrow.cell]
        exact hq)
      have HMK := hideM (markT_row hrow (by omega))
      have glt := hrow.lt
      clear hrow hlt hr HR ho
      go_wp2_with (at_builtin; refine wpList_append_grows _ rfl (.tmp 25) (.tmp 27) 27 rfl 9 i0 (.string ⟨#[]⟩) 1 16 Tryz.underlying27 hi hz0 hz1 hz2 rfl (by decide) (some ⟨g, 0, none⟩) j j (List.replicate j (.string z)) rfl ?n1 (by simp) ?o1 ⟨wr.heap.size, 0, none⟩ 1 1 [.string z] rfl rfl ?p1 ?q1 (by omega) ?r1 ?s1 ?_)
      case n1 => intro h; cases h
      case o1 => intro b hb q u hq; cases hb; rw [Addr.add_mid, Nat.zero_add, cell_alloc_lt _ _ glt]; exact HCW.out q u hq
      case p1 => exact list_new _ #[.string z] _
      case q1 => intro u hu; simp at hu; subst hu; rfl
      case r1 => unfold maxLen; omega
      case s1 => omega
      intro v1 w2 ho1 hg1
      have Z1 := hg1.size
      simp at Z1
      have K1 := hideM (Below.grown (B := wr.heap.size) ((Below.refl _ wr).alloc (Nat.le_refl _) _) hg1 (by simp) (fun _ h => by cases h) : Below wr.heap.size wr w2)
      have O1 := hideM (show w2.ownsRow 0 9 1 v1 (j + 1) (List.replicate (j + 1) (.string z)) from ⟨by simp, ho1.2.elim Or.inl (fun ⟨g', c', cur, a1, a2, a3, a4, a5, a6, a7⟩ => Or.inr ⟨g', c', cur, a1, Nat.zero_le _, a3, a4, a5, a6, by rw [a7]; exact List.replicate_succ'.symm⟩)⟩)
      obtain ⟨g1, k1, hv1⟩ := owns_someM O1.out (by omega)
      rw [hv1] at O1 ⊢
      clear hv1 ho1 hg1
      go_wp2_with (at_builtin; refine wpList_append_grows _ rfl (.tmp 29) (.tmp 32) 27 rfl 9 i0 (.string ⟨#[]⟩) 1 16 Tryz.underlying27 hi hz0 hz1 hz2 rfl (by decide) (some ⟨g, 0, none⟩) j j (List.replicate j (.string z)) rfl ?n2 (by simp) ?o2 ⟨w2.heap.size, 0, none⟩ 2 2 [.string z, .string z] rfl rfl ?p2 ?q2 (by omega) ?r2 ?s2 ?_)
      case n2 => intro h; cases h
      case o2 => intro b hb q u hq; cases hb; rw [Addr.add_mid, Nat.zero_add, cell_alloc_lt _ _ (by omega), K1.out.cell (by exact glt)]; exact HCW.out q u hq
      case p2 => exact list_new _ #[.string z, .string z] _
      case q2 => intro u hu; simp at hu; subst hu; rfl
      case r2 => unfold maxLen; omega
      case s2 => omega
      intro v2 w3 ho2 hg2
      have Z2 := hg2.size
      simp at Z2
      have K2 := hideM (Below.grown (B := w2.heap.size) ((Below.refl _ w2).alloc (Nat.le_refl _) _) hg2 (by simp) (fun _ h => by cases h) : Below w2.heap.size w2 w3)
      have O2 := hideM (show w3.ownsRow 0 9 1 v2 (j + 2) (List.replicate (j + 2) (.string z)) from ⟨by simp, ho2.2.elim Or.inl (fun ⟨g', c', cur, a1, a2, a3, a4, a5, a6, a7⟩ => Or.inr ⟨g', c', cur, a1, Nat.zero_le _, a3, a4, a5, a6, by rw [a7]; simp [List.replicate_succ']⟩)⟩)
      obtain ⟨g2, k2, hv2⟩ := owns_someM O2.out (by omega)
      rw [hv2] at O2 ⊢
      clear hv2 ho2 hg2
      go_wp2_with (at_builtin; refine wpList_append_grows _ rfl (.tmp 34) (.tmp 38) 27 rfl 9 i0 (.string ⟨#[]⟩) 1 16 Tryz.underlying27 hi hz0 hz1 hz2 rfl (by decide) (some ⟨g, 0, none⟩) j j (List.replicate j (.string z)) rfl ?n3 (by simp) ?o3 ⟨w3.heap.size, 0, none⟩ 3 3 [.string z, .string z, .string z] rfl rfl ?p3 ?q3 (by omega) ?r3 ?s3 ?_)
      case n3 => intro h; cases h
      case o3 => intro b hb q u hq; cases hb; rw [Addr.add_mid, Nat.zero_add, cell_alloc_lt _ _ (by omega), K2.out.cell (by exact Nat.lt_of_lt_of_le glt (by omega)), K1.out.cell (by exact glt)]; exact HCW.out q u hq
      case p3 => exact list_new _ #[.string z, .string z, .string z] _
      case q3 => intro u hu; simp at hu; subst hu; rfl
      case r3 => unfold maxLen; omega
      case s3 => omega
      intro v3 w4 ho3 hg3
      have Z3 := hg3.size
      simp at Z3
      have K3 := hideM (Below.grown (B := w3.heap.size) ((Below.refl _ w3).alloc (Nat.le_refl _) _) hg3 (by simp) (fun _ h => by cases h) : Below w3.heap.size w3 w4)
      have O3 := hideM (show w4.ownsRow 0 9 1 v3 (j + 3) (List.replicate (j + 3) (.string z)) from ⟨by simp, ho3.2.elim Or.inl (fun ⟨g', c', cur, a1, a2, a3, a4, a5, a6, a7⟩ => Or.inr ⟨g', c', cur, a1, Nat.zero_le _, a3, a4, a5, a6, by rw [a7]; simp [List.replicate_succ']⟩)⟩)
      obtain ⟨g3, k3, hv3⟩ := owns_someM O3.out (by omega)
      rw [hv3] at O3 ⊢
      clear hv3 ho3 hg3
      have KK := hideM ((K1.out.trans (K2.out.mono (by omega))).trans (K3.out.mono (by omega)) : Below wr.heap.size wr w4)
      have KW := hideM (HBW.out.trans (KK.out.mono (by omega)) : Below w0.heap.size w0 w4)
      have HB4 := hideM (HB.out.below KW.out)
      have M0 := hideM (markT_keep HMK.out (fun q _ hq => KK.out.block q (lt_of_block hq)))
      have M1 := hideM (markT_keep (markT_owns O1.out (by omega)) (fun q _ hq => (K2.out.trans (K3.out.mono (by omega))).block q (lt_of_block hq)))
      have M2 := hideM (markT_keep (markT_owns O2.out (by omega)) (fun q _ hq => K3.out.block q (lt_of_block hq)))
      have M3 := hideM (markT_owns O3.out (by omega))
      have cb : w4.cell? ⟨bk, 1, none⟩ = some (.slice ao S.length cap) := by have := HB4.out.blk; simp [World.cell?, this]
      have hbk4 := lt_of_block HB4.out.blk
      have HBK := hideM hbk4
      clear hbk4
      go_wp2_with (at_builtin; refine wpList_append_lies _ rfl (.tmp 44) (.tmp 49) 32 rfl B 27 i1 (.slice none 0 0) 1 24 Tryz.underlying32 hi' hz0' hz1' hz2' rfl (by decide) _ _ _ rfl (HB4.out.row.alloc _) ⟨w4.heap.size, 0, none⟩ 4 4 [.slice (some ⟨g, 0, none⟩) j j, .slice (some ⟨g1, 0, none⟩) (j + 1) k1, .slice (some ⟨g2, 0, none⟩) (j + 2) k2, .slice (some ⟨g3, 0, none⟩) (j + 3) k3] rfl rfl ?l1 ?l2 (by omega) ?l3 ?l4 ?l5 (w4.heap.size + 1) (by simp) ?_)
      case l1 => exact list_new _ #[.slice (some ⟨g, 0, none⟩) j j, .slice (some ⟨g1, 0, none⟩) (j + 1) k1, .slice (some ⟨g2, 0, none⟩) (j + 2) k2, .slice (some ⟨g3, 0, none⟩) (j + 3) k3] _
      case l2 => intro u hu; simp at hu; rcases hu with rfl | rfl | rfl | rfl <;> rfl
      case l3 => unfold maxLen; omega
      case l4 => omega
      case l5 => have := KW.out.size; simp; omega
      intro g5 cap5 w5 ho5 hg5 hat hlt5
      have HO5 := hideM ho5
      have HG5 := hideM hg5
      have MORE := hideM (BookT.more HB4.out h4 (by rw [HZ.out]; exact M0.out) (by rw [HZ.out]; exact M1.out) (by rw [HZ.out]; exact M2.out) (by rw [HZ.out]; exact M3.out) _ HO5.out HG5.out (by omega))
      clear ho5 hg5
      have KEEP := hideM (show ∀ q, q < w4.heap.size → (Value.slice ao S.length cap).ownBlock ≠ some q → w5.heap[q]? = w4.heap[q]? from fun q hq hne => by
        rw [HG5.out.block q (by simp; omega) (fun e => hne e.symm)]
        exact Below.heap_alloc _ _ _ hq)
      have OWN := hideM (show ∀ q, (Value.slice ao S.length cap).ownBlock = some q → B ≤ q from fun q hq => (owns_ltM HB4.out.row q hq).1)
      have NBK := hideM (show (Value.slice ao S.length cap).ownBlock ≠ some bk from fun e => by
        rcases HB4.out.row.2 with ⟨h, _⟩ | ⟨gg, cc, cur, h, _, hh, _⟩
        · rw [h] at e; simp [Value.ownBlock] at e
        · rw [h] at e; simp only [Value.ownBlock, Option.some.injEq] at e; subst e; rw [HB4.out.blk] at hh; simp at hh)
      have c5 : w5.cell? ⟨bk, 1, none⟩ = some (.slice ao S.length cap) := by
        have h1 := KEEP.out bk HBK.out NBK.out
        have h2 := HB4.out.blk
        rw [← h1] at h2
        simp [World.cell?, h2]
      have f5 : w5.frozen? ⟨bk, 1, none⟩ = false := by
        have h1 := KEEP.out bk HBK.out NBK.out
        have h2 := HB4.out.blk
        rw [← h1] at h2
        simp [World.frozen?, h2]
      have Z5 := HG5.out.size
      simp at Z5
      clear cb hat
      go_wp2
      go_end0
      refine ⟨rfl, _, _, MORE.out, by simp, ?_, ?_, ?_⟩
      · refine Below.setCell (HO0.out.trans ((KK.out.mono (by omega)).trans ?_)) (by simpa using b2) _
        exact ((Below.refl B0 w4).alloc (by omega) _).grown HG5.out (by simp; omega) (fun q hq => Nat.le_trans b1 (OWN.out q hq))
      · intro q hq hqb hqo
        rw [Below.heap_setCell _ _ _ _ hqb, KEEP.out q (by omega) hqo]
        exact KW.out.block q hq
      · have h0 := HO0.out.size
        have h1 := KK.out.size
        simp only [World.size_setCell]
        omega
end Go.Proofs.YtgaoeoijdpdjiabGreatDoor

namespace Go.Proofs.YtgaoeoijdpdjiabGreatDoor
open Go.RowKit

set_option maxRecDepth 20000 in
set_option maxHeartbeats 4000000 in
theorem signing_any (k b x l : Int) (t q idx : Nat) (w : World) (h1 : 1 ≤ t) (h2 : t ≤ 4) (hq : q ≤ 3) (hi : idx ≤ 100000) :
    Calls Tryz.prog 240 #[.agg #[.int .i64 k, .int .i64 b, .int .i64 x, .int .i64 t, .int .i64 l], .int .i64 idx, .int .i64 q] w fun e w' => e = .returned (.agg #[.int .i64 q, .int .i64 ((idx / 2 ^ (t * q) / 2 ^ t : Nat) : Int), .int .i64 ((idx / 2 ^ (t * q) % 2 ^ t : Nat) : Int), .int .i64 0]) ∧ Below w.heap.size w w' := by
  obtain ⟨d, hd⟩ : ∃ d, t * q = d := ⟨_, rfl⟩
  have hd12 : d ≤ 12 := by rw [← hd]; exact Nat.le_trans (Nat.mul_le_mul h2 hq) (by decide)
  have hw1 : IntKind.i64.wrap ((t : Int) * (q : Int)) = (d : Int) := by
    have e : (t : Int) * (q : Int) = (d : Int) := by rw [← hd, Int.natCast_mul]
    rw [e, IntKind.wrap_i64] <;> omega
  rw [hd]
  obtain ⟨N, hN⟩ : ∃ N, idx / 2 ^ d = N := ⟨_, rfl⟩
  have hNb : N ≤ 100000 := by rw [← hN]; exact Nat.le_trans (Nat.div_le_self _ _) hi
  have hsh : (idx : Int) / 2 ^ d = (N : Int) := by rw [← hN, Int.natCast_ediv, Int.natCast_pow]; rfl
  rw [hN]
  have HL := hide (fun V : World => setsLeaves_any k b x l t V h1 h2)
  obtain ⟨L, hL⟩ : ∃ L : Nat, 2 ^ t = L := ⟨_, rfl⟩
  have hL1 : 1 ≤ L := by rw [← hL]; exact Nat.one_le_two_pow
  rw [hL] at HL ⊢
  have hL0 : L ≠ 0 := by omega
  obtain ⟨A, hA⟩ : ∃ A : Nat, N / L = A := ⟨_, rfl⟩
  obtain ⟨C, hC⟩ : ∃ C : Nat, N % L = C := ⟨_, rfl⟩
  have hdv : Int.tdiv (N : Int) (L : Int) = (A : Int) := by rw [← hA, Int.tdiv_eq_ediv_of_nonneg (by omega)]; exact (Int.natCast_ediv _ _).symm
  have hmd : Int.tmod (N : Int) (L : Int) = (C : Int) := by rw [← hC, Int.tmod_eq_emod_of_nonneg (by omega)]; exact (Int.natCast_emod _ _).symm
  have hAb : A ≤ 100000 := by rw [← hA]; exact Nat.le_trans (Nat.div_le_self _ _) hNb
  have hCb : C ≤ 100000 := by rw [← hC]; exact Nat.le_trans (Nat.mod_le _ _) hNb
  have hv1 : IntKind.i64.wrap (A : Int) = (A : Int) := by rw [IntKind.wrap_i64] <;> omega
  have hv2 : IntKind.i64.wrap (C : Int) = (C : Int) := by rw [IntKind.wrap_i64] <;> omega
  rw [hA, hC]
  clear hA hC
  clear hL hd hN
  obtain ⟨W0, hW⟩ : ∃ W0, (w.alloc (.cells #[.int .i64 k, .int .i64 b, .int .i64 x, .int .i64 t, .int .i64 l] 26)).alloc (.cells #[.int .i64 0, .int .i64 0, .int .i64 0, .int .i64 0] 91) = W0 := ⟨_, rfl⟩
  have HF := hide (show FiveC w.heap.size W0 k b x t l by subst hW; refine ⟨?_, ?_, ?_, ?_, ?_⟩ <;> simp [go_sem])
  have HB := hide (show Below w.heap.size w W0 by subst hW; exact ((Below.refl _ _).alloc (Nat.le_refl _) _).alloc (by simp) _)
  have hz : W0.heap.size ≤ w.heap.size + 2 := by subst hW; simp
  have hz' : w.heap.size + 2 ≤ W0.heap.size := by subst hW; simp
  have HBK := hide (show Blk W0 (w.heap.size + 1) [.int .i64 0, .int .i64 0, .int .i64 0, .int .i64 0] 91 by
    subst hW
    have h := Blk.new (w.alloc (.cells #[.int .i64 k, .int .i64 b, .int .i64 x, .int .i64 t, .int .i64 l] 26)) [.int .i64 0, .int .i64 0, .int .i64 0, .int .i64 0] 91
    simp only [World.size_alloc] at h
    exact h)
  have HS5 := hide (fun (V : World) (h : Below (w.heap.size + 1) W0 V) => (HF.out.below h (by omega) : V.cell? ⟨w.heap.size, 0, none⟩ = some (.int .i64 k) ∧ V.cell? ⟨w.heap.size, 1, none⟩ = some (.int .i64 b) ∧ V.cell? ⟨w.heap.size, 2, none⟩ = some (.int .i64 x) ∧ V.cell? ⟨w.heap.size, 3, none⟩ = some (.int .i64 t) ∧ V.cell? ⟨w.heap.size, 4, none⟩ = some (.int .i64 l)))
  have HS := hide (fun (V : World) (h : Below W0.heap.size W0 V) => HS5.out V (h.mono (by omega)))
  obtain ⟨c0, c1, c2, c3, c4⟩ := HS.out W0 (Below.refl _ _)
  have HWE := hide hW
  clear hW
  go_enter Tryz.func240, Tryz.ntmps240
  go_wp2_with fail
  rw [HWE.out]
  clear c0 c1 c2 c3 c4
  refine wp_region_held_drew (S := fun V => V.cell? ⟨w.heap.size, 0, none⟩ = some (.int .i64 k) ∧ V.cell? ⟨w.heap.size, 1, none⟩ = some (.int .i64 b) ∧ V.cell? ⟨w.heap.size, 2, none⟩ = some (.int .i64 x) ∧ V.cell? ⟨w.heap.size, 3, none⟩ = some (.int .i64 t) ∧ V.cell? ⟨w.heap.size, 4, none⟩ = some (.int .i64 l)) (by kernel_rfl) (HS.out _ ((Below.refl W0.heap.size W0).drew)) (fun hHeld => ?_)
  refine wpAnyH_take (i := 0) (oi := ?oia0) (v := ?va0) ?hia0 (by kernel_rfl) (by kernel_rfl) (by kernel_rfl) ?hQa0 (Or.inl ⟨?h1a0, ?hya0⟩) hHeld ?resta0
  case hia0 => (simp only [List.getElem?_toArray, List.getElem?_cons_zero]; rfl)
  case hQa0 => exact fun _ _ _ h => h
  case h1a0 => rfl
  case hya0 => intro V hSV; (try dsimp only at hSV); go_simp; (try with_reducible rfl)
  try simp only [Act.put, List.setIfInBounds_toArray, List.set_cons_zero, List.set_cons_succ]
  refine wpAnyH_take (i := 1) (oi := ?oia1) (v := ?va1) ?hia1 (by kernel_rfl) (by kernel_rfl) (by kernel_rfl) ?hQa1 (Or.inl ⟨?h1a1, ?hya1⟩) hHeld ?resta1
  case hia1 => (simp only [List.getElem?_toArray, List.getElem?_cons_succ, List.getElem?_cons_zero]; rfl)
  case hQa1 => exact fun _ _ _ h => h
  case h1a1 => rfl
  case hya1 => intro V hSV; (try dsimp only at hSV); go_simp; (try with_reducible rfl)
  try simp only [Act.put, List.setIfInBounds_toArray, List.set_cons_zero, List.set_cons_succ]
  refine wpAnyH_take (i := 2) (oi := ?oia2) (v := ?va2) ?hia2 (by kernel_rfl) (by kernel_rfl) (by kernel_rfl) ?hQa2 (Or.inl ⟨?h1a2, ?hya2⟩) hHeld ?resta2
  case hia2 => (simp only [List.getElem?_toArray, List.getElem?_cons_succ, List.getElem?_cons_zero]; rfl)
  case hQa2 => exact fun _ _ _ h => h
  case h1a2 => rfl
  case hya2 => intro V hSV; (try dsimp only at hSV); go_simp; (try with_reducible rfl)
  try simp only [Act.put, List.setIfInBounds_toArray, List.set_cons_zero, List.set_cons_succ]
  refine wpAnyH_take (i := 5) (oi := ?oia5) (v := ?va5) ?hia5 (by kernel_rfl) (by kernel_rfl) (by kernel_rfl) ?hQa5 (Or.inl ⟨?h1a5, ?hya5⟩) hHeld ?resta5
  case hia5 => (simp only [List.getElem?_toArray, List.getElem?_cons_succ, List.getElem?_cons_zero]; rfl)
  case hQa5 => exact fun _ _ _ h => h
  case h1a5 => rfl
  case hya5 => intro V hSV; (try dsimp only at hSV); go_simp; (try with_reducible rfl)
  try simp only [Act.put, List.setIfInBounds_toArray, List.set_cons_zero, List.set_cons_succ]
  refine wpAnyH_take (i := 6) (oi := ?oia6) (v := ?va6) ?hia6 (by kernel_rfl) (by kernel_rfl) (by kernel_rfl) ?hQa6 (Or.inl ⟨?h1a6, ?hya6⟩) hHeld ?resta6
  case hia6 => (simp only [List.getElem?_toArray, List.getElem?_cons_succ, List.getElem?_cons_zero]; rfl)
  case hQa6 => exact fun _ _ _ h => h
  case h1a6 => rfl
  case hya6 => intro V hSV; (try dsimp only at hSV); go_simp; (try with_reducible rfl)
  try simp only [Act.put, List.setIfInBounds_toArray, List.set_cons_zero, List.set_cons_succ]
  refine wpAnyH_ready (rs := [3]) (by kernel_rfl) (by simp) ?_
  refine AllReadyH.cons (o := ?oa3) ?hoa3 (fun K hK => ?hsa3) AllReadyH.nil
  case hoa3 => (simp only [List.getElem?_toArray, List.getElem?_cons_succ, List.getElem?_cons_zero]; rfl)
  go_simp
  go_at_call 282
  refine (HL.out _).mono ?_
  rintro e w1 ⟨rfl, hb1⟩
  have hS1 := heldB (Below.refl W0.heap.size W0).drew hb1 (Nat.le_refl _)
  have HB1 := hide hS1
  clear hb1 hS1
  try go_wp2_with fail
  refine hK.out _ _ (HS.out _ (HB1.out)) (fun hHeld => ?_)
  clear hK K
  try simp only [Act.put, List.setIfInBounds_toArray, List.set_cons_zero, List.set_cons_succ]
  refine wpAnyH_take (i := 4) (oi := ?oia4) (v := ?va4) ?hia4 (by kernel_rfl) (by kernel_rfl) (by kernel_rfl) ?hQa4 (Or.inl ⟨?h1a4, ?hya4⟩) hHeld ?resta4
  case hia4 => (simp only [List.getElem?_toArray, List.getElem?_cons_succ, List.getElem?_cons_zero]; rfl)
  case hQa4 => exact fun _ _ _ h => h
  case h1a4 => rfl
  case hya4 => intro V hSV; (try dsimp only at hSV); go_simp; (try with_reducible rfl)
  try simp only [Act.put, List.setIfInBounds_toArray, List.set_cons_zero, List.set_cons_succ]
  refine wpAnyH_ready (rs := [7]) (by kernel_rfl) (by simp) ?_
  refine AllReadyH.cons (o := ?oa7) ?hoa7 (fun K hK => ?hsa7) AllReadyH.nil
  case hoa7 => (simp only [List.getElem?_toArray, List.getElem?_cons_succ, List.getElem?_cons_zero]; rfl)
  go_simp
  go_at_call 282
  refine (HL.out _).mono ?_
  rintro e w2 ⟨rfl, hb2⟩
  have hS2 := heldB HB1.out hb2 (Nat.le_refl _)
  have HB2 := hide hS2
  have HK2 := hide (HBK.out.below hS2 (by omega))
  clear hb2 hS2
  try go_wp2_with fail
  refine hK.out _ _ (HS.out _ (HB2.out)) (fun hHeld => ?_)
  clear hK K
  try simp only [Act.put, List.setIfInBounds_toArray, List.set_cons_zero, List.set_cons_succ]
  refine wpAnyH_take (i := 8) (oi := ?oia8) (v := ?va8) ?hia8 (by kernel_rfl) (by kernel_rfl) (by kernel_rfl) ?hQa8 (Or.inl ⟨?h1a8, ?hya8⟩) hHeld ?resta8
  case hia8 => (simp only [List.getElem?_toArray, List.getElem?_cons_succ, List.getElem?_cons_zero]; rfl)
  case hQa8 => exact fun _ _ _ h => h
  case h1a8 => rfl
  case hya8 => intro V hSV; (try dsimp only at hSV); go_simp; (try with_reducible rfl)
  try simp only [Act.put, List.setIfInBounds_toArray, List.set_cons_zero, List.set_cons_succ]
  refine wpAnyH_take (i := 9) (oi := ?oia9) (v := ?va9) ?hia9 (by kernel_rfl) (by kernel_rfl) (by kernel_rfl) ?hQa9 (Or.inl ⟨?h1a9, ?hya9⟩) hHeld ?resta9
  case hia9 => (simp only [List.getElem?_toArray, List.getElem?_cons_succ, List.getElem?_cons_zero]; rfl)
  case hQa9 => exact fun _ _ _ h => h
  case h1a9 => rfl
  case hya9 => intro V hSV; (try dsimp only at hSV); go_simp; (try with_reducible rfl)
  try simp only [Act.put, List.setIfInBounds_toArray, List.set_cons_zero, List.set_cons_succ]
  have r0 := HK2.out.cell 0
  have r1 := HK2.out.cell 1
  have r2 := HK2.out.cell 2
  have r3 := HK2.out.cell 3
  have f0 := HK2.out.free 0
  have f1 := HK2.out.free 1
  have f2 := HK2.out.free 2
  have f3 := HK2.out.free 3
  simp only [List.getElem?_cons_zero, List.getElem?_cons_succ] at r0 r1 r2 r3
  refine wpAnyH_ready (rs := [10]) (by kernel_rfl) (by simp) ?_
  refine AllReadyH.cons (o := ?oa10) ?hoa10 (fun K hK => ?hsa10) AllReadyH.nil
  case hoa10 => (simp only [List.getElem?_toArray, List.getElem?_cons_succ, List.getElem?_cons_zero]; rfl)
  go_simp
  refine hK.out _ _ (HS5.out _ (((((HB2.out.mono (by omega)).setCell (by simp <;> omega) _).setCell (by simp <;> omega) _).setCell (by simp <;> omega) _).setCell (by simp <;> omega) _)) (fun hHeld => ?_)
  clear hK K
  try simp only [Act.put, List.setIfInBounds_toArray, List.set_cons_zero, List.set_cons_succ]
  refine wpAnyH_done (by kernel_rfl) ?_ _
  go_wp2
  refine bodyPost_ret (v := .agg #[.int .i64 q, .int .i64 A, .int .i64 C, .int .i64 0]) (by simp [results, Tryz.results240, go_sem, r0, r1, r2, r3]) rfl ⟨rfl, ?_⟩
  have HBB := HB.out.trans (HB2.out.mono (by omega))
  iterate 4 refine Below.setCell ?_ (by simp <;> omega) _
  exact HBB
end Go.Proofs.YtgaoeoijdpdjiabGreatDoor

namespace Go.Proofs.YtgaoeoijdpdjiabGreatDoor
open Go.RowKit

def beyondS : ByteArray := ⟨#[98, 101, 121, 111, 110, 100]⟩
def spoiltS : ByteArray := ⟨#[115, 112, 111, 105, 108, 116]⟩
/-- What lies in a lent list, its room too. -/
def lentV (xs : List ByteArray) (i : Nat) : ByteArray := if i < xs.length then xs.getD i ⟨#[]⟩ else beyondS
/-- A row of texts of which the first m are f's, the rest g's. -/
def mixL (n : Nat) (f g : Nat → ByteArray) (m : Nat) : List Value := (List.range n).map (fun i => Value.string (if i < m then f i else g i))
theorem mixL_length (n : Nat) (f g : Nat → ByteArray) (m : Nat) : (mixL n f g m).length = n := by simp [mixL]
theorem mixL_get (n : Nat) (f g : Nat → ByteArray) (m i : Nat) (h : i < n) : (mixL n f g m)[i]? = some (.string (if i < m then f i else g i)) := by
  simp [mixL, List.getElem?_range h]
theorem mixL_at (n : Nat) (f g : Nat → ByteArray) (m : Nat) (h : m < n) : (mixL n f g m)[m]? = some (.string (g m)) := by
  rw [mixL_get n f g m m h, if_neg (Nat.lt_irrefl _)]
theorem mixL_set (n : Nat) (f g : Nat → ByteArray) (m : Nat) : (mixL n f g m).set m (.string (f m)) = mixL n f g (m + 1) := by
  apply List.ext_getElem
  · simp [mixL]
  · intro i h1 h2
    rw [List.getElem_set]
    simp only [mixL, List.getElem_map, List.getElem_range]
    by_cases e : m = i
    · subst e; simp
    · rw [if_neg e]
      by_cases e2 : i < m
      · rw [if_pos e2, if_pos (by omega)]
      · rw [if_neg e2, if_neg (by omega)]
theorem mixL_end (n : Nat) (f g h : Nat → ByteArray) : mixL n f g n = mixL n h f 0 := by
  apply List.ext_getElem
  · simp [mixL]
  · intro i h1 h2
    have : i < n := by simpa [mixL] using h1
    simp [mixL, this]
theorem splice_lent (xs : List ByteArray) : splice (List.replicate (xs.length + 5) (Value.string ⟨#[]⟩)) 0 (xs.map Value.string) = mixL (xs.length + 5) (lentV xs) (fun _ => ⟨#[]⟩) xs.length := by
  apply List.ext_getElem
  · simp [mixL, splice]
  · intro i h1 h2
    have hi : i < xs.length + 5 := by simpa [mixL] using h2
    simp only [splice, mixL, List.getElem_map, List.getElem_range, List.take_zero, List.nil_append]
    by_cases e : i < xs.length
    · rw [List.getElem_append_left (by simpa using e), if_pos e]
      simp [lentV, e]
    · rw [List.getElem_append_right (by simpa using e), if_neg e]
      simp only [List.getElem_drop, List.getElem_replicate]
theorem makeStr5 (n : Nat) (hn : n ≤ 8796093022208) (w : World) : (Instr.makeSlice 27 (.int .i64 ((n : Int) + 5)) (.int .i64 ((n : Int) + 5))).run Tryz.prog w = .ok (.slice (some ⟨w.heap.size, 0, none⟩) (n + 5) (n + 5)) (w.alloc (.cells (Array.replicate (n + 5) (Value.string ⟨#[]⟩)) 9)) := by
  obtain ⟨i0, hi, hz0, hz1, hz2⟩ := info_parts infoStr
  have h := run_make (P := Tryz.prog) w 27 9 i0 (.string ⟨#[]⟩) Tryz.underlying27 hi hz0 .i64 .i64 ((n : Int) + 5) ((n : Int) + 5) (by omega) (by omega) (by rw [hz2]; omega) (by omega)
  rw [hz1, Nat.mul_one, show ((n : Int) + 5).toNat = n + 5 by omega, madeStr] at h
  rw [h]
  simp

set_option maxRecDepth 20000 in
set_option maxHeartbeats 2000000 in
theorem lent_some (bk o c : Nat) (xs : List ByteArray) (w : World) (hcells : ∀ (j : Nat) y, xs[j]? = some y → w.cell? ⟨bk, o + j, none⟩ = some (.string y)) (hbk : bk < w.heap.size) (hN : xs.length ≤ 8796093022208) :
    Calls Tryz.prog 40 #[.slice (some ⟨bk, o, none⟩) xs.length c] w fun e w' => e = .returned (.slice (some ⟨w.heap.size, 0, none⟩) xs.length (xs.length + 5)) ∧ Blk w' w.heap.size (mixL (xs.length + 5) (fun _ => spoiltS) (lentV xs) 0) 9 ∧ Below w.heap.size w w' := by
  obtain ⟨i0, hi, hz0, hz1, hz2⟩ := info_parts infoStr
  have hmk := makeStr5 xs.length hN
  have HSP := hide (splice_lent xs)
  have hsz : (Tryz.prog.info? 9).map (·.size) = some 1 := by rw [hi]; simp [hz1]
  obtain ⟨W1, hcp, HB, HR⟩ : ∃ W1, (Builtin.copy_ #[27, 27] 3 #[.slice (some ⟨w.heap.size, 0, none⟩) (xs.length + 5) (xs.length + 5), .slice (some ⟨bk, o, none⟩) xs.length c]).run Tryz.prog (w.alloc (.cells (Array.replicate (xs.length + 5) (Value.string ⟨#[]⟩)) 9)) = .ok (.int .i64 xs.length) W1 ∧ Hid (Below w.heap.size w W1) ∧ Hid (Blk W1 w.heap.size (mixL (xs.length + 5) (lentV xs) (fun _ => ⟨#[]⟩) xs.length) 9) := by
    have h0 : (w.alloc (.cells (Array.replicate (xs.length + 5) (Value.string ⟨#[]⟩)) 9)).heap[w.heap.size]? = some (.cells (Array.replicate (xs.length + 5) (Value.string ⟨#[]⟩)) 9 (0, 0)) := World.alloc_heap_new w _
    have h := run_copy_row (P := Tryz.prog) (w.alloc (.cells (Array.replicate (xs.length + 5) (Value.string ⟨#[]⟩)) 9)) 27 27 3 9 w.heap.size 0 (xs.length + 5) (xs.length + 5) ⟨bk, o, none⟩ xs.length c (Array.replicate (xs.length + 5) (Value.string ⟨#[]⟩)) 9 (xs.map Value.string) Tryz.underlying27 hsz h0 (by simp) (by
      intro j v hj
      rw [List.getElem?_map, Option.map_eq_some_iff] at hj
      obtain ⟨y, hy, rfl⟩ := hj
      rw [show Addr.add ⟨bk, o, none⟩ j = ⟨bk, o + j, none⟩ by first | rfl | simp [Addr.add]]
      exact (World.cell?_alloc_past _ _ _ hbk).trans (hcells j y hy)) (by simp) (by intro v hv; rw [List.mem_map] at hv; obtain ⟨y, _, rfl⟩ := hv; rfl)
    refine ⟨_, h.trans (by rw [show goInt (xs.map Value.string).length = .int .i64 xs.length by rw [List.length_map]; rfl]), below_setRow ((Below.refl _ _).alloc (Nat.le_refl _) _) (Nat.le_refl _) _, ?_⟩
    show Blk _ _ _ _
    unfold Blk
    rw [← HSP.out, splice, ← Array.toList_replicate, ← List.append_assoc]
    exact setRow_heap _ _ _ _ _ _ h0
  have HE := hide (mixL_end (xs.length + 5) (lentV xs) (fun _ => ⟨#[]⟩) (fun _ => spoiltS))
  have HSET := hide (fun m => mixL_set (xs.length + 5) (lentV xs) (fun _ => ⟨#[]⟩) m)
  have HAT := hide (fun m h => mixL_at (xs.length + 5) (lentV xs) (fun _ => ⟨#[]⟩) m h)
  have HLV := hide (fun m (h : xs.length ≤ m) => (show lentV xs m = beyondS by unfold lentV; rw [if_neg (by omega)]))
  clear hcells hi hz0 hz1 hz2 hsz
  have heq := fun V : World => Lib.run_eql_slice_nil (P := Tryz.prog) V 27 9 (some ⟨bk, o, none⟩) xs.length c 0 0 Tryz.underlying27
  go_enter Tryz.func40, Tryz.ntmps40
  go_wp2_with fail
  clear hmk hcp heq
  go_loopw [5] (fun i wr => ∃ m : Nat, xs.length ≤ m ∧ m ≤ xs.length + 5 ∧ i = .int .i64 m ∧ Hid (Blk wr w.heap.size (mixL (xs.length + 5) (lentV xs) (fun _ => ⟨#[]⟩) m) 9) ∧ Hid (Below w.heap.size w wr)) (fun i _ => xs.length + 5 - (intOf i).toNat)
  case atStart => exact ⟨xs.length, Nat.le_refl _, by omega, rfl, HR.out, HB.out⟩
  case round =>
    obtain ⟨m, hm1, hm2, rfl, hr, hb⟩ := hrel
    by_cases hlt : m < xs.length + 5
    · have hc := (hr.out.cell m).trans (HAT.out m hlt)
      have hf := hr.out.free m
      have HST := hide (hr.out.set m (.string (lentV xs m)))
      rw [HSET.out m, HLV.out m hm1] at HST
      have hlt' : (m : Int) < (xs.length : Int) + 5 := by omega
      go_wp2
      go_roundw
      case rel => exact ⟨m + 1, by omega, by omega, by go_num, HST.out, hb.out.setCell (Nat.le_refl _) _⟩
      case measure => simp [intOf]; omega
    · obtain rfl : m = xs.length + 5 := by omega
      have HL := hide (show Blk wr w.heap.size (mixL (xs.length + 5) (fun _ => spoiltS) (lentV xs) 0) 9 by rw [← HE.out]; exact hr.out)
      go_wp2
      go_ret
      exact ⟨rfl, HL.out, hb.out⟩

set_option maxRecDepth 20000 in
set_option maxHeartbeats 2000000 in
theorem lent_emp (a : Addr) (c : Nat) (xs : List ByteArray) (w : World) (hX : xs = []) :
    Calls Tryz.prog 40 #[.slice (some a) xs.length c] w fun e w' => e = .returned (.slice (some ⟨w.heap.size, 0, none⟩) xs.length (xs.length + 5)) ∧ Blk w' w.heap.size (mixL (xs.length + 5) (fun _ => spoiltS) (lentV xs) 0) 9 ∧ Below w.heap.size w w' := by
  obtain ⟨i0, hi, hz0, hz1, hz2⟩ := info_parts infoStr
  have hN : xs.length ≤ 8796093022208 := by rw [hX]; simp
  have hmk := makeStr5 xs.length hN
  have HSP := hide (splice_lent xs)
  have hsz : (Tryz.prog.info? 9).map (·.size) = some 1 := by rw [hi]; simp [hz1]
  obtain ⟨W1, hcp, HB, HR⟩ : ∃ W1, (Builtin.copy_ #[27, 27] 3 #[.slice (some ⟨w.heap.size, 0, none⟩) (xs.length + 5) (xs.length + 5), .slice (some a) xs.length c]).run Tryz.prog (w.alloc (.cells (Array.replicate (xs.length + 5) (Value.string ⟨#[]⟩)) 9)) = .ok (.int .i64 xs.length) W1 ∧ Hid (Below w.heap.size w W1) ∧ Hid (Blk W1 w.heap.size (mixL (xs.length + 5) (lentV xs) (fun _ => ⟨#[]⟩) xs.length) 9) := by
    have h0 : (w.alloc (.cells (Array.replicate (xs.length + 5) (Value.string ⟨#[]⟩)) 9)).heap[w.heap.size]? = some (.cells (Array.replicate (xs.length + 5) (Value.string ⟨#[]⟩)) 9 (0, 0)) := World.alloc_heap_new w _
    have h := run_copy_row (P := Tryz.prog) (w.alloc (.cells (Array.replicate (xs.length + 5) (Value.string ⟨#[]⟩)) 9)) 27 27 3 9 w.heap.size 0 (xs.length + 5) (xs.length + 5) a xs.length c (Array.replicate (xs.length + 5) (Value.string ⟨#[]⟩)) 9 (xs.map Value.string) Tryz.underlying27 hsz h0 (by simp) (by
      intro j v hj
      rw [hX] at hj; simp at hj) (by simp) (by intro v hv; rw [List.mem_map] at hv; obtain ⟨y, _, rfl⟩ := hv; rfl)
    refine ⟨_, h.trans (by rw [show goInt (xs.map Value.string).length = .int .i64 xs.length by rw [List.length_map]; rfl]), below_setRow ((Below.refl _ _).alloc (Nat.le_refl _) _) (Nat.le_refl _) _, ?_⟩
    show Blk _ _ _ _
    unfold Blk
    rw [← HSP.out, splice, ← Array.toList_replicate, ← List.append_assoc]
    exact setRow_heap _ _ _ _ _ _ h0
  have HE := hide (mixL_end (xs.length + 5) (lentV xs) (fun _ => ⟨#[]⟩) (fun _ => spoiltS))
  have HSET := hide (fun m => mixL_set (xs.length + 5) (lentV xs) (fun _ => ⟨#[]⟩) m)
  have HAT := hide (fun m h => mixL_at (xs.length + 5) (lentV xs) (fun _ => ⟨#[]⟩) m h)
  have HLV := hide (fun m (h : xs.length ≤ m) => (show lentV xs m = beyondS by unfold lentV; rw [if_neg (by omega)]))
  clear hX hi hz0 hz1 hz2 hsz
  have heq := fun V : World => Lib.run_eql_slice_nil (P := Tryz.prog) V 27 9 (some a) xs.length c 0 0 Tryz.underlying27
  go_enter Tryz.func40, Tryz.ntmps40
  go_wp2_with fail
  clear hmk hcp heq
  go_loopw [5] (fun i wr => ∃ m : Nat, xs.length ≤ m ∧ m ≤ xs.length + 5 ∧ i = .int .i64 m ∧ Hid (Blk wr w.heap.size (mixL (xs.length + 5) (lentV xs) (fun _ => ⟨#[]⟩) m) 9) ∧ Hid (Below w.heap.size w wr)) (fun i _ => xs.length + 5 - (intOf i).toNat)
  case atStart => exact ⟨xs.length, Nat.le_refl _, by omega, rfl, HR.out, HB.out⟩
  case round =>
    obtain ⟨m, hm1, hm2, rfl, hr, hb⟩ := hrel
    by_cases hlt : m < xs.length + 5
    · have hc := (hr.out.cell m).trans (HAT.out m hlt)
      have hf := hr.out.free m
      have HST := hide (hr.out.set m (.string (lentV xs m)))
      rw [HSET.out m, HLV.out m hm1] at HST
      have hlt' : (m : Int) < (xs.length : Int) + 5 := by omega
      go_wp2
      go_roundw
      case rel => exact ⟨m + 1, by omega, by omega, by go_num, HST.out, hb.out.setCell (Nat.le_refl _) _⟩
      case measure => simp [intOf]; omega
    · obtain rfl : m = xs.length + 5 := by omega
      have HL := hide (show Blk wr w.heap.size (mixL (xs.length + 5) (fun _ => spoiltS) (lentV xs) 0) 9 by rw [← HE.out]; exact hr.out)
      go_wp2
      go_ret
      exact ⟨rfl, HL.out, hb.out⟩

set_option maxRecDepth 20000 in
theorem lent_nil (w : World) : Calls Tryz.prog 40 #[.slice none 0 0] w fun e w' => e = .returned (.slice none 0 0) ∧ w' = w := by
  have heq := fun V : World => Lib.run_eql_slice_nil (P := Tryz.prog) V 27 9 none 0 0 0 0 Tryz.underlying27
  go_enter Tryz.func40, Tryz.ntmps40
  go_wp2
  go_ret
  exact ⟨rfl, rfl⟩
end Go.Proofs.YtgaoeoijdpdjiabGreatDoor
