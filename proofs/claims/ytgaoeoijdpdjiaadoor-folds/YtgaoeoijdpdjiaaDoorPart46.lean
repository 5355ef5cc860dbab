/-
  The statement's own folds and climbs: where the program's answer is the document's. The document's own Placed, at every place.
-/
import Derived.Test.YtgaoeoijdpdjiaaDoorPart45
import Derived.Test.YtgaoeoijdpdjiaaDoorPart37
import Derived.Test.YtgaoeoijdpdjiaaDoorPart44
import Derived.Test.YtgaoeoijdpdjiaaDoorPart28
import Derived.Test.YtgaoeoijdpdjiaaDoorPart39
import Derived.Test.YtgaoeoijdpdjiaaDoorPart40
import Derived.Test.YtgaoeoijdpdjiaaDoorPart38
import Derived.Test.YtgaoeoijdpdjiaaDoorPart36
import Derived.Test.YtgaoeoijdpdjiaaDoorPart34
import Derived.Test.YtgaoeoijdpdjiaaDoorPart33
import Derived.Test.YtgaoeoijdpdjiaaDoorPart35
namespace Go.Proofs.YtgaoeoijdpdjiaaDoor
open Go.RowKit

theorem numF_any (x : Int) (w : World) : Calls Tryd.prog 20 #[.int .i64 x] w fun e w' => e = .returned (.int .i64 x) ∧ w' = w := by
  go_enter Tryd.func20, Tryd.ntmps20
  go_wp2
  go_ret
  exact ⟨rfl, rfl⟩
theorem mixL_cells {V : World} {g : Nat} {xs : List ByteArray} {T : TypeId} (h : Blk V g (mixL (xs.length + 5) (fun _ => spoiltS) (lentV xs) 0) T) : StrsAt V (some ⟨g, 0, none⟩) xs.length (xs.length + 5) xs := by
  refine .inr (.inr ⟨g, 0, rfl, rfl, by omega, h.lt, ?_⟩)
  intro j y hj
  have hl : j < xs.length := (List.getElem?_eq_some_iff.1 hj).1
  rw [Nat.zero_add, h.cell, mixL_get _ _ _ _ _ (by omega), if_neg (by omega)]
  unfold lentV
  rw [if_pos hl, List.getD_eq_getElem?_getD, hj]
  rfl

set_option maxRecDepth 20000 in
set_option maxHeartbeats 4000000 in
theorem folds_some (k b x t l : Int) (pub : ByteArray) (p0 p1 p2 p3 : Int) (bk o c : Nat) (xs : List ByteArray) (cv : ByteArray) (er : Int) (w : World) (hT : Tn w) (hcells : ∀ (j : Nat) y, xs[j]? = some y → w.cell? ⟨bk, o + j, none⟩ = some (.string y)) (hbk : bk < w.heap.size) (hN : xs.length ≤ 8796093022208) (hC : ∀ (V : World) (g : Nat), Tn V → StrsAt V (some ⟨g, 0, none⟩) xs.length (xs.length + 5) xs → Calls Tryd.prog 24 #[.agg #[.int .i64 k, .int .i64 b, .int .i64 x, .int .i64 t, .int .i64 l], .string pub, .agg #[.int .i64 p0, .int .i64 p1, .int .i64 p2, .int .i64 p3], .slice (some ⟨g, 0, none⟩) xs.length (xs.length + 5)] V fun e w' => e = .returned (.tuple #[.string cv, .int .i64 er]) ∧ Below V.heap.size V w')
    (hR : ∀ V : World, Below w.heap.size w V → Calls Tryd.prog 25 #[.agg #[.int .i64 k, .int .i64 b, .int .i64 x, .int .i64 t, .int .i64 l], .string pub, .agg #[.int .i64 p0, .int .i64 p1, .int .i64 p2, .int .i64 p3], .slice (some ⟨bk, o, none⟩) xs.length c] V fun e w' => e = .returned (.tuple #[.string cv, .int .i64 er]) ∧ Below V.heap.size V w') :
    Calls Tryd.prog 8 #[.agg #[.int .i64 k, .int .i64 b, .int .i64 x, .int .i64 t, .int .i64 l], .string pub, .agg #[.int .i64 p0, .int .i64 p1, .int .i64 p2, .int .i64 p3], .slice (some ⟨bk, o, none⟩) xs.length c] w fun e w' => e = .returned (.bool true) ∧ Below w.heap.size w w' := by
  obtain ⟨W0, hW⟩ : ∃ W0, (w.alloc (.cells #[.int .i64 k, .int .i64 b, .int .i64 x, .int .i64 t, .int .i64 l] 25)).alloc (.cells #[.int .i64 p0, .int .i64 p1, .int .i64 p2, .int .i64 p3] 27) = W0 := ⟨_, rfl⟩
  have HF := hide (show FiveC w.heap.size W0 k b x t l by subst hW; refine ⟨?_, ?_, ?_, ?_, ?_⟩ <;> simp [go_sem])
  have HP := hide (show FourC (w.heap.size + 1) W0 p0 p1 p2 p3 by subst hW; refine ⟨?_, ?_, ?_, ?_⟩ <;> simp [go_sem])
  have HB := hide (show Below w.heap.size w W0 by subst hW; exact ((Below.refl _ _).alloc (Nat.le_refl _) _).alloc (by simp) _)
  have hz : W0.heap.size ≤ w.heap.size + 2 := by subst hW; simp
  have hz' : w.heap.size + 2 ≤ W0.heap.size := by subst hW; simp
  have HBU := hide (fun (V : World) (h : Below W0.heap.size W0 V) => HB.out.trans (h.mono (by omega)))
  have HS := hide (fun (V : World) (h : Below W0.heap.size W0 V) => (by
    obtain ⟨c0, c1, c2, c3, c4⟩ := HF.out.below h (by omega)
    obtain ⟨d0, d1, d2, d3⟩ := HP.out.below h (by omega)
    exact ⟨c0, c1, c2, c3, c4, d0, d1, d2, d3⟩ : V.cell? ⟨w.heap.size, 0, none⟩ = some (.int .i64 k) ∧ V.cell? ⟨w.heap.size, 1, none⟩ = some (.int .i64 b) ∧ V.cell? ⟨w.heap.size, 2, none⟩ = some (.int .i64 x) ∧ V.cell? ⟨w.heap.size, 3, none⟩ = some (.int .i64 t) ∧ V.cell? ⟨w.heap.size, 4, none⟩ = some (.int .i64 l) ∧ V.cell? ⟨w.heap.size + 1, 0, none⟩ = some (.int .i64 p0) ∧ V.cell? ⟨w.heap.size + 1, 1, none⟩ = some (.int .i64 p1) ∧ V.cell? ⟨w.heap.size + 1, 2, none⟩ = some (.int .i64 p2) ∧ V.cell? ⟨w.heap.size + 1, 3, none⟩ = some (.int .i64 p3)))
  obtain ⟨c0, c1, c2, c3, c4, d0, d1, d2, d3⟩ := HS.out W0 (Below.refl _ _)
  have HTT := hide (hT.on HB.out)
  have HC := hide hC
  have HR := hide hR
  have HCE := hide (fun (V : World) (h : Below W0.heap.size W0 V) (j : Nat) (y : ByteArray) (hj : xs[j]? = some y) => (h.cell (p := ⟨bk, o + j, none⟩) (by show bk < _; omega)).trans ((HB.out.cell (p := ⟨bk, o + j, none⟩) hbk).trans (hcells j y hj)))
  have HBK := hide (show bk < W0.heap.size by omega)
  have HN := hide hN
  clear hcells hbk hN
  clear hC hR hT
  go_enter Tryd.func8, Tryd.ntmps8
  go_wp2_with fail
  try rw [hW]
  clear hW
  refine (lent_some bk o c xs W0 (HCE.out W0 (Below.refl _ _)) HBK.out HN.out).mono ?_
  rintro e w1 ⟨rfl, hbl, hb1⟩
  have HL1 := hide hbl
  clear hbl
  have HB1 := hide (heldB (Below.refl W0.heap.size W0) hb1 (Nat.le_refl _))
  clear hb1 c0 c1 c2 c3 c4 d0 d1 d2 d3
  obtain ⟨c0, c1, c2, c3, c4, d0, d1, d2, d3⟩ := HS.out w1 HB1.out
  go_wp2_with fail
  refine (HC.out w1 W0.heap.size (HTT.out.on HB1.out) (mixL_cells HL1.out)).mono ?_
  rintro e w2 ⟨rfl, hb2⟩
  have HB2 := hide (heldB HB1.out hb2 (Nat.le_refl _))
  have HBY := hide hb2
  clear hb2 c0 c1 c2 c3 c4 d0 d1 d2 d3
  obtain ⟨c0, c1, c2, c3, c4, d0, d1, d2, d3⟩ := HS.out w2 HB2.out
  go_wp2_with fail
  refine (HR.out _ (HBU.out _ HB2.out)).mono ?_
  rintro e w3 ⟨rfl, hb3⟩
  have HBX := hide (heldB HBY.out hb3 (Nat.le_refl _))
  have HB3 := hide (heldB HB2.out hb3 (Nat.le_refl _))
  clear hb3 HB2 HBY c0 c1 c2 c3 c4 d0 d1 d2 d3
  have HL3 := hide (HL1.out.below HBX.out HL1.out.lt)
  go_wp2_with (first | (go_at_call 26; refine (whole_some W0.heap.size bk o c xs w3 (HCE.out w3 HB3.out) HBK.out HN.out HL3.out).mono ?_; rintro e w4 ⟨rfl, hb4⟩; have HB4 := hide (HB3.out.trans hb4)) | (go_at_call 20; refine (numF_any er _).mono ?_; rintro e w5 ⟨rfl, rfl⟩))
  go_ret
  exact ⟨rfl, HBU.out _ HB4.out⟩

set_option maxRecDepth 20000 in
set_option maxHeartbeats 4000000 in
theorem folds_emp (k b x t l : Int) (pub : ByteArray) (p0 p1 p2 p3 : Int) (a : Addr) (c : Nat) (xs : List ByteArray) (cv : ByteArray) (er : Int) (w : World) (hT : Tn w) (hX : xs = []) (hC : ∀ (V : World) (g : Nat), Tn V → StrsAt V (some ⟨g, 0, none⟩) xs.length (xs.length + 5) xs → Calls Tryd.prog 24 #[.agg #[.int .i64 k, .int .i64 b, .int .i64 x, .int .i64 t, .int .i64 l], .string pub, .agg #[.int .i64 p0, .int .i64 p1, .int .i64 p2, .int .i64 p3], .slice (some ⟨g, 0, none⟩) xs.length (xs.length + 5)] V fun e w' => e = .returned (.tuple #[.string cv, .int .i64 er]) ∧ Below V.heap.size V w')
    (hR : ∀ V : World, Below w.heap.size w V → Calls Tryd.prog 25 #[.agg #[.int .i64 k, .int .i64 b, .int .i64 x, .int .i64 t, .int .i64 l], .string pub, .agg #[.int .i64 p0, .int .i64 p1, .int .i64 p2, .int .i64 p3], .slice (some a) xs.length c] V fun e w' => e = .returned (.tuple #[.string cv, .int .i64 er]) ∧ Below V.heap.size V w') :
    Calls Tryd.prog 8 #[.agg #[.int .i64 k, .int .i64 b, .int .i64 x, .int .i64 t, .int .i64 l], .string pub, .agg #[.int .i64 p0, .int .i64 p1, .int .i64 p2, .int .i64 p3], .slice (some a) xs.length c] w fun e w' => e = .returned (.bool true) ∧ Below w.heap.size w w' := by
  obtain ⟨W0, hW⟩ : ∃ W0, (w.alloc (.cells #[.int .i64 k, .int .i64 b, .int .i64 x, .int .i64 t, .int .i64 l] 25)).alloc (.cells #[.int .i64 p0, .int .i64 p1, .int .i64 p2, .int .i64 p3] 27) = W0 := ⟨_, rfl⟩
  have HF := hide (show FiveC w.heap.size W0 k b x t l by subst hW; refine ⟨?_, ?_, ?_, ?_, ?_⟩ <;> simp [go_sem])
  have HP := hide (show FourC (w.heap.size + 1) W0 p0 p1 p2 p3 by subst hW; refine ⟨?_, ?_, ?_, ?_⟩ <;> simp [go_sem])
  have HB := hide (show Below w.heap.size w W0 by subst hW; exact ((Below.refl _ _).alloc (Nat.le_refl _) _).alloc (by simp) _)
  have hz : W0.heap.size ≤ w.heap.size + 2 := by subst hW; simp
  have hz' : w.heap.size + 2 ≤ W0.heap.size := by subst hW; simp
  have HBU := hide (fun (V : World) (h : Below W0.heap.size W0 V) => HB.out.trans (h.mono (by omega)))
  have HS := hide (fun (V : World) (h : Below W0.heap.size W0 V) => (by
    obtain ⟨c0, c1, c2, c3, c4⟩ := HF.out.below h (by omega)
    obtain ⟨d0, d1, d2, d3⟩ := HP.out.below h (by omega)
    exact ⟨c0, c1, c2, c3, c4, d0, d1, d2, d3⟩ : V.cell? ⟨w.heap.size, 0, none⟩ = some (.int .i64 k) ∧ V.cell? ⟨w.heap.size, 1, none⟩ = some (.int .i64 b) ∧ V.cell? ⟨w.heap.size, 2, none⟩ = some (.int .i64 x) ∧ V.cell? ⟨w.heap.size, 3, none⟩ = some (.int .i64 t) ∧ V.cell? ⟨w.heap.size, 4, none⟩ = some (.int .i64 l) ∧ V.cell? ⟨w.heap.size + 1, 0, none⟩ = some (.int .i64 p0) ∧ V.cell? ⟨w.heap.size + 1, 1, none⟩ = some (.int .i64 p1) ∧ V.cell? ⟨w.heap.size + 1, 2, none⟩ = some (.int .i64 p2) ∧ V.cell? ⟨w.heap.size + 1, 3, none⟩ = some (.int .i64 p3)))
  obtain ⟨c0, c1, c2, c3, c4, d0, d1, d2, d3⟩ := HS.out W0 (Below.refl _ _)
  have HTT := hide (hT.on HB.out)
  have HC := hide hC
  have HR := hide hR
  have HX := hide hX
  have hXN : xs.length ≤ 0 := by rw [hX]; simp
  clear hX
  clear hC hR hT
  go_enter Tryd.func8, Tryd.ntmps8
  go_wp2_with fail
  try rw [hW]
  clear hW
  refine (lent_emp a c xs W0 HX.out).mono ?_
  rintro e w1 ⟨rfl, hbl, hb1⟩
  have HL1 := hide hbl
  clear hbl
  have HB1 := hide (heldB (Below.refl W0.heap.size W0) hb1 (Nat.le_refl _))
  clear hb1 c0 c1 c2 c3 c4 d0 d1 d2 d3
  obtain ⟨c0, c1, c2, c3, c4, d0, d1, d2, d3⟩ := HS.out w1 HB1.out
  go_wp2_with fail
  refine (HC.out w1 W0.heap.size (HTT.out.on HB1.out) (mixL_cells HL1.out)).mono ?_
  rintro e w2 ⟨rfl, hb2⟩
  have HB2 := hide (heldB HB1.out hb2 (Nat.le_refl _))
  have HBY := hide hb2
  clear hb2 c0 c1 c2 c3 c4 d0 d1 d2 d3
  obtain ⟨c0, c1, c2, c3, c4, d0, d1, d2, d3⟩ := HS.out w2 HB2.out
  go_wp2_with fail
  refine (HR.out _ (HBU.out _ HB2.out)).mono ?_
  rintro e w3 ⟨rfl, hb3⟩
  have HBX := hide (heldB HBY.out hb3 (Nat.le_refl _))
  have HB3 := hide (heldB HB2.out hb3 (Nat.le_refl _))
  clear hb3 HB2 HBY c0 c1 c2 c3 c4 d0 d1 d2 d3
  have HL3 := hide (HL1.out.below HBX.out HL1.out.lt)
  go_wp2_with (first | (go_at_call 26; refine (whole_emp W0.heap.size a c xs w3 HX.out HL3.out).mono ?_; rintro e w4 ⟨rfl, hb4⟩; have HB4 := hide (HB3.out.trans hb4)) | (go_at_call 20; refine (numF_any er _).mono ?_; rintro e w5 ⟨rfl, rfl⟩))
  go_ret
  exact ⟨rfl, HBU.out _ HB4.out⟩

set_option maxRecDepth 20000 in
set_option maxHeartbeats 4000000 in
theorem folds_nil (k b x t l : Int) (pub : ByteArray) (p0 p1 p2 p3 : Int) (cv : ByteArray) (er : Int) (w : World) (hT : Tn w) (hC : ∀ V : World, Tn V → Calls Tryd.prog 24 #[.agg #[.int .i64 k, .int .i64 b, .int .i64 x, .int .i64 t, .int .i64 l], .string pub, .agg #[.int .i64 p0, .int .i64 p1, .int .i64 p2, .int .i64 p3], .slice none 0 0] V fun e w' => e = .returned (.tuple #[.string cv, .int .i64 er]) ∧ Below V.heap.size V w')
    (hR : ∀ V : World, Below w.heap.size w V → Calls Tryd.prog 25 #[.agg #[.int .i64 k, .int .i64 b, .int .i64 x, .int .i64 t, .int .i64 l], .string pub, .agg #[.int .i64 p0, .int .i64 p1, .int .i64 p2, .int .i64 p3], .slice none 0 0] V fun e w' => e = .returned (.tuple #[.string cv, .int .i64 er]) ∧ Below V.heap.size V w') :
    Calls Tryd.prog 8 #[.agg #[.int .i64 k, .int .i64 b, .int .i64 x, .int .i64 t, .int .i64 l], .string pub, .agg #[.int .i64 p0, .int .i64 p1, .int .i64 p2, .int .i64 p3], .slice none 0 0] w fun e w' => e = .returned (.bool true) ∧ Below w.heap.size w w' := by
  obtain ⟨W0, hW⟩ : ∃ W0, (w.alloc (.cells #[.int .i64 k, .int .i64 b, .int .i64 x, .int .i64 t, .int .i64 l] 25)).alloc (.cells #[.int .i64 p0, .int .i64 p1, .int .i64 p2, .int .i64 p3] 27) = W0 := ⟨_, rfl⟩
  have HF := hide (show FiveC w.heap.size W0 k b x t l by subst hW; refine ⟨?_, ?_, ?_, ?_, ?_⟩ <;> simp [go_sem])
  have HP := hide (show FourC (w.heap.size + 1) W0 p0 p1 p2 p3 by subst hW; refine ⟨?_, ?_, ?_, ?_⟩ <;> simp [go_sem])
  have HB := hide (show Below w.heap.size w W0 by subst hW; exact ((Below.refl _ _).alloc (Nat.le_refl _) _).alloc (by simp) _)
  have hz : W0.heap.size ≤ w.heap.size + 2 := by subst hW; simp
  have hz' : w.heap.size + 2 ≤ W0.heap.size := by subst hW; simp
  have HBU := hide (fun (V : World) (h : Below W0.heap.size W0 V) => HB.out.trans (h.mono (by omega)))
  have HS := hide (fun (V : World) (h : Below W0.heap.size W0 V) => (by
    obtain ⟨c0, c1, c2, c3, c4⟩ := HF.out.below h (by omega)
    obtain ⟨d0, d1, d2, d3⟩ := HP.out.below h (by omega)
    exact ⟨c0, c1, c2, c3, c4, d0, d1, d2, d3⟩ : V.cell? ⟨w.heap.size, 0, none⟩ = some (.int .i64 k) ∧ V.cell? ⟨w.heap.size, 1, none⟩ = some (.int .i64 b) ∧ V.cell? ⟨w.heap.size, 2, none⟩ = some (.int .i64 x) ∧ V.cell? ⟨w.heap.size, 3, none⟩ = some (.int .i64 t) ∧ V.cell? ⟨w.heap.size, 4, none⟩ = some (.int .i64 l) ∧ V.cell? ⟨w.heap.size + 1, 0, none⟩ = some (.int .i64 p0) ∧ V.cell? ⟨w.heap.size + 1, 1, none⟩ = some (.int .i64 p1) ∧ V.cell? ⟨w.heap.size + 1, 2, none⟩ = some (.int .i64 p2) ∧ V.cell? ⟨w.heap.size + 1, 3, none⟩ = some (.int .i64 p3)))
  obtain ⟨c0, c1, c2, c3, c4, d0, d1, d2, d3⟩ := HS.out W0 (Below.refl _ _)
  have HTT := hide (hT.on HB.out)
  have HC := hide hC
  have HR := hide hR
  clear hC hR hT
  go_enter Tryd.func8, Tryd.ntmps8
  go_wp2_with fail
  try rw [hW]
  clear hW
  refine (lent_nil W0).mono ?_
  rintro e w1 ⟨rfl, rfl⟩
  have hb1 := Below.refl w1.heap.size w1
  have HB1 := hide (heldB (Below.refl w1.heap.size w1) hb1 (Nat.le_refl _))
  clear hb1 c0 c1 c2 c3 c4 d0 d1 d2 d3
  obtain ⟨c0, c1, c2, c3, c4, d0, d1, d2, d3⟩ := HS.out w1 HB1.out
  go_wp2_with fail
  refine (HC.out _ HTT.out).mono ?_
  rintro e w2 ⟨rfl, hb2⟩
  have HB2 := hide (heldB HB1.out hb2 (Nat.le_refl _))
  have HBY := hide hb2
  clear hb2 c0 c1 c2 c3 c4 d0 d1 d2 d3
  obtain ⟨c0, c1, c2, c3, c4, d0, d1, d2, d3⟩ := HS.out w2 HB2.out
  go_wp2_with fail
  refine (HR.out _ (HBU.out _ HB2.out)).mono ?_
  rintro e w3 ⟨rfl, hb3⟩
  have HBX := hide (heldB HBY.out hb3 (Nat.le_refl _))
  have HB3 := hide (heldB HB2.out hb3 (Nat.le_refl _))
  clear hb3 HB2 HBY c0 c1 c2 c3 c4 d0 d1 d2 d3
  go_wp2_with (first | (go_at_call 26; refine (whole_nil _).mono ?_; rintro e w4 ⟨rfl, rfl⟩) | (go_at_call 20; refine (numF_any er _).mono ?_; rintro e w5 ⟨rfl, rfl⟩))
  go_ret
  exact ⟨rfl, HBU.out _ HB3.out⟩

set_option maxRecDepth 20000 in
set_option maxHeartbeats 4000000 in
theorem climbs_some (k b x t l : Int) (pub y : ByteArray) (p0 p1 p2 p3 : Int) (bk o c : Nat) (xs : List ByteArray) (cv : ByteArray) (er : Int) (w : World) (hT : Tn w) (hcells : ∀ (j : Nat) y, xs[j]? = some y → w.cell? ⟨bk, o + j, none⟩ = some (.string y)) (hbk : bk < w.heap.size) (hN : xs.length ≤ 8796093022208) (hC : ∀ (V : World) (g : Nat), Tn V → StrsAt V (some ⟨g, 0, none⟩) xs.length (xs.length + 5) xs → Calls Tryd.prog 27 #[.agg #[.int .i64 k, .int .i64 b, .int .i64 x, .int .i64 t, .int .i64 l], .string pub, .agg #[.int .i64 p0, .int .i64 p1, .int .i64 p2, .int .i64 p3], .string y, .slice (some ⟨g, 0, none⟩) xs.length (xs.length + 5)] V fun e w' => e = .returned (.tuple #[.string cv, .int .i64 er]) ∧ Below V.heap.size V w')
    (hR : ∀ V : World, Below w.heap.size w V → Calls Tryd.prog 28 #[.agg #[.int .i64 k, .int .i64 b, .int .i64 x, .int .i64 t, .int .i64 l], .string pub, .agg #[.int .i64 p0, .int .i64 p1, .int .i64 p2, .int .i64 p3], .string y, .slice (some ⟨bk, o, none⟩) xs.length c] V fun e w' => e = .returned (.tuple #[.string cv, .int .i64 er]) ∧ Below V.heap.size V w') :
    Calls Tryd.prog 9 #[.agg #[.int .i64 k, .int .i64 b, .int .i64 x, .int .i64 t, .int .i64 l], .string pub, .agg #[.int .i64 p0, .int .i64 p1, .int .i64 p2, .int .i64 p3], .string y, .slice (some ⟨bk, o, none⟩) xs.length c] w fun e w' => e = .returned (.bool true) ∧ Below w.heap.size w w' := by
  obtain ⟨W0, hW⟩ : ∃ W0, (w.alloc (.cells #[.int .i64 k, .int .i64 b, .int .i64 x, .int .i64 t, .int .i64 l] 25)).alloc (.cells #[.int .i64 p0, .int .i64 p1, .int .i64 p2, .int .i64 p3] 27) = W0 := ⟨_, rfl⟩
  have HF := hide (show FiveC w.heap.size W0 k b x t l by subst hW; refine ⟨?_, ?_, ?_, ?_, ?_⟩ <;> simp [go_sem])
  have HP := hide (show FourC (w.heap.size + 1) W0 p0 p1 p2 p3 by subst hW; refine ⟨?_, ?_, ?_, ?_⟩ <;> simp [go_sem])
  have HB := hide (show Below w.heap.size w W0 by subst hW; exact ((Below.refl _ _).alloc (Nat.le_refl _) _).alloc (by simp) _)
  have hz : W0.heap.size ≤ w.heap.size + 2 := by subst hW; simp
  have hz' : w.heap.size + 2 ≤ W0.heap.size := by subst hW; simp
  have HBU := hide (fun (V : World) (h : Below W0.heap.size W0 V) => HB.out.trans (h.mono (by omega)))
  have HS := hide (fun (V : World) (h : Below W0.heap.size W0 V) => (by
    obtain ⟨c0, c1, c2, c3, c4⟩ := HF.out.below h (by omega)
    obtain ⟨d0, d1, d2, d3⟩ := HP.out.below h (by omega)
    exact ⟨c0, c1, c2, c3, c4, d0, d1, d2, d3⟩ : V.cell? ⟨w.heap.size, 0, none⟩ = some (.int .i64 k) ∧ V.cell? ⟨w.heap.size, 1, none⟩ = some (.int .i64 b) ∧ V.cell? ⟨w.heap.size, 2, none⟩ = some (.int .i64 x) ∧ V.cell? ⟨w.heap.size, 3, none⟩ = some (.int .i64 t) ∧ V.cell? ⟨w.heap.size, 4, none⟩ = some (.int .i64 l) ∧ V.cell? ⟨w.heap.size + 1, 0, none⟩ = some (.int .i64 p0) ∧ V.cell? ⟨w.heap.size + 1, 1, none⟩ = some (.int .i64 p1) ∧ V.cell? ⟨w.heap.size + 1, 2, none⟩ = some (.int .i64 p2) ∧ V.cell? ⟨w.heap.size + 1, 3, none⟩ = some (.int .i64 p3)))
  obtain ⟨c0, c1, c2, c3, c4, d0, d1, d2, d3⟩ := HS.out W0 (Below.refl _ _)
  have HTT := hide (hT.on HB.out)
  have HC := hide hC
  have HR := hide hR
  have HCE := hide (fun (V : World) (h : Below W0.heap.size W0 V) (j : Nat) (y : ByteArray) (hj : xs[j]? = some y) => (h.cell (p := ⟨bk, o + j, none⟩) (by show bk < _; omega)).trans ((HB.out.cell (p := ⟨bk, o + j, none⟩) hbk).trans (hcells j y hj)))
  have HBK := hide (show bk < W0.heap.size by omega)
  have HN := hide hN
  clear hcells hbk hN
  clear hC hR hT
  go_enter Tryd.func9, Tryd.ntmps9
  go_wp2_with fail
  try rw [hW]
  clear hW
  refine (lent_some bk o c xs W0 (HCE.out W0 (Below.refl _ _)) HBK.out HN.out).mono ?_
  rintro e w1 ⟨rfl, hbl, hb1⟩
  have HL1 := hide hbl
  clear hbl
  have HB1 := hide (heldB (Below.refl W0.heap.size W0) hb1 (Nat.le_refl _))
  clear hb1 c0 c1 c2 c3 c4 d0 d1 d2 d3
  obtain ⟨c0, c1, c2, c3, c4, d0, d1, d2, d3⟩ := HS.out w1 HB1.out
  go_wp2_with fail
  refine (HC.out w1 W0.heap.size (HTT.out.on HB1.out) (mixL_cells HL1.out)).mono ?_
  rintro e w2 ⟨rfl, hb2⟩
  have HB2 := hide (heldB HB1.out hb2 (Nat.le_refl _))
  have HBY := hide hb2
  clear hb2 c0 c1 c2 c3 c4 d0 d1 d2 d3
  obtain ⟨c0, c1, c2, c3, c4, d0, d1, d2, d3⟩ := HS.out w2 HB2.out
  go_wp2_with fail
  refine (HR.out _ (HBU.out _ HB2.out)).mono ?_
  rintro e w3 ⟨rfl, hb3⟩
  have HBX := hide (heldB HBY.out hb3 (Nat.le_refl _))
  have HB3 := hide (heldB HB2.out hb3 (Nat.le_refl _))
  clear hb3 HB2 HBY c0 c1 c2 c3 c4 d0 d1 d2 d3
  have HL3 := hide (HL1.out.below HBX.out HL1.out.lt)
  go_wp2_with (first | (go_at_call 26; refine (whole_some W0.heap.size bk o c xs w3 (HCE.out w3 HB3.out) HBK.out HN.out HL3.out).mono ?_; rintro e w4 ⟨rfl, hb4⟩; have HB4 := hide (HB3.out.trans hb4)) | (go_at_call 20; refine (numF_any er _).mono ?_; rintro e w5 ⟨rfl, rfl⟩))
  go_ret
  exact ⟨rfl, HBU.out _ HB4.out⟩

set_option maxRecDepth 20000 in
set_option maxHeartbeats 4000000 in
theorem climbs_emp (k b x t l : Int) (pub y : ByteArray) (p0 p1 p2 p3 : Int) (a : Addr) (c : Nat) (xs : List ByteArray) (cv : ByteArray) (er : Int) (w : World) (hT : Tn w) (hX : xs = []) (hC : ∀ (V : World) (g : Nat), Tn V → StrsAt V (some ⟨g, 0, none⟩) xs.length (xs.length + 5) xs → Calls Tryd.prog 27 #[.agg #[.int .i64 k, .int .i64 b, .int .i64 x, .int .i64 t, .int .i64 l], .string pub, .agg #[.int .i64 p0, .int .i64 p1, .int .i64 p2, .int .i64 p3], .string y, .slice (some ⟨g, 0, none⟩) xs.length (xs.length + 5)] V fun e w' => e = .returned (.tuple #[.string cv, .int .i64 er]) ∧ Below V.heap.size V w')
    (hR : ∀ V : World, Below w.heap.size w V → Calls Tryd.prog 28 #[.agg #[.int .i64 k, .int .i64 b, .int .i64 x, .int .i64 t, .int .i64 l], .string pub, .agg #[.int .i64 p0, .int .i64 p1, .int .i64 p2, .int .i64 p3], .string y, .slice (some a) xs.length c] V fun e w' => e = .returned (.tuple #[.string cv, .int .i64 er]) ∧ Below V.heap.size V w') :
    Calls Tryd.prog 9 #[.agg #[.int .i64 k, .int .i64 b, .int .i64 x, .int .i64 t, .int .i64 l], .string pub, .agg #[.int .i64 p0, .int .i64 p1, .int .i64 p2, .int .i64 p3], .string y, .slice (some a) xs.length c] w fun e w' => e = .returned (.bool true) ∧ Below w.heap.size w w' := by
  obtain ⟨W0, hW⟩ : ∃ W0, (w.alloc (.cells #[.int .i64 k, .int .i64 b, .int .i64 x, .int .i64 t, .int .i64 l] 25)).alloc (.cells #[.int .i64 p0, .int .i64 p1, .int .i64 p2, .int .i64 p3] 27) = W0 := ⟨_, rfl⟩
  have HF := hide (show FiveC w.heap.size W0 k b x t l by subst hW; refine ⟨?_, ?_, ?_, ?_, ?_⟩ <;> simp [go_sem])
  have HP := hide (show FourC (w.heap.size + 1) W0 p0 p1 p2 p3 by subst hW; refine ⟨?_, ?_, ?_, ?_⟩ <;> simp [go_sem])
  have HB := hide (show Below w.heap.size w W0 by subst hW; exact ((Below.refl _ _).alloc (Nat.le_refl _) _).alloc (by simp) _)
  have hz : W0.heap.size ≤ w.heap.size + 2 := by subst hW; simp
  have hz' : w.heap.size + 2 ≤ W0.heap.size := by subst hW; simp
  have HBU := hide (fun (V : World) (h : Below W0.heap.size W0 V) => HB.out.trans (h.mono (by omega)))
  have HS := hide (fun (V : World) (h : Below W0.heap.size W0 V) => (by
    obtain ⟨c0, c1, c2, c3, c4⟩ := HF.out.below h (by omega)
    obtain ⟨d0, d1, d2, d3⟩ := HP.out.below h (by omega)
    exact ⟨c0, c1, c2, c3, c4, d0, d1, d2, d3⟩ : V.cell? ⟨w.heap.size, 0, none⟩ = some (.int .i64 k) ∧ V.cell? ⟨w.heap.size, 1, none⟩ = some (.int .i64 b) ∧ V.cell? ⟨w.heap.size, 2, none⟩ = some (.int .i64 x) ∧ V.cell? ⟨w.heap.size, 3, none⟩ = some (.int .i64 t) ∧ V.cell? ⟨w.heap.size, 4, none⟩ = some (.int .i64 l) ∧ V.cell? ⟨w.heap.size + 1, 0, none⟩ = some (.int .i64 p0) ∧ V.cell? ⟨w.heap.size + 1, 1, none⟩ = some (.int .i64 p1) ∧ V.cell? ⟨w.heap.size + 1, 2, none⟩ = some (.int .i64 p2) ∧ V.cell? ⟨w.heap.size + 1, 3, none⟩ = some (.int .i64 p3)))
  obtain ⟨c0, c1, c2, c3, c4, d0, d1, d2, d3⟩ := HS.out W0 (Below.refl _ _)
  have HTT := hide (hT.on HB.out)
  have HC := hide hC
  have HR := hide hR
  have HX := hide hX
  have hXN : xs.length ≤ 0 := by rw [hX]; simp
  clear hX
  clear hC hR hT
  go_enter Tryd.func9, Tryd.ntmps9
  go_wp2_with fail
  try rw [hW]
  clear hW
  refine (lent_emp a c xs W0 HX.out).mono ?_
  rintro e w1 ⟨rfl, hbl, hb1⟩
  have HL1 := hide hbl
  clear hbl
  have HB1 := hide (heldB (Below.refl W0.heap.size W0) hb1 (Nat.le_refl _))
  clear hb1 c0 c1 c2 c3 c4 d0 d1 d2 d3
  obtain ⟨c0, c1, c2, c3, c4, d0, d1, d2, d3⟩ := HS.out w1 HB1.out
  go_wp2_with fail
  refine (HC.out w1 W0.heap.size (HTT.out.on HB1.out) (mixL_cells HL1.out)).mono ?_
  rintro e w2 ⟨rfl, hb2⟩
  have HB2 := hide (heldB HB1.out hb2 (Nat.le_refl _))
  have HBY := hide hb2
  clear hb2 c0 c1 c2 c3 c4 d0 d1 d2 d3
  obtain ⟨c0, c1, c2, c3, c4, d0, d1, d2, d3⟩ := HS.out w2 HB2.out
  go_wp2_with fail
  refine (HR.out _ (HBU.out _ HB2.out)).mono ?_
  rintro e w3 ⟨rfl, hb3⟩
  have HBX := hide (heldB HBY.out hb3 (Nat.le_refl _))
  have HB3 := hide (heldB HB2.out hb3 (Nat.le_refl _))
  clear hb3 HB2 HBY c0 c1 c2 c3 c4 d0 d1 d2 d3
  have HL3 := hide (HL1.out.below HBX.out HL1.out.lt)
  go_wp2_with (first | (go_at_call 26; refine (whole_emp W0.heap.size a c xs w3 HX.out HL3.out).mono ?_; rintro e w4 ⟨rfl, hb4⟩; have HB4 := hide (HB3.out.trans hb4)) | (go_at_call 20; refine (numF_any er _).mono ?_; rintro e w5 ⟨rfl, rfl⟩))
  go_ret
  exact ⟨rfl, HBU.out _ HB4.out⟩

set_option maxRecDepth 20000 in
set_option maxHeartbeats 4000000 in
theorem climbs_nil (k b x t l : Int) (pub y : ByteArray) (p0 p1 p2 p3 : Int) (cv : ByteArray) (er : Int) (w : World) (hT : Tn w) (hC : ∀ V : World, Tn V → Calls Tryd.prog 27 #[.agg #[.int .i64 k, .int .i64 b, .int .i64 x, .int .i64 t, .int .i64 l], .string pub, .agg #[.int .i64 p0, .int .i64 p1, .int .i64 p2, .int .i64 p3], .string y, .slice none 0 0] V fun e w' => e = .returned (.tuple #[.string cv, .int .i64 er]) ∧ Below V.heap.size V w')
    (hR : ∀ V : World, Below w.heap.size w V → Calls Tryd.prog 28 #[.agg #[.int .i64 k, .int .i64 b, .int .i64 x, .int .i64 t, .int .i64 l], .string pub, .agg #[.int .i64 p0, .int .i64 p1, .int .i64 p2, .int .i64 p3], .string y, .slice none 0 0] V fun e w' => e = .returned (.tuple #[.string cv, .int .i64 er]) ∧ Below V.heap.size V w') :
    Calls Tryd.prog 9 #[.agg #[.int .i64 k, .int .i64 b, .int .i64 x, .int .i64 t, .int .i64 l], .string pub, .agg #[.int .i64 p0, .int .i64 p1, .int .i64 p2, .int .i64 p3], .string y, .slice none 0 0] w fun e w' => e = .returned (.bool true) ∧ Below w.heap.size w w' := by
  obtain ⟨W0, hW⟩ : ∃ W0, (w.alloc (.cells #[.int .i64 k, .int .i64 b, .int .i64 x, .int .i64 t, .int .i64 l] 25)).alloc (.cells #[.int .i64 p0, .int .i64 p1, .int .i64 p2, .int .i64 p3] 27) = W0 := ⟨_, rfl⟩
  have HF := hide (show FiveC w.heap.size W0 k b x t l by subst hW; refine ⟨?_, ?_, ?_, ?_, ?_⟩ <;> simp [go_sem])
  have HP := hide (show FourC (w.heap.size + 1) W0 p0 p1 p2 p3 by subst hW; refine ⟨?_, ?_, ?_, ?_⟩ <;> simp [go_sem])
  have HB := hide (show Below w.heap.size w W0 by subst hW; exact ((Below.refl _ _).alloc (Nat.le_refl _) _).alloc (by simp) _)
  have hz : W0.heap.size ≤ w.heap.size + 2 := by subst hW; simp
  have hz' : w.heap.size + 2 ≤ W0.heap.size := by subst hW; simp
  have HBU := hide (fun (V : World) (h : Below W0.heap.size W0 V) => HB.out.trans (h.mono (by omega)))
  have HS := hide (fun (V : World) (h : Below W0.heap.size W0 V) => (by
    obtain ⟨c0, c1, c2, c3, c4⟩ := HF.out.below h (by omega)
    obtain ⟨d0, d1, d2, d3⟩ := HP.out.below h (by omega)
    exact ⟨c0, c1, c2, c3, c4, d0, d1, d2, d3⟩ : V.cell? ⟨w.heap.size, 0, none⟩ = some (.int .i64 k) ∧ V.cell? ⟨w.heap.size, 1, none⟩ = some (.int .i64 b) ∧ V.cell? ⟨w.heap.size, 2, none⟩ = some (.int .i64 x) ∧ V.cell? ⟨w.heap.size, 3, none⟩ = some (.int .i64 t) ∧ V.cell? ⟨w.heap.size, 4, none⟩ = some (.int .i64 l) ∧ V.cell? ⟨w.heap.size + 1, 0, none⟩ = some (.int .i64 p0) ∧ V.cell? ⟨w.heap.size + 1, 1, none⟩ = some (.int .i64 p1) ∧ V.cell? ⟨w.heap.size + 1, 2, none⟩ = some (.int .i64 p2) ∧ V.cell? ⟨w.heap.size + 1, 3, none⟩ = some (.int .i64 p3)))
  obtain ⟨c0, c1, c2, c3, c4, d0, d1, d2, d3⟩ := HS.out W0 (Below.refl _ _)
  have HTT := hide (hT.on HB.out)
  have HC := hide hC
  have HR := hide hR
  clear hC hR hT
  go_enter Tryd.func9, Tryd.ntmps9
  go_wp2_with fail
  try rw [hW]
  clear hW
  refine (lent_nil W0).mono ?_
  rintro e w1 ⟨rfl, rfl⟩
  have hb1 := Below.refl w1.heap.size w1
  have HB1 := hide (heldB (Below.refl w1.heap.size w1) hb1 (Nat.le_refl _))
  clear hb1 c0 c1 c2 c3 c4 d0 d1 d2 d3
  obtain ⟨c0, c1, c2, c3, c4, d0, d1, d2, d3⟩ := HS.out w1 HB1.out
  go_wp2_with fail
  refine (HC.out _ HTT.out).mono ?_
  rintro e w2 ⟨rfl, hb2⟩
  have HB2 := hide (heldB HB1.out hb2 (Nat.le_refl _))
  have HBY := hide hb2
  clear hb2 c0 c1 c2 c3 c4 d0 d1 d2 d3
  obtain ⟨c0, c1, c2, c3, c4, d0, d1, d2, d3⟩ := HS.out w2 HB2.out
  go_wp2_with fail
  refine (HR.out _ (HBU.out _ HB2.out)).mono ?_
  rintro e w3 ⟨rfl, hb3⟩
  have HBX := hide (heldB HBY.out hb3 (Nat.le_refl _))
  have HB3 := hide (heldB HB2.out hb3 (Nat.le_refl _))
  clear hb3 HB2 HBY c0 c1 c2 c3 c4 d0 d1 d2 d3
  go_wp2_with (first | (go_at_call 26; refine (whole_nil _).mono ?_; rintro e w4 ⟨rfl, rfl⟩) | (go_at_call 20; refine (numF_any er _).mono ?_; rintro e w5 ⟨rfl, rfl⟩))
  go_ret
  exact ⟨rfl, HBU.out _ HB3.out⟩

end Go.Proofs.YtgaoeoijdpdjiaaDoor

namespace Go.Proofs.YtgaoeoijdpdjiaaDoor
open Go.RowKit

set_option maxRecDepth 20000 in
set_option maxHeartbeats 2000000 in
theorem placed_out (k b x t l p0 p1 p2 p3 : Int) (w : World) (h : p0 < 0 ∨ l ≤ p0) :
    Calls Tryd.prog 44 #[.agg #[.int .i64 k, .int .i64 b, .int .i64 x, .int .i64 t, .int .i64 l], .agg #[.int .i64 p0, .int .i64 p1, .int .i64 p2, .int .i64 p3]] w fun e w' => e = .returned (.bool false) ∧ Below w.heap.size w w' := by
  by_cases h0 : p0 < 0
  · go_enter Tryd.func44, Tryd.ntmps44
    go_wp2
    go_ret
    exact ⟨rfl, ((Below.refl _ _).alloc (Nat.le_refl _) _).alloc (by simp) _⟩
  · have h1 : l ≤ p0 := by omega
    go_enter Tryd.func44, Tryd.ntmps44
    go_wp2
    go_ret
    exact ⟨rfl, ((Below.refl _ _).alloc (Nat.le_refl _) _).alloc (by simp) _⟩

theorem placed_any (k x a0 a1 a3 a4 a5 : Int) (b t l ch : Nat) (p0 p1 p2 p3 : Int) (w : World) (h2 : t ≤ 4) (h4 : l ≤ 3)
    (hsz : ∀ V : World, Calls Tryd.prog 43 #[.agg #[.int .i64 k, .int .i64 b, .int .i64 x, .int .i64 t, .int .i64 l]] V fun r w' => r = .returned (.agg #[.int .i64 a0, .int .i64 a1, .int .i64 ch, .int .i64 a3, .int .i64 a4, .int .i64 a5]) ∧ Below V.heap.size V w') :
    Calls Tryd.prog 44 #[.agg #[.int .i64 k, .int .i64 b, .int .i64 x, .int .i64 t, .int .i64 l], .agg #[.int .i64 p0, .int .i64 p1, .int .i64 p2, .int .i64 p3]] w fun e w' => e = .returned (.bool (chainB t l ch p0 p1 p2 p3)) ∧ Below w.heap.size w w' := by
  by_cases h0 : p0 < 0 ∨ (l : Int) ≤ p0
  · refine (placed_out k b x t l p0 p1 p2 p3 w h0).mono ?_
    rintro e w' ⟨rfl, hb⟩
    refine ⟨?_, hb⟩
    have : decide (0 ≤ p0 ∧ p0 < (l : Int)) = false := by simp; omega
    unfold chainB leafB
    rw [this]
    rfl
  · obtain ⟨q, rfl⟩ : ∃ q : Nat, p0 = (q : Int) := ⟨p0.toNat, by omega⟩
    have hq : q < l := by omega
    have d0 : decide (0 ≤ (q : Int) ∧ (q : Int) < (l : Int)) = true := by simp; omega
    unfold chainB leafB
    rw [d0, Int.toNat_natCast, Nat.pow_mul, Bool.true_and]
    by_cases e1 : 0 ≤ p1
    · by_cases e2 : p1 < ((((2 ^ t) ^ (l - 1 - q) : Nat)) : Int)
      · rw [show decide (0 ≤ p1 ∧ p1 < ((((2 ^ t) ^ (l - 1 - q) : Nat)) : Int)) = true from decide_eq_true ⟨e1, e2⟩, Bool.true_and]
        by_cases e3 : 0 ≤ p2
        · by_cases e4 : p2 < (((2 ^ t : Nat)) : Int)
          · rw [show decide (0 ≤ p2 ∧ p2 < (((2 ^ t : Nat)) : Int)) = true from decide_eq_true ⟨e3, e4⟩, Bool.true_and]
            by_cases e5 : 0 ≤ p3
            · by_cases e6 : p3 < (ch : Int)
              · rw [show decide (0 ≤ p3 ∧ p3 < (ch : Int)) = true from decide_eq_true ⟨e5, e6⟩]
                exact placed_7 k x a0 a1 a3 a4 a5 b t l q ch p1 p2 p3 w h2 h4 hq hsz e1 e2 e3 e4 e5 e6
              · rw [show decide (0 ≤ p3 ∧ p3 < (ch : Int)) = false from decide_eq_false (fun h => e6 h.2)]
                exact placed_6 k x a0 a1 a3 a4 a5 b t l q ch p1 p2 p3 w h2 h4 hq hsz e1 e2 e3 e4 e5 (by omega)
            · rw [show decide (0 ≤ p3 ∧ p3 < (ch : Int)) = false from decide_eq_false (fun h => e5 h.1)]
              exact placed_5 k x a0 a1 a3 a4 a5 b t l q ch p1 p2 p3 w h2 h4 hq hsz e1 e2 e3 e4 (by omega)
          · rw [show decide (0 ≤ p2 ∧ p2 < (((2 ^ t : Nat)) : Int)) = false from decide_eq_false (fun h => e4 h.2), Bool.false_and]
            exact placed_4 k x a0 a1 a3 a4 a5 b t l q ch p1 p2 p3 w h2 h4 hq hsz e1 e2 e3 (Int.not_lt.1 e4)
        · rw [show decide (0 ≤ p2 ∧ p2 < (((2 ^ t : Nat)) : Int)) = false from decide_eq_false (fun h => e3 h.1), Bool.false_and]
          exact placed_3 k x a0 a1 a3 a4 a5 b t l q ch p1 p2 p3 w h2 h4 hq hsz e1 e2 (by omega)
      · rw [show decide (0 ≤ p1 ∧ p1 < ((((2 ^ t) ^ (l - 1 - q) : Nat)) : Int)) = false from decide_eq_false (fun h => e2 h.2), Bool.false_and, Bool.false_and]
        exact placed_2 k x a0 a1 a3 a4 a5 b t l q ch p1 p2 p3 w h2 h4 hq hsz e1 (Int.not_lt.1 e2)
    · rw [show decide (0 ≤ p1 ∧ p1 < ((((2 ^ t) ^ (l - 1 - q) : Nat)) : Int)) = false from decide_eq_false (fun h => e1 h.1), Bool.false_and, Bool.false_and]
      exact placed_1 k x a0 a1 a3 a4 a5 b t l q ch p1 p2 p3 w h2 h4 hq hsz (by omega)
end Go.Proofs.YtgaoeoijdpdjiaaDoor
