/-
  The program's New: seeds that are wrong. The program's New: no place of a tree. The document's own Placed: right.
-/
import Derived.Test.YtgaoeoijdpdjiaaGreatDoorPart18
import Derived.Test.YtgaoeoijdpdjiaaGreatDoorPart19
import Derived.Test.YtgaoeoijdpdjiaaGreatDoorPart5
namespace Go.Proofs.YtgaoeoijdpdjiaaGreatDoor
open Go.RowKit
set_option maxRecDepth 20000 in
set_option maxHeartbeats 8000000 in
theorem new_see (k b x t l a0 a1 ch a3 a4 a5 : Int) (sec rnd pub : ByteArray) (p0 p1 p2 p3 : Int) (w : World) (hC : ∀ V : World, Calls Tryz.prog 69 #[.agg #[.int .i64 k, .int .i64 b, .int .i64 x, .int .i64 t, .int .i64 l]] V fun e w' => e = .returned (.tuple #[.agg #[.int .i64 a0, .int .i64 a1, .int .i64 ch, .int .i64 a3, .int .i64 a4, .int .i64 a5], .int .i64 0]) ∧ Below V.heap.size V w') (hV : ∀ V : World, Calls Tryz.prog 70 #[.agg #[.int .i64 k, .int .i64 b, .int .i64 x, .int .i64 t, .int .i64 l], .agg #[.string sec, .string rnd, .string pub]] V fun e w' => e = .returned (.bool false) ∧ Below V.heap.size V w') :
    Calls Tryz.prog 37 #[.agg #[.int .i64 k, .int .i64 b, .int .i64 x, .int .i64 t, .int .i64 l], .agg #[.string sec, .string rnd, .string pub], .agg #[.int .i64 p0, .int .i64 p1, .int .i64 p2, .int .i64 p3]] w fun e w' => e = .returned (.tuple #[.agg #[.int .i64 0, .int .i64 0, .int .i64 0, .int .i64 0, .int .i64 0, .string ⟨#[]⟩, .string ⟨#[]⟩, .string ⟨#[]⟩, .int .i64 0, .int .i64 0, .int .i64 0, .int .i64 0, .int .i64 0], .int .i64 2]) ∧ Below w.heap.size w w' := by
  obtain ⟨W0, hW⟩ : ∃ W0, (((w.alloc (.cells #[.int .i64 k, .int .i64 b, .int .i64 x, .int .i64 t, .int .i64 l] 23)).alloc (.cells #[.string sec, .string rnd, .string pub] 25)).alloc (.cells #[.int .i64 p0, .int .i64 p1, .int .i64 p2, .int .i64 p3] 27)).alloc (.cells #[.int .i64 0, .int .i64 0, .int .i64 0, .int .i64 0, .int .i64 0, .string ⟨#[]⟩, .string ⟨#[]⟩, .string ⟨#[]⟩, .int .i64 0, .int .i64 0, .int .i64 0, .int .i64 0, .int .i64 0] 83) = W0 := ⟨_, rfl⟩
  have HF := hide (show FiveC w.heap.size W0 k b x t l by subst hW; refine ⟨?_, ?_, ?_, ?_, ?_⟩ <;> simp [go_sem])
  have HSE := hide (show W0.cell? ⟨w.heap.size + 1, 0, none⟩ = some (.string sec) ∧ W0.cell? ⟨w.heap.size + 1, 1, none⟩ = some (.string rnd) ∧ W0.cell? ⟨w.heap.size + 1, 2, none⟩ = some (.string pub) by subst hW; refine ⟨?_, ?_, ?_⟩ <;> simp [go_sem])
  have HP := hide (show FourC (w.heap.size + 1 + 1) W0 p0 p1 p2 p3 by subst hW; refine ⟨?_, ?_, ?_, ?_⟩ <;> simp [go_sem])
  have HB := hide (show Below w.heap.size w W0 by subst hW; exact ((((Below.refl _ _).alloc (Nat.le_refl _) _).alloc (by simp) _).alloc (by simp; omega) _).alloc (by simp; omega) _)
  have hz : W0.heap.size ≤ w.heap.size + 4 := by subst hW; simp
  have hz' : w.heap.size + 4 ≤ W0.heap.size := by subst hW; simp
  have HBK := hide (show Blk W0 (w.heap.size + 1 + 1 + 1) [.int .i64 0, .int .i64 0, .int .i64 0, .int .i64 0, .int .i64 0, .string ⟨#[]⟩, .string ⟨#[]⟩, .string ⟨#[]⟩, .int .i64 0, .int .i64 0, .int .i64 0, .int .i64 0, .int .i64 0] 83 by
    subst hW
    have h := Blk.new (((w.alloc (.cells #[.int .i64 k, .int .i64 b, .int .i64 x, .int .i64 t, .int .i64 l] 23)).alloc (.cells #[.string sec, .string rnd, .string pub] 25)).alloc (.cells #[.int .i64 p0, .int .i64 p1, .int .i64 p2, .int .i64 p3] 27)) [.int .i64 0, .int .i64 0, .int .i64 0, .int .i64 0, .int .i64 0, .string ⟨#[]⟩, .string ⟨#[]⟩, .string ⟨#[]⟩, .int .i64 0, .int .i64 0, .int .i64 0, .int .i64 0, .int .i64 0] 83
    simp only [World.size_alloc] at h
    exact h)
  have HS := hide (fun (V : World) (h : Below W0.heap.size W0 V) => (by
    obtain ⟨c0, c1, c2, c3, c4⟩ := HF.out.below h (by omega)
    obtain ⟨d0, d1, d2, d3⟩ := HP.out.below h (by omega)
    exact ⟨c0, c1, c2, c3, c4, (h.cell (p := ⟨w.heap.size + 1, 0, none⟩) (by show w.heap.size + 1 < _; omega)).trans HSE.out.1, (h.cell (p := ⟨w.heap.size + 1, 1, none⟩) (by show w.heap.size + 1 < _; omega)).trans HSE.out.2.1, (h.cell (p := ⟨w.heap.size + 1, 2, none⟩) (by show w.heap.size + 1 < _; omega)).trans HSE.out.2.2, d0, d1, d2, d3⟩ : V.cell? ⟨w.heap.size, 0, none⟩ = some (.int .i64 k) ∧ V.cell? ⟨w.heap.size, 1, none⟩ = some (.int .i64 b) ∧ V.cell? ⟨w.heap.size, 2, none⟩ = some (.int .i64 x) ∧ V.cell? ⟨w.heap.size, 3, none⟩ = some (.int .i64 t) ∧ V.cell? ⟨w.heap.size, 4, none⟩ = some (.int .i64 l) ∧ V.cell? ⟨w.heap.size + 1, 0, none⟩ = some (.string sec) ∧ V.cell? ⟨w.heap.size + 1, 1, none⟩ = some (.string rnd) ∧ V.cell? ⟨w.heap.size + 1, 2, none⟩ = some (.string pub) ∧ V.cell? ⟨w.heap.size + 1 + 1, 0, none⟩ = some (.int .i64 p0) ∧ V.cell? ⟨w.heap.size + 1 + 1, 1, none⟩ = some (.int .i64 p1) ∧ V.cell? ⟨w.heap.size + 1 + 1, 2, none⟩ = some (.int .i64 p2) ∧ V.cell? ⟨w.heap.size + 1 + 1, 3, none⟩ = some (.int .i64 p3)))
  obtain ⟨c0, c1, c2, c3, c4, f0, f1, f2, d0, d1, d2, d3⟩ := HS.out W0 (Below.refl _ _)
  have HC := hide hC
  have HV := hide hV
  clear hC hV
  go_enter Tryz.func37, Tryz.ntmps37
  go_wp2_with fail
  try rw [hW]
  refine (HC.out _).mono ?_
  rintro e w1 ⟨rfl, hb1⟩
  have HB1 := hide (hb1.alloc hb1.size (.cells #[.int .i64 a0, .int .i64 a1, .int .i64 ch, .int .i64 a3, .int .i64 a4, .int .i64 a5] 127))
  have hzz := hb1.size
  have HZ := hide (Blk.new w1 [.int .i64 a0, .int .i64 a1, .int .i64 ch, .int .i64 a3, .int .i64 a4, .int .i64 a5] 127)
  clear hb1 c0 c1 c2 c3 c4 f0 f1 f2 d0 d1 d2 d3 hW
  obtain ⟨c0, c1, c2, c3, c4, f0, f1, f2, d0, d1, d2, d3⟩ := HS.out (w1.alloc (.cells #[.int .i64 a0, .int .i64 a1, .int .i64 ch, .int .i64 a3, .int .i64 a4, .int .i64 a5] 127)) HB1.out
  go_wp2_with fail
  refine (HV.out _).mono ?_
  rintro e w2 ⟨rfl, hb2⟩
  have HB2 := hide (heldB HB1.out hb2 (Nat.le_refl _))
  have HZ2 := hide (HZ.out.on hb2)
  clear hb2 c0 c1 c2 c3 c4 f0 f1 f2 d0 d1 d2 d3
  have bk := hide (HBK.out.below HB2.out (by omega))
  have y0 := bk.out.cell 0
  have y1 := bk.out.cell 1
  have y2 := bk.out.cell 2
  have y3 := bk.out.cell 3
  have y4 := bk.out.cell 4
  have y5 := bk.out.cell 5
  have y6 := bk.out.cell 6
  have y7 := bk.out.cell 7
  have y8 := bk.out.cell 8
  have y9 := bk.out.cell 9
  have y10 := bk.out.cell 10
  have y11 := bk.out.cell 11
  have y12 := bk.out.cell 12
  have fz := bk.out.free
  simp only [List.getElem?_cons_zero, List.getElem?_cons_succ] at y0 y1 y2 y3 y4 y5 y6 y7 y8 y9 y10 y11 y12
  have HBL := hide (HB.out.trans (HB2.out.mono (by omega)))
  clear bk
  go_wp2
  refine bodyPost_ret (v := .tuple #[.agg #[.int .i64 0, .int .i64 0, .int .i64 0, .int .i64 0, .int .i64 0, .string ⟨#[]⟩, .string ⟨#[]⟩, .string ⟨#[]⟩, .int .i64 0, .int .i64 0, .int .i64 0, .int .i64 0, .int .i64 0], .int .i64 2]) (by simp [results, Tryz.results37, go_sem, y0, y1, y2, y3, y4, y5, y6, y7, y8, y9, y10, y11, y12]) rfl ⟨rfl, ?_⟩
  iterate 13 refine Below.setCell ?_ (show w.heap.size ≤ _ by simp <;> omega) _
  exact HBL.out
end Go.Proofs.YtgaoeoijdpdjiaaGreatDoor

namespace Go.Proofs.YtgaoeoijdpdjiaaGreatDoor
open Go.RowKit
set_option maxRecDepth 20000 in
set_option maxHeartbeats 8000000 in
theorem new_pla (k b x t l a0 a1 ch a3 a4 a5 : Int) (sec rnd pub : ByteArray) (p0 p1 p2 p3 : Int) (w : World) (hC : ∀ V : World, Calls Tryz.prog 69 #[.agg #[.int .i64 k, .int .i64 b, .int .i64 x, .int .i64 t, .int .i64 l]] V fun e w' => e = .returned (.tuple #[.agg #[.int .i64 a0, .int .i64 a1, .int .i64 ch, .int .i64 a3, .int .i64 a4, .int .i64 a5], .int .i64 0]) ∧ Below V.heap.size V w') (hV : ∀ V : World, Calls Tryz.prog 70 #[.agg #[.int .i64 k, .int .i64 b, .int .i64 x, .int .i64 t, .int .i64 l], .agg #[.string sec, .string rnd, .string pub]] V fun e w' => e = .returned (.bool true) ∧ Below V.heap.size V w') (hI : ∀ V : World, Calls Tryz.prog 71 #[.agg #[.int .i64 k, .int .i64 b, .int .i64 x, .int .i64 t, .int .i64 l], .agg #[.int .i64 p0, .int .i64 p1, .int .i64 p2, .int .i64 p3]] V fun e w' => e = .returned (.bool false) ∧ Below V.heap.size V w') :
    Calls Tryz.prog 37 #[.agg #[.int .i64 k, .int .i64 b, .int .i64 x, .int .i64 t, .int .i64 l], .agg #[.string sec, .string rnd, .string pub], .agg #[.int .i64 p0, .int .i64 p1, .int .i64 p2, .int .i64 p3]] w fun e w' => e = .returned (.tuple #[.agg #[.int .i64 0, .int .i64 0, .int .i64 0, .int .i64 0, .int .i64 0, .string ⟨#[]⟩, .string ⟨#[]⟩, .string ⟨#[]⟩, .int .i64 0, .int .i64 0, .int .i64 0, .int .i64 0, .int .i64 0], .int .i64 2]) ∧ Below w.heap.size w w' := by
  obtain ⟨W0, hW⟩ : ∃ W0, (((w.alloc (.cells #[.int .i64 k, .int .i64 b, .int .i64 x, .int .i64 t, .int .i64 l] 23)).alloc (.cells #[.string sec, .string rnd, .string pub] 25)).alloc (.cells #[.int .i64 p0, .int .i64 p1, .int .i64 p2, .int .i64 p3] 27)).alloc (.cells #[.int .i64 0, .int .i64 0, .int .i64 0, .int .i64 0, .int .i64 0, .string ⟨#[]⟩, .string ⟨#[]⟩, .string ⟨#[]⟩, .int .i64 0, .int .i64 0, .int .i64 0, .int .i64 0, .int .i64 0] 83) = W0 := ⟨_, rfl⟩
  have HF := hide (show FiveC w.heap.size W0 k b x t l by subst hW; refine ⟨?_, ?_, ?_, ?_, ?_⟩ <;> simp [go_sem])
  have HSE := hide (show W0.cell? ⟨w.heap.size + 1, 0, none⟩ = some (.string sec) ∧ W0.cell? ⟨w.heap.size + 1, 1, none⟩ = some (.string rnd) ∧ W0.cell? ⟨w.heap.size + 1, 2, none⟩ = some (.string pub) by subst hW; refine ⟨?_, ?_, ?_⟩ <;> simp [go_sem])
  have HP := hide (show FourC (w.heap.size + 1 + 1) W0 p0 p1 p2 p3 by subst hW; refine ⟨?_, ?_, ?_, ?_⟩ <;> simp [go_sem])
  have HB := hide (show Below w.heap.size w W0 by subst hW; exact ((((Below.refl _ _).alloc (Nat.le_refl _) _).alloc (by simp) _).alloc (by simp; omega) _).alloc (by simp; omega) _)
  have hz : W0.heap.size ≤ w.heap.size + 4 := by subst hW; simp
  have hz' : w.heap.size + 4 ≤ W0.heap.size := by subst hW; simp
  have HBK := hide (show Blk W0 (w.heap.size + 1 + 1 + 1) [.int .i64 0, .int .i64 0, .int .i64 0, .int .i64 0, .int .i64 0, .string ⟨#[]⟩, .string ⟨#[]⟩, .string ⟨#[]⟩, .int .i64 0, .int .i64 0, .int .i64 0, .int .i64 0, .int .i64 0] 83 by
    subst hW
    have h := Blk.new (((w.alloc (.cells #[.int .i64 k, .int .i64 b, .int .i64 x, .int .i64 t, .int .i64 l] 23)).alloc (.cells #[.string sec, .string rnd, .string pub] 25)).alloc (.cells #[.int .i64 p0, .int .i64 p1, .int .i64 p2, .int .i64 p3] 27)) [.int .i64 0, .int .i64 0, .int .i64 0, .int .i64 0, .int .i64 0, .string ⟨#[]⟩, .string ⟨#[]⟩, .string ⟨#[]⟩, .int .i64 0, .int .i64 0, .int .i64 0, .int .i64 0, .int .i64 0] 83
    simp only [World.size_alloc] at h
    exact h)
  have HS := hide (fun (V : World) (h : Below W0.heap.size W0 V) => (by
    obtain ⟨c0, c1, c2, c3, c4⟩ := HF.out.below h (by omega)
    obtain ⟨d0, d1, d2, d3⟩ := HP.out.below h (by omega)
    exact ⟨c0, c1, c2, c3, c4, (h.cell (p := ⟨w.heap.size + 1, 0, none⟩) (by show w.heap.size + 1 < _; omega)).trans HSE.out.1, (h.cell (p := ⟨w.heap.size + 1, 1, none⟩) (by show w.heap.size + 1 < _; omega)).trans HSE.out.2.1, (h.cell (p := ⟨w.heap.size + 1, 2, none⟩) (by show w.heap.size + 1 < _; omega)).trans HSE.out.2.2, d0, d1, d2, d3⟩ : V.cell? ⟨w.heap.size, 0, none⟩ = some (.int .i64 k) ∧ V.cell? ⟨w.heap.size, 1, none⟩ = some (.int .i64 b) ∧ V.cell? ⟨w.heap.size, 2, none⟩ = some (.int .i64 x) ∧ V.cell? ⟨w.heap.size, 3, none⟩ = some (.int .i64 t) ∧ V.cell? ⟨w.heap.size, 4, none⟩ = some (.int .i64 l) ∧ V.cell? ⟨w.heap.size + 1, 0, none⟩ = some (.string sec) ∧ V.cell? ⟨w.heap.size + 1, 1, none⟩ = some (.string rnd) ∧ V.cell? ⟨w.heap.size + 1, 2, none⟩ = some (.string pub) ∧ V.cell? ⟨w.heap.size + 1 + 1, 0, none⟩ = some (.int .i64 p0) ∧ V.cell? ⟨w.heap.size + 1 + 1, 1, none⟩ = some (.int .i64 p1) ∧ V.cell? ⟨w.heap.size + 1 + 1, 2, none⟩ = some (.int .i64 p2) ∧ V.cell? ⟨w.heap.size + 1 + 1, 3, none⟩ = some (.int .i64 p3)))
  obtain ⟨c0, c1, c2, c3, c4, f0, f1, f2, d0, d1, d2, d3⟩ := HS.out W0 (Below.refl _ _)
  have HC := hide hC
  have HV := hide hV
  have HI := hide hI
  clear hC hV hI
  go_enter Tryz.func37, Tryz.ntmps37
  go_wp2_with fail
  try rw [hW]
  refine (HC.out _).mono ?_
  rintro e w1 ⟨rfl, hb1⟩
  have HB1 := hide (hb1.alloc hb1.size (.cells #[.int .i64 a0, .int .i64 a1, .int .i64 ch, .int .i64 a3, .int .i64 a4, .int .i64 a5] 127))
  have hzz := hb1.size
  have HZ := hide (Blk.new w1 [.int .i64 a0, .int .i64 a1, .int .i64 ch, .int .i64 a3, .int .i64 a4, .int .i64 a5] 127)
  clear hb1 c0 c1 c2 c3 c4 f0 f1 f2 d0 d1 d2 d3 hW
  obtain ⟨c0, c1, c2, c3, c4, f0, f1, f2, d0, d1, d2, d3⟩ := HS.out (w1.alloc (.cells #[.int .i64 a0, .int .i64 a1, .int .i64 ch, .int .i64 a3, .int .i64 a4, .int .i64 a5] 127)) HB1.out
  go_wp2_with fail
  refine (HV.out _).mono ?_
  rintro e w2 ⟨rfl, hb2⟩
  have HB2 := hide (heldB HB1.out hb2 (Nat.le_refl _))
  have HZ2 := hide (HZ.out.on hb2)
  clear hb2 c0 c1 c2 c3 c4 f0 f1 f2 d0 d1 d2 d3
  obtain ⟨c0, c1, c2, c3, c4, f0, f1, f2, d0, d1, d2, d3⟩ := HS.out w2 HB2.out
  go_wp2_with fail
  refine (HI.out _).mono ?_
  rintro e w3 ⟨rfl, hb3⟩
  have HB3 := hide (heldB HB2.out hb3 (Nat.le_refl _))
  have HZ3 := hide (HZ2.out.on hb3)
  clear hb3 c0 c1 c2 c3 c4 f0 f1 f2 d0 d1 d2 d3
  have bk := hide (HBK.out.below HB3.out (by omega))
  have y0 := bk.out.cell 0
  have y1 := bk.out.cell 1
  have y2 := bk.out.cell 2
  have y3 := bk.out.cell 3
  have y4 := bk.out.cell 4
  have y5 := bk.out.cell 5
  have y6 := bk.out.cell 6
  have y7 := bk.out.cell 7
  have y8 := bk.out.cell 8
  have y9 := bk.out.cell 9
  have y10 := bk.out.cell 10
  have y11 := bk.out.cell 11
  have y12 := bk.out.cell 12
  have fz := bk.out.free
  simp only [List.getElem?_cons_zero, List.getElem?_cons_succ] at y0 y1 y2 y3 y4 y5 y6 y7 y8 y9 y10 y11 y12
  have HBL := hide (HB.out.trans (HB3.out.mono (by omega)))
  clear bk
  go_wp2
  refine bodyPost_ret (v := .tuple #[.agg #[.int .i64 0, .int .i64 0, .int .i64 0, .int .i64 0, .int .i64 0, .string ⟨#[]⟩, .string ⟨#[]⟩, .string ⟨#[]⟩, .int .i64 0, .int .i64 0, .int .i64 0, .int .i64 0, .int .i64 0], .int .i64 2]) (by simp [results, Tryz.results37, go_sem, y0, y1, y2, y3, y4, y5, y6, y7, y8, y9, y10, y11, y12]) rfl ⟨rfl, ?_⟩
  iterate 13 refine Below.setCell ?_ (show w.heap.size ≤ _ by simp <;> omega) _
  exact HBL.out
end Go.Proofs.YtgaoeoijdpdjiaaGreatDoor

namespace Go.Proofs.YtgaoeoijdpdjiaaGreatDoor
open Go.RowKit
set_option maxRecDepth 20000 in
set_option maxHeartbeats 8000000 in
theorem placed_7 (k x a0 a1 a3 a4 a5 : Int) (b t l q ch : Nat) (p1 p2 p3 : Int) (w : World) (h2 : t ≤ 4) (h4 : l ≤ 3) (hq : q < l)
    (hsz : ∀ V : World, Calls Tryz.prog 89 #[.agg #[.int .i64 k, .int .i64 b, .int .i64 x, .int .i64 t, .int .i64 l]] V fun r w' => r = .returned (.agg #[.int .i64 a0, .int .i64 a1, .int .i64 ch, .int .i64 a3, .int .i64 a4, .int .i64 a5]) ∧ Below V.heap.size V w') (e1 : 0 ≤ p1) (e2 : p1 < ((((2 ^ t) ^ (l - 1 - q) : Nat)) : Int)) (e3 : 0 ≤ p2) (e4 : p2 < (((2 ^ t : Nat)) : Int)) (e5 : 0 ≤ p3) (e6 : p3 < ch) :
    Calls Tryz.prog 51 #[.agg #[.int .i64 k, .int .i64 b, .int .i64 x, .int .i64 t, .int .i64 l], .agg #[.int .i64 q, .int .i64 p1, .int .i64 p2, .int .i64 p3]] w fun e w' => e = .returned (.bool true) ∧ Below w.heap.size w w' := by
  have ha : 2 ^ t ≤ 16 := Nat.le_trans (Nat.pow_le_pow_right (by decide) h2) (by decide)
  have hpl : (2 ^ t) ^ (l - 1 - q) ≤ 65536 := Nat.le_trans (Nat.pow_le_pow_left ha _) (Nat.le_trans (Nat.pow_le_pow_right (by decide) (show l - 1 - q ≤ 2 by omega)) (by decide))
  have HLV := hide (fun V : World => leaves_any t k b x l V h2)
  have HPW := hide (fun V : World => power_any (2 ^ t) (l - 1 - q) V ha (by omega) hpl Nat.one_le_two_pow)
  rw [show ((l - 1 - q : Nat) : Int) = (l : Int) - 1 - (q : Int) by omega] at HPW
  generalize ((2 ^ t) ^ (l - 1 - q) : Nat) = tr at HPW e2
  generalize (2 ^ t : Nat) = lv at HLV HPW e4
  clear ha hpl
  have HSZ := hide hsz
  have g0 : ¬ ((q : Int) < 0) := by omega
  have g1 : ¬ ((l : Int) ≤ (q : Int)) := by omega
  have hwa : IntKind.i64.wrap ((l : Int) - 1) = (l : Int) - 1 := by rw [IntKind.wrap_i64]; omega
  have hwb : IntKind.i64.wrap ((l : Int) - 1 - (q : Int)) = (l : Int) - 1 - (q : Int) := by rw [IntKind.wrap_i64]; omega
  obtain ⟨W0, hW⟩ : ∃ W0, (w.alloc (.cells #[.int .i64 k, .int .i64 b, .int .i64 x, .int .i64 t, .int .i64 l] 23)).alloc (.cells #[.int .i64 q, .int .i64 p1, .int .i64 p2, .int .i64 p3] 27) = W0 := ⟨_, rfl⟩
  have HF := hide (show FiveC w.heap.size W0 k b x t l by subst hW; refine ⟨?_, ?_, ?_, ?_, ?_⟩ <;> simp [go_sem])
  have HP := hide (show FourC (w.heap.size + 1) W0 q p1 p2 p3 by subst hW; refine ⟨?_, ?_, ?_, ?_⟩ <;> simp [go_sem])
  have HB := hide (show Below w.heap.size w W0 by subst hW; exact ((Below.refl _ _).alloc (Nat.le_refl _) _).alloc (by simp) _)
  have hz : W0.heap.size ≤ w.heap.size + 2 := by subst hW; simp
  have hz' : w.heap.size + 2 ≤ W0.heap.size := by subst hW; simp
  obtain ⟨c0, c1, c2, c3, c4⟩ := HF.out
  obtain ⟨d0, d1, d2, d3⟩ := HP.out
  clear hsz
  go_enter Tryz.func51, Tryz.ntmps51
  go_wp2_with fail
  try rw [hW]
  refine (HSZ.out _).mono ?_
  rintro e w1 ⟨rfl, hb1⟩
  have HB1 := hide (show Below W0.heap.size W0 (w1.alloc (.cells #[.int .i64 a0, .int .i64 a1, .int .i64 ch, .int .i64 a3, .int .i64 a4, .int .i64 a5] 127)) from (hb1.mono (Nat.le_refl _)).alloc hb1.size _)
  have HZ := hide (Blk.new w1 [.int .i64 a0, .int .i64 a1, .int .i64 ch, .int .i64 a3, .int .i64 a4, .int .i64 a5] 127)
  have hz1 : (w1.alloc (.cells #[.int .i64 a0, .int .i64 a1, .int .i64 ch, .int .i64 a3, .int .i64 a4, .int .i64 a5] 127)).heap.size = w1.heap.size + 1 := by simp
  have hzz := hb1.size
  obtain ⟨c0', c1', c2', c3', c4'⟩ := HF.out.below hb1 (by omega)
  obtain ⟨d0', d1', d2', d3'⟩ := HP.out.below hb1 (by omega)
  clear hb1 c0 c1 c2 c3 c4 d0 d1 d2 d3 hW
  go_wp2_with fail
  obtain ⟨W1, hW1⟩ : ∃ W1, w1.alloc (.cells #[.int .i64 a0, .int .i64 a1, .int .i64 ch, .int .i64 a3, .int .i64 a4, .int .i64 a5] 127) = W1 := ⟨_, rfl⟩
  rw [hW1] at HB1 HZ hz1 ⊢
  clear hW1 c0' c1' c2' c3' c4' d0' d1' d2' d3'
  have HS := hide (fun (V : World) (h : Below W1.heap.size W1 V) => (by
    have h0 := heldB HB1.out (h.mono (Nat.le_refl _)) (Nat.le_refl _)
    obtain ⟨c0, c1, c2, c3, c4⟩ := HF.out.below h0 (by omega)
    obtain ⟨d0, d1, d2, d3⟩ := HP.out.below h0 (by omega)
    exact ⟨c0, c1, c2, c3, c4, d0, d1, d2, d3, (HZ.out.on h).cell 2, h⟩ : V.cell? ⟨w.heap.size, 0, none⟩ = some (.int .i64 k) ∧ V.cell? ⟨w.heap.size, 1, none⟩ = some (.int .i64 b) ∧ V.cell? ⟨w.heap.size, 2, none⟩ = some (.int .i64 x) ∧ V.cell? ⟨w.heap.size, 3, none⟩ = some (.int .i64 t) ∧ V.cell? ⟨w.heap.size, 4, none⟩ = some (.int .i64 l) ∧ V.cell? ⟨w.heap.size + 1, 0, none⟩ = some (.int .i64 q) ∧ V.cell? ⟨w.heap.size + 1, 1, none⟩ = some (.int .i64 p1) ∧ V.cell? ⟨w.heap.size + 1, 2, none⟩ = some (.int .i64 p2) ∧ V.cell? ⟨w.heap.size + 1, 3, none⟩ = some (.int .i64 p3) ∧ V.cell? ⟨w1.heap.size, 2, none⟩ = some (.int .i64 ch) ∧ Below W1.heap.size W1 V))
  go_region_held3 (fun V => V.cell? ⟨w.heap.size, 0, none⟩ = some (.int .i64 k) ∧ V.cell? ⟨w.heap.size, 1, none⟩ = some (.int .i64 b) ∧ V.cell? ⟨w.heap.size, 2, none⟩ = some (.int .i64 x) ∧ V.cell? ⟨w.heap.size, 3, none⟩ = some (.int .i64 t) ∧ V.cell? ⟨w.heap.size, 4, none⟩ = some (.int .i64 l) ∧ V.cell? ⟨w.heap.size + 1, 0, none⟩ = some (.int .i64 q) ∧ V.cell? ⟨w.heap.size + 1, 1, none⟩ = some (.int .i64 p1) ∧ V.cell? ⟨w.heap.size + 1, 2, none⟩ = some (.int .i64 p2) ∧ V.cell? ⟨w.heap.size + 1, 3, none⟩ = some (.int .i64 p3) ∧ V.cell? ⟨w1.heap.size, 2, none⟩ = some (.int .i64 ch) ∧ Below W1.heap.size W1 V) (first | exact HS.out _ hS2 | exact HS.out _ hS1 | exact HS.out _ (Below.refl _ _).drew) (first | (go_at_call 90; refine (HLV.out _).mono ?_; rintro e w2 ⟨rfl, hb2⟩; have hS1 := heldB (Below.refl W1.heap.size W1).drew hb2 (Nat.le_refl _)) | (go_at_call 55; refine (HPW.out _).mono ?_; rintro e w3 ⟨rfl, rfl⟩; have hS2 := hS1))
  go_wp2_with fail
  have d1 : decide (0 ≤ p1) = true := by simp; omega
  have d2 : decide (p1 < (tr : Int)) = true := by simp; omega
  have d3 : decide (0 ≤ p2) = true := by simp; omega
  have d4 : decide (p2 < (lv : Int)) = true := by simp; omega
  have d5 : decide (0 ≤ p3) = true := by simp; omega
  have d6 : decide (p3 < (ch : Int)) = true := by simp; omega
  clear e1 e2 e3 e4 e5 e6
  refine wp_region_held_drew (S := fun V => V.cell? ⟨w.heap.size, 0, none⟩ = some (.int .i64 k) ∧ V.cell? ⟨w.heap.size, 1, none⟩ = some (.int .i64 b) ∧ V.cell? ⟨w.heap.size, 2, none⟩ = some (.int .i64 x) ∧ V.cell? ⟨w.heap.size, 3, none⟩ = some (.int .i64 t) ∧ V.cell? ⟨w.heap.size, 4, none⟩ = some (.int .i64 l) ∧ V.cell? ⟨w.heap.size + 1, 0, none⟩ = some (.int .i64 q) ∧ V.cell? ⟨w.heap.size + 1, 1, none⟩ = some (.int .i64 p1) ∧ V.cell? ⟨w.heap.size + 1, 2, none⟩ = some (.int .i64 p2) ∧ V.cell? ⟨w.heap.size + 1, 3, none⟩ = some (.int .i64 p3) ∧ V.cell? ⟨w1.heap.size, 2, none⟩ = some (.int .i64 ch) ∧ Below W1.heap.size W1 V) (by kernel_rfl) (HS.out _ (hS2.drew)) (fun hHeld => ?_)
  refine wpAnyH_take (i := 0) (oi := ?oip0) (v := ?vp0) ?hip0 (by kernel_rfl) (by kernel_rfl) (by kernel_rfl) ?hQp0 (Or.inl ⟨?h1p0, ?hyp0⟩) hHeld ?restp0
  case hip0 => (simp only [List.getElem?_toArray, List.getElem?_cons_zero]; rfl)
  case hQp0 => exact fun _ _ _ h => h
  case h1p0 => rfl
  case hyp0 => intro V hSV; (try dsimp only at hSV); go_simp; (try with_reducible rfl)
  try simp only [Act.put, List.setIfInBounds_toArray, List.set_cons_zero, List.set_cons_succ]
  refine wpAnyH_take (i := 1) (oi := ?oip1) (v := ?vp1) ?hip1 (by kernel_rfl) (by kernel_rfl) (by kernel_rfl) ?hQp1 (Or.inl ⟨?h1p1, ?hyp1⟩) hHeld ?restp1
  case hip1 => (simp only [List.getElem?_toArray, List.getElem?_cons_succ, List.getElem?_cons_zero]; rfl)
  case hQp1 => exact fun _ _ _ h => h
  case h1p1 => rfl
  case hyp1 => intro V hSV; (try dsimp only at hSV); go_simp; (try with_reducible rfl)
  try simp only [Act.put, List.setIfInBounds_toArray, List.set_cons_zero, List.set_cons_succ]
  refine wpAnyH_take (i := 2) (oi := ?oip2) (v := ?vp2) ?hip2 (by kernel_rfl) (by kernel_rfl) (by kernel_rfl) ?hQp2 (Or.inl ⟨?h1p2, ?hyp2⟩) hHeld ?restp2
  case hip2 => (simp only [List.getElem?_toArray, List.getElem?_cons_succ, List.getElem?_cons_zero]; rfl)
  case hQp2 => exact fun _ _ _ h => h
  case h1p2 => rfl
  case hyp2 => intro V hSV; (try dsimp only at hSV); go_simp; (try with_reducible rfl)
  try simp only [Act.put, List.setIfInBounds_toArray, List.set_cons_zero, List.set_cons_succ]
  refine wpAnyH_take (i := 3) (oi := ?oip3) (v := ?vp3) ?hip3 (by kernel_rfl) (by kernel_rfl) (by kernel_rfl) ?hQp3 (Or.inl ⟨?h1p3, ?hyp3⟩) hHeld ?restp3
  case hip3 => (simp only [List.getElem?_toArray, List.getElem?_cons_succ, List.getElem?_cons_zero]; rfl)
  case hQp3 => exact fun _ _ _ h => h
  case h1p3 => rfl
  case hyp3 => intro V hSV; (try dsimp only at hSV); go_simp; (try with_reducible rfl)
  try simp only [Act.put, List.setIfInBounds_toArray, List.set_cons_zero, List.set_cons_succ]
  refine wpAnyH_take (i := 4) (oi := ?oip4) (v := ?vp4) ?hip4 (by kernel_rfl) (by kernel_rfl) (by kernel_rfl) ?hQp4 (Or.inl ⟨?h1p4, ?hyp4⟩) hHeld ?restp4
  case hip4 => (simp only [List.getElem?_toArray, List.getElem?_cons_succ, List.getElem?_cons_zero]; rfl)
  case hQp4 => exact fun _ _ _ h => h
  case h1p4 => rfl
  case hyp4 => intro V hSV; (try dsimp only at hSV); go_simp; (try with_reducible rfl)
  try simp only [Act.put, List.setIfInBounds_toArray, List.set_cons_zero, List.set_cons_succ]
  refine wpAnyH_take (i := 5) (oi := ?oip5) (v := ?vp5) ?hip5 (by kernel_rfl) (by kernel_rfl) (by kernel_rfl) ?hQp5 (Or.inl ⟨?h1p5, ?hyp5⟩) hHeld ?restp5
  case hip5 => (simp only [List.getElem?_toArray, List.getElem?_cons_succ, List.getElem?_cons_zero]; rfl)
  case hQp5 => exact fun _ _ _ h => h
  case h1p5 => rfl
  case hyp5 => intro V hSV; (try dsimp only at hSV); go_simp; (try with_reducible rfl)
  try simp only [Act.put, List.setIfInBounds_toArray, List.set_cons_zero, List.set_cons_succ]
  refine wpAnyH_take (i := 6) (oi := ?oip6) (v := ?vp6) ?hip6 (by kernel_rfl) (by kernel_rfl) (by kernel_rfl) ?hQp6 (Or.inl ⟨?h1p6, ?hyp6⟩) hHeld ?restp6
  case hip6 => (simp only [List.getElem?_toArray, List.getElem?_cons_succ, List.getElem?_cons_zero]; rfl)
  case hQp6 => exact fun _ _ _ h => h
  case h1p6 => rfl
  case hyp6 => intro V hSV; (try dsimp only at hSV); go_simp; (try with_reducible rfl)
  try simp only [Act.put, List.setIfInBounds_toArray, List.set_cons_zero, List.set_cons_succ]
  refine wpAnyH_take (i := 7) (oi := ?oip7) (v := ?vp7) ?hip7 (by kernel_rfl) (by kernel_rfl) (by kernel_rfl) ?hQp7 (Or.inl ⟨?h1p7, ?hyp7⟩) hHeld ?restp7
  case hip7 => (simp only [List.getElem?_toArray, List.getElem?_cons_succ, List.getElem?_cons_zero]; rfl)
  case hQp7 => exact fun _ _ _ h => h
  case h1p7 => rfl
  case hyp7 => intro V hSV; (try dsimp only at hSV); go_simp; (try with_reducible rfl)
  try simp only [Act.put, List.setIfInBounds_toArray, List.set_cons_zero, List.set_cons_succ]
  refine wpAnyH_take (i := 8) (oi := ?oip8) (v := ?vp8) ?hip8 (by kernel_rfl) (by kernel_rfl) (by kernel_rfl) ?hQp8 (Or.inl ⟨?h1p8, ?hyp8⟩) hHeld ?restp8
  case hip8 => (simp only [List.getElem?_toArray, List.getElem?_cons_succ, List.getElem?_cons_zero]; rfl)
  case hQp8 => exact fun _ _ _ h => h
  case h1p8 => rfl
  case hyp8 => intro V hSV; (try dsimp only at hSV); go_simp; (try with_reducible rfl)
  try simp only [Act.put, List.setIfInBounds_toArray, List.set_cons_zero, List.set_cons_succ]
  refine wpAnyH_take (i := 9) (oi := ?oip9) (v := ?vp9) ?hip9 (by kernel_rfl) (by kernel_rfl) (by kernel_rfl) ?hQp9 (Or.inl ⟨?h1p9, ?hyp9⟩) hHeld ?restp9
  case hip9 => (simp only [List.getElem?_toArray, List.getElem?_cons_succ, List.getElem?_cons_zero]; rfl)
  case hQp9 => exact fun _ _ _ h => h
  case h1p9 => rfl
  case hyp9 => intro V hSV; (try dsimp only at hSV); go_simp; (try with_reducible rfl)
  try simp only [Act.put, List.setIfInBounds_toArray, List.set_cons_zero, List.set_cons_succ]
  refine wpAnyH_take (i := 10) (oi := ?oip10) (v := ?vp10) ?hip10 (by kernel_rfl) (by kernel_rfl) (by kernel_rfl) ?hQp10 (Or.inl ⟨?h1p10, ?hyp10⟩) hHeld ?restp10
  case hip10 => (simp only [List.getElem?_toArray, List.getElem?_cons_succ, List.getElem?_cons_zero]; rfl)
  case hQp10 => exact fun _ _ _ h => h
  case h1p10 => rfl
  case hyp10 => intro V hSV; (try dsimp only at hSV); go_simp; (try with_reducible rfl)
  try simp only [Act.put, List.setIfInBounds_toArray, List.set_cons_zero, List.set_cons_succ]
  refine wpAnyH_take (i := 11) (oi := ?oip11) (v := ?vp11) ?hip11 (by kernel_rfl) (by kernel_rfl) (by kernel_rfl) ?hQp11 (Or.inl ⟨?h1p11, ?hyp11⟩) hHeld ?restp11
  case hip11 => (simp only [List.getElem?_toArray, List.getElem?_cons_succ, List.getElem?_cons_zero]; rfl)
  case hQp11 => exact fun _ _ _ h => h
  case h1p11 => rfl
  case hyp11 => intro V hSV; (try dsimp only at hSV); go_simp; (try with_reducible rfl)
  try simp only [Act.put, List.setIfInBounds_toArray, List.set_cons_zero, List.set_cons_succ]
  refine wpAnyH_take (i := 12) (oi := ?oip12) (v := ?vp12) ?hip12 (by kernel_rfl) (by kernel_rfl) (by kernel_rfl) ?hQp12 (Or.inl ⟨?h1p12, ?hyp12⟩) hHeld ?restp12
  case hip12 => (simp only [List.getElem?_toArray, List.getElem?_cons_succ, List.getElem?_cons_zero]; rfl)
  case hQp12 => exact fun _ _ _ h => h
  case h1p12 => rfl
  case hyp12 => intro V hSV; (try dsimp only at hSV); go_simp; (try with_reducible rfl)
  try simp only [Act.put, List.setIfInBounds_toArray, List.set_cons_zero, List.set_cons_succ]
  refine wpAnyH_take (i := 13) (oi := ?oip13) (v := ?vp13) ?hip13 (by kernel_rfl) (by kernel_rfl) (by kernel_rfl) ?hQp13 (Or.inl ⟨?h1p13, ?hyp13⟩) hHeld ?restp13
  case hip13 => (simp only [List.getElem?_toArray, List.getElem?_cons_succ, List.getElem?_cons_zero]; rfl)
  case hQp13 => exact fun _ _ _ h => h
  case h1p13 => rfl
  case hyp13 => intro V hSV; (try dsimp only at hSV); go_simp; (try with_reducible rfl)
  try simp only [Act.put, List.setIfInBounds_toArray, List.set_cons_zero, List.set_cons_succ]
  refine wpAnyH_take (i := 14) (oi := ?oip14) (v := ?vp14) ?hip14 (by kernel_rfl) (by kernel_rfl) (by kernel_rfl) ?hQp14 (Or.inl ⟨?h1p14, ?hyp14⟩) hHeld ?restp14
  case hip14 => (simp only [List.getElem?_toArray, List.getElem?_cons_succ, List.getElem?_cons_zero]; rfl)
  case hQp14 => exact fun _ _ _ h => h
  case h1p14 => rfl
  case hyp14 => intro V hSV; (try dsimp only at hSV); go_simp; (try with_reducible rfl)
  try simp only [Act.put, List.setIfInBounds_toArray, List.set_cons_zero, List.set_cons_succ]
  refine wpAnyH_take (i := 15) (oi := ?oip15) (v := ?vp15) ?hip15 (by kernel_rfl) (by kernel_rfl) (by kernel_rfl) ?hQp15 (Or.inl ⟨?h1p15, ?hyp15⟩) hHeld ?restp15
  case hip15 => (simp only [List.getElem?_toArray, List.getElem?_cons_succ, List.getElem?_cons_zero]; rfl)
  case hQp15 => exact fun _ _ _ h => h
  case h1p15 => rfl
  case hyp15 => intro V hSV; (try dsimp only at hSV); go_simp; (try with_reducible rfl)
  try simp only [Act.put, List.setIfInBounds_toArray, List.set_cons_zero, List.set_cons_succ]
  refine wpAnyH_take (i := 16) (oi := ?oip16) (v := ?vp16) ?hip16 (by kernel_rfl) (by kernel_rfl) (by kernel_rfl) ?hQp16 (Or.inl ⟨?h1p16, ?hyp16⟩) hHeld ?restp16
  case hip16 => (simp only [List.getElem?_toArray, List.getElem?_cons_succ, List.getElem?_cons_zero]; rfl)
  case hQp16 => exact fun _ _ _ h => h
  case h1p16 => rfl
  case hyp16 => intro V hSV; (try dsimp only at hSV); go_simp; (try with_reducible rfl)
  try simp only [Act.put, List.setIfInBounds_toArray, List.set_cons_zero, List.set_cons_succ]
  refine wpAnyH_take (i := 17) (oi := ?oip17) (v := ?vp17) ?hip17 (by kernel_rfl) (by kernel_rfl) (by kernel_rfl) ?hQp17 (Or.inl ⟨?h1p17, ?hyp17⟩) hHeld ?restp17
  case hip17 => (simp only [List.getElem?_toArray, List.getElem?_cons_succ, List.getElem?_cons_zero]; rfl)
  case hQp17 => exact fun _ _ _ h => h
  case h1p17 => rfl
  case hyp17 => intro V hSV; (try dsimp only at hSV); go_simp; (try with_reducible rfl)
  try simp only [Act.put, List.setIfInBounds_toArray, List.set_cons_zero, List.set_cons_succ]
  refine wpAnyH_ready (rs := [18]) (by kernel_rfl) (by simp) ?_
  refine AllReadyH.cons (o := ?op18) ?hop18 (fun K hK => ?hsp18) AllReadyH.nil
  case hop18 => (simp only [List.getElem?_toArray, List.getElem?_cons_succ, List.getElem?_cons_zero]; rfl)
  go_simp
  refine (HLV.out _).mono ?_
  rintro e w4 ⟨rfl, hb4⟩
  have hS4 := heldB hS2.drew hb4 (Nat.le_refl _)
  try go_wp2_with fail
  refine hK.out _ _ (HS.out _ (hS4)) (fun hHeld => ?_)
  clear hK K
  try simp only [Act.put, List.setIfInBounds_toArray, List.set_cons_zero, List.set_cons_succ]
  refine wpAnyH_take (i := 19) (oi := ?oip19) (v := ?vp19) ?hip19 (by kernel_rfl) (by kernel_rfl) (by kernel_rfl) ?hQp19 (Or.inl ⟨?h1p19, ?hyp19⟩) hHeld ?restp19
  case hip19 => (simp only [List.getElem?_toArray, List.getElem?_cons_succ, List.getElem?_cons_zero]; rfl)
  case hQp19 => exact fun _ _ _ h => h
  case h1p19 => rfl
  case hyp19 => intro V hSV; (try dsimp only at hSV); go_simp; (try with_reducible rfl)
  try simp only [Act.put, List.setIfInBounds_toArray, List.set_cons_zero, List.set_cons_succ]
  refine wpAnyH_take (i := 20) (oi := ?oip20) (v := ?vp20) ?hip20 (by kernel_rfl) (by kernel_rfl) (by kernel_rfl) ?hQp20 (Or.inl ⟨?h1p20, ?hyp20⟩) hHeld ?restp20
  case hip20 => (simp only [List.getElem?_toArray, List.getElem?_cons_succ, List.getElem?_cons_zero]; rfl)
  case hQp20 => exact fun _ _ _ h => h
  case h1p20 => rfl
  case hyp20 => intro V hSV; (try dsimp only at hSV); go_simp; (try with_reducible rfl)
  try simp only [Act.put, List.setIfInBounds_toArray, List.set_cons_zero, List.set_cons_succ]
  refine wpAnyH_take (i := 21) (oi := ?oip21) (v := ?vp21) ?hip21 (by kernel_rfl) (by kernel_rfl) (by kernel_rfl) ?hQp21 (Or.inl ⟨?h1p21, ?hyp21⟩) hHeld ?restp21
  case hip21 => (simp only [List.getElem?_toArray, List.getElem?_cons_succ, List.getElem?_cons_zero]; rfl)
  case hQp21 => exact fun _ _ _ h => h
  case h1p21 => rfl
  case hyp21 => intro V hSV; (try dsimp only at hSV); go_simp; (try with_reducible rfl)
  try simp only [Act.put, List.setIfInBounds_toArray, List.set_cons_zero, List.set_cons_succ]
  refine wpAnyH_take (i := 22) (oi := ?oip22) (v := ?vp22) ?hip22 (by kernel_rfl) (by kernel_rfl) (by kernel_rfl) ?hQp22 (Or.inl ⟨?h1p22, ?hyp22⟩) hHeld ?restp22
  case hip22 => (simp only [List.getElem?_toArray, List.getElem?_cons_succ, List.getElem?_cons_zero]; rfl)
  case hQp22 => exact fun _ _ _ h => h
  case h1p22 => rfl
  case hyp22 => intro V hSV; (try dsimp only at hSV); go_simp; (try with_reducible rfl)
  try simp only [Act.put, List.setIfInBounds_toArray, List.set_cons_zero, List.set_cons_succ]
  refine wpAnyH_take (i := 23) (oi := ?oip23) (v := ?vp23) ?hip23 (by kernel_rfl) (by kernel_rfl) (by kernel_rfl) ?hQp23 (Or.inl ⟨?h1p23, ?hyp23⟩) hHeld ?restp23
  case hip23 => (simp only [List.getElem?_toArray, List.getElem?_cons_succ, List.getElem?_cons_zero]; rfl)
  case hQp23 => exact fun _ _ _ h => h
  case h1p23 => rfl
  case hyp23 => intro V hSV; (try dsimp only at hSV); go_simp; (try with_reducible rfl)
  try simp only [Act.put, List.setIfInBounds_toArray, List.set_cons_zero, List.set_cons_succ]
  refine wpAnyH_take (i := 24) (oi := ?oip24) (v := ?vp24) ?hip24 (by kernel_rfl) (by kernel_rfl) (by kernel_rfl) ?hQp24 (Or.inl ⟨?h1p24, ?hyp24⟩) hHeld ?restp24
  case hip24 => (simp only [List.getElem?_toArray, List.getElem?_cons_succ, List.getElem?_cons_zero]; rfl)
  case hQp24 => exact fun _ _ _ h => h
  case h1p24 => rfl
  case hyp24 => intro V hSV; (try dsimp only at hSV); go_simp; (try with_reducible rfl)
  try simp only [Act.put, List.setIfInBounds_toArray, List.set_cons_zero, List.set_cons_succ]
  refine wpAnyH_take (i := 25) (oi := ?oip25) (v := ?vp25) ?hip25 (by kernel_rfl) (by kernel_rfl) (by kernel_rfl) ?hQp25 (Or.inl ⟨?h1p25, ?hyp25⟩) hHeld ?restp25
  case hip25 => (simp only [List.getElem?_toArray, List.getElem?_cons_succ, List.getElem?_cons_zero]; rfl)
  case hQp25 => exact fun _ _ _ h => h
  case h1p25 => rfl
  case hyp25 => intro V hSV; (try dsimp only at hSV); go_simp; (try with_reducible rfl)
  try simp only [Act.put, List.setIfInBounds_toArray, List.set_cons_zero, List.set_cons_succ]
  refine wpAnyH_take (i := 26) (oi := ?oip26) (v := ?vp26) ?hip26 (by kernel_rfl) (by kernel_rfl) (by kernel_rfl) ?hQp26 (Or.inl ⟨?h1p26, ?hyp26⟩) hHeld ?restp26
  case hip26 => (simp only [List.getElem?_toArray, List.getElem?_cons_succ, List.getElem?_cons_zero]; rfl)
  case hQp26 => exact fun _ _ _ h => h
  case h1p26 => rfl
  case hyp26 => intro V hSV; (try dsimp only at hSV); go_simp; (try with_reducible rfl)
  try simp only [Act.put, List.setIfInBounds_toArray, List.set_cons_zero, List.set_cons_succ]
  refine wpAnyH_take (i := 27) (oi := ?oip27) (v := ?vp27) ?hip27 (by kernel_rfl) (by kernel_rfl) (by kernel_rfl) ?hQp27 (Or.inl ⟨?h1p27, ?hyp27⟩) hHeld ?restp27
  case hip27 => (simp only [List.getElem?_toArray, List.getElem?_cons_succ, List.getElem?_cons_zero]; rfl)
  case hQp27 => exact fun _ _ _ h => h
  case h1p27 => rfl
  case hyp27 => intro V hSV; (try dsimp only at hSV); go_simp; (try with_reducible rfl)
  try simp only [Act.put, List.setIfInBounds_toArray, List.set_cons_zero, List.set_cons_succ]
  refine wpAnyH_take (i := 28) (oi := ?oip28) (v := ?vp28) ?hip28 (by kernel_rfl) (by kernel_rfl) (by kernel_rfl) ?hQp28 (Or.inl ⟨?h1p28, ?hyp28⟩) hHeld ?restp28
  case hip28 => (simp only [List.getElem?_toArray, List.getElem?_cons_succ, List.getElem?_cons_zero]; rfl)
  case hQp28 => exact fun _ _ _ h => h
  case h1p28 => rfl
  case hyp28 => intro V hSV; (try dsimp only at hSV); go_simp; (try with_reducible rfl)
  try simp only [Act.put, List.setIfInBounds_toArray, List.set_cons_zero, List.set_cons_succ]
  refine wpAnyH_take (i := 29) (oi := ?oip29) (v := ?vp29) ?hip29 (by kernel_rfl) (by kernel_rfl) (by kernel_rfl) ?hQp29 (Or.inl ⟨?h1p29, ?hyp29⟩) hHeld ?restp29
  case hip29 => (simp only [List.getElem?_toArray, List.getElem?_cons_succ, List.getElem?_cons_zero]; rfl)
  case hQp29 => exact fun _ _ _ h => h
  case h1p29 => rfl
  case hyp29 => intro V hSV; (try dsimp only at hSV); go_simp; (try with_reducible rfl)
  try simp only [Act.put, List.setIfInBounds_toArray, List.set_cons_zero, List.set_cons_succ]
  refine wpAnyH_take (i := 30) (oi := ?oip30) (v := ?vp30) ?hip30 (by kernel_rfl) (by kernel_rfl) (by kernel_rfl) ?hQp30 (Or.inl ⟨?h1p30, ?hyp30⟩) hHeld ?restp30
  case hip30 => (simp only [List.getElem?_toArray, List.getElem?_cons_succ, List.getElem?_cons_zero]; rfl)
  case hQp30 => exact fun _ _ _ h => h
  case h1p30 => rfl
  case hyp30 => intro V hSV; (try dsimp only at hSV); go_simp; (try with_reducible rfl)
  try simp only [Act.put, List.setIfInBounds_toArray, List.set_cons_zero, List.set_cons_succ]
  refine wpAnyH_take (i := 31) (oi := ?oip31) (v := ?vp31) ?hip31 (by kernel_rfl) (by kernel_rfl) (by kernel_rfl) ?hQp31 (Or.inl ⟨?h1p31, ?hyp31⟩) hHeld ?restp31
  case hip31 => (simp only [List.getElem?_toArray, List.getElem?_cons_succ, List.getElem?_cons_zero]; rfl)
  case hQp31 => exact fun _ _ _ h => h
  case h1p31 => rfl
  case hyp31 => intro V hSV; (try dsimp only at hSV); go_simp; (try with_reducible rfl)
  try simp only [Act.put, List.setIfInBounds_toArray, List.set_cons_zero, List.set_cons_succ]
  refine wpAnyH_take (i := 32) (oi := ?oip32) (v := ?vp32) ?hip32 (by kernel_rfl) (by kernel_rfl) (by kernel_rfl) ?hQp32 (Or.inl ⟨?h1p32, ?hyp32⟩) hHeld ?restp32
  case hip32 => (simp only [List.getElem?_toArray, List.getElem?_cons_succ, List.getElem?_cons_zero]; rfl)
  case hQp32 => exact fun _ _ _ h => h
  case h1p32 => rfl
  case hyp32 => intro V hSV; (try dsimp only at hSV); go_simp; (try with_reducible rfl)
  try simp only [Act.put, List.setIfInBounds_toArray, List.set_cons_zero, List.set_cons_succ]
  refine wpAnyH_take (i := 33) (oi := ?oip33) (v := ?vp33) ?hip33 (by kernel_rfl) (by kernel_rfl) (by kernel_rfl) ?hQp33 (Or.inl ⟨?h1p33, ?hyp33⟩) hHeld ?restp33
  case hip33 => (simp only [List.getElem?_toArray, List.getElem?_cons_succ, List.getElem?_cons_zero]; rfl)
  case hQp33 => exact fun _ _ _ h => h
  case h1p33 => rfl
  case hyp33 => intro V hSV; (try dsimp only at hSV); go_simp; (try with_reducible rfl)
  try simp only [Act.put, List.setIfInBounds_toArray, List.set_cons_zero, List.set_cons_succ]
  refine wpAnyH_done (by kernel_rfl) ?_ _
  go_wp2
  go_ret
  exact ⟨rfl, HB.out.trans ((HB1.out.trans ((hS4).mono (by omega))).mono (by omega))⟩
end Go.Proofs.YtgaoeoijdpdjiaaGreatDoor
