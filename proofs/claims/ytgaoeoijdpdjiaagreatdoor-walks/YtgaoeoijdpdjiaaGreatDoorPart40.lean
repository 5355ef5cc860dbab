/-
  The program's New: a set that is wrong. The program's New: a tree. The three boxes of a set, of seeds and of a place. The document's own Placed: a tree beyond. The document's own Placed: a leaf below 0. Rows of marks: what is appended to a row of marks is marks again, in place or in a new row.
-/
import Derived.Test.YtgaoeoijdpdjiaaGreatDoorPart18
import Derived.Test.YtgaoeoijdpdjiaaGreatDoorPart19
import Derived.Test.YtgaoeoijdpdjiaaGreatDoorPart5
import Derived.Test.YtgaoeoijdpdjiaaGreatDoorPart3
import Derived.Deep.AppendLies
import Derived.Lib.AppendZeros
namespace Go.Proofs.YtgaoeoijdpdjiaaGreatDoor
open Go.RowKit
set_option maxRecDepth 20000 in
set_option maxHeartbeats 8000000 in
theorem new_set (k b x t l a0 a1 ch a3 a4 a5 : Int) (sec rnd pub : ByteArray) (p0 p1 p2 p3 : Int) (w : World) (hC : ∀ V : World, Calls Tryz.prog 69 #[.agg #[.int .i64 k, .int .i64 b, .int .i64 x, .int .i64 t, .int .i64 l]] V fun e w' => e = .returned (.tuple #[.agg #[.int .i64 a0, .int .i64 a1, .int .i64 ch, .int .i64 a3, .int .i64 a4, .int .i64 a5], .int .i64 1]) ∧ Below V.heap.size V w') :
    Calls Tryz.prog 37 #[.agg #[.int .i64 k, .int .i64 b, .int .i64 x, .int .i64 t, .int .i64 l], .agg #[.string sec, .string rnd, .string pub], .agg #[.int .i64 p0, .int .i64 p1, .int .i64 p2, .int .i64 p3]] w fun e w' => e = .returned (.tuple #[.agg #[.int .i64 0, .int .i64 0, .int .i64 0, .int .i64 0, .int .i64 0, .string ⟨#[]⟩, .string ⟨#[]⟩, .string ⟨#[]⟩, .int .i64 0, .int .i64 0, .int .i64 0, .int .i64 0, .int .i64 0], .int .i64 1]) ∧ Below w.heap.size w w' := by
  obtain ⟨W0, hW⟩ : ∃ W0, (((w.alloc (.cells #[.int .i64 k, .int .i64 b, .int .i64 x, .int .i64 t, .int .i64 l] 23)).alloc (.cells #[.string sec, .string rnd, .string pub] 25)).alloc (.cells #[.int .i64 p0, .int .i64 p1, .int .i64 p2, .int .i64 p3] 27)).alloc (.cells #[.int .i64 0, .int .i64 0, .int .i64 0, .int .i64 0, .int .i64 0, .string ⟨#[]⟩, .string ⟨#[]⟩, .string ⟨#[]⟩, .int .i64 0, .int .i64 0, .int .i64 0, .int .i64 0, .int .i64 0] 83) = W0 := ⟨_, rfl⟩
  have HF := hide (show FiveC w.heap.size W0 k b x t l by subst hW; refine ⟨?_, ?_, ?_, ?_, ?_⟩ <;> simp [go_sem])
  have HSE := hide (show W0.cell? ⟨w.heap.size + 1, 0, none⟩ = some (.string sec) ∧ W0.cell? ⟨w.heap.size + 1, 1, none⟩ = some (.string rnd) ∧ W0.cell? ⟨w.heap.size + 1, 2, none⟩ = some (.string pub) by subst hW; refine ⟨?_, ?_, ?_⟩ <;> simp [go_sem])
  have HP := hide (show FourC (w.heap.size + 1 + 1) W0 p0 p1 p2 p3 by subst hW; refine ⟨?_, ?_, ?_, ?_⟩ <;> simp [go_sem])
  have HB := hide (show Below w.heap.size w W0 by subst hW; exact ((((Below.refl _ _).alloc (Nat.le_refl _) _).alloc (by simp) _).alloc (by simp; omega) _).alloc (by simp; omega) _)
  have hz : W0.heap.size ≤ w.heap.size + 4 := by subst hW; simp
  have hz' : w.heap.size + 4 ≤ W0.heap.size := by subst hW; simp
  have HBK := hide (show Blk W0 (w.heap.size + 1 + 1 + 1) [.int .i64 0, .int .i64 0, .int .i64 0, .int .i64 0, .int .i64 0, .string ⟨#[]⟩, .string ⟨#[]⟩, .string ⟨#[]⟩, .int .i64 0, .int .i64 0, .int .i64 0, .int .i64 0, .int .i64 0] 83 by
    subst hW
    have h := Blk.new (((w.alloc (.cells #[.int .i64 k, .int .i64 b, .int .i64 x, .int .i64 t, .int .i64 l] 23)).alloc (.cells #[.string sec, .string rnd, .string pub] 25)).alloc (.cells #[.int .i64 p0, .int .i64 p1, .int .i64 p2, .int .i64 p3] 27)) [.int .i64 0, .int .i64 0, .int .i64 0, .int .i64 0, .int .i64 0, .string ⟨#[]⟩, .string ⟨#[]⟩, .string ⟨#[]⟩, .int .i64 0, .int .i64 0, .int .i64 0, .int .i64 0, .int .i64 0] 83
    simp only [World.size_alloc] at h
    exact h)
  have HS := hide (fun (V : World) (h : Below W0.heap.size W0 V) => (by
    obtain ⟨c0, c1, c2, c3, c4⟩ := HF.out.below h (by omega)
    obtain ⟨d0, d1, d2, d3⟩ := HP.out.below h (by omega)
    exact ⟨c0, c1, c2, c3, c4, (h.cell (p := ⟨w.heap.size + 1, 0, none⟩) (by show w.heap.size + 1 < _; omega)).trans HSE.out.1, (h.cell (p := ⟨w.heap.size + 1, 1, none⟩) (by show w.heap.size + 1 < _; omega)).trans HSE.out.2.1, (h.cell (p := ⟨w.heap.size + 1, 2, none⟩) (by show w.heap.size + 1 < _; omega)).trans HSE.out.2.2, d0, d1, d2, d3⟩ : V.cell? ⟨w.heap.size, 0, none⟩ = some (.int .i64 k) ∧ V.cell? ⟨w.heap.size, 1, none⟩ = some (.int .i64 b) ∧ V.cell? ⟨w.heap.size, 2, none⟩ = some (.int .i64 x) ∧ V.cell? ⟨w.heap.size, 3, none⟩ = some (.int .i64 t) ∧ V.cell? ⟨w.heap.size, 4, none⟩ = some (.int .i64 l) ∧ V.cell? ⟨w.heap.size + 1, 0, none⟩ = some (.string sec) ∧ V.cell? ⟨w.heap.size + 1, 1, none⟩ = some (.string rnd) ∧ V.cell? ⟨w.heap.size + 1, 2, none⟩ = some (.string pub) ∧ V.cell? ⟨w.heap.size + 1 + 1, 0, none⟩ = some (.int .i64 p0) ∧ V.cell? ⟨w.heap.size + 1 + 1, 1, none⟩ = some (.int .i64 p1) ∧ V.cell? ⟨w.heap.size + 1 + 1, 2, none⟩ = some (.int .i64 p2) ∧ V.cell? ⟨w.heap.size + 1 + 1, 3, none⟩ = some (.int .i64 p3)))
  obtain ⟨c0, c1, c2, c3, c4, f0, f1, f2, d0, d1, d2, d3⟩ := HS.out W0 (Below.refl _ _)
  have HC := hide hC
  clear hC
  go_enter Tryz.func37, Tryz.ntmps37
  go_wp2_with fail
  try rw [hW]
  refine (HC.out _).mono ?_
  rintro e w1 ⟨rfl, hb1⟩
  have HB1 := hide (hb1.alloc hb1.size (.cells #[.int .i64 a0, .int .i64 a1, .int .i64 ch, .int .i64 a3, .int .i64 a4, .int .i64 a5] 127))
  have hzz := hb1.size
  have HZ := hide (Blk.new w1 [.int .i64 a0, .int .i64 a1, .int .i64 ch, .int .i64 a3, .int .i64 a4, .int .i64 a5] 127)
  clear hb1 c0 c1 c2 c3 c4 f0 f1 f2 d0 d1 d2 d3 hW
  have bk := hide (HBK.out.below HB1.out (by omega))
  have y0 := bk.out.cell 0
  have y1 := bk.out.cell 1
  have y2 := bk.out.cell 2
  have y3 := bk.out.cell 3
  have y4 := bk.out.cell 4
  have y5 := bk.out.cell 5
  have y6 := bk.out.cell 6
  have y7 := bk.out.cell 7
  have y8 := bk.out.cell 8
  have y9 := bk.out.cell 9
  have y10 := bk.out.cell 10
  have y11 := bk.out.cell 11
  have y12 := bk.out.cell 12
  have fz := bk.out.free
  simp only [List.getElem?_cons_zero, List.getElem?_cons_succ] at y0 y1 y2 y3 y4 y5 y6 y7 y8 y9 y10 y11 y12
  have HBL := hide (HB.out.trans (HB1.out.mono (by omega)))
  clear bk
  go_wp2
  refine bodyPost_ret (v := .tuple #[.agg #[.int .i64 0, .int .i64 0, .int .i64 0, .int .i64 0, .int .i64 0, .string ⟨#[]⟩, .string ⟨#[]⟩, .string ⟨#[]⟩, .int .i64 0, .int .i64 0, .int .i64 0, .int .i64 0, .int .i64 0], .int .i64 1]) (by simp [results, Tryz.results37, go_sem, y0, y1, y2, y3, y4, y5, y6, y7, y8, y9, y10, y11, y12]) rfl ⟨rfl, ?_⟩
  iterate 13 refine Below.setCell ?_ (show w.heap.size ≤ _ by simp <;> omega) _
  exact HBL.out
end Go.Proofs.YtgaoeoijdpdjiaaGreatDoor

namespace Go.Proofs.YtgaoeoijdpdjiaaGreatDoor
open Go.RowKit
set_option maxRecDepth 20000 in
set_option maxHeartbeats 8000000 in
theorem new_yes (k b x t l a0 a1 ch a3 a4 a5 : Int) (sec rnd pub : ByteArray) (p0 p1 p2 p3 : Int) (w : World) (hC : ∀ V : World, Calls Tryz.prog 69 #[.agg #[.int .i64 k, .int .i64 b, .int .i64 x, .int .i64 t, .int .i64 l]] V fun e w' => e = .returned (.tuple #[.agg #[.int .i64 a0, .int .i64 a1, .int .i64 ch, .int .i64 a3, .int .i64 a4, .int .i64 a5], .int .i64 0]) ∧ Below V.heap.size V w') (hV : ∀ V : World, Calls Tryz.prog 70 #[.agg #[.int .i64 k, .int .i64 b, .int .i64 x, .int .i64 t, .int .i64 l], .agg #[.string sec, .string rnd, .string pub]] V fun e w' => e = .returned (.bool true) ∧ Below V.heap.size V w') (hI : ∀ V : World, Calls Tryz.prog 71 #[.agg #[.int .i64 k, .int .i64 b, .int .i64 x, .int .i64 t, .int .i64 l], .agg #[.int .i64 p0, .int .i64 p1, .int .i64 p2, .int .i64 p3]] V fun e w' => e = .returned (.bool true) ∧ Below V.heap.size V w') :
    Calls Tryz.prog 37 #[.agg #[.int .i64 k, .int .i64 b, .int .i64 x, .int .i64 t, .int .i64 l], .agg #[.string sec, .string rnd, .string pub], .agg #[.int .i64 p0, .int .i64 p1, .int .i64 p2, .int .i64 p3]] w fun e w' => e = .returned (.tuple #[.agg #[.int .i64 k, .int .i64 b, .int .i64 x, .int .i64 t, .int .i64 l, .string sec, .string rnd, .string pub, .int .i64 p0, .int .i64 p1, .int .i64 p2, .int .i64 p3, .int .i64 ch], .int .i64 0]) ∧ Below w.heap.size w w' := by
  obtain ⟨W0, hW⟩ : ∃ W0, (((w.alloc (.cells #[.int .i64 k, .int .i64 b, .int .i64 x, .int .i64 t, .int .i64 l] 23)).alloc (.cells #[.string sec, .string rnd, .string pub] 25)).alloc (.cells #[.int .i64 p0, .int .i64 p1, .int .i64 p2, .int .i64 p3] 27)).alloc (.cells #[.int .i64 0, .int .i64 0, .int .i64 0, .int .i64 0, .int .i64 0, .string ⟨#[]⟩, .string ⟨#[]⟩, .string ⟨#[]⟩, .int .i64 0, .int .i64 0, .int .i64 0, .int .i64 0, .int .i64 0] 83) = W0 := ⟨_, rfl⟩
  have HF := hide (show FiveC w.heap.size W0 k b x t l by subst hW; refine ⟨?_, ?_, ?_, ?_, ?_⟩ <;> simp [go_sem])
  have HSE := hide (show W0.cell? ⟨w.heap.size + 1, 0, none⟩ = some (.string sec) ∧ W0.cell? ⟨w.heap.size + 1, 1, none⟩ = some (.string rnd) ∧ W0.cell? ⟨w.heap.size + 1, 2, none⟩ = some (.string pub) by subst hW; refine ⟨?_, ?_, ?_⟩ <;> simp [go_sem])
  have HP := hide (show FourC (w.heap.size + 1 + 1) W0 p0 p1 p2 p3 by subst hW; refine ⟨?_, ?_, ?_, ?_⟩ <;> simp [go_sem])
  have HB := hide (show Below w.heap.size w W0 by subst hW; exact ((((Below.refl _ _).alloc (Nat.le_refl _) _).alloc (by simp) _).alloc (by simp; omega) _).alloc (by simp; omega) _)
  have hz : W0.heap.size ≤ w.heap.size + 4 := by subst hW; simp
  have hz' : w.heap.size + 4 ≤ W0.heap.size := by subst hW; simp
  have HBK := hide (show Blk W0 (w.heap.size + 1 + 1 + 1) [.int .i64 0, .int .i64 0, .int .i64 0, .int .i64 0, .int .i64 0, .string ⟨#[]⟩, .string ⟨#[]⟩, .string ⟨#[]⟩, .int .i64 0, .int .i64 0, .int .i64 0, .int .i64 0, .int .i64 0] 83 by
    subst hW
    have h := Blk.new (((w.alloc (.cells #[.int .i64 k, .int .i64 b, .int .i64 x, .int .i64 t, .int .i64 l] 23)).alloc (.cells #[.string sec, .string rnd, .string pub] 25)).alloc (.cells #[.int .i64 p0, .int .i64 p1, .int .i64 p2, .int .i64 p3] 27)) [.int .i64 0, .int .i64 0, .int .i64 0, .int .i64 0, .int .i64 0, .string ⟨#[]⟩, .string ⟨#[]⟩, .string ⟨#[]⟩, .int .i64 0, .int .i64 0, .int .i64 0, .int .i64 0, .int .i64 0] 83
    simp only [World.size_alloc] at h
    exact h)
  have HS := hide (fun (V : World) (h : Below W0.heap.size W0 V) => (by
    obtain ⟨c0, c1, c2, c3, c4⟩ := HF.out.below h (by omega)
    obtain ⟨d0, d1, d2, d3⟩ := HP.out.below h (by omega)
    exact ⟨c0, c1, c2, c3, c4, (h.cell (p := ⟨w.heap.size + 1, 0, none⟩) (by show w.heap.size + 1 < _; omega)).trans HSE.out.1, (h.cell (p := ⟨w.heap.size + 1, 1, none⟩) (by show w.heap.size + 1 < _; omega)).trans HSE.out.2.1, (h.cell (p := ⟨w.heap.size + 1, 2, none⟩) (by show w.heap.size + 1 < _; omega)).trans HSE.out.2.2, d0, d1, d2, d3⟩ : V.cell? ⟨w.heap.size, 0, none⟩ = some (.int .i64 k) ∧ V.cell? ⟨w.heap.size, 1, none⟩ = some (.int .i64 b) ∧ V.cell? ⟨w.heap.size, 2, none⟩ = some (.int .i64 x) ∧ V.cell? ⟨w.heap.size, 3, none⟩ = some (.int .i64 t) ∧ V.cell? ⟨w.heap.size, 4, none⟩ = some (.int .i64 l) ∧ V.cell? ⟨w.heap.size + 1, 0, none⟩ = some (.string sec) ∧ V.cell? ⟨w.heap.size + 1, 1, none⟩ = some (.string rnd) ∧ V.cell? ⟨w.heap.size + 1, 2, none⟩ = some (.string pub) ∧ V.cell? ⟨w.heap.size + 1 + 1, 0, none⟩ = some (.int .i64 p0) ∧ V.cell? ⟨w.heap.size + 1 + 1, 1, none⟩ = some (.int .i64 p1) ∧ V.cell? ⟨w.heap.size + 1 + 1, 2, none⟩ = some (.int .i64 p2) ∧ V.cell? ⟨w.heap.size + 1 + 1, 3, none⟩ = some (.int .i64 p3)))
  obtain ⟨c0, c1, c2, c3, c4, f0, f1, f2, d0, d1, d2, d3⟩ := HS.out W0 (Below.refl _ _)
  have HC := hide hC
  have HV := hide hV
  have HI := hide hI
  clear hC hV hI
  go_enter Tryz.func37, Tryz.ntmps37
  go_wp2_with fail
  try rw [hW]
  refine (HC.out _).mono ?_
  rintro e w1 ⟨rfl, hb1⟩
  have HB1 := hide (hb1.alloc hb1.size (.cells #[.int .i64 a0, .int .i64 a1, .int .i64 ch, .int .i64 a3, .int .i64 a4, .int .i64 a5] 127))
  have hzz := hb1.size
  have HZ := hide (Blk.new w1 [.int .i64 a0, .int .i64 a1, .int .i64 ch, .int .i64 a3, .int .i64 a4, .int .i64 a5] 127)
  clear hb1 c0 c1 c2 c3 c4 f0 f1 f2 d0 d1 d2 d3 hW
  obtain ⟨c0, c1, c2, c3, c4, f0, f1, f2, d0, d1, d2, d3⟩ := HS.out (w1.alloc (.cells #[.int .i64 a0, .int .i64 a1, .int .i64 ch, .int .i64 a3, .int .i64 a4, .int .i64 a5] 127)) HB1.out
  go_wp2_with fail
  refine (HV.out _).mono ?_
  rintro e w2 ⟨rfl, hb2⟩
  have HB2 := hide (heldB HB1.out hb2 (Nat.le_refl _))
  have HZ2 := hide (HZ.out.on hb2)
  clear hb2 c0 c1 c2 c3 c4 f0 f1 f2 d0 d1 d2 d3
  obtain ⟨c0, c1, c2, c3, c4, f0, f1, f2, d0, d1, d2, d3⟩ := HS.out w2 HB2.out
  go_wp2_with fail
  refine (HI.out _).mono ?_
  rintro e w3 ⟨rfl, hb3⟩
  have HB3 := hide (heldB HB2.out hb3 (Nat.le_refl _))
  have HZ3 := hide (HZ2.out.on hb3)
  clear hb3 c0 c1 c2 c3 c4 f0 f1 f2 d0 d1 d2 d3
  obtain ⟨c0, c1, c2, c3, c4, f0, f1, f2, d0, d1, d2, d3⟩ := HS.out w3 HB3.out
  have zc := HZ3.out.cell 2
  simp only [List.getElem?_cons_zero, List.getElem?_cons_succ] at zc
  have bk := hide (HBK.out.below HB3.out (by omega))
  have y0 := bk.out.cell 0
  have y1 := bk.out.cell 1
  have y2 := bk.out.cell 2
  have y3 := bk.out.cell 3
  have y4 := bk.out.cell 4
  have y5 := bk.out.cell 5
  have y6 := bk.out.cell 6
  have y7 := bk.out.cell 7
  have y8 := bk.out.cell 8
  have y9 := bk.out.cell 9
  have y10 := bk.out.cell 10
  have y11 := bk.out.cell 11
  have y12 := bk.out.cell 12
  have fz := bk.out.free
  simp only [List.getElem?_cons_zero, List.getElem?_cons_succ] at y0 y1 y2 y3 y4 y5 y6 y7 y8 y9 y10 y11 y12
  have HBL := hide (HB.out.trans (HB3.out.mono (by omega)))
  clear bk
  go_wp2
  refine bodyPost_ret (v := .tuple #[.agg #[.int .i64 k, .int .i64 b, .int .i64 x, .int .i64 t, .int .i64 l, .string sec, .string rnd, .string pub, .int .i64 p0, .int .i64 p1, .int .i64 p2, .int .i64 p3, .int .i64 ch], .int .i64 0]) (by simp [results, Tryz.results37, go_sem, y0, y1, y2, y3, y4, y5, y6, y7, y8, y9, y10, y11, y12]) rfl ⟨rfl, ?_⟩
  iterate 13 refine Below.setCell ?_ (show w.heap.size ≤ _ by simp <;> omega) _
  exact HBL.out
end Go.Proofs.YtgaoeoijdpdjiaaGreatDoor

namespace Go.Proofs.YtgaoeoijdpdjiaaGreatDoor
open Go.RowKit
/-- The three boxes. -/
structure Box3 (w : World) (B : Nat) (S U P : List Value) : Prop where
  s : Blk w B S 23
  u : Blk w (B + 1) U 25
  p : Blk w (B + 1 + 1) P 27
theorem Box3.on {w V : World} {B : Nat} {S U P : List Value} (h : Box3 w B S U P) (hb : Below w.heap.size w V) : Box3 V B S U P := ⟨h.s.on hb, h.u.on hb, h.p.on hb⟩
end Go.Proofs.YtgaoeoijdpdjiaaGreatDoor

namespace Go.Proofs.YtgaoeoijdpdjiaaGreatDoor
open Go.RowKit
set_option maxRecDepth 20000 in
set_option maxHeartbeats 8000000 in
theorem placed_2 (k x a0 a1 a3 a4 a5 : Int) (b t l q ch : Nat) (p1 p2 p3 : Int) (w : World) (h2 : t ≤ 4) (h4 : l ≤ 3) (hq : q < l)
    (hsz : ∀ V : World, Calls Tryz.prog 89 #[.agg #[.int .i64 k, .int .i64 b, .int .i64 x, .int .i64 t, .int .i64 l]] V fun r w' => r = .returned (.agg #[.int .i64 a0, .int .i64 a1, .int .i64 ch, .int .i64 a3, .int .i64 a4, .int .i64 a5]) ∧ Below V.heap.size V w') (e1 : 0 ≤ p1) (e2 : ((((2 ^ t) ^ (l - 1 - q) : Nat)) : Int) ≤ p1) :
    Calls Tryz.prog 51 #[.agg #[.int .i64 k, .int .i64 b, .int .i64 x, .int .i64 t, .int .i64 l], .agg #[.int .i64 q, .int .i64 p1, .int .i64 p2, .int .i64 p3]] w fun e w' => e = .returned (.bool false) ∧ Below w.heap.size w w' := by
  have ha : 2 ^ t ≤ 16 := Nat.le_trans (Nat.pow_le_pow_right (by decide) h2) (by decide)
  have hpl : (2 ^ t) ^ (l - 1 - q) ≤ 65536 := Nat.le_trans (Nat.pow_le_pow_left ha _) (Nat.le_trans (Nat.pow_le_pow_right (by decide) (show l - 1 - q ≤ 2 by omega)) (by decide))
  have HLV := hide (fun V : World => leaves_any t k b x l V h2)
  have HPW := hide (fun V : World => power_any (2 ^ t) (l - 1 - q) V ha (by omega) hpl Nat.one_le_two_pow)
  rw [show ((l - 1 - q : Nat) : Int) = (l : Int) - 1 - (q : Int) by omega] at HPW
  generalize ((2 ^ t) ^ (l - 1 - q) : Nat) = tr at HPW e2
  generalize (2 ^ t : Nat) = lv at HLV HPW 
  clear ha hpl
  have HSZ := hide hsz
  have g0 : ¬ ((q : Int) < 0) := by omega
  have g1 : ¬ ((l : Int) ≤ (q : Int)) := by omega
  have hwa : IntKind.i64.wrap ((l : Int) - 1) = (l : Int) - 1 := by rw [IntKind.wrap_i64]; omega
  have hwb : IntKind.i64.wrap ((l : Int) - 1 - (q : Int)) = (l : Int) - 1 - (q : Int) := by rw [IntKind.wrap_i64]; omega
  obtain ⟨W0, hW⟩ : ∃ W0, (w.alloc (.cells #[.int .i64 k, .int .i64 b, .int .i64 x, .int .i64 t, .int .i64 l] 23)).alloc (.cells #[.int .i64 q, .int .i64 p1, .int .i64 p2, .int .i64 p3] 27) = W0 := ⟨_, rfl⟩
  have HF := hide (show FiveC w.heap.size W0 k b x t l by subst hW; refine ⟨?_, ?_, ?_, ?_, ?_⟩ <;> simp [go_sem])
  have HP := hide (show FourC (w.heap.size + 1) W0 q p1 p2 p3 by subst hW; refine ⟨?_, ?_, ?_, ?_⟩ <;> simp [go_sem])
  have HB := hide (show Below w.heap.size w W0 by subst hW; exact ((Below.refl _ _).alloc (Nat.le_refl _) _).alloc (by simp) _)
  have hz : W0.heap.size ≤ w.heap.size + 2 := by subst hW; simp
  have hz' : w.heap.size + 2 ≤ W0.heap.size := by subst hW; simp
  obtain ⟨c0, c1, c2, c3, c4⟩ := HF.out
  obtain ⟨d0, d1, d2, d3⟩ := HP.out
  clear hsz
  go_enter Tryz.func51, Tryz.ntmps51
  go_wp2_with fail
  try rw [hW]
  refine (HSZ.out _).mono ?_
  rintro e w1 ⟨rfl, hb1⟩
  have HB1 := hide (show Below W0.heap.size W0 (w1.alloc (.cells #[.int .i64 a0, .int .i64 a1, .int .i64 ch, .int .i64 a3, .int .i64 a4, .int .i64 a5] 127)) from (hb1.mono (Nat.le_refl _)).alloc hb1.size _)
  have HZ := hide (Blk.new w1 [.int .i64 a0, .int .i64 a1, .int .i64 ch, .int .i64 a3, .int .i64 a4, .int .i64 a5] 127)
  have hz1 : (w1.alloc (.cells #[.int .i64 a0, .int .i64 a1, .int .i64 ch, .int .i64 a3, .int .i64 a4, .int .i64 a5] 127)).heap.size = w1.heap.size + 1 := by simp
  have hzz := hb1.size
  obtain ⟨c0', c1', c2', c3', c4'⟩ := HF.out.below hb1 (by omega)
  obtain ⟨d0', d1', d2', d3'⟩ := HP.out.below hb1 (by omega)
  clear hb1 c0 c1 c2 c3 c4 d0 d1 d2 d3 hW
  go_wp2_with fail
  obtain ⟨W1, hW1⟩ : ∃ W1, w1.alloc (.cells #[.int .i64 a0, .int .i64 a1, .int .i64 ch, .int .i64 a3, .int .i64 a4, .int .i64 a5] 127) = W1 := ⟨_, rfl⟩
  rw [hW1] at HB1 HZ hz1 ⊢
  clear hW1 c0' c1' c2' c3' c4' d0' d1' d2' d3'
  have HS := hide (fun (V : World) (h : Below W1.heap.size W1 V) => (by
    have h0 := heldB HB1.out (h.mono (Nat.le_refl _)) (Nat.le_refl _)
    obtain ⟨c0, c1, c2, c3, c4⟩ := HF.out.below h0 (by omega)
    obtain ⟨d0, d1, d2, d3⟩ := HP.out.below h0 (by omega)
    exact ⟨c0, c1, c2, c3, c4, d0, d1, d2, d3, (HZ.out.on h).cell 2, h⟩ : V.cell? ⟨w.heap.size, 0, none⟩ = some (.int .i64 k) ∧ V.cell? ⟨w.heap.size, 1, none⟩ = some (.int .i64 b) ∧ V.cell? ⟨w.heap.size, 2, none⟩ = some (.int .i64 x) ∧ V.cell? ⟨w.heap.size, 3, none⟩ = some (.int .i64 t) ∧ V.cell? ⟨w.heap.size, 4, none⟩ = some (.int .i64 l) ∧ V.cell? ⟨w.heap.size + 1, 0, none⟩ = some (.int .i64 q) ∧ V.cell? ⟨w.heap.size + 1, 1, none⟩ = some (.int .i64 p1) ∧ V.cell? ⟨w.heap.size + 1, 2, none⟩ = some (.int .i64 p2) ∧ V.cell? ⟨w.heap.size + 1, 3, none⟩ = some (.int .i64 p3) ∧ V.cell? ⟨w1.heap.size, 2, none⟩ = some (.int .i64 ch) ∧ Below W1.heap.size W1 V))
  go_region_held3 (fun V => V.cell? ⟨w.heap.size, 0, none⟩ = some (.int .i64 k) ∧ V.cell? ⟨w.heap.size, 1, none⟩ = some (.int .i64 b) ∧ V.cell? ⟨w.heap.size, 2, none⟩ = some (.int .i64 x) ∧ V.cell? ⟨w.heap.size, 3, none⟩ = some (.int .i64 t) ∧ V.cell? ⟨w.heap.size, 4, none⟩ = some (.int .i64 l) ∧ V.cell? ⟨w.heap.size + 1, 0, none⟩ = some (.int .i64 q) ∧ V.cell? ⟨w.heap.size + 1, 1, none⟩ = some (.int .i64 p1) ∧ V.cell? ⟨w.heap.size + 1, 2, none⟩ = some (.int .i64 p2) ∧ V.cell? ⟨w.heap.size + 1, 3, none⟩ = some (.int .i64 p3) ∧ V.cell? ⟨w1.heap.size, 2, none⟩ = some (.int .i64 ch) ∧ Below W1.heap.size W1 V) (first | exact HS.out _ hS2 | exact HS.out _ hS1 | exact HS.out _ (Below.refl _ _).drew) (first | (go_at_call 90; refine (HLV.out _).mono ?_; rintro e w2 ⟨rfl, hb2⟩; have hS1 := heldB (Below.refl W1.heap.size W1).drew hb2 (Nat.le_refl _)) | (go_at_call 55; refine (HPW.out _).mono ?_; rintro e w3 ⟨rfl, rfl⟩; have hS2 := hS1))
  go_wp2_with fail
  have d1 : decide (0 ≤ p1) = true := by simp; omega
  have d2 : decide (p1 < (tr : Int)) = false := by simp; omega
  clear e1 e2
  refine wp_region_held_drew (S := fun V => V.cell? ⟨w.heap.size, 0, none⟩ = some (.int .i64 k) ∧ V.cell? ⟨w.heap.size, 1, none⟩ = some (.int .i64 b) ∧ V.cell? ⟨w.heap.size, 2, none⟩ = some (.int .i64 x) ∧ V.cell? ⟨w.heap.size, 3, none⟩ = some (.int .i64 t) ∧ V.cell? ⟨w.heap.size, 4, none⟩ = some (.int .i64 l) ∧ V.cell? ⟨w.heap.size + 1, 0, none⟩ = some (.int .i64 q) ∧ V.cell? ⟨w.heap.size + 1, 1, none⟩ = some (.int .i64 p1) ∧ V.cell? ⟨w.heap.size + 1, 2, none⟩ = some (.int .i64 p2) ∧ V.cell? ⟨w.heap.size + 1, 3, none⟩ = some (.int .i64 p3) ∧ V.cell? ⟨w1.heap.size, 2, none⟩ = some (.int .i64 ch) ∧ Below W1.heap.size W1 V) (by kernel_rfl) (HS.out _ (hS2.drew)) (fun hHeld => ?_)
  refine wpAnyH_take (i := 0) (oi := ?oip0) (v := ?vp0) ?hip0 (by kernel_rfl) (by kernel_rfl) (by kernel_rfl) ?hQp0 (Or.inl ⟨?h1p0, ?hyp0⟩) hHeld ?restp0
  case hip0 => (simp only [List.getElem?_toArray, List.getElem?_cons_zero]; rfl)
  case hQp0 => exact fun _ _ _ h => h
  case h1p0 => rfl
  case hyp0 => intro V hSV; (try dsimp only at hSV); go_simp; (try with_reducible rfl)
  try simp only [Act.put, List.setIfInBounds_toArray, List.set_cons_zero, List.set_cons_succ]
  refine wpAnyH_take (i := 1) (oi := ?oip1) (v := ?vp1) ?hip1 (by kernel_rfl) (by kernel_rfl) (by kernel_rfl) ?hQp1 (Or.inl ⟨?h1p1, ?hyp1⟩) hHeld ?restp1
  case hip1 => (simp only [List.getElem?_toArray, List.getElem?_cons_succ, List.getElem?_cons_zero]; rfl)
  case hQp1 => exact fun _ _ _ h => h
  case h1p1 => rfl
  case hyp1 => intro V hSV; (try dsimp only at hSV); go_simp; (try with_reducible rfl)
  try simp only [Act.put, List.setIfInBounds_toArray, List.set_cons_zero, List.set_cons_succ]
  refine wpAnyH_take (i := 2) (oi := ?oip2) (v := ?vp2) ?hip2 (by kernel_rfl) (by kernel_rfl) (by kernel_rfl) ?hQp2 (Or.inl ⟨?h1p2, ?hyp2⟩) hHeld ?restp2
  case hip2 => (simp only [List.getElem?_toArray, List.getElem?_cons_succ, List.getElem?_cons_zero]; rfl)
  case hQp2 => exact fun _ _ _ h => h
  case h1p2 => rfl
  case hyp2 => intro V hSV; (try dsimp only at hSV); go_simp; (try with_reducible rfl)
  try simp only [Act.put, List.setIfInBounds_toArray, List.set_cons_zero, List.set_cons_succ]
  refine wpAnyH_take (i := 3) (oi := ?oip3) (v := ?vp3) ?hip3 (by kernel_rfl) (by kernel_rfl) (by kernel_rfl) ?hQp3 (Or.inl ⟨?h1p3, ?hyp3⟩) hHeld ?restp3
  case hip3 => (simp only [List.getElem?_toArray, List.getElem?_cons_succ, List.getElem?_cons_zero]; rfl)
  case hQp3 => exact fun _ _ _ h => h
  case h1p3 => rfl
  case hyp3 => intro V hSV; (try dsimp only at hSV); go_simp; (try with_reducible rfl)
  try simp only [Act.put, List.setIfInBounds_toArray, List.set_cons_zero, List.set_cons_succ]
  refine wpAnyH_take (i := 4) (oi := ?oip4) (v := ?vp4) ?hip4 (by kernel_rfl) (by kernel_rfl) (by kernel_rfl) ?hQp4 (Or.inl ⟨?h1p4, ?hyp4⟩) hHeld ?restp4
  case hip4 => (simp only [List.getElem?_toArray, List.getElem?_cons_succ, List.getElem?_cons_zero]; rfl)
  case hQp4 => exact fun _ _ _ h => h
  case h1p4 => rfl
  case hyp4 => intro V hSV; (try dsimp only at hSV); go_simp; (try with_reducible rfl)
  try simp only [Act.put, List.setIfInBounds_toArray, List.set_cons_zero, List.set_cons_succ]
  refine wpAnyH_take (i := 5) (oi := ?oip5) (v := ?vp5) ?hip5 (by kernel_rfl) (by kernel_rfl) (by kernel_rfl) ?hQp5 (Or.inl ⟨?h1p5, ?hyp5⟩) hHeld ?restp5
  case hip5 => (simp only [List.getElem?_toArray, List.getElem?_cons_succ, List.getElem?_cons_zero]; rfl)
  case hQp5 => exact fun _ _ _ h => h
  case h1p5 => rfl
  case hyp5 => intro V hSV; (try dsimp only at hSV); go_simp; (try with_reducible rfl)
  try simp only [Act.put, List.setIfInBounds_toArray, List.set_cons_zero, List.set_cons_succ]
  refine wpAnyH_take (i := 6) (oi := ?oip6) (v := ?vp6) ?hip6 (by kernel_rfl) (by kernel_rfl) (by kernel_rfl) ?hQp6 (Or.inl ⟨?h1p6, ?hyp6⟩) hHeld ?restp6
  case hip6 => (simp only [List.getElem?_toArray, List.getElem?_cons_succ, List.getElem?_cons_zero]; rfl)
  case hQp6 => exact fun _ _ _ h => h
  case h1p6 => rfl
  case hyp6 => intro V hSV; (try dsimp only at hSV); go_simp; (try with_reducible rfl)
  try simp only [Act.put, List.setIfInBounds_toArray, List.set_cons_zero, List.set_cons_succ]
  refine wpAnyH_take (i := 7) (oi := ?oip7) (v := ?vp7) ?hip7 (by kernel_rfl) (by kernel_rfl) (by kernel_rfl) ?hQp7 (Or.inl ⟨?h1p7, ?hyp7⟩) hHeld ?restp7
  case hip7 => (simp only [List.getElem?_toArray, List.getElem?_cons_succ, List.getElem?_cons_zero]; rfl)
  case hQp7 => exact fun _ _ _ h => h
  case h1p7 => rfl
  case hyp7 => intro V hSV; (try dsimp only at hSV); go_simp; (try with_reducible rfl)
  try simp only [Act.put, List.setIfInBounds_toArray, List.set_cons_zero, List.set_cons_succ]
  refine wpAnyH_take (i := 8) (oi := ?oip8) (v := ?vp8) ?hip8 (by kernel_rfl) (by kernel_rfl) (by kernel_rfl) ?hQp8 (Or.inl ⟨?h1p8, ?hyp8⟩) hHeld ?restp8
  case hip8 => (simp only [List.getElem?_toArray, List.getElem?_cons_succ, List.getElem?_cons_zero]; rfl)
  case hQp8 => exact fun _ _ _ h => h
  case h1p8 => rfl
  case hyp8 => intro V hSV; (try dsimp only at hSV); go_simp; (try with_reducible rfl)
  try simp only [Act.put, List.setIfInBounds_toArray, List.set_cons_zero, List.set_cons_succ]
  refine wpAnyH_take (i := 9) (oi := ?oip9) (v := ?vp9) ?hip9 (by kernel_rfl) (by kernel_rfl) (by kernel_rfl) ?hQp9 (Or.inl ⟨?h1p9, ?hyp9⟩) hHeld ?restp9
  case hip9 => (simp only [List.getElem?_toArray, List.getElem?_cons_succ, List.getElem?_cons_zero]; rfl)
  case hQp9 => exact fun _ _ _ h => h
  case h1p9 => rfl
  case hyp9 => intro V hSV; (try dsimp only at hSV); go_simp; (try with_reducible rfl)
  try simp only [Act.put, List.setIfInBounds_toArray, List.set_cons_zero, List.set_cons_succ]
  refine wpAnyH_take (i := 10) (oi := ?oip10) (v := undef) ?hip10 (by kernel_rfl) (by kernel_rfl) (by kernel_rfl) ?hQp10 (Or.inr ⟨?h1p10, rfl⟩) hHeld ?restp10
  case hip10 => (simp only [List.getElem?_toArray, List.getElem?_cons_succ, List.getElem?_cons_zero]; rfl)
  case hQp10 => exact fun _ _ _ h => h
  case h1p10 => rfl
  try simp only [Act.put, List.setIfInBounds_toArray, List.set_cons_zero, List.set_cons_succ]
  refine wpAnyH_take (i := 11) (oi := ?oip11) (v := undef) ?hip11 (by kernel_rfl) (by kernel_rfl) (by kernel_rfl) ?hQp11 (Or.inr ⟨?h1p11, rfl⟩) hHeld ?restp11
  case hip11 => (simp only [List.getElem?_toArray, List.getElem?_cons_succ, List.getElem?_cons_zero]; rfl)
  case hQp11 => exact fun _ _ _ h => h
  case h1p11 => rfl
  try simp only [Act.put, List.setIfInBounds_toArray, List.set_cons_zero, List.set_cons_succ]
  refine wpAnyH_take (i := 12) (oi := ?oip12) (v := undef) ?hip12 (by kernel_rfl) (by kernel_rfl) (by kernel_rfl) ?hQp12 (Or.inr ⟨?h1p12, rfl⟩) hHeld ?restp12
  case hip12 => (simp only [List.getElem?_toArray, List.getElem?_cons_succ, List.getElem?_cons_zero]; rfl)
  case hQp12 => exact fun _ _ _ h => h
  case h1p12 => rfl
  try simp only [Act.put, List.setIfInBounds_toArray, List.set_cons_zero, List.set_cons_succ]
  refine wpAnyH_take (i := 13) (oi := ?oip13) (v := ?vp13) ?hip13 (by kernel_rfl) (by kernel_rfl) (by kernel_rfl) ?hQp13 (Or.inl ⟨?h1p13, ?hyp13⟩) hHeld ?restp13
  case hip13 => (simp only [List.getElem?_toArray, List.getElem?_cons_succ, List.getElem?_cons_zero]; rfl)
  case hQp13 => exact fun _ _ _ h => h
  case h1p13 => rfl
  case hyp13 => intro V hSV; (try dsimp only at hSV); go_simp; (try with_reducible rfl)
  try simp only [Act.put, List.setIfInBounds_toArray, List.set_cons_zero, List.set_cons_succ]
  refine wpAnyH_take (i := 14) (oi := ?oip14) (v := ?vp14) ?hip14 (by kernel_rfl) (by kernel_rfl) (by kernel_rfl) ?hQp14 (Or.inl ⟨?h1p14, ?hyp14⟩) hHeld ?restp14
  case hip14 => (simp only [List.getElem?_toArray, List.getElem?_cons_succ, List.getElem?_cons_zero]; rfl)
  case hQp14 => exact fun _ _ _ h => h
  case h1p14 => rfl
  case hyp14 => intro V hSV; (try dsimp only at hSV); go_simp; (try with_reducible rfl)
  try simp only [Act.put, List.setIfInBounds_toArray, List.set_cons_zero, List.set_cons_succ]
  refine wpAnyH_take (i := 15) (oi := ?oip15) (v := undef) ?hip15 (by kernel_rfl) (by kernel_rfl) (by kernel_rfl) ?hQp15 (Or.inr ⟨?h1p15, rfl⟩) hHeld ?restp15
  case hip15 => (simp only [List.getElem?_toArray, List.getElem?_cons_succ, List.getElem?_cons_zero]; rfl)
  case hQp15 => exact fun _ _ _ h => h
  case h1p15 => rfl
  try simp only [Act.put, List.setIfInBounds_toArray, List.set_cons_zero, List.set_cons_succ]
  refine wpAnyH_take (i := 16) (oi := ?oip16) (v := undef) ?hip16 (by kernel_rfl) (by kernel_rfl) (by kernel_rfl) ?hQp16 (Or.inr ⟨?h1p16, rfl⟩) hHeld ?restp16
  case hip16 => (simp only [List.getElem?_toArray, List.getElem?_cons_succ, List.getElem?_cons_zero]; rfl)
  case hQp16 => exact fun _ _ _ h => h
  case h1p16 => rfl
  try simp only [Act.put, List.setIfInBounds_toArray, List.set_cons_zero, List.set_cons_succ]
  refine wpAnyH_take (i := 17) (oi := ?oip17) (v := undef) ?hip17 (by kernel_rfl) (by kernel_rfl) (by kernel_rfl) ?hQp17 (Or.inr ⟨?h1p17, rfl⟩) hHeld ?restp17
  case hip17 => (simp only [List.getElem?_toArray, List.getElem?_cons_succ, List.getElem?_cons_zero]; rfl)
  case hQp17 => exact fun _ _ _ h => h
  case h1p17 => rfl
  try simp only [Act.put, List.setIfInBounds_toArray, List.set_cons_zero, List.set_cons_succ]
  refine wpAnyH_take (i := 18) (oi := ?oip18) (v := undef) ?hip18 (by kernel_rfl) (by kernel_rfl) (by kernel_rfl) ?hQp18 (Or.inr ⟨?h1p18, rfl⟩) hHeld ?restp18
  case hip18 => (simp only [List.getElem?_toArray, List.getElem?_cons_succ, List.getElem?_cons_zero]; rfl)
  case hQp18 => exact fun _ _ _ h => h
  case h1p18 => rfl
  try simp only [Act.put, List.setIfInBounds_toArray, List.set_cons_zero, List.set_cons_succ]
  refine wpAnyH_take (i := 19) (oi := ?oip19) (v := undef) ?hip19 (by kernel_rfl) (by kernel_rfl) (by kernel_rfl) ?hQp19 (Or.inr ⟨?h1p19, rfl⟩) hHeld ?restp19
  case hip19 => (simp only [List.getElem?_toArray, List.getElem?_cons_succ, List.getElem?_cons_zero]; rfl)
  case hQp19 => exact fun _ _ _ h => h
  case h1p19 => rfl
  try simp only [Act.put, List.setIfInBounds_toArray, List.set_cons_zero, List.set_cons_succ]
  refine wpAnyH_take (i := 20) (oi := ?oip20) (v := ?vp20) ?hip20 (by kernel_rfl) (by kernel_rfl) (by kernel_rfl) ?hQp20 (Or.inl ⟨?h1p20, ?hyp20⟩) hHeld ?restp20
  case hip20 => (simp only [List.getElem?_toArray, List.getElem?_cons_succ, List.getElem?_cons_zero]; rfl)
  case hQp20 => exact fun _ _ _ h => h
  case h1p20 => rfl
  case hyp20 => intro V hSV; (try dsimp only at hSV); go_simp; (try with_reducible rfl)
  try simp only [Act.put, List.setIfInBounds_toArray, List.set_cons_zero, List.set_cons_succ]
  refine wpAnyH_take (i := 21) (oi := ?oip21) (v := ?vp21) ?hip21 (by kernel_rfl) (by kernel_rfl) (by kernel_rfl) ?hQp21 (Or.inl ⟨?h1p21, ?hyp21⟩) hHeld ?restp21
  case hip21 => (simp only [List.getElem?_toArray, List.getElem?_cons_succ, List.getElem?_cons_zero]; rfl)
  case hQp21 => exact fun _ _ _ h => h
  case h1p21 => rfl
  case hyp21 => intro V hSV; (try dsimp only at hSV); go_simp; (try with_reducible rfl)
  try simp only [Act.put, List.setIfInBounds_toArray, List.set_cons_zero, List.set_cons_succ]
  refine wpAnyH_take (i := 22) (oi := ?oip22) (v := undef) ?hip22 (by kernel_rfl) (by kernel_rfl) (by kernel_rfl) ?hQp22 (Or.inr ⟨?h1p22, rfl⟩) hHeld ?restp22
  case hip22 => (simp only [List.getElem?_toArray, List.getElem?_cons_succ, List.getElem?_cons_zero]; rfl)
  case hQp22 => exact fun _ _ _ h => h
  case h1p22 => rfl
  try simp only [Act.put, List.setIfInBounds_toArray, List.set_cons_zero, List.set_cons_succ]
  refine wpAnyH_take (i := 23) (oi := ?oip23) (v := undef) ?hip23 (by kernel_rfl) (by kernel_rfl) (by kernel_rfl) ?hQp23 (Or.inr ⟨?h1p23, rfl⟩) hHeld ?restp23
  case hip23 => (simp only [List.getElem?_toArray, List.getElem?_cons_succ, List.getElem?_cons_zero]; rfl)
  case hQp23 => exact fun _ _ _ h => h
  case h1p23 => rfl
  try simp only [Act.put, List.setIfInBounds_toArray, List.set_cons_zero, List.set_cons_succ]
  refine wpAnyH_take (i := 24) (oi := ?oip24) (v := undef) ?hip24 (by kernel_rfl) (by kernel_rfl) (by kernel_rfl) ?hQp24 (Or.inr ⟨?h1p24, rfl⟩) hHeld ?restp24
  case hip24 => (simp only [List.getElem?_toArray, List.getElem?_cons_succ, List.getElem?_cons_zero]; rfl)
  case hQp24 => exact fun _ _ _ h => h
  case h1p24 => rfl
  try simp only [Act.put, List.setIfInBounds_toArray, List.set_cons_zero, List.set_cons_succ]
  refine wpAnyH_take (i := 25) (oi := ?oip25) (v := ?vp25) ?hip25 (by kernel_rfl) (by kernel_rfl) (by kernel_rfl) ?hQp25 (Or.inl ⟨?h1p25, ?hyp25⟩) hHeld ?restp25
  case hip25 => (simp only [List.getElem?_toArray, List.getElem?_cons_succ, List.getElem?_cons_zero]; rfl)
  case hQp25 => exact fun _ _ _ h => h
  case h1p25 => rfl
  case hyp25 => intro V hSV; (try dsimp only at hSV); go_simp; (try with_reducible rfl)
  try simp only [Act.put, List.setIfInBounds_toArray, List.set_cons_zero, List.set_cons_succ]
  refine wpAnyH_take (i := 26) (oi := ?oip26) (v := ?vp26) ?hip26 (by kernel_rfl) (by kernel_rfl) (by kernel_rfl) ?hQp26 (Or.inl ⟨?h1p26, ?hyp26⟩) hHeld ?restp26
  case hip26 => (simp only [List.getElem?_toArray, List.getElem?_cons_succ, List.getElem?_cons_zero]; rfl)
  case hQp26 => exact fun _ _ _ h => h
  case h1p26 => rfl
  case hyp26 => intro V hSV; (try dsimp only at hSV); go_simp; (try with_reducible rfl)
  try simp only [Act.put, List.setIfInBounds_toArray, List.set_cons_zero, List.set_cons_succ]
  refine wpAnyH_take (i := 27) (oi := ?oip27) (v := undef) ?hip27 (by kernel_rfl) (by kernel_rfl) (by kernel_rfl) ?hQp27 (Or.inr ⟨?h1p27, rfl⟩) hHeld ?restp27
  case hip27 => (simp only [List.getElem?_toArray, List.getElem?_cons_succ, List.getElem?_cons_zero]; rfl)
  case hQp27 => exact fun _ _ _ h => h
  case h1p27 => rfl
  try simp only [Act.put, List.setIfInBounds_toArray, List.set_cons_zero, List.set_cons_succ]
  refine wpAnyH_take (i := 28) (oi := ?oip28) (v := undef) ?hip28 (by kernel_rfl) (by kernel_rfl) (by kernel_rfl) ?hQp28 (Or.inr ⟨?h1p28, rfl⟩) hHeld ?restp28
  case hip28 => (simp only [List.getElem?_toArray, List.getElem?_cons_succ, List.getElem?_cons_zero]; rfl)
  case hQp28 => exact fun _ _ _ h => h
  case h1p28 => rfl
  try simp only [Act.put, List.setIfInBounds_toArray, List.set_cons_zero, List.set_cons_succ]
  refine wpAnyH_take (i := 29) (oi := ?oip29) (v := undef) ?hip29 (by kernel_rfl) (by kernel_rfl) (by kernel_rfl) ?hQp29 (Or.inr ⟨?h1p29, rfl⟩) hHeld ?restp29
  case hip29 => (simp only [List.getElem?_toArray, List.getElem?_cons_succ, List.getElem?_cons_zero]; rfl)
  case hQp29 => exact fun _ _ _ h => h
  case h1p29 => rfl
  try simp only [Act.put, List.setIfInBounds_toArray, List.set_cons_zero, List.set_cons_succ]
  refine wpAnyH_take (i := 30) (oi := ?oip30) (v := undef) ?hip30 (by kernel_rfl) (by kernel_rfl) (by kernel_rfl) ?hQp30 (Or.inr ⟨?h1p30, rfl⟩) hHeld ?restp30
  case hip30 => (simp only [List.getElem?_toArray, List.getElem?_cons_succ, List.getElem?_cons_zero]; rfl)
  case hQp30 => exact fun _ _ _ h => h
  case h1p30 => rfl
  try simp only [Act.put, List.setIfInBounds_toArray, List.set_cons_zero, List.set_cons_succ]
  refine wpAnyH_take (i := 31) (oi := ?oip31) (v := undef) ?hip31 (by kernel_rfl) (by kernel_rfl) (by kernel_rfl) ?hQp31 (Or.inr ⟨?h1p31, rfl⟩) hHeld ?restp31
  case hip31 => (simp only [List.getElem?_toArray, List.getElem?_cons_succ, List.getElem?_cons_zero]; rfl)
  case hQp31 => exact fun _ _ _ h => h
  case h1p31 => rfl
  try simp only [Act.put, List.setIfInBounds_toArray, List.set_cons_zero, List.set_cons_succ]
  refine wpAnyH_take (i := 32) (oi := ?oip32) (v := ?vp32) ?hip32 (by kernel_rfl) (by kernel_rfl) (by kernel_rfl) ?hQp32 (Or.inl ⟨?h1p32, ?hyp32⟩) hHeld ?restp32
  case hip32 => (simp only [List.getElem?_toArray, List.getElem?_cons_succ, List.getElem?_cons_zero]; rfl)
  case hQp32 => exact fun _ _ _ h => h
  case h1p32 => rfl
  case hyp32 => intro V hSV; (try dsimp only at hSV); go_simp; (try with_reducible rfl)
  try simp only [Act.put, List.setIfInBounds_toArray, List.set_cons_zero, List.set_cons_succ]
  refine wpAnyH_take (i := 33) (oi := ?oip33) (v := ?vp33) ?hip33 (by kernel_rfl) (by kernel_rfl) (by kernel_rfl) ?hQp33 (Or.inl ⟨?h1p33, ?hyp33⟩) hHeld ?restp33
  case hip33 => (simp only [List.getElem?_toArray, List.getElem?_cons_succ, List.getElem?_cons_zero]; rfl)
  case hQp33 => exact fun _ _ _ h => h
  case h1p33 => rfl
  case hyp33 => intro V hSV; (try dsimp only at hSV); go_simp; (try with_reducible rfl)
  try simp only [Act.put, List.setIfInBounds_toArray, List.set_cons_zero, List.set_cons_succ]
  refine wpAnyH_done (by kernel_rfl) ?_ _
  go_wp2
  go_ret
  exact ⟨rfl, HB.out.trans ((HB1.out.trans ((hS2.drew).mono (by omega))).mono (by omega))⟩
end Go.Proofs.YtgaoeoijdpdjiaaGreatDoor

namespace Go.Proofs.YtgaoeoijdpdjiaaGreatDoor
open Go.RowKit
set_option maxRecDepth 20000 in
set_option maxHeartbeats 8000000 in
theorem placed_3 (k x a0 a1 a3 a4 a5 : Int) (b t l q ch : Nat) (p1 p2 p3 : Int) (w : World) (h2 : t ≤ 4) (h4 : l ≤ 3) (hq : q < l)
    (hsz : ∀ V : World, Calls Tryz.prog 89 #[.agg #[.int .i64 k, .int .i64 b, .int .i64 x, .int .i64 t, .int .i64 l]] V fun r w' => r = .returned (.agg #[.int .i64 a0, .int .i64 a1, .int .i64 ch, .int .i64 a3, .int .i64 a4, .int .i64 a5]) ∧ Below V.heap.size V w') (e1 : 0 ≤ p1) (e2 : p1 < ((((2 ^ t) ^ (l - 1 - q) : Nat)) : Int)) (e3 : p2 < 0) :
    Calls Tryz.prog 51 #[.agg #[.int .i64 k, .int .i64 b, .int .i64 x, .int .i64 t, .int .i64 l], .agg #[.int .i64 q, .int .i64 p1, .int .i64 p2, .int .i64 p3]] w fun e w' => e = .returned (.bool false) ∧ Below w.heap.size w w' := by
  have ha : 2 ^ t ≤ 16 := Nat.le_trans (Nat.pow_le_pow_right (by decide) h2) (by decide)
  have hpl : (2 ^ t) ^ (l - 1 - q) ≤ 65536 := Nat.le_trans (Nat.pow_le_pow_left ha _) (Nat.le_trans (Nat.pow_le_pow_right (by decide) (show l - 1 - q ≤ 2 by omega)) (by decide))
  have HLV := hide (fun V : World => leaves_any t k b x l V h2)
  have HPW := hide (fun V : World => power_any (2 ^ t) (l - 1 - q) V ha (by omega) hpl Nat.one_le_two_pow)
  rw [show ((l - 1 - q : Nat) : Int) = (l : Int) - 1 - (q : Int) by omega] at HPW
  generalize ((2 ^ t) ^ (l - 1 - q) : Nat) = tr at HPW e2
  generalize (2 ^ t : Nat) = lv at HLV HPW 
  clear ha hpl
  have HSZ := hide hsz
  have g0 : ¬ ((q : Int) < 0) := by omega
  have g1 : ¬ ((l : Int) ≤ (q : Int)) := by omega
  have hwa : IntKind.i64.wrap ((l : Int) - 1) = (l : Int) - 1 := by rw [IntKind.wrap_i64]; omega
  have hwb : IntKind.i64.wrap ((l : Int) - 1 - (q : Int)) = (l : Int) - 1 - (q : Int) := by rw [IntKind.wrap_i64]; omega
  obtain ⟨W0, hW⟩ : ∃ W0, (w.alloc (.cells #[.int .i64 k, .int .i64 b, .int .i64 x, .int .i64 t, .int .i64 l] 23)).alloc (.cells #[.int .i64 q, .int .i64 p1, .int .i64 p2, .int .i64 p3] 27) = W0 := ⟨_, rfl⟩
  have HF := hide (show FiveC w.heap.size W0 k b x t l by subst hW; refine ⟨?_, ?_, ?_, ?_, ?_⟩ <;> simp [go_sem])
  have HP := hide (show FourC (w.heap.size + 1) W0 q p1 p2 p3 by subst hW; refine ⟨?_, ?_, ?_, ?_⟩ <;> simp [go_sem])
  have HB := hide (show Below w.heap.size w W0 by subst hW; exact ((Below.refl _ _).alloc (Nat.le_refl _) _).alloc (by simp) _)
  have hz : W0.heap.size ≤ w.heap.size + 2 := by subst hW; simp
  have hz' : w.heap.size + 2 ≤ W0.heap.size := by subst hW; simp
  obtain ⟨c0, c1, c2, c3, c4⟩ := HF.out
  obtain ⟨d0, d1, d2, d3⟩ := HP.out
  clear hsz
  go_enter Tryz.func51, Tryz.ntmps51
  go_wp2_with fail
  try rw [hW]
  refine (HSZ.out _).mono ?_
  rintro e w1 ⟨rfl, hb1⟩
  have HB1 := hide (show Below W0.heap.size W0 (w1.alloc (.cells #[.int .i64 a0, .int .i64 a1, .int .i64 ch, .int .i64 a3, .int .i64 a4, .int .i64 a5] 127)) from (hb1.mono (Nat.le_refl _)).alloc hb1.size _)
  have HZ := hide (Blk.new w1 [.int .i64 a0, .int .i64 a1, .int .i64 ch, .int .i64 a3, .int .i64 a4, .int .i64 a5] 127)
  have hz1 : (w1.alloc (.cells #[.int .i64 a0, .int .i64 a1, .int .i64 ch, .int .i64 a3, .int .i64 a4, .int .i64 a5] 127)).heap.size = w1.heap.size + 1 := by simp
  have hzz := hb1.size
  obtain ⟨c0', c1', c2', c3', c4'⟩ := HF.out.below hb1 (by omega)
  obtain ⟨d0', d1', d2', d3'⟩ := HP.out.below hb1 (by omega)
  clear hb1 c0 c1 c2 c3 c4 d0 d1 d2 d3 hW
  go_wp2_with fail
  obtain ⟨W1, hW1⟩ : ∃ W1, w1.alloc (.cells #[.int .i64 a0, .int .i64 a1, .int .i64 ch, .int .i64 a3, .int .i64 a4, .int .i64 a5] 127) = W1 := ⟨_, rfl⟩
  rw [hW1] at HB1 HZ hz1 ⊢
  clear hW1 c0' c1' c2' c3' c4' d0' d1' d2' d3'
  have HS := hide (fun (V : World) (h : Below W1.heap.size W1 V) => (by
    have h0 := heldB HB1.out (h.mono (Nat.le_refl _)) (Nat.le_refl _)
    obtain ⟨c0, c1, c2, c3, c4⟩ := HF.out.below h0 (by omega)
    obtain ⟨d0, d1, d2, d3⟩ := HP.out.below h0 (by omega)
    exact ⟨c0, c1, c2, c3, c4, d0, d1, d2, d3, (HZ.out.on h).cell 2, h⟩ : V.cell? ⟨w.heap.size, 0, none⟩ = some (.int .i64 k) ∧ V.cell? ⟨w.heap.size, 1, none⟩ = some (.int .i64 b) ∧ V.cell? ⟨w.heap.size, 2, none⟩ = some (.int .i64 x) ∧ V.cell? ⟨w.heap.size, 3, none⟩ = some (.int .i64 t) ∧ V.cell? ⟨w.heap.size, 4, none⟩ = some (.int .i64 l) ∧ V.cell? ⟨w.heap.size + 1, 0, none⟩ = some (.int .i64 q) ∧ V.cell? ⟨w.heap.size + 1, 1, none⟩ = some (.int .i64 p1) ∧ V.cell? ⟨w.heap.size + 1, 2, none⟩ = some (.int .i64 p2) ∧ V.cell? ⟨w.heap.size + 1, 3, none⟩ = some (.int .i64 p3) ∧ V.cell? ⟨w1.heap.size, 2, none⟩ = some (.int .i64 ch) ∧ Below W1.heap.size W1 V))
  go_region_held3 (fun V => V.cell? ⟨w.heap.size, 0, none⟩ = some (.int .i64 k) ∧ V.cell? ⟨w.heap.size, 1, none⟩ = some (.int .i64 b) ∧ V.cell? ⟨w.heap.size, 2, none⟩ = some (.int .i64 x) ∧ V.cell? ⟨w.heap.size, 3, none⟩ = some (.int .i64 t) ∧ V.cell? ⟨w.heap.size, 4, none⟩ = some (.int .i64 l) ∧ V.cell? ⟨w.heap.size + 1, 0, none⟩ = some (.int .i64 q) ∧ V.cell? ⟨w.heap.size + 1, 1, none⟩ = some (.int .i64 p1) ∧ V.cell? ⟨w.heap.size + 1, 2, none⟩ = some (.int .i64 p2) ∧ V.cell? ⟨w.heap.size + 1, 3, none⟩ = some (.int .i64 p3) ∧ V.cell? ⟨w1.heap.size, 2, none⟩ = some (.int .i64 ch) ∧ Below W1.heap.size W1 V) (first | exact HS.out _ hS2 | exact HS.out _ hS1 | exact HS.out _ (Below.refl _ _).drew) (first | (go_at_call 90; refine (HLV.out _).mono ?_; rintro e w2 ⟨rfl, hb2⟩; have hS1 := heldB (Below.refl W1.heap.size W1).drew hb2 (Nat.le_refl _)) | (go_at_call 55; refine (HPW.out _).mono ?_; rintro e w3 ⟨rfl, rfl⟩; have hS2 := hS1))
  go_wp2_with fail
  have d1 : decide (0 ≤ p1) = true := by simp; omega
  have d2 : decide (p1 < (tr : Int)) = true := by simp; omega
  have d3 : decide (0 ≤ p2) = false := by simp; omega
  clear e1 e2 e3
  refine wp_region_held_drew (S := fun V => V.cell? ⟨w.heap.size, 0, none⟩ = some (.int .i64 k) ∧ V.cell? ⟨w.heap.size, 1, none⟩ = some (.int .i64 b) ∧ V.cell? ⟨w.heap.size, 2, none⟩ = some (.int .i64 x) ∧ V.cell? ⟨w.heap.size, 3, none⟩ = some (.int .i64 t) ∧ V.cell? ⟨w.heap.size, 4, none⟩ = some (.int .i64 l) ∧ V.cell? ⟨w.heap.size + 1, 0, none⟩ = some (.int .i64 q) ∧ V.cell? ⟨w.heap.size + 1, 1, none⟩ = some (.int .i64 p1) ∧ V.cell? ⟨w.heap.size + 1, 2, none⟩ = some (.int .i64 p2) ∧ V.cell? ⟨w.heap.size + 1, 3, none⟩ = some (.int .i64 p3) ∧ V.cell? ⟨w1.heap.size, 2, none⟩ = some (.int .i64 ch) ∧ Below W1.heap.size W1 V) (by kernel_rfl) (HS.out _ (hS2.drew)) (fun hHeld => ?_)
  refine wpAnyH_take (i := 0) (oi := ?oip0) (v := ?vp0) ?hip0 (by kernel_rfl) (by kernel_rfl) (by kernel_rfl) ?hQp0 (Or.inl ⟨?h1p0, ?hyp0⟩) hHeld ?restp0
  case hip0 => (simp only [List.getElem?_toArray, List.getElem?_cons_zero]; rfl)
  case hQp0 => exact fun _ _ _ h => h
  case h1p0 => rfl
  case hyp0 => intro V hSV; (try dsimp only at hSV); go_simp; (try with_reducible rfl)
  try simp only [Act.put, List.setIfInBounds_toArray, List.set_cons_zero, List.set_cons_succ]
  refine wpAnyH_take (i := 1) (oi := ?oip1) (v := ?vp1) ?hip1 (by kernel_rfl) (by kernel_rfl) (by kernel_rfl) ?hQp1 (Or.inl ⟨?h1p1, ?hyp1⟩) hHeld ?restp1
  case hip1 => (simp only [List.getElem?_toArray, List.getElem?_cons_succ, List.getElem?_cons_zero]; rfl)
  case hQp1 => exact fun _ _ _ h => h
  case h1p1 => rfl
  case hyp1 => intro V hSV; (try dsimp only at hSV); go_simp; (try with_reducible rfl)
  try simp only [Act.put, List.setIfInBounds_toArray, List.set_cons_zero, List.set_cons_succ]
  refine wpAnyH_take (i := 2) (oi := ?oip2) (v := ?vp2) ?hip2 (by kernel_rfl) (by kernel_rfl) (by kernel_rfl) ?hQp2 (Or.inl ⟨?h1p2, ?hyp2⟩) hHeld ?restp2
  case hip2 => (simp only [List.getElem?_toArray, List.getElem?_cons_succ, List.getElem?_cons_zero]; rfl)
  case hQp2 => exact fun _ _ _ h => h
  case h1p2 => rfl
  case hyp2 => intro V hSV; (try dsimp only at hSV); go_simp; (try with_reducible rfl)
  try simp only [Act.put, List.setIfInBounds_toArray, List.set_cons_zero, List.set_cons_succ]
  refine wpAnyH_take (i := 3) (oi := ?oip3) (v := ?vp3) ?hip3 (by kernel_rfl) (by kernel_rfl) (by kernel_rfl) ?hQp3 (Or.inl ⟨?h1p3, ?hyp3⟩) hHeld ?restp3
  case hip3 => (simp only [List.getElem?_toArray, List.getElem?_cons_succ, List.getElem?_cons_zero]; rfl)
  case hQp3 => exact fun _ _ _ h => h
  case h1p3 => rfl
  case hyp3 => intro V hSV; (try dsimp only at hSV); go_simp; (try with_reducible rfl)
  try simp only [Act.put, List.setIfInBounds_toArray, List.set_cons_zero, List.set_cons_succ]
  refine wpAnyH_take (i := 4) (oi := ?oip4) (v := ?vp4) ?hip4 (by kernel_rfl) (by kernel_rfl) (by kernel_rfl) ?hQp4 (Or.inl ⟨?h1p4, ?hyp4⟩) hHeld ?restp4
  case hip4 => (simp only [List.getElem?_toArray, List.getElem?_cons_succ, List.getElem?_cons_zero]; rfl)
  case hQp4 => exact fun _ _ _ h => h
  case h1p4 => rfl
  case hyp4 => intro V hSV; (try dsimp only at hSV); go_simp; (try with_reducible rfl)
  try simp only [Act.put, List.setIfInBounds_toArray, List.set_cons_zero, List.set_cons_succ]
  refine wpAnyH_take (i := 5) (oi := ?oip5) (v := ?vp5) ?hip5 (by kernel_rfl) (by kernel_rfl) (by kernel_rfl) ?hQp5 (Or.inl ⟨?h1p5, ?hyp5⟩) hHeld ?restp5
  case hip5 => (simp only [List.getElem?_toArray, List.getElem?_cons_succ, List.getElem?_cons_zero]; rfl)
  case hQp5 => exact fun _ _ _ h => h
  case h1p5 => rfl
  case hyp5 => intro V hSV; (try dsimp only at hSV); go_simp; (try with_reducible rfl)
  try simp only [Act.put, List.setIfInBounds_toArray, List.set_cons_zero, List.set_cons_succ]
  refine wpAnyH_take (i := 6) (oi := ?oip6) (v := ?vp6) ?hip6 (by kernel_rfl) (by kernel_rfl) (by kernel_rfl) ?hQp6 (Or.inl ⟨?h1p6, ?hyp6⟩) hHeld ?restp6
  case hip6 => (simp only [List.getElem?_toArray, List.getElem?_cons_succ, List.getElem?_cons_zero]; rfl)
  case hQp6 => exact fun _ _ _ h => h
  case h1p6 => rfl
  case hyp6 => intro V hSV; (try dsimp only at hSV); go_simp; (try with_reducible rfl)
  try simp only [Act.put, List.setIfInBounds_toArray, List.set_cons_zero, List.set_cons_succ]
  refine wpAnyH_take (i := 7) (oi := ?oip7) (v := ?vp7) ?hip7 (by kernel_rfl) (by kernel_rfl) (by kernel_rfl) ?hQp7 (Or.inl ⟨?h1p7, ?hyp7⟩) hHeld ?restp7
  case hip7 => (simp only [List.getElem?_toArray, List.getElem?_cons_succ, List.getElem?_cons_zero]; rfl)
  case hQp7 => exact fun _ _ _ h => h
  case h1p7 => rfl
  case hyp7 => intro V hSV; (try dsimp only at hSV); go_simp; (try with_reducible rfl)
  try simp only [Act.put, List.setIfInBounds_toArray, List.set_cons_zero, List.set_cons_succ]
  refine wpAnyH_take (i := 8) (oi := ?oip8) (v := ?vp8) ?hip8 (by kernel_rfl) (by kernel_rfl) (by kernel_rfl) ?hQp8 (Or.inl ⟨?h1p8, ?hyp8⟩) hHeld ?restp8
  case hip8 => (simp only [List.getElem?_toArray, List.getElem?_cons_succ, List.getElem?_cons_zero]; rfl)
  case hQp8 => exact fun _ _ _ h => h
  case h1p8 => rfl
  case hyp8 => intro V hSV; (try dsimp only at hSV); go_simp; (try with_reducible rfl)
  try simp only [Act.put, List.setIfInBounds_toArray, List.set_cons_zero, List.set_cons_succ]
  refine wpAnyH_take (i := 9) (oi := ?oip9) (v := ?vp9) ?hip9 (by kernel_rfl) (by kernel_rfl) (by kernel_rfl) ?hQp9 (Or.inl ⟨?h1p9, ?hyp9⟩) hHeld ?restp9
  case hip9 => (simp only [List.getElem?_toArray, List.getElem?_cons_succ, List.getElem?_cons_zero]; rfl)
  case hQp9 => exact fun _ _ _ h => h
  case h1p9 => rfl
  case hyp9 => intro V hSV; (try dsimp only at hSV); go_simp; (try with_reducible rfl)
  try simp only [Act.put, List.setIfInBounds_toArray, List.set_cons_zero, List.set_cons_succ]
  refine wpAnyH_take (i := 10) (oi := ?oip10) (v := ?vp10) ?hip10 (by kernel_rfl) (by kernel_rfl) (by kernel_rfl) ?hQp10 (Or.inl ⟨?h1p10, ?hyp10⟩) hHeld ?restp10
  case hip10 => (simp only [List.getElem?_toArray, List.getElem?_cons_succ, List.getElem?_cons_zero]; rfl)
  case hQp10 => exact fun _ _ _ h => h
  case h1p10 => rfl
  case hyp10 => intro V hSV; (try dsimp only at hSV); go_simp; (try with_reducible rfl)
  try simp only [Act.put, List.setIfInBounds_toArray, List.set_cons_zero, List.set_cons_succ]
  refine wpAnyH_take (i := 11) (oi := ?oip11) (v := ?vp11) ?hip11 (by kernel_rfl) (by kernel_rfl) (by kernel_rfl) ?hQp11 (Or.inl ⟨?h1p11, ?hyp11⟩) hHeld ?restp11
  case hip11 => (simp only [List.getElem?_toArray, List.getElem?_cons_succ, List.getElem?_cons_zero]; rfl)
  case hQp11 => exact fun _ _ _ h => h
  case h1p11 => rfl
  case hyp11 => intro V hSV; (try dsimp only at hSV); go_simp; (try with_reducible rfl)
  try simp only [Act.put, List.setIfInBounds_toArray, List.set_cons_zero, List.set_cons_succ]
  refine wpAnyH_take (i := 12) (oi := ?oip12) (v := ?vp12) ?hip12 (by kernel_rfl) (by kernel_rfl) (by kernel_rfl) ?hQp12 (Or.inl ⟨?h1p12, ?hyp12⟩) hHeld ?restp12
  case hip12 => (simp only [List.getElem?_toArray, List.getElem?_cons_succ, List.getElem?_cons_zero]; rfl)
  case hQp12 => exact fun _ _ _ h => h
  case h1p12 => rfl
  case hyp12 => intro V hSV; (try dsimp only at hSV); go_simp; (try with_reducible rfl)
  try simp only [Act.put, List.setIfInBounds_toArray, List.set_cons_zero, List.set_cons_succ]
  refine wpAnyH_take (i := 13) (oi := ?oip13) (v := ?vp13) ?hip13 (by kernel_rfl) (by kernel_rfl) (by kernel_rfl) ?hQp13 (Or.inl ⟨?h1p13, ?hyp13⟩) hHeld ?restp13
  case hip13 => (simp only [List.getElem?_toArray, List.getElem?_cons_succ, List.getElem?_cons_zero]; rfl)
  case hQp13 => exact fun _ _ _ h => h
  case h1p13 => rfl
  case hyp13 => intro V hSV; (try dsimp only at hSV); go_simp; (try with_reducible rfl)
  try simp only [Act.put, List.setIfInBounds_toArray, List.set_cons_zero, List.set_cons_succ]
  refine wpAnyH_take (i := 14) (oi := ?oip14) (v := ?vp14) ?hip14 (by kernel_rfl) (by kernel_rfl) (by kernel_rfl) ?hQp14 (Or.inl ⟨?h1p14, ?hyp14⟩) hHeld ?restp14
  case hip14 => (simp only [List.getElem?_toArray, List.getElem?_cons_succ, List.getElem?_cons_zero]; rfl)
  case hQp14 => exact fun _ _ _ h => h
  case h1p14 => rfl
  case hyp14 => intro V hSV; (try dsimp only at hSV); go_simp; (try with_reducible rfl)
  try simp only [Act.put, List.setIfInBounds_toArray, List.set_cons_zero, List.set_cons_succ]
  refine wpAnyH_take (i := 15) (oi := ?oip15) (v := undef) ?hip15 (by kernel_rfl) (by kernel_rfl) (by kernel_rfl) ?hQp15 (Or.inr ⟨?h1p15, rfl⟩) hHeld ?restp15
  case hip15 => (simp only [List.getElem?_toArray, List.getElem?_cons_succ, List.getElem?_cons_zero]; rfl)
  case hQp15 => exact fun _ _ _ h => h
  case h1p15 => rfl
  try simp only [Act.put, List.setIfInBounds_toArray, List.set_cons_zero, List.set_cons_succ]
  refine wpAnyH_take (i := 16) (oi := ?oip16) (v := undef) ?hip16 (by kernel_rfl) (by kernel_rfl) (by kernel_rfl) ?hQp16 (Or.inr ⟨?h1p16, rfl⟩) hHeld ?restp16
  case hip16 => (simp only [List.getElem?_toArray, List.getElem?_cons_succ, List.getElem?_cons_zero]; rfl)
  case hQp16 => exact fun _ _ _ h => h
  case h1p16 => rfl
  try simp only [Act.put, List.setIfInBounds_toArray, List.set_cons_zero, List.set_cons_succ]
  refine wpAnyH_take (i := 17) (oi := ?oip17) (v := undef) ?hip17 (by kernel_rfl) (by kernel_rfl) (by kernel_rfl) ?hQp17 (Or.inr ⟨?h1p17, rfl⟩) hHeld ?restp17
  case hip17 => (simp only [List.getElem?_toArray, List.getElem?_cons_succ, List.getElem?_cons_zero]; rfl)
  case hQp17 => exact fun _ _ _ h => h
  case h1p17 => rfl
  try simp only [Act.put, List.setIfInBounds_toArray, List.set_cons_zero, List.set_cons_succ]
  refine wpAnyH_take (i := 18) (oi := ?oip18) (v := undef) ?hip18 (by kernel_rfl) (by kernel_rfl) (by kernel_rfl) ?hQp18 (Or.inr ⟨?h1p18, rfl⟩) hHeld ?restp18
  case hip18 => (simp only [List.getElem?_toArray, List.getElem?_cons_succ, List.getElem?_cons_zero]; rfl)
  case hQp18 => exact fun _ _ _ h => h
  case h1p18 => rfl
  try simp only [Act.put, List.setIfInBounds_toArray, List.set_cons_zero, List.set_cons_succ]
  refine wpAnyH_take (i := 19) (oi := ?oip19) (v := undef) ?hip19 (by kernel_rfl) (by kernel_rfl) (by kernel_rfl) ?hQp19 (Or.inr ⟨?h1p19, rfl⟩) hHeld ?restp19
  case hip19 => (simp only [List.getElem?_toArray, List.getElem?_cons_succ, List.getElem?_cons_zero]; rfl)
  case hQp19 => exact fun _ _ _ h => h
  case h1p19 => rfl
  try simp only [Act.put, List.setIfInBounds_toArray, List.set_cons_zero, List.set_cons_succ]
  refine wpAnyH_take (i := 20) (oi := ?oip20) (v := ?vp20) ?hip20 (by kernel_rfl) (by kernel_rfl) (by kernel_rfl) ?hQp20 (Or.inl ⟨?h1p20, ?hyp20⟩) hHeld ?restp20
  case hip20 => (simp only [List.getElem?_toArray, List.getElem?_cons_succ, List.getElem?_cons_zero]; rfl)
  case hQp20 => exact fun _ _ _ h => h
  case h1p20 => rfl
  case hyp20 => intro V hSV; (try dsimp only at hSV); go_simp; (try with_reducible rfl)
  try simp only [Act.put, List.setIfInBounds_toArray, List.set_cons_zero, List.set_cons_succ]
  refine wpAnyH_take (i := 21) (oi := ?oip21) (v := ?vp21) ?hip21 (by kernel_rfl) (by kernel_rfl) (by kernel_rfl) ?hQp21 (Or.inl ⟨?h1p21, ?hyp21⟩) hHeld ?restp21
  case hip21 => (simp only [List.getElem?_toArray, List.getElem?_cons_succ, List.getElem?_cons_zero]; rfl)
  case hQp21 => exact fun _ _ _ h => h
  case h1p21 => rfl
  case hyp21 => intro V hSV; (try dsimp only at hSV); go_simp; (try with_reducible rfl)
  try simp only [Act.put, List.setIfInBounds_toArray, List.set_cons_zero, List.set_cons_succ]
  refine wpAnyH_take (i := 22) (oi := ?oip22) (v := undef) ?hip22 (by kernel_rfl) (by kernel_rfl) (by kernel_rfl) ?hQp22 (Or.inr ⟨?h1p22, rfl⟩) hHeld ?restp22
  case hip22 => (simp only [List.getElem?_toArray, List.getElem?_cons_succ, List.getElem?_cons_zero]; rfl)
  case hQp22 => exact fun _ _ _ h => h
  case h1p22 => rfl
  try simp only [Act.put, List.setIfInBounds_toArray, List.set_cons_zero, List.set_cons_succ]
  refine wpAnyH_take (i := 23) (oi := ?oip23) (v := undef) ?hip23 (by kernel_rfl) (by kernel_rfl) (by kernel_rfl) ?hQp23 (Or.inr ⟨?h1p23, rfl⟩) hHeld ?restp23
  case hip23 => (simp only [List.getElem?_toArray, List.getElem?_cons_succ, List.getElem?_cons_zero]; rfl)
  case hQp23 => exact fun _ _ _ h => h
  case h1p23 => rfl
  try simp only [Act.put, List.setIfInBounds_toArray, List.set_cons_zero, List.set_cons_succ]
  refine wpAnyH_take (i := 24) (oi := ?oip24) (v := undef) ?hip24 (by kernel_rfl) (by kernel_rfl) (by kernel_rfl) ?hQp24 (Or.inr ⟨?h1p24, rfl⟩) hHeld ?restp24
  case hip24 => (simp only [List.getElem?_toArray, List.getElem?_cons_succ, List.getElem?_cons_zero]; rfl)
  case hQp24 => exact fun _ _ _ h => h
  case h1p24 => rfl
  try simp only [Act.put, List.setIfInBounds_toArray, List.set_cons_zero, List.set_cons_succ]
  refine wpAnyH_take (i := 25) (oi := ?oip25) (v := ?vp25) ?hip25 (by kernel_rfl) (by kernel_rfl) (by kernel_rfl) ?hQp25 (Or.inl ⟨?h1p25, ?hyp25⟩) hHeld ?restp25
  case hip25 => (simp only [List.getElem?_toArray, List.getElem?_cons_succ, List.getElem?_cons_zero]; rfl)
  case hQp25 => exact fun _ _ _ h => h
  case h1p25 => rfl
  case hyp25 => intro V hSV; (try dsimp only at hSV); go_simp; (try with_reducible rfl)
  try simp only [Act.put, List.setIfInBounds_toArray, List.set_cons_zero, List.set_cons_succ]
  refine wpAnyH_take (i := 26) (oi := ?oip26) (v := ?vp26) ?hip26 (by kernel_rfl) (by kernel_rfl) (by kernel_rfl) ?hQp26 (Or.inl ⟨?h1p26, ?hyp26⟩) hHeld ?restp26
  case hip26 => (simp only [List.getElem?_toArray, List.getElem?_cons_succ, List.getElem?_cons_zero]; rfl)
  case hQp26 => exact fun _ _ _ h => h
  case h1p26 => rfl
  case hyp26 => intro V hSV; (try dsimp only at hSV); go_simp; (try with_reducible rfl)
  try simp only [Act.put, List.setIfInBounds_toArray, List.set_cons_zero, List.set_cons_succ]
  refine wpAnyH_take (i := 27) (oi := ?oip27) (v := undef) ?hip27 (by kernel_rfl) (by kernel_rfl) (by kernel_rfl) ?hQp27 (Or.inr ⟨?h1p27, rfl⟩) hHeld ?restp27
  case hip27 => (simp only [List.getElem?_toArray, List.getElem?_cons_succ, List.getElem?_cons_zero]; rfl)
  case hQp27 => exact fun _ _ _ h => h
  case h1p27 => rfl
  try simp only [Act.put, List.setIfInBounds_toArray, List.set_cons_zero, List.set_cons_succ]
  refine wpAnyH_take (i := 28) (oi := ?oip28) (v := undef) ?hip28 (by kernel_rfl) (by kernel_rfl) (by kernel_rfl) ?hQp28 (Or.inr ⟨?h1p28, rfl⟩) hHeld ?restp28
  case hip28 => (simp only [List.getElem?_toArray, List.getElem?_cons_succ, List.getElem?_cons_zero]; rfl)
  case hQp28 => exact fun _ _ _ h => h
  case h1p28 => rfl
  try simp only [Act.put, List.setIfInBounds_toArray, List.set_cons_zero, List.set_cons_succ]
  refine wpAnyH_take (i := 29) (oi := ?oip29) (v := undef) ?hip29 (by kernel_rfl) (by kernel_rfl) (by kernel_rfl) ?hQp29 (Or.inr ⟨?h1p29, rfl⟩) hHeld ?restp29
  case hip29 => (simp only [List.getElem?_toArray, List.getElem?_cons_succ, List.getElem?_cons_zero]; rfl)
  case hQp29 => exact fun _ _ _ h => h
  case h1p29 => rfl
  try simp only [Act.put, List.setIfInBounds_toArray, List.set_cons_zero, List.set_cons_succ]
  refine wpAnyH_take (i := 30) (oi := ?oip30) (v := undef) ?hip30 (by kernel_rfl) (by kernel_rfl) (by kernel_rfl) ?hQp30 (Or.inr ⟨?h1p30, rfl⟩) hHeld ?restp30
  case hip30 => (simp only [List.getElem?_toArray, List.getElem?_cons_succ, List.getElem?_cons_zero]; rfl)
  case hQp30 => exact fun _ _ _ h => h
  case h1p30 => rfl
  try simp only [Act.put, List.setIfInBounds_toArray, List.set_cons_zero, List.set_cons_succ]
  refine wpAnyH_take (i := 31) (oi := ?oip31) (v := undef) ?hip31 (by kernel_rfl) (by kernel_rfl) (by kernel_rfl) ?hQp31 (Or.inr ⟨?h1p31, rfl⟩) hHeld ?restp31
  case hip31 => (simp only [List.getElem?_toArray, List.getElem?_cons_succ, List.getElem?_cons_zero]; rfl)
  case hQp31 => exact fun _ _ _ h => h
  case h1p31 => rfl
  try simp only [Act.put, List.setIfInBounds_toArray, List.set_cons_zero, List.set_cons_succ]
  refine wpAnyH_take (i := 32) (oi := ?oip32) (v := ?vp32) ?hip32 (by kernel_rfl) (by kernel_rfl) (by kernel_rfl) ?hQp32 (Or.inl ⟨?h1p32, ?hyp32⟩) hHeld ?restp32
  case hip32 => (simp only [List.getElem?_toArray, List.getElem?_cons_succ, List.getElem?_cons_zero]; rfl)
  case hQp32 => exact fun _ _ _ h => h
  case h1p32 => rfl
  case hyp32 => intro V hSV; (try dsimp only at hSV); go_simp; (try with_reducible rfl)
  try simp only [Act.put, List.setIfInBounds_toArray, List.set_cons_zero, List.set_cons_succ]
  refine wpAnyH_take (i := 33) (oi := ?oip33) (v := ?vp33) ?hip33 (by kernel_rfl) (by kernel_rfl) (by kernel_rfl) ?hQp33 (Or.inl ⟨?h1p33, ?hyp33⟩) hHeld ?restp33
  case hip33 => (simp only [List.getElem?_toArray, List.getElem?_cons_succ, List.getElem?_cons_zero]; rfl)
  case hQp33 => exact fun _ _ _ h => h
  case h1p33 => rfl
  case hyp33 => intro V hSV; (try dsimp only at hSV); go_simp; (try with_reducible rfl)
  try simp only [Act.put, List.setIfInBounds_toArray, List.set_cons_zero, List.set_cons_succ]
  refine wpAnyH_done (by kernel_rfl) ?_ _
  go_wp2
  go_ret
  exact ⟨rfl, HB.out.trans ((HB1.out.trans ((hS2.drew).mono (by omega))).mono (by omega))⟩
end Go.Proofs.YtgaoeoijdpdjiaaGreatDoor

namespace Go.Proofs.YtgaoeoijdpdjiaaGreatDoor
open Go.RowKit
/-- n elements, each of the cells mc. -/
def rowM (mc : List Value) (n : Nat) : List Value := (List.replicate n mc).flatten
theorem rowM_length (mc : List Value) (n : Nat) : (rowM mc n).length = n * mc.length := by simp [rowM]
theorem rowM_succ (mc : List Value) (n : Nat) : rowM mc (n + 1) = rowM mc n ++ mc := by
  unfold rowM
  rw [List.replicate_succ', List.flatten_append]
  simp
theorem rowM_add (mc : List Value) (n k : Nat) : rowM mc (n + k) = rowM mc n ++ rowM mc k := by
  unfold rowM
  rw [← List.replicate_append_replicate, List.flatten_append]
theorem rowM_get (mc : List Value) : ∀ (n i : Nat), i < n * mc.length → (rowM mc n)[i]? = mc[i % mc.length]?
  | 0, i, h => by omega
  | n + 1, i, h => by
    rw [rowM_succ]
    by_cases hi : i < n * mc.length
    · rw [List.getElem?_append_left (by rw [rowM_length]; exact hi), rowM_get mc n i hi]
    · rw [Nat.add_mul, Nat.one_mul] at h
      rw [List.getElem?_append_right (by rw [rowM_length]; omega), rowM_length]
      have : i % mc.length = i - n * mc.length := by
        rw [show i = i - n * mc.length + n * mc.length by omega, Nat.add_mul_mod_self_right, Nat.mod_eq_of_lt (by omega)]
        omega
      rw [this]
theorem rowM_one (mc : List Value) (h : ∀ u ∈ mc, u.oneCell' = true) (n : Nat) : ∀ u ∈ rowM mc n, u.oneCell' = true := by
  intro u hu
  obtain ⟨l, hl, hu⟩ := List.mem_flatten.1 hu
  rw [List.eq_of_mem_replicate hl] at hu
  exact h u hu
section
variable {P : Program}
/-- Something is appended to a row of marks. -/
theorem app_mark (w : World) (lo : Nat) (t ty e : TypeId) (i : TypeInfo) (z : Value) (size bytes : Nat) (ht : P.underlying t = some (.slice e)) (hi : P.info? e = some i) (hz : i.zero = some z)
    (hsize : i.size = size) (hby : i.bytes = bytes) (hzs : z.cells.size = size) (hsz : 0 < size) (mc : List Value) (hmc : mc.length = size) (h1 : ∀ u ∈ mc, u.oneCell' = true)
    (l : Value) (n k c : Nat) (hown : w.ownsRow lo e size l n (rowM mc n)) (a : Addr) (hnews : ∀ j u, (rowM mc k)[j]? = some u → w.cell? (a.add j) = some u) (hk : 0 < k)
    (h63 : n + k ≤ maxLen) (hbytes : (n + k) * bytes ≤ 140737488355328) (hbase : lo ≤ w.heap.size) :
    ∃ g cap w', (Builtin.append_ #[t, t] ty #[l, .slice (some a) k c]).run P w = .ok (.slice (some ⟨g, 0, none⟩) (n + k) cap) w' ∧ w'.ownsRow lo e size (.slice (some ⟨g, 0, none⟩) (n + k) cap) (n + k) (rowM mc (n + k)) ∧
      w.grownBy w' l.ownBlock ∧ (l.ownBlock = some g ∨ w.heap.size ≤ g) ∧ ∀ (v2 : Value) (n2 : Nat), w.ownsRow lo e size v2 n2 (rowM mc n2) → w'.ownsRow lo e size v2 n2 (rowM mc n2) := by
  have hlen : (rowM mc k).length = k * size := by rw [rowM_length, hmc]
  have hone := rowM_one mc h1 k
  obtain ⟨g, cap, w', hr, ho, hg, hat, -⟩ := run_append_lies (P := P) w t ty lo e i z size bytes ht hi hz hsize hby hzs hsz l n _ hown a k c _ hlen hnews hone hk h63 hbytes hbase _ rfl
  rw [← rowM_add] at ho
  refine ⟨g, cap, w', hr, ho, hg, hat.elim .inl (fun e => .inr (by omega)), fun v2 n2 h2 => ?_⟩
  rcases h2.2 with ⟨rfl, rfl⟩ | ⟨g2, cap2, cur2, rfl, hb2, hB2, hn2, hm2, hs2, ht2⟩
  · exact ⟨h2.1, .inl ⟨rfl, rfl⟩⟩
  by_cases hsame : l.ownBlock = some g2
  · rcases hown.2 with ⟨rfl, -⟩ | ⟨g1, cap1, cur1, rfl, hb1, hB1, hn1, hm1, hs1, ht1⟩
    · simp [Value.ownBlock] at hsame
    have e12 : g1 = g2 := by simpa [Value.ownBlock] using hsame
    subst e12
    rw [hB2] at hB1
    simp only [Option.some.injEq, Obj.cells.injEq, and_true] at hB1
    obtain ⟨rfl, -⟩ : cur2 = cur1 ∧ True := ⟨by simpa using hB1, trivial⟩
    by_cases hroom : n + k ≤ cap1
    · subst hsize
      have hfit : n * i.size + (rowM mc k).length ≤ cur2.size := by rw [hlen, hs1, ← Nat.add_mul]; exact Nat.mul_le_mul_right _ hroom
      have hr2 := run_append_room (P := P) w t ty e i ht hi g1 n cap1 cur2 hB2 a k c _ hlen hnews hone hroom hfit
      rw [hr] at hr2
      simp only [Result.ok.injEq] at hr2
      obtain ⟨-, rfl⟩ := hr2
      refine ⟨h2.1, .inr ⟨g1, cap2, _, rfl, hb2, setRow_heap w g1 cur2 _ e _ hB2, hn2, hm2, ?_, ?_⟩⟩
      · simp only [List.size_toArray, List.length_append, List.length_take, List.length_drop, Array.length_toList]
        omega
      · rw [ht1]
        have hl1 : (rowM mc n).length = n * i.size := by rw [rowM_length, hmc]
        have hl2 : (rowM mc n2).length = n2 * i.size := by rw [rowM_length, hmc]
        have hle : n2 * i.size ≤ cur2.size := by rw [hs2]; exact Nat.mul_le_mul_right _ hn2
        apply List.ext_getElem?
        intro j
        rw [List.getElem?_take]
        by_cases hj : j < n2 * i.size
        · rw [if_pos hj, rowM_get mc n2 j (by rw [hmc]; exact hj)]
          by_cases hj1 : j < n * i.size
          · rw [List.append_assoc, List.getElem?_append_left (by omega), rowM_get mc n j (by rw [hmc]; exact hj1)]
          · by_cases hj2 : j < n * i.size + k * i.size
            · rw [List.append_assoc, List.getElem?_append_right (by omega), List.getElem?_append_left (by omega), rowM_get mc k _ (by rw [hmc]; omega), hmc, hl1]
              congr 1
              rw [show j = j - n * i.size + n * i.size by omega, Nat.add_mul_mod_self_right]
              simp
            · rw [List.getElem?_append_right (by simp only [List.length_append]; omega), List.getElem?_drop]
              have : (cur2.toList.take (n2 * i.size))[j]? = (rowM mc n2)[j]? := by rw [ht2]
              rw [List.getElem?_take, if_pos hj, rowM_get mc n2 j (by rw [hmc]; exact hj)] at this
              rw [← this]
              congr 1
              simp only [List.length_append]
              omega
        · rw [if_neg hj, List.getElem?_eq_none (by omega)]
    · have hne : w'.heap[g1]? = w.heap[g1]? := by
        have holds : ∀ j u, (rowM mc n)[j]? = some u → w.cell? ((⟨g1, 0, none⟩ : Addr).add j) = some u := hown.cells (g := g1) rfl
        subst hsize
        subst hby
        have hr2 := run_append_grow (P := P) w t ty e i z ht hi hz ⟨g1, 0, none⟩ n cap1 _ hown.1 holds a k c _ hlen hnews (by omega) (by simp only [maxLen] at h63; omega) (growslice_fits (by omega) hbytes)
        rw [hr] at hr2
        simp only [Result.ok.injEq] at hr2
        obtain ⟨-, rfl⟩ := hr2
        exact heap_alloc_old _ _ (lt_of_block hB2)
      exact ⟨h2.1, .inr ⟨g1, cap2, cur2, rfl, hb2, by rw [hne]; exact hB2, hn2, hm2, hs2, ht2⟩⟩
  · exact owns_kept h2 (kept_grown hg) (fun q hq e => hsame (by rw [e, ← hq]; rfl))
end
theorem wpList_mark {P : Program} (w : World) {ops : Array Oper} {rest : List Oper} {o : Oper} {a : Act} {Q : Exit → Act → World → Prop} (hgd : o.guard = none) (s x : Operand) (t : TypeId)
    (ho : o.op = .call { callee := .builtin .append, args := #[s, x], argTypes := #[t, t] }) (lo : Nat) (e : TypeId) (i : TypeInfo) (z : Value) (size bytes : Nat) (ht : P.underlying t = some (.slice e)) (hi : P.info? e = some i) (hz : i.zero = some z)
    (hsize : i.size = size) (hby : i.bytes = bytes) (hzs : z.cells.size = size) (hsz : 0 < size) (mc : List Value) (hmc : mc.length = size) (h1 : ∀ u ∈ mc, u.oneCell' = true)
    (l : Value) (n k c : Nat) (hs : a.eval s = l) (hown : w.ownsRow lo e size l n (rowM mc n)) (ad : Addr) (hx : a.eval x = .slice (some ad) k c) (hnews : ∀ j u, (rowM mc k)[j]? = some u → w.cell? (ad.add j) = some u) (hk : 0 < k)
    (h63 : n + k ≤ maxLen) (hbytes : (n + k) * bytes ≤ 140737488355328) (hbase : lo ≤ w.heap.size)
    (h : ∀ g cap w', w'.ownsRow lo e size (.slice (some ⟨g, 0, none⟩) (n + k) cap) (n + k) (rowM mc (n + k)) → w.grownBy w' l.ownBlock → (l.ownBlock = some g ∨ w.heap.size ≤ g) → (∀ (v2 : Value) (n2 : Nat), w.ownsRow lo e size v2 n2 (rowM mc n2) → w'.ownsRow lo e size v2 n2 (rowM mc n2)) → wpList P ops Q rest (a.put o.dst (.slice (some ⟨g, 0, none⟩) (n + k) cap)) w') : wpList P ops Q (o :: rest) a w := by
  obtain ⟨g, cap, w', hr, h2, h3, h4, h5⟩ := app_mark (P := P) w lo t o.type e i z size bytes ht hi hz hsize hby hzs hsz mc hmc h1 l n k c hown ad hnews hk h63 hbytes hbase
  exact Lib.wpList_append_run w hgd s x t t ho _ _ hs hx _ w' hr (h g cap w' h2 h3 h4 h5)
/-- A cell of a row is written. -/
theorem owns_set {w : World} {lo : Nat} {e : TypeId} {sz g n cap : Nat} {xs : List Value} (h : w.ownsRow lo e sz (.slice (some ⟨g, 0, none⟩) n cap) n xs) (i : Nat) (v : Value) : (w.setCell ⟨g, i, none⟩ v).ownsRow lo e sz (.slice (some ⟨g, 0, none⟩) n cap) n (xs.set i v) := by
  refine ⟨by rw [List.length_set]; exact h.1, ?_⟩
  rcases h.2 with ⟨hv, -⟩ | ⟨g', cap', cur, hv, hb, hB, hn, hm, hs, ht⟩
  · cases hv
  · simp only [Value.slice.injEq, Option.some.injEq, Addr.mk.injEq, and_true, true_and] at hv
    obtain ⟨rfl, rfl⟩ := hv
    have hB' : Blk w g cur.toList e := by unfold Blk; rw [hB, Array.toArray_toList]
    have hB2 := hB'.set i v
    unfold Blk at hB2
    exact .inr ⟨g, cap, _, rfl, hb, hB2, hn, hm, by simp [hs], by rw [← ht, List.take_set]⟩
theorem owns_free {w : World} {lo : Nat} {e : TypeId} {sz g n cap : Nat} {xs : List Value} (h : w.ownsRow lo e sz (.slice (some ⟨g, 0, none⟩) n cap) n xs) (i : Nat) : w.frozen? ⟨g, i, none⟩ = false := by
  rcases h.2 with ⟨hv, -⟩ | ⟨g', cap', cur, hv, hb, hB, -⟩
  · cases hv
  · simp only [Value.slice.injEq, Option.some.injEq, Addr.mk.injEq, and_true, true_and] at hv
    obtain ⟨rfl, rfl⟩ := hv
    have hB' : Blk w g cur.toList e := by unfold Blk; rw [hB, Array.toArray_toList]
    exact hB'.free i
/-- A row that is being written full of marks. -/
def mrkV (mc xs : List Value) (j : Nat) : List Value := rowM mc j ++ xs.drop (j * mc.length)
theorem mrkV_zero (mc xs : List Value) : mrkV mc xs 0 = xs := by simp [mrkV, rowM]
theorem mrkV_end (mc xs : List Value) (n : Nat) (h : xs.length = n * mc.length) : mrkV mc xs n = rowM mc n := by
  unfold mrkV
  rw [List.drop_eq_nil_of_le (by omega), List.append_nil]
theorem mrkV_length (mc xs : List Value) (j n : Nat) (h : xs.length = n * mc.length) (hj : j ≤ n) : (mrkV mc xs j).length = n * mc.length := by
  unfold mrkV
  rw [List.length_append, rowM_length, List.length_drop, h]
  have := Nat.mul_le_mul_right mc.length hj
  omega
theorem mrkV_step (mc xs : List Value) (j n : Nat) (h : xs.length = n * mc.length) (hj : j < n) : overlay (mrkV mc xs j) (j * mc.length) mc = mrkV mc xs (j + 1) := by
  have hl := mrkV_length mc xs j n h (by omega)
  have hjm : (j + 1) * mc.length ≤ n * mc.length := Nat.mul_le_mul_right _ hj
  rw [Nat.add_mul, Nat.one_mul] at hjm
  apply List.ext_getElem?
  intro i
  rw [overlay_get _ _ _ _ (by omega)]
  unfold mrkV
  by_cases h1 : i < j * mc.length
  · rw [if_neg (by omega), List.getElem?_append_left (by rw [rowM_length]; exact h1), List.getElem?_append_left (by rw [rowM_length, Nat.add_mul]; omega), rowM_get _ _ _ h1, rowM_get _ _ _ (by rw [Nat.add_mul]; omega)]
  · by_cases h2 : i < j * mc.length + mc.length
    · rw [if_pos ⟨by omega, h2⟩, List.getElem?_append_left (by rw [rowM_length, Nat.add_mul]; omega), rowM_get _ _ _ (by rw [Nat.add_mul]; omega)]
      congr 1
      rw [show i = i - j * mc.length + j * mc.length by omega, Nat.add_mul_mod_self_right, Nat.mod_eq_of_lt (by omega)]
      omega
    · rw [if_neg (by omega), List.getElem?_append_right (by rw [rowM_length]; omega), List.getElem?_append_right (by rw [rowM_length, Nat.add_mul]; omega), rowM_length, rowM_length, List.getElem?_drop, List.getElem?_drop, Nat.add_mul, Nat.one_mul]
      congr 1
      omega
end Go.Proofs.YtgaoeoijdpdjiaaGreatDoor
