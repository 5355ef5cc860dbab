/-
  The program's within, Leaves, trees. The program's New: a tree.
-/
import Derived.Test.YtgaoeoijdpdjiaaGreatDoorPart20
import Derived.Test.YtgaoeoijdpdjiaaGreatDoorPart29
import Derived.Test.YtgaoeoijdpdjiaaGreatDoorPart5
namespace Go.Proofs.YtgaoeoijdpdjiaaGreatDoor
open Go.RowKit
theorem within_any (v n : Int) (w : World) : Calls Tryz.prog 164 #[.int .i64 v, .int .i64 n] w fun e w' => e = .returned (.bool (decide (0 ≤ v ∧ v < n))) ∧ w' = w := by
  by_cases h0 : 0 ≤ v
  · by_cases h1 : v < n
    · have e : decide (0 ≤ v ∧ v < n) = true := by simp [h0, h1]
      rw [e]
      go_enter Tryz.func164, Tryz.ntmps164
      go_wp2
      go_ret
      exact ⟨rfl, rfl⟩
    · have e : decide (0 ≤ v ∧ v < n) = false := by simp [h1]
      rw [e]
      go_enter Tryz.func164, Tryz.ntmps164
      go_wp2
      go_ret
      exact ⟨rfl, rfl⟩
  · have e : decide (0 ≤ v ∧ v < n) = false := by simp [h0]
    rw [e]
    go_enter Tryz.func164, Tryz.ntmps164
    go_wp2
    go_ret
    exact ⟨rfl, rfl⟩
theorem setsLeaves_any (k b x l : Int) (t : Nat) (w : World) (h1 : 1 ≤ t) (h2 : t ≤ 4) :
    Calls Tryz.prog 156 #[.agg #[.int .i64 k, .int .i64 b, .int .i64 x, .int .i64 t, .int .i64 l]] w fun e w' => e = .returned (.int .i64 ((2 ^ t : Nat) : Int)) ∧ Below w.heap.size w w' := by
  rcases (show t = 1 ∨ t = 2 ∨ t = 3 ∨ t = 4 by omega) with rfl | rfl | rfl | rfl
  all_goals
    go_enter Tryz.func156, Tryz.ntmps156
    go_wp2
    go_ret
    exact ⟨rfl, (Below.refl _ _).alloc (Nat.le_refl _) _⟩
set_option maxHeartbeats 4000000 in
theorem trees_any (k b x : Int) (t l q : Nat) (w : World) (h1 : 1 ≤ t) (h2 : t ≤ 4) (h3 : l ≤ 3) (h4 : q < l) :
    Calls Tryz.prog 236 #[.agg #[.int .i64 k, .int .i64 b, .int .i64 x, .int .i64 t, .int .i64 l], .int .i64 q] w fun e w' => e = .returned (.int .i64 ((2 ^ (t * (l - 1 - q)) : Nat) : Int)) ∧ Below w.heap.size w w' := by
  rcases (show t = 1 ∨ t = 2 ∨ t = 3 ∨ t = 4 by omega) with rfl | rfl | rfl | rfl <;> rcases (show (l = 1 ∧ q = 0) ∨ (l = 2 ∧ q = 0) ∨ (l = 2 ∧ q = 1) ∨ (l = 3 ∧ q = 0) ∨ (l = 3 ∧ q = 1) ∨ (l = 3 ∧ q = 2) by omega) with ⟨rfl, rfl⟩ | ⟨rfl, rfl⟩ | ⟨rfl, rfl⟩ | ⟨rfl, rfl⟩ | ⟨rfl, rfl⟩ | ⟨rfl, rfl⟩
  all_goals
    go_enter Tryz.func236, Tryz.ntmps236
    go_wp2
    go_ret
    exact ⟨rfl, (Below.refl _ _).alloc (Nat.le_refl _) _⟩
/-- Is it the place of a leaf of some tree, whatever its chain? -/
def leafB (t l : Nat) (p0 p1 p2 : Int) : Bool := decide (0 ≤ p0 ∧ p0 < l) && (decide (0 ≤ p1 ∧ p1 < ((2 ^ (t * (l - 1 - p0.toNat)) : Nat) : Int)) && decide (0 ≤ p2 ∧ p2 < ((2 ^ t : Nat) : Int)))
end Go.Proofs.YtgaoeoijdpdjiaaGreatDoor

namespace Go.Proofs.YtgaoeoijdpdjiaaGreatDoor
open Go.RowKit
set_option maxRecDepth 20000 in
set_option maxHeartbeats 8000000 in
theorem new_yes (k b x t l a0 a1 ch a3 a4 a5 : Int) (sec rnd pub : ByteArray) (p0 p1 p2 p3 : Int) (w : World) (hC : ∀ V : World, Calls Tryz.prog 69 #[.agg #[.int .i64 k, .int .i64 b, .int .i64 x, .int .i64 t, .int .i64 l]] V fun e w' => e = .returned (.tuple #[.agg #[.int .i64 a0, .int .i64 a1, .int .i64 ch, .int .i64 a3, .int .i64 a4, .int .i64 a5], .int .i64 0]) ∧ Below V.heap.size V w') (hV : ∀ V : World, Calls Tryz.prog 70 #[.agg #[.int .i64 k, .int .i64 b, .int .i64 x, .int .i64 t, .int .i64 l], .agg #[.string sec, .string rnd, .string pub]] V fun e w' => e = .returned (.bool true) ∧ Below V.heap.size V w') (hI : ∀ V : World, Calls Tryz.prog 71 #[.agg #[.int .i64 k, .int .i64 b, .int .i64 x, .int .i64 t, .int .i64 l], .agg #[.int .i64 p0, .int .i64 p1, .int .i64 p2, .int .i64 p3]] V fun e w' => e = .returned (.bool true) ∧ Below V.heap.size V w') :
    Calls Tryz.prog 37 #[.agg #[.int .i64 k, .int .i64 b, .int .i64 x, .int .i64 t, .int .i64 l], .agg #[.string sec, .string rnd, .string pub], .agg #[.int .i64 p0, .int .i64 p1, .int .i64 p2, .int .i64 p3]] w fun e w' => e = .returned (.tuple #[.agg #[.int .i64 k, .int .i64 b, .int .i64 x, .int .i64 t, .int .i64 l, .string sec, .string rnd, .string pub, .int .i64 p0, .int .i64 p1, .int .i64 p2, .int .i64 p3, .int .i64 ch], .int .i64 0]) ∧ Below w.heap.size w w' := by
  obtain ⟨W0, hW⟩ : ∃ W0, (((w.alloc (.cells #[.int .i64 k, .int .i64 b, .int .i64 x, .int .i64 t, .int .i64 l] 23)).alloc (.cells #[.string sec, .string rnd, .string pub] 25)).alloc (.cells #[.int .i64 p0, .int .i64 p1, .int .i64 p2, .int .i64 p3] 27)).alloc (.cells #[.int .i64 0, .int .i64 0, .int .i64 0, .int .i64 0, .int .i64 0, .string ⟨#[]⟩, .string ⟨#[]⟩, .string ⟨#[]⟩, .int .i64 0, .int .i64 0, .int .i64 0, .int .i64 0, .int .i64 0] 83) = W0 := ⟨_, rfl⟩
  have HF := hide (show FiveC w.heap.size W0 k b x t l by subst hW; refine ⟨?_, ?_, ?_, ?_, ?_⟩ <;> simp [go_sem])
  have HSE := hide (show W0.cell? ⟨w.heap.size + 1, 0, none⟩ = some (.string sec) ∧ W0.cell? ⟨w.heap.size + 1, 1, none⟩ = some (.string rnd) ∧ W0.cell? ⟨w.heap.size + 1, 2, none⟩ = some (.string pub) by subst hW; refine ⟨?_, ?_, ?_⟩ <;> simp [go_sem])
  have HP := hide (show FourC (w.heap.size + 1 + 1) W0 p0 p1 p2 p3 by subst hW; refine ⟨?_, ?_, ?_, ?_⟩ <;> simp [go_sem])
  have HB := hide (show Below w.heap.size w W0 by subst hW; exact ((((Below.refl _ _).alloc (Nat.le_refl _) _).alloc (by simp) _).alloc (by simp; omega) _).alloc (by simp; omega) _)
  have hz : W0.heap.size ≤ w.heap.size + 4 := by subst hW; simp
  have hz' : w.heap.size + 4 ≤ W0.heap.size := by subst hW; simp
  have HBK := hide (show Blk W0 (w.heap.size + 1 + 1 + 1) [.int .i64 0, .int .i64 0, .int .i64 0, .int .i64 0, .int .i64 0, .string ⟨#[]⟩, .string ⟨#[]⟩, .string ⟨#[]⟩, .int .i64 0, .int .i64 0, .int .i64 0, .int .i64 0, .int .i64 0] 83 by
    subst hW
    have h := Blk.new (((w.alloc (.cells #[.int .i64 k, .int .i64 b, .int .i64 x, .int .i64 t, .int .i64 l] 23)).alloc (.cells #[.string sec, .string rnd, .string pub] 25)).alloc (.cells #[.int .i64 p0, .int .i64 p1, .int .i64 p2, .int .i64 p3] 27)) [.int .i64 0, .int .i64 0, .int .i64 0, .int .i64 0, .int .i64 0, .string ⟨#[]⟩, .string ⟨#[]⟩, .string ⟨#[]⟩, .int .i64 0, .int .i64 0, .int .i64 0, .int .i64 0, .int .i64 0] 83
    simp only [World.size_alloc] at h
    exact h)
  have HS := hide (fun (V : World) (h : Below W0.heap.size W0 V) => (by
    obtain ⟨c0, c1, c2, c3, c4⟩ := HF.out.below h (by omega)
    obtain ⟨d0, d1, d2, d3⟩ := HP.out.below h (by omega)
    exact ⟨c0, c1, c2, c3, c4, (h.cell (p := ⟨w.heap.size + 1, 0, none⟩) (by show w.heap.size + 1 < _; omega)).trans HSE.out.1, (h.cell (p := ⟨w.heap.size + 1, 1, none⟩) (by show w.heap.size + 1 < _; omega)).trans HSE.out.2.1, (h.cell (p := ⟨w.heap.size + 1, 2, none⟩) (by show w.heap.size + 1 < _; omega)).trans HSE.out.2.2, d0, d1, d2, d3⟩ : V.cell? ⟨w.heap.size, 0, none⟩ = some (.int .i64 k) ∧ V.cell? ⟨w.heap.size, 1, none⟩ = some (.int .i64 b) ∧ V.cell? ⟨w.heap.size, 2, none⟩ = some (.int .i64 x) ∧ V.cell? ⟨w.heap.size, 3, none⟩ = some (.int .i64 t) ∧ V.cell? ⟨w.heap.size, 4, none⟩ = some (.int .i64 l) ∧ V.cell? ⟨w.heap.size + 1, 0, none⟩ = some (.string sec) ∧ V.cell? ⟨w.heap.size + 1, 1, none⟩ = some (.string rnd) ∧ V.cell? ⟨w.heap.size + 1, 2, none⟩ = some (.string pub) ∧ V.cell? ⟨w.heap.size + 1 + 1, 0, none⟩ = some (.int .i64 p0) ∧ V.cell? ⟨w.heap.size + 1 + 1, 1, none⟩ = some (.int .i64 p1) ∧ V.cell? ⟨w.heap.size + 1 + 1, 2, none⟩ = some (.int .i64 p2) ∧ V.cell? ⟨w.heap.size + 1 + 1, 3, none⟩ = some (.int .i64 p3)))
  obtain ⟨c0, c1, c2, c3, c4, f0, f1, f2, d0, d1, d2, d3⟩ := HS.out W0 (Below.refl _ _)
  have HC := hide hC
  have HV := hide hV
  have HI := hide hI
  clear hC hV hI
  go_enter Tryz.func37, Tryz.ntmps37
  go_wp2_with fail
  try rw [hW]
  refine (HC.out _).mono ?_
  rintro e w1 ⟨rfl, hb1⟩
  have HB1 := hide (hb1.alloc hb1.size (.cells #[.int .i64 a0, .int .i64 a1, .int .i64 ch, .int .i64 a3, .int .i64 a4, .int .i64 a5] 127))
  have hzz := hb1.size
  have HZ := hide (Blk.new w1 [.int .i64 a0, .int .i64 a1, .int .i64 ch, .int .i64 a3, .int .i64 a4, .int .i64 a5] 127)
  clear hb1 c0 c1 c2 c3 c4 f0 f1 f2 d0 d1 d2 d3 hW
  obtain ⟨c0, c1, c2, c3, c4, f0, f1, f2, d0, d1, d2, d3⟩ := HS.out (w1.alloc (.cells #[.int .i64 a0, .int .i64 a1, .int .i64 ch, .int .i64 a3, .int .i64 a4, .int .i64 a5] 127)) HB1.out
  go_wp2_with fail
  refine (HV.out _).mono ?_
  rintro e w2 ⟨rfl, hb2⟩
  have HB2 := hide (heldB HB1.out hb2 (Nat.le_refl _))
  have HZ2 := hide (HZ.out.on hb2)
  clear hb2 c0 c1 c2 c3 c4 f0 f1 f2 d0 d1 d2 d3
  obtain ⟨c0, c1, c2, c3, c4, f0, f1, f2, d0, d1, d2, d3⟩ := HS.out w2 HB2.out
  go_wp2_with fail
  refine (HI.out _).mono ?_
  rintro e w3 ⟨rfl, hb3⟩
  have HB3 := hide (heldB HB2.out hb3 (Nat.le_refl _))
  have HZ3 := hide (HZ2.out.on hb3)
  clear hb3 c0 c1 c2 c3 c4 f0 f1 f2 d0 d1 d2 d3
  obtain ⟨c0, c1, c2, c3, c4, f0, f1, f2, d0, d1, d2, d3⟩ := HS.out w3 HB3.out
  have zc := HZ3.out.cell 2
  simp only [List.getElem?_cons_zero, List.getElem?_cons_succ] at zc
  have bk := hide (HBK.out.below HB3.out (by omega))
  have y0 := bk.out.cell 0
  have y1 := bk.out.cell 1
  have y2 := bk.out.cell 2
  have y3 := bk.out.cell 3
  have y4 := bk.out.cell 4
  have y5 := bk.out.cell 5
  have y6 := bk.out.cell 6
  have y7 := bk.out.cell 7
  have y8 := bk.out.cell 8
  have y9 := bk.out.cell 9
  have y10 := bk.out.cell 10
  have y11 := bk.out.cell 11
  have y12 := bk.out.cell 12
  have fz := bk.out.free
  simp only [List.getElem?_cons_zero, List.getElem?_cons_succ] at y0 y1 y2 y3 y4 y5 y6 y7 y8 y9 y10 y11 y12
  have HBL := hide (HB.out.trans (HB3.out.mono (by omega)))
  clear bk
  go_wp2
  refine bodyPost_ret (v := .tuple #[.agg #[.int .i64 k, .int .i64 b, .int .i64 x, .int .i64 t, .int .i64 l, .string sec, .string rnd, .string pub, .int .i64 p0, .int .i64 p1, .int .i64 p2, .int .i64 p3, .int .i64 ch], .int .i64 0]) (by simp [results, Tryz.results37, go_sem, y0, y1, y2, y3, y4, y5, y6, y7, y8, y9, y10, y11, y12]) rfl ⟨rfl, ?_⟩
  iterate 13 refine Below.setCell ?_ (show w.heap.size ≤ _ by simp <;> omega) _
  exact HBL.out
end Go.Proofs.YtgaoeoijdpdjiaaGreatDoor
