/-
  The program's start. Texts laid together; the cells of a set and of a place. The statement's own knows: two digests, reckoned.
-/
import Derived.Test.YtgaoeoijdpdjiaaGreatDoorPart18
import Derived.Test.YtgaoeoijdpdjiaaGreatDoorPart17
namespace Go.Proofs.YtgaoeoijdpdjiaaGreatDoor
open Go.RowKit
set_option maxRecDepth 20000 in
set_option maxHeartbeats 4000000 in
theorem start_any (k b x t l : Int) (seed : ByteArray) (p0 p1 p2 p3 : Int) (w : World) (hk : k = 1 ∨ k = 2) (h1 : 1 ≤ b) (h2 : b ≤ 16) (hs : seed.size ≤ 16) (hT : Tn w) :
    Calls Tryz.prog 88 #[.agg #[.int .i64 k, .int .i64 b, .int .i64 x, .int .i64 t, .int .i64 l, .string seed, .int .i64 p0, .int .i64 p1, .int .i64 p2, .int .i64 p3]] w fun e w' => e = .returned (.string (startS k b seed p0 p1 p2 p3)) ∧ Below w.heap.size w w' := by
  obtain ⟨W0, hW⟩ : ∃ W0, w.alloc (.cells #[.int .i64 k, .int .i64 b, .int .i64 x, .int .i64 t, .int .i64 l, .string seed, .int .i64 p0, .int .i64 p1, .int .i64 p2, .int .i64 p3] 140) = W0 := ⟨_, rfl⟩
  have HF := hide (show TenC w.heap.size W0 k b x t l seed p0 p1 p2 p3 by subst hW; refine ⟨?_, ?_, ?_, ?_, ?_, ?_, ?_, ?_, ?_, ?_⟩ <;> simp [go_sem])
  have HB := hide (show Below w.heap.size w W0 by subst hW; exact (Below.refl _ _).alloc (Nat.le_refl _) _)
  have hz : W0.heap.size = w.heap.size + 1 := by subst hW; simp
  have HT := hide (hT.on HB.out)
  have HS := hide (fun (V : World) (h : Below W0.heap.size W0 V) => (by
    obtain ⟨c0, c1, c2, c3, c4, c5, c6, c7, c8, c9⟩ := HF.out.below h (by omega)
    exact ⟨c0, c1, c2, c3, c4, c5, c6, c7, c8, c9, h⟩ : V.cell? ⟨w.heap.size, 0, none⟩ = some (.int .i64 k) ∧ V.cell? ⟨w.heap.size, 1, none⟩ = some (.int .i64 b) ∧ V.cell? ⟨w.heap.size, 2, none⟩ = some (.int .i64 x) ∧ V.cell? ⟨w.heap.size, 3, none⟩ = some (.int .i64 t) ∧ V.cell? ⟨w.heap.size, 4, none⟩ = some (.int .i64 l) ∧ V.cell? ⟨w.heap.size, 5, none⟩ = some (.string seed) ∧ V.cell? ⟨w.heap.size, 6, none⟩ = some (.int .i64 p0) ∧ V.cell? ⟨w.heap.size, 7, none⟩ = some (.int .i64 p1) ∧ V.cell? ⟨w.heap.size, 8, none⟩ = some (.int .i64 p2) ∧ V.cell? ⟨w.heap.size, 9, none⟩ = some (.int .i64 p3) ∧ Below W0.heap.size W0 V))
  have HO1 := hide (fun V : World => one_any p3 V)
  have HV := hide (fun (V : World) (h : Below W0.heap.size W0 V) => ofLeaf_any k b x t l 1 seed p0 p1 p2 p3 V.heap.size 0 1 [numB 1 p3] (V.alloc (.cells #[.string (numB 1 p3)] 9)) (by
    intro j y hj
    match j, hj with
    | 0, hj => simp at hj; subst hj; simp [go_sem]) (by simp) (by simp) (by simp) hk h1 h2 (by rw [cat_size]; simp [numB_size]; omega) ((HT.out.on h).alloc _))
  simp only [cat, append_empty, List.length_cons, List.length_nil, Nat.reduceAdd] at HV
  clear hT
  go_enter Tryz.func88, Tryz.ntmps88
  go_wp2_with fail
  try rw [hW]
  go_region_held3 (fun V => V.cell? ⟨w.heap.size, 0, none⟩ = some (.int .i64 k) ∧ V.cell? ⟨w.heap.size, 1, none⟩ = some (.int .i64 b) ∧ V.cell? ⟨w.heap.size, 2, none⟩ = some (.int .i64 x) ∧ V.cell? ⟨w.heap.size, 3, none⟩ = some (.int .i64 t) ∧ V.cell? ⟨w.heap.size, 4, none⟩ = some (.int .i64 l) ∧ V.cell? ⟨w.heap.size, 5, none⟩ = some (.string seed) ∧ V.cell? ⟨w.heap.size, 6, none⟩ = some (.int .i64 p0) ∧ V.cell? ⟨w.heap.size, 7, none⟩ = some (.int .i64 p1) ∧ V.cell? ⟨w.heap.size, 8, none⟩ = some (.int .i64 p2) ∧ V.cell? ⟨w.heap.size, 9, none⟩ = some (.int .i64 p3) ∧ Below W0.heap.size W0 V) (first | exact HS.out _ hS4 | exact HS.out _ (hS1.alloc hS1.size _) | exact HS.out _ hS1 | exact HS.out _ (Below.refl _ _).drew) (first | (go_at_call 155; refine (HO1.out _).mono ?_; rintro e w1 ⟨rfl, hb1⟩; have hS1 := heldB (Below.refl W0.heap.size W0).drew hb1 (Nat.le_refl _)) | (go_at_call 165; refine (HV.out _ hS1).mono ?_; rintro e w4 ⟨rfl, hb4⟩; have hS4 := heldB (hS1.alloc hS1.size _) hb4 (Nat.le_refl _)))
  go_wp2
  go_ret
  exact ⟨rfl, HB.out.trans (hS4.mono (by omega))⟩
end Go.Proofs.YtgaoeoijdpdjiaaGreatDoor

namespace Go.Proofs.YtgaoeoijdpdjiaaGreatDoor
open Go.RowKit
/-- A set in memory: five cells. -/
def FiveC (B : Nat) (w : World) (k b x t l : Int) : Prop :=
  w.cell? ⟨B, 0, none⟩ = some (.int .i64 k) ∧ w.cell? ⟨B, 1, none⟩ = some (.int .i64 b) ∧ w.cell? ⟨B, 2, none⟩ = some (.int .i64 x) ∧ w.cell? ⟨B, 3, none⟩ = some (.int .i64 t) ∧ w.cell? ⟨B, 4, none⟩ = some (.int .i64 l)
theorem FiveC.below {B n : Nat} {w w' : World} {k b x t l : Int} (h : FiveC B w k b x t l) (hb : Below n w w') (hB : B < n) : FiveC B w' k b x t l := by
  obtain ⟨c0, c1, c2, c3, c4⟩ := h
  exact ⟨(hb.cell (p := ⟨B, 0, none⟩) hB).trans c0, (hb.cell (p := ⟨B, 1, none⟩) hB).trans c1, (hb.cell (p := ⟨B, 2, none⟩) hB).trans c2, (hb.cell (p := ⟨B, 3, none⟩) hB).trans c3, (hb.cell (p := ⟨B, 4, none⟩) hB).trans c4⟩
/-- A place in memory: four cells. -/
def FourC (B : Nat) (w : World) (p0 p1 p2 p3 : Int) : Prop :=
  w.cell? ⟨B, 0, none⟩ = some (.int .i64 p0) ∧ w.cell? ⟨B, 1, none⟩ = some (.int .i64 p1) ∧ w.cell? ⟨B, 2, none⟩ = some (.int .i64 p2) ∧ w.cell? ⟨B, 3, none⟩ = some (.int .i64 p3)
theorem FourC.below {B n : Nat} {w w' : World} {p0 p1 p2 p3 : Int} (h : FourC B w p0 p1 p2 p3) (hb : Below n w w') (hB : B < n) : FourC B w' p0 p1 p2 p3 := by
  obtain ⟨c0, c1, c2, c3⟩ := h
  exact ⟨(hb.cell (p := ⟨B, 0, none⟩) hB).trans c0, (hb.cell (p := ⟨B, 1, none⟩) hB).trans c1, (hb.cell (p := ⟨B, 2, none⟩) hB).trans c2, (hb.cell (p := ⟨B, 3, none⟩) hB).trans c3⟩
end Go.Proofs.YtgaoeoijdpdjiaaGreatDoor

namespace Go.Proofs.YtgaoeoijdpdjiaaGreatDoor
open Go.RowKit
theorem know32 : (whole32 ⟨#[]⟩).extract 0 8 = ⟨#[227, 66, 157, 14, 142, 228, 223, 0]⟩ := by kernel_rfl
theorem know64 : (whole64 ⟨#[97, 98, 99]⟩).extract 0 8 = ⟨#[140, 49, 7, 11, 145, 250, 171, 128]⟩ := by kernel_rfl
theorem know1 : digAns 1 8 ⟨#[]⟩ = (⟨#[227, 66, 157, 14, 142, 228, 223, 0]⟩, 0) := by
  unfold digAns
  rw [if_pos (by decide), if_pos (by decide), if_pos rfl, ← know32]; rfl
theorem know2 : digAns 2 8 ⟨#[97, 98, 99]⟩ = (⟨#[140, 49, 7, 11, 145, 250, 171, 128]⟩, 0) := by
  unfold digAns
  rw [if_pos (by decide), if_pos (by decide), if_neg (by decide), ← know64]; rfl
set_option maxRecDepth 20000 in
set_option maxHeartbeats 1000000 in
theorem knows_any (w : World) (hT : Tn w) : Calls Tryz.prog 17 #[] w fun e w' => e = .returned (.bool true) ∧ Below w.heap.size w w' := by
  have H1 := hide (fun (V : World) (h : Tn V) => (by have := digest_ans 1 8 ⟨#[]⟩ V h.1 h.2.1 h.2.2; rw [know1] at this; exact this : Calls Tryz.prog 36 #[.int .i64 1, .int .i64 8, .string ⟨#[]⟩] V fun e w' => e = .returned (.tuple #[.string ⟨#[227, 66, 157, 14, 142, 228, 223, 0]⟩, .int .i64 0]) ∧ Below V.heap.size V w'))
  have H2 := hide (fun (V : World) (h : Tn V) => (by have := digest_ans 2 8 ⟨#[97, 98, 99]⟩ V h.1 h.2.1 h.2.2; rw [know2] at this; exact this : Calls Tryz.prog 36 #[.int .i64 2, .int .i64 8, .string ⟨#[97, 98, 99]⟩] V fun e w' => e = .returned (.tuple #[.string ⟨#[140, 49, 7, 11, 145, 250, 171, 128]⟩, .int .i64 0]) ∧ Below V.heap.size V w'))
  have HT := hide hT
  clear hT
  go_enter Tryz.func17, Tryz.ntmps17
  go_wp2_with fail
  refine (H1.out _ HT.out).mono ?_
  rintro e w1 ⟨rfl, hb1⟩
  have HB1 := hide hb1
  clear hb1
  go_wp2_with fail
  refine (H2.out _ (HT.out.on HB1.out)).mono ?_
  rintro e w2 ⟨rfl, hb2⟩
  have HB2 := hide (heldB HB1.out hb2 (Nat.le_refl _))
  clear hb2
  go_wp2
  go_ret
  exact ⟨rfl, HB2.out⟩
end Go.Proofs.YtgaoeoijdpdjiaaGreatDoor
