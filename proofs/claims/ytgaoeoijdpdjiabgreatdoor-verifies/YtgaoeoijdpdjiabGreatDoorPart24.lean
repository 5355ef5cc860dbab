/-
  What goes into a digest at a place of a tree, of a leaf: ofTree, ofLeaf. The document's own digit at every right pair.
-/
import Derived.Test.YtgaoeoijdpdjiabGreatDoorPart23
namespace Go.Proofs.YtgaoeoijdpdjiabGreatDoor
open Go.RowKit

set_option maxHeartbeats 4000000 in
theorem ofTree_any (k b x t l tag : Int) (seed : ByteArray) (p0 p1 p2 p3 : Int) (bk o c : Nat) (xs : List ByteArray) (w : World) (hcells : ∀ (j : Nat) y, xs[j]? = some y → w.cell? ⟨bk, o + j, none⟩ = some (.string y)) (hbk : bk < w.heap.size) (hcap : xs.length ≤ c) (hN : xs.length ≤ 1000)
    (hk : k = 1 ∨ k = 2) (h1 : 1 ≤ b) (h2 : b ≤ 16) (hs : seed.size + (cat xs).size ≤ 300) (hT : Tn w) :
    Calls Tryz.prog 311 #[.agg #[.int .i64 k, .int .i64 b, .int .i64 x, .int .i64 t, .int .i64 l, .string seed, .int .i64 p0, .int .i64 p1, .int .i64 p2, .int .i64 p3], .int .i64 tag, .slice (some ⟨bk, o, none⟩) xs.length c] w fun e w' => e = .returned (.string (hv k b (numB 1 tag ++ (seed ++ (numB 1 p0 ++ (numB 4 p1 ++ cat xs)))))) ∧ Below w.heap.size w w' := by
  obtain ⟨W0, hW⟩ : ∃ W0, w.alloc (.cells #[.int .i64 k, .int .i64 b, .int .i64 x, .int .i64 t, .int .i64 l, .string seed, .int .i64 p0, .int .i64 p1, .int .i64 p2, .int .i64 p3] 344) = W0 := ⟨_, rfl⟩
  have HF := hide (show TenC w.heap.size W0 k b x t l seed p0 p1 p2 p3 by subst hW; refine ⟨?_, ?_, ?_, ?_, ?_, ?_, ?_, ?_, ?_, ?_⟩ <;> simp [go_sem])
  have HB := hide (show Below w.heap.size w W0 by subst hW; exact (Below.refl _ _).alloc (Nat.le_refl _) _)
  have hz : W0.heap.size = w.heap.size + 1 := by subst hW; simp
  have HT := hide (hT.on HB.out)
  have HS := hide (fun (V : World) (h : Below W0.heap.size W0 V) => (by
    obtain ⟨c0, c1, c2, c3, c4, c5, c6, c7, c8, c9⟩ := HF.out.below h (by omega)
    exact ⟨c0, c1, c2, c3, c4, c5, c6, c7, h⟩ : V.cell? ⟨w.heap.size, 0, none⟩ = some (.int .i64 k) ∧ V.cell? ⟨w.heap.size, 1, none⟩ = some (.int .i64 b) ∧ V.cell? ⟨w.heap.size, 2, none⟩ = some (.int .i64 x) ∧ V.cell? ⟨w.heap.size, 3, none⟩ = some (.int .i64 t) ∧ V.cell? ⟨w.heap.size, 4, none⟩ = some (.int .i64 l) ∧ V.cell? ⟨w.heap.size, 5, none⟩ = some (.string seed) ∧ V.cell? ⟨w.heap.size, 6, none⟩ = some (.int .i64 p0) ∧ V.cell? ⟨w.heap.size, 7, none⟩ = some (.int .i64 p1) ∧ Below W0.heap.size W0 V))
  have HO1 := hide (fun V : World => one_any p0 V)
  have HN4 := hide (fun V : World => number_any 4 p1 V (by decide))
  have HJ := hide (fun (V : World) (h : Below W0.heap.size W0 V) => join_any bk o c xs V (fun j y hj => (h.cell (p := ⟨bk, o + j, none⟩) (by show bk < W0.heap.size; omega)).trans ((HB.out.cell (p := ⟨bk, o + j, none⟩) hbk).trans (hcells j y hj))) (by have := h.size; omega) hN hcap (by omega))
  have HV := hide (fun (V : World) (h : Below W0.heap.size W0 V) => value_any k b x t l tag V.heap.size 0 4 [seed, numB 1 p0, numB 4 p1, cat xs] (V.alloc (.cells #[.string seed, .string (numB 1 p0), .string (numB 4 p1), .string (cat xs)] 9)) (by
    intro j y hj
    match j, hj with
    | 0, hj => simp at hj; subst hj; simp [go_sem]
    | 1, hj => simp at hj; subst hj; simp [go_sem]
    | 2, hj => simp at hj; subst hj; simp [go_sem]
    | 3, hj => simp at hj; subst hj; simp [go_sem]) (by simp) (by simp) (by simp) hk h1 h2 (by rw [cat_size]; simp [numB_size]; omega) ((HT.out.on h).alloc _))
  simp only [cat, append_empty, List.length_cons, List.length_nil, Nat.reduceAdd] at HV
  clear hcells hT
  go_enter Tryz.func311, Tryz.ntmps311
  go_wp2_with fail
  try rw [hW]
  go_region_held3 (fun V => V.cell? ⟨w.heap.size, 0, none⟩ = some (.int .i64 k) ∧ V.cell? ⟨w.heap.size, 1, none⟩ = some (.int .i64 b) ∧ V.cell? ⟨w.heap.size, 2, none⟩ = some (.int .i64 x) ∧ V.cell? ⟨w.heap.size, 3, none⟩ = some (.int .i64 t) ∧ V.cell? ⟨w.heap.size, 4, none⟩ = some (.int .i64 l) ∧ V.cell? ⟨w.heap.size, 5, none⟩ = some (.string seed) ∧ V.cell? ⟨w.heap.size, 6, none⟩ = some (.int .i64 p0) ∧ V.cell? ⟨w.heap.size, 7, none⟩ = some (.int .i64 p1) ∧ Below W0.heap.size W0 V) (first | exact HS.out _ hS4 | exact HS.out _ (hS3.alloc hS3.size _) | exact HS.out _ hS3 | exact HS.out _ hS2 | exact HS.out _ hS1 | exact HS.out _ (Below.refl _ _).drew) (first | (go_at_call 312; refine (HO1.out _).mono ?_; rintro e w1 ⟨rfl, hb1⟩; have hS1 := heldB (Below.refl W0.heap.size W0).drew hb1 (Nat.le_refl _)) | (go_at_call 160; refine (HN4.out _).mono ?_; rintro e w2 ⟨rfl, hb2⟩; have hS2 := heldB hS1 hb2 (Nat.le_refl _)) | (go_at_call 161; refine (HJ.out _ hS2).mono ?_; rintro e w3 ⟨rfl, hb3⟩; have hS3 := heldB hS2 hb3 (Nat.le_refl _)) | (go_at_call 248; refine (HV.out _ hS3).mono ?_; rintro e w4 ⟨rfl, hb4⟩; have hS4 := heldB (hS3.alloc hS3.size _) hb4 (Nat.le_refl _)))
  go_wp2
  go_ret
  exact ⟨rfl, HB.out.trans (hS4.mono (by omega))⟩

set_option maxHeartbeats 4000000 in
theorem ofLeaf_any (k b x t l tag : Int) (seed : ByteArray) (p0 p1 p2 p3 : Int) (bk o c : Nat) (xs : List ByteArray) (w : World) (hcells : ∀ (j : Nat) y, xs[j]? = some y → w.cell? ⟨bk, o + j, none⟩ = some (.string y)) (hbk : bk < w.heap.size) (hcap : xs.length ≤ c) (hN : xs.length ≤ 1000)
    (hk : k = 1 ∨ k = 2) (h1 : 1 ≤ b) (h2 : b ≤ 16) (hs : seed.size + (cat xs).size ≤ 200) (hT : Tn w) :
    Calls Tryz.prog 317 #[.agg #[.int .i64 k, .int .i64 b, .int .i64 x, .int .i64 t, .int .i64 l, .string seed, .int .i64 p0, .int .i64 p1, .int .i64 p2, .int .i64 p3], .int .i64 tag, .slice (some ⟨bk, o, none⟩) xs.length c] w fun e w' => e = .returned (.string (hv k b (numB 1 tag ++ (seed ++ (numB 1 p0 ++ (numB 4 p1 ++ (numB 1 p2 ++ cat xs))))))) ∧ Below w.heap.size w w' := by
  obtain ⟨W0, hW⟩ : ∃ W0, w.alloc (.cells #[.int .i64 k, .int .i64 b, .int .i64 x, .int .i64 t, .int .i64 l, .string seed, .int .i64 p0, .int .i64 p1, .int .i64 p2, .int .i64 p3] 344) = W0 := ⟨_, rfl⟩
  have HF := hide (show TenC w.heap.size W0 k b x t l seed p0 p1 p2 p3 by subst hW; refine ⟨?_, ?_, ?_, ?_, ?_, ?_, ?_, ?_, ?_, ?_⟩ <;> simp [go_sem])
  have HB := hide (show Below w.heap.size w W0 by subst hW; exact (Below.refl _ _).alloc (Nat.le_refl _) _)
  have hz : W0.heap.size = w.heap.size + 1 := by subst hW; simp
  have HT := hide (hT.on HB.out)
  have HS := hide (fun (V : World) (h : Below W0.heap.size W0 V) => (by
    obtain ⟨c0, c1, c2, c3, c4, c5, c6, c7, c8, c9⟩ := HF.out.below h (by omega)
    exact ⟨c0, c1, c2, c3, c4, c5, c6, c7, c8, c9, h⟩ : V.cell? ⟨w.heap.size, 0, none⟩ = some (.int .i64 k) ∧ V.cell? ⟨w.heap.size, 1, none⟩ = some (.int .i64 b) ∧ V.cell? ⟨w.heap.size, 2, none⟩ = some (.int .i64 x) ∧ V.cell? ⟨w.heap.size, 3, none⟩ = some (.int .i64 t) ∧ V.cell? ⟨w.heap.size, 4, none⟩ = some (.int .i64 l) ∧ V.cell? ⟨w.heap.size, 5, none⟩ = some (.string seed) ∧ V.cell? ⟨w.heap.size, 6, none⟩ = some (.int .i64 p0) ∧ V.cell? ⟨w.heap.size, 7, none⟩ = some (.int .i64 p1) ∧ V.cell? ⟨w.heap.size, 8, none⟩ = some (.int .i64 p2) ∧ V.cell? ⟨w.heap.size, 9, none⟩ = some (.int .i64 p3) ∧ Below W0.heap.size W0 V))
  have HO1 := hide (fun V : World => one_any p2 V)
  have HJ := hide (fun (V : World) (h : Below W0.heap.size W0 V) => join_any bk o c xs V (fun j y hj => (h.cell (p := ⟨bk, o + j, none⟩) (by show bk < W0.heap.size; omega)).trans ((HB.out.cell (p := ⟨bk, o + j, none⟩) hbk).trans (hcells j y hj))) (by have := h.size; omega) hN hcap (by omega))
  have HV := hide (fun (V : World) (h : Below W0.heap.size W0 V) => ofTree_any k b x t l tag seed p0 p1 p2 p3 V.heap.size 0 2 [numB 1 p2, cat xs] (V.alloc (.cells #[.string (numB 1 p2), .string (cat xs)] 9)) (by
    intro j y hj
    match j, hj with
    | 0, hj => simp at hj; subst hj; simp [go_sem]
    | 1, hj => simp at hj; subst hj; simp [go_sem]) (by simp) (by simp) (by simp) hk h1 h2 (by rw [cat_size]; simp [numB_size]; omega) ((HT.out.on h).alloc _))
  simp only [cat, append_empty, List.length_cons, List.length_nil, Nat.reduceAdd] at HV
  clear hcells hT
  go_enter Tryz.func317, Tryz.ntmps317
  go_wp2_with fail
  try rw [hW]
  go_region_held3 (fun V => V.cell? ⟨w.heap.size, 0, none⟩ = some (.int .i64 k) ∧ V.cell? ⟨w.heap.size, 1, none⟩ = some (.int .i64 b) ∧ V.cell? ⟨w.heap.size, 2, none⟩ = some (.int .i64 x) ∧ V.cell? ⟨w.heap.size, 3, none⟩ = some (.int .i64 t) ∧ V.cell? ⟨w.heap.size, 4, none⟩ = some (.int .i64 l) ∧ V.cell? ⟨w.heap.size, 5, none⟩ = some (.string seed) ∧ V.cell? ⟨w.heap.size, 6, none⟩ = some (.int .i64 p0) ∧ V.cell? ⟨w.heap.size, 7, none⟩ = some (.int .i64 p1) ∧ V.cell? ⟨w.heap.size, 8, none⟩ = some (.int .i64 p2) ∧ V.cell? ⟨w.heap.size, 9, none⟩ = some (.int .i64 p3) ∧ Below W0.heap.size W0 V) (first | exact HS.out _ hS4 | exact HS.out _ (hS3.alloc hS3.size _) | exact HS.out _ hS3 | exact HS.out _ hS1 | exact HS.out _ (Below.refl _ _).drew) (first | (go_at_call 312; refine (HO1.out _).mono ?_; rintro e w1 ⟨rfl, hb1⟩; have hS1 := heldB (Below.refl W0.heap.size W0).drew hb1 (Nat.le_refl _)) | (go_at_call 161; refine (HJ.out _ hS1).mono ?_; rintro e w3 ⟨rfl, hb3⟩; have hS3 := heldB hS1 hb3 (Nat.le_refl _)) | (go_at_call 311; refine (HV.out _ hS3).mono ?_; rintro e w4 ⟨rfl, hb4⟩; have hS4 := heldB (hS3.alloc hS3.size _) hb4 (Nat.le_refl _)))
  go_wp2
  go_ret
  exact ⟨rfl, HB.out.trans (hS4.mono (by omega))⟩
end Go.Proofs.YtgaoeoijdpdjiabGreatDoor

namespace Go.Proofs.YtgaoeoijdpdjiabGreatDoor
open Go.RowKit

theorem byte_of (m : ByteArray) (j : Nat) (h : j < m.size) : at0M (bytesN m) j = (m[j]'h).toNat := byte_at m j h

theorem refDigit_any (b x e f : Nat) (hp : Pair b x e f) (k : Int) (t l i : Nat) (m : ByteArray) (w : World) (h1 : 1 ≤ t) (h2 : t ≤ 4) (h3 : 1 ≤ l) (h4 : l ≤ 3) (hm : m.size = b) (hi : i < b * e) :
    Calls Tryz.prog 166 #[.agg #[.int .i64 k, .int .i64 b, .int .i64 x, .int .i64 t, .int .i64 l], .string m, .int .i64 i] w fun r w' => r = .returned (.int .i64 ((at0M (firsts x e (bytesN m)) i : Nat) : Int)) ∧ Below w.heap.size w w' := by
  have he : 0 < e := by rcases hp with ⟨rfl, rfl, rfl, rfl⟩ | ⟨rfl, rfl, rfl, rfl⟩ | ⟨rfl, rfl, rfl, rfl⟩ | ⟨rfl, rfl, rfl, rfl⟩ <;> decide
  have q1 : i / e < m.size := by rw [hm]; exact Nat.div_lt_of_lt_mul (by rw [Nat.mul_comm]; exact hi)
  have key := firsts_at x e (bytesN m) i he (by rw [bytesN_length, hm]; exact hi)
  rw [byte_of m (i / e) q1] at key
  rw [key]
  rcases hp with ⟨rfl, rfl, rfl, rfl⟩ | ⟨rfl, rfl, rfl, rfl⟩ | ⟨rfl, rfl, rfl, rfl⟩ | ⟨rfl, rfl, rfl, rfl⟩
  · rcases (show i % 4 = 0 ∨ i % 4 = 1 ∨ i % 4 = 2 ∨ i % 4 = 3 by omega) with hr | hr | hr | hr
    · have h := digit_4_4_0 k t l i _ m w h1 h2 h3 h4 hm hi hr q1 rfl
      rw [hr]
      simpa [digs, at0M] using h
    · have h := digit_4_4_1 k t l i _ m w h1 h2 h3 h4 hm hi hr q1 rfl
      rw [hr]
      simpa [digs, at0M] using h
    · have h := digit_4_4_2 k t l i _ m w h1 h2 h3 h4 hm hi hr q1 rfl
      rw [hr]
      simpa [digs, at0M] using h
    · have h := digit_4_4_3 k t l i _ m w h1 h2 h3 h4 hm hi hr q1 rfl
      rw [hr]
      simpa [digs, at0M] using h
  · rcases (show i % 4 = 0 ∨ i % 4 = 1 ∨ i % 4 = 2 ∨ i % 4 = 3 by omega) with hr | hr | hr | hr
    · have h := digit_8_4_0 k t l i _ m w h1 h2 h3 h4 hm hi hr q1 rfl
      rw [hr]
      simpa [digs, at0M] using h
    · have h := digit_8_4_1 k t l i _ m w h1 h2 h3 h4 hm hi hr q1 rfl
      rw [hr]
      simpa [digs, at0M] using h
    · have h := digit_8_4_2 k t l i _ m w h1 h2 h3 h4 hm hi hr q1 rfl
      rw [hr]
      simpa [digs, at0M] using h
    · have h := digit_8_4_3 k t l i _ m w h1 h2 h3 h4 hm hi hr q1 rfl
      rw [hr]
      simpa [digs, at0M] using h
  · rcases (show i % 2 = 0 ∨ i % 2 = 1 by omega) with hr | hr
    · have h := digit_4_16_0 k t l i _ m w h1 h2 h3 h4 hm hi hr q1 rfl
      rw [hr]
      simpa [digs, at0M] using h
    · have h := digit_4_16_1 k t l i _ m w h1 h2 h3 h4 hm hi hr q1 rfl
      rw [hr]
      simpa [digs, at0M] using h
  · rcases (show i % 2 = 0 ∨ i % 2 = 1 by omega) with hr | hr
    · have h := digit_8_16_0 k t l i _ m w h1 h2 h3 h4 hm hi hr q1 rfl
      rw [hr]
      simpa [digs, at0M] using h
    · have h := digit_8_16_1 k t l i _ m w h1 h2 h3 h4 hm hi hr q1 rfl
      rw [hr]
      simpa [digs, at0M] using h
end Go.Proofs.YtgaoeoijdpdjiabGreatDoor
