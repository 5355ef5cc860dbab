/-
  The program's Of: ErrArg, ErrLong, or the first n bytes of the whole. The document's H, and the program's Value. What goes into a digest at a place of a tree, of a leaf: ofTree, ofLeaf. Chains: start, chain; and join.
-/
import Derived.Test.YtgaoeoijdpdjiaaGreatDoorPart10
import Derived.Test.YtgaoeoijdpdjiaaGreatDoorPart13
import Derived.Test.YtgaoeoijdpdjiaaGreatDoorPart6
import Derived.Test.YtgaoeoijdpdjiaaGreatDoorPart3
import Derived.Deep.RegionHeld3
import Derived.Deep.DrawnRows
namespace Go.Proofs.YtgaoeoijdpdjiaaGreatDoor
open Go.RowKit
def whole32 (s : ByteArray) : ByteArray := textOf (outs 4 (soak32 (padRow s ((s.size / 16 + 1) * 16)) (s.size / 16 + 1)) 16)
def whole64 (s : ByteArray) : ByteArray := textOf (outs 8 (soak64 (padRow s ((s.size / 32 + 1) * 32)) (s.size / 32 + 1)) 32)
theorem whole32_size (s : ByteArray) : (whole32 s).size = 16 := by unfold whole32; rw [textOf_size, outs_length]
theorem whole64_size (s : ByteArray) : (whole64 s).size = 32 := by unfold whole64; rw [textOf_size, outs_length]
theorem whole32_at (s : ByteArray) (w : World) (hs : s.size ≤ 400) (hT : Turns32 w) (hw : 0 < w.heap.size) :
    Calls Tryz.prog 146 #[.string s] w fun e w' => e = .returned (.string (whole32 s)) ∧ Below w.heap.size w w' := whole_32 s w hs hT hw
theorem whole64_at (s : ByteArray) (w : World) (hs : s.size ≤ 400) (hT : Turns64 w) (hw : 0 < w.heap.size) :
    Calls Tryz.prog 147 #[.string s] w fun e w' => e = .returned (.string (whole64 s)) ∧ Below w.heap.size w w' := whole_64 s w hs hT hw
theorem of_arg (kind n : Int) (s : ByteArray) (w : World) (h : ¬ ((kind = 1 ∨ kind = 2) ∧ 1 ≤ n ∧ n ≤ 16)) :
    Calls Tryz.prog 68 #[.int .i64 kind, .int .i64 n, .string s] w fun e w' => e = .returned (.tuple #[.string ⟨#[]⟩, .int .i64 2]) ∧ w' = w := by
  by_cases h1 : kind = 1
  · subst h1
    by_cases h2 : n < 1
    · go_enter Tryz.func68, Tryz.ntmps68
      go_wp2
      go_ret2
      exact ⟨rfl, rfl⟩
    · have h3 : 16 < n := by omega
      go_enter Tryz.func68, Tryz.ntmps68
      go_wp2
      go_ret2
      exact ⟨rfl, rfl⟩
  · by_cases h1' : kind = 2
    · subst h1'
      by_cases h2 : n < 1
      · go_enter Tryz.func68, Tryz.ntmps68
        go_wp2
        go_ret2
        exact ⟨rfl, rfl⟩
      · have h3 : 16 < n := by omega
        go_enter Tryz.func68, Tryz.ntmps68
        go_wp2
        go_ret2
        exact ⟨rfl, rfl⟩
    · go_enter Tryz.func68, Tryz.ntmps68
      go_wp2
      go_ret2
      exact ⟨rfl, rfl⟩
theorem of_long (kind n : Int) (s : ByteArray) (w : World) (h1 : kind = 1 ∨ kind = 2) (h2 : 1 ≤ n) (h3 : n ≤ 16) (hs : 400 < s.size) :
    Calls Tryz.prog 68 #[.int .i64 kind, .int .i64 n, .string s] w fun e w' => e = .returned (.tuple #[.string ⟨#[]⟩, .int .i64 3]) ∧ w' = w := by
  rcases h1 with rfl | rfl
  · go_enter Tryz.func68, Tryz.ntmps68
    go_wp2
    go_ret2
    exact ⟨rfl, rfl⟩
  · go_enter Tryz.func68, Tryz.ntmps68
    go_wp2
    go_ret2
    exact ⟨rfl, rfl⟩
theorem of_32 (n : Nat) (s : ByteArray) (w : World) (h2 : 1 ≤ n) (h3 : n ≤ 16) (hs : s.size ≤ 400) (hT : Turns32 w) (hw : 0 < w.heap.size) :
    Calls Tryz.prog 68 #[.int .i64 1, .int .i64 (n : Int), .string s] w fun e w' => e = .returned (.tuple #[.string ((whole32 s).extract 0 n), .int .i64 0]) ∧ Below w.heap.size w w' := by
  have HW := hide (whole32_at s w hs hT hw)
  have hz := whole32_size s
  clear hT
  go_enter Tryz.func68, Tryz.ntmps68
  go_wp2_with fail
  refine HW.out.mono ?_
  rintro e w1 ⟨rfl, hb⟩
  go_wp2
  go_ret2
  exact ⟨rfl, hb⟩
theorem of_64 (n : Nat) (s : ByteArray) (w : World) (h2 : 1 ≤ n) (h3 : n ≤ 16) (hs : s.size ≤ 400) (hT : Turns64 w) (hw : 0 < w.heap.size) :
    Calls Tryz.prog 68 #[.int .i64 2, .int .i64 (n : Int), .string s] w fun e w' => e = .returned (.tuple #[.string ((whole64 s).extract 0 n), .int .i64 0]) ∧ Below w.heap.size w w' := by
  have HW := hide (whole64_at s w hs hT hw)
  have hz := whole64_size s
  clear hT
  go_enter Tryz.func68, Tryz.ntmps68
  go_wp2_with fail
  refine HW.out.mono ?_
  rintro e w1 ⟨rfl, hb⟩
  go_wp2
  go_ret2
  exact ⟨rfl, hb⟩
/-- What signet.Digest answers. -/
def digAns (kind n : Int) (s : ByteArray) : ByteArray × Int :=
  if (kind = 1 ∨ kind = 2) ∧ 1 ≤ n ∧ n ≤ 16 then (if s.size ≤ 400 then (if kind = 1 then ((whole32 s).extract 0 n.toNat, 0) else ((whole64 s).extract 0 n.toNat, 0)) else (⟨#[]⟩, 3)) else (⟨#[]⟩, 2)
theorem of_ans (kind n : Int) (s : ByteArray) (w : World) (h3 : Turns32 w) (h6 : Turns64 w) (hw : 0 < w.heap.size) :
    Calls Tryz.prog 68 #[.int .i64 kind, .int .i64 n, .string s] w fun e w' => e = .returned (.tuple #[.string (digAns kind n s).1, .int .i64 (digAns kind n s).2]) ∧ Below w.heap.size w w' := by
  by_cases h : (kind = 1 ∨ kind = 2) ∧ 1 ≤ n ∧ n ≤ 16
  · obtain ⟨hk, h1, h2⟩ := h
    by_cases hs : s.size ≤ 400
    · obtain ⟨m, rfl⟩ : ∃ m : Nat, n = (m : Int) := ⟨n.toNat, by omega⟩
      rcases hk with rfl | rfl
      · refine (of_32 m s w (by omega) (by omega) hs h3 hw).mono ?_
        rintro e w' ⟨rfl, hb⟩
        exact ⟨by simp [digAns, h1, h2, hs], hb⟩
      · refine (of_64 m s w (by omega) (by omega) hs h6 hw).mono ?_
        rintro e w' ⟨rfl, hb⟩
        exact ⟨by simp [digAns, h1, h2, hs], hb⟩
    · refine (of_long kind n s w hk h1 h2 (by omega)).mono ?_
      rintro e w' ⟨rfl, rfl⟩
      exact ⟨by simp [digAns, hk, h1, h2, hs], Below.refl _ _⟩
  · refine (of_arg kind n s w h).mono ?_
    rintro e w' ⟨rfl, rfl⟩
    exact ⟨by rw [digAns, if_neg h], Below.refl _ _⟩
end Go.Proofs.YtgaoeoijdpdjiaaGreatDoor

namespace Go.Proofs.YtgaoeoijdpdjiaaGreatDoor
open Go.RowKit
/-- The table of turns lies where the program reads it. -/
def Tn (w : World) : Prop := Turns32 w ∧ Turns64 w ∧ 0 < w.heap.size
theorem Tn.below {w w' : World} {B : Nat} (h : Tn w) (hb : Below B w w') (hB : 0 < B) : Tn w' := by
  obtain ⟨h3, h6, hw⟩ := h
  have hs := hb.size
  exact ⟨fun i hi => (hb.cell (p := ⟨0, i, none⟩) hB).trans (h3 i hi), fun i hi => (hb.cell (p := ⟨0, i, none⟩) hB).trans (h6 i hi), by omega⟩
theorem Tn.pos {w : World} (h : Tn w) : 0 < w.heap.size := h.2.2
theorem Tn.on {w w' : World} (h : Tn w) (hb : Below w.heap.size w w') : Tn w' := h.below hb h.pos
theorem Tn.alloc {w : World} (h : Tn w) (o : Obj) : Tn (w.alloc o) := h.on ((Below.refl _ _).alloc (Nat.le_refl _) o)
/-- The digest of a text, for words of the kind k, of b bytes. -/
def hv (k b : Int) (s : ByteArray) : ByteArray := (digAns k b s).1
theorem of_hv (k b : Int) (s : ByteArray) (w : World) (hk : k = 1 ∨ k = 2) (h1 : 1 ≤ b) (h2 : b ≤ 16) (hs : s.size ≤ 400) (hT : Tn w) :
    Calls Tryz.prog 68 #[.int .i64 k, .int .i64 b, .string s] w fun e w' => e = .returned (.tuple #[.string (hv k b s), .int .i64 0]) ∧ Below w.heap.size w w' := by
  refine (of_ans k b s w hT.1 hT.2.1 hT.2.2).mono ?_
  rintro e w' ⟨rfl, hb⟩
  refine ⟨?_, hb⟩
  have : (digAns k b s).2 = 0 := by
    unfold digAns
    rcases hk with rfl | rfl <;> simp [h1, h2, hs]
  rw [this]; rfl
theorem hv_size (k b : Int) (s : ByteArray) (hk : k = 1 ∨ k = 2) (h1 : 1 ≤ b) (h2 : b ≤ 16) (hs : s.size ≤ 400) : ((hv k b s).size : Int) = b := by
  unfold hv digAns
  have h3 := whole32_size s
  have h6 := whole64_size s
  rcases hk with rfl | rfl <;> simp [h1, h2, hs, ByteArray.size_extract, h3, h6] <;> omega
set_option maxHeartbeats 1000000 in
theorem value_any (k b x t l tag : Int) (bk o c : Nat) (xs : List ByteArray) (w : World) (hcells : ∀ (j : Nat) y, xs[j]? = some y → w.cell? ⟨bk, o + j, none⟩ = some (.string y)) (hbk : bk < w.heap.size) (hcap : xs.length ≤ c) (hN : xs.length ≤ 1000)
    (hk : k = 1 ∨ k = 2) (h1 : 1 ≤ b) (h2 : b ≤ 16) (hs : (cat xs).size ≤ 399) (hT : Tn w) :
    Calls Tryz.prog 233 #[.agg #[.int .i64 k, .int .i64 b, .int .i64 x, .int .i64 t, .int .i64 l], .int .i64 tag, .slice (some ⟨bk, o, none⟩) xs.length c] w fun e w' => e = .returned (.string (hv k b (numB 1 tag ++ cat xs))) ∧ Below w.heap.size w w' := by
  have HN := hide (fun w' : World => number_any 1 tag w' (by decide))
  have HJ := hide (fun (w' : World) (hb : Below (w.heap.size + 1) (w.alloc (.cells #[.int .i64 k, .int .i64 b, .int .i64 x, .int .i64 t, .int .i64 l] 23)) w') => join_any bk o c xs w' (fun j y h => (hb.cell (p := ⟨bk, o + j, none⟩) (by show bk < w.heap.size + 1; omega)).trans ((World.cell?_alloc_past _ _ _ hbk).trans (hcells j y h))) (by have := hb.size; simp at this; omega) hN hcap (by omega))
  have HO := hide (fun (w' : World) (hb : Below (w.heap.size + 1) (w.alloc (.cells #[.int .i64 k, .int .i64 b, .int .i64 x, .int .i64 t, .int .i64 l] 23)) w') => of_hv k b (numB 1 tag ++ cat xs) w' hk h1 h2 (by rw [ByteArray.size_append, numB_size]; omega) ((hT.alloc _).below hb (by omega)))
  clear hcells hT
  have hcc : ∀ w : World, (Op.stringOp .add (numB 1 tag) (cat xs)).run Tryz.prog w = .ok (.string (numB 1 tag ++ cat xs)) w := fun w => run_string_add w _ _ (by rw [numB_size]; omega) (by omega)
  go_enter Tryz.func233, Tryz.ntmps233
  go_wp2_with fail
  go_region_held3 (fun w' => w'.cell? ⟨w.heap.size, 0, none⟩ = some (.int .i64 k) ∧ w'.cell? ⟨w.heap.size, 1, none⟩ = some (.int .i64 b) ∧ Below (w.heap.size + 1) (w.alloc (.cells #[.int .i64 k, .int .i64 b, .int .i64 x, .int .i64 t, .int .i64 l] 23)) w') (first | exact hS3 | exact hS2 | exact hS1 | exact ⟨by simp [go_sem], by simp [go_sem], (Below.refl _ _).drew⟩) (first | (go_at_call 234; refine (HN.out _).mono ?_; rintro e w1 ⟨rfl, hb1⟩; have hS1 := held2 (by assumption) hb1 (by simp) (by simp) (by simp)) | (go_at_call 235; refine (HJ.out _ hS1.2.2).mono ?_; rintro e w2 ⟨rfl, hb2⟩; have hS2 := held2 hS1 hb2 (by simp) (by simp) (by simp)) | (go_at_call 68; refine (HO.out _ hS2.2.2).mono ?_; rintro e w3 ⟨rfl, hb3⟩; have hS3 := held2 hS2 hb3 (by simp) (by simp) (by simp)))
  go_wp2
  go_ret
  exact ⟨rfl, ((Below.refl _ _).alloc (Nat.le_refl _) _).trans (hS3.2.2.mono (by omega))⟩
end Go.Proofs.YtgaoeoijdpdjiaaGreatDoor

namespace Go.Proofs.YtgaoeoijdpdjiaaGreatDoor
open Go.RowKit
set_option maxHeartbeats 4000000 in
theorem ofTree_any (k b x t l tag : Int) (seed : ByteArray) (p0 p1 p2 p3 : Int) (bk o c : Nat) (xs : List ByteArray) (w : World) (hcells : ∀ (j : Nat) y, xs[j]? = some y → w.cell? ⟨bk, o + j, none⟩ = some (.string y)) (hbk : bk < w.heap.size) (hcap : xs.length ≤ c) (hN : xs.length ≤ 1000)
    (hk : k = 1 ∨ k = 2) (h1 : 1 ≤ b) (h2 : b ≤ 16) (hs : seed.size + (cat xs).size ≤ 300) (hT : Tn w) :
    Calls Tryz.prog 154 #[.agg #[.int .i64 k, .int .i64 b, .int .i64 x, .int .i64 t, .int .i64 l, .string seed, .int .i64 p0, .int .i64 p1, .int .i64 p2, .int .i64 p3], .int .i64 tag, .slice (some ⟨bk, o, none⟩) xs.length c] w fun e w' => e = .returned (.string (hv k b (numB 1 tag ++ (seed ++ (numB 1 p0 ++ (numB 4 p1 ++ cat xs)))))) ∧ Below w.heap.size w w' := by
  obtain ⟨W0, hW⟩ : ∃ W0, w.alloc (.cells #[.int .i64 k, .int .i64 b, .int .i64 x, .int .i64 t, .int .i64 l, .string seed, .int .i64 p0, .int .i64 p1, .int .i64 p2, .int .i64 p3] 140) = W0 := ⟨_, rfl⟩
  have HF := hide (show TenC w.heap.size W0 k b x t l seed p0 p1 p2 p3 by subst hW; refine ⟨?_, ?_, ?_, ?_, ?_, ?_, ?_, ?_, ?_, ?_⟩ <;> simp [go_sem])
  have HB := hide (show Below w.heap.size w W0 by subst hW; exact (Below.refl _ _).alloc (Nat.le_refl _) _)
  have hz : W0.heap.size = w.heap.size + 1 := by subst hW; simp
  have HT := hide (hT.on HB.out)
  have HS := hide (fun (V : World) (h : Below W0.heap.size W0 V) => (by
    obtain ⟨c0, c1, c2, c3, c4, c5, c6, c7, c8, c9⟩ := HF.out.below h (by omega)
    exact ⟨c0, c1, c2, c3, c4, c5, c6, c7, h⟩ : V.cell? ⟨w.heap.size, 0, none⟩ = some (.int .i64 k) ∧ V.cell? ⟨w.heap.size, 1, none⟩ = some (.int .i64 b) ∧ V.cell? ⟨w.heap.size, 2, none⟩ = some (.int .i64 x) ∧ V.cell? ⟨w.heap.size, 3, none⟩ = some (.int .i64 t) ∧ V.cell? ⟨w.heap.size, 4, none⟩ = some (.int .i64 l) ∧ V.cell? ⟨w.heap.size, 5, none⟩ = some (.string seed) ∧ V.cell? ⟨w.heap.size, 6, none⟩ = some (.int .i64 p0) ∧ V.cell? ⟨w.heap.size, 7, none⟩ = some (.int .i64 p1) ∧ Below W0.heap.size W0 V))
  have HO1 := hide (fun V : World => one_any p0 V)
  have HN4 := hide (fun V : World => number_any 4 p1 V (by decide))
  have HJ := hide (fun (V : World) (h : Below W0.heap.size W0 V) => join_any bk o c xs V (fun j y hj => (h.cell (p := ⟨bk, o + j, none⟩) (by show bk < W0.heap.size; omega)).trans ((HB.out.cell (p := ⟨bk, o + j, none⟩) hbk).trans (hcells j y hj))) (by have := h.size; omega) hN hcap (by omega))
  have HV := hide (fun (V : World) (h : Below W0.heap.size W0 V) => value_any k b x t l tag V.heap.size 0 4 [seed, numB 1 p0, numB 4 p1, cat xs] (V.alloc (.cells #[.string seed, .string (numB 1 p0), .string (numB 4 p1), .string (cat xs)] 9)) (by
    intro j y hj
    match j, hj with
    | 0, hj => simp at hj; subst hj; simp [go_sem]
    | 1, hj => simp at hj; subst hj; simp [go_sem]
    | 2, hj => simp at hj; subst hj; simp [go_sem]
    | 3, hj => simp at hj; subst hj; simp [go_sem]) (by simp) (by simp) (by simp) hk h1 h2 (by rw [cat_size]; simp [numB_size]; omega) ((HT.out.on h).alloc _))
  simp only [cat, append_empty, List.length_cons, List.length_nil, Nat.reduceAdd] at HV
  clear hcells hT
  go_enter Tryz.func154, Tryz.ntmps154
  go_wp2_with fail
  try rw [hW]
  go_region_held3 (fun V => V.cell? ⟨w.heap.size, 0, none⟩ = some (.int .i64 k) ∧ V.cell? ⟨w.heap.size, 1, none⟩ = some (.int .i64 b) ∧ V.cell? ⟨w.heap.size, 2, none⟩ = some (.int .i64 x) ∧ V.cell? ⟨w.heap.size, 3, none⟩ = some (.int .i64 t) ∧ V.cell? ⟨w.heap.size, 4, none⟩ = some (.int .i64 l) ∧ V.cell? ⟨w.heap.size, 5, none⟩ = some (.string seed) ∧ V.cell? ⟨w.heap.size, 6, none⟩ = some (.int .i64 p0) ∧ V.cell? ⟨w.heap.size, 7, none⟩ = some (.int .i64 p1) ∧ Below W0.heap.size W0 V) (first | exact HS.out _ hS4 | exact HS.out _ (hS3.alloc hS3.size _) | exact HS.out _ hS3 | exact HS.out _ hS2 | exact HS.out _ hS1 | exact HS.out _ (Below.refl _ _).drew) (first | (go_at_call 155; refine (HO1.out _).mono ?_; rintro e w1 ⟨rfl, hb1⟩; have hS1 := heldB (Below.refl W0.heap.size W0).drew hb1 (Nat.le_refl _)) | (go_at_call 234; refine (HN4.out _).mono ?_; rintro e w2 ⟨rfl, hb2⟩; have hS2 := heldB hS1 hb2 (Nat.le_refl _)) | (go_at_call 235; refine (HJ.out _ hS2).mono ?_; rintro e w3 ⟨rfl, hb3⟩; have hS3 := heldB hS2 hb3 (Nat.le_refl _)) | (go_at_call 233; refine (HV.out _ hS3).mono ?_; rintro e w4 ⟨rfl, hb4⟩; have hS4 := heldB (hS3.alloc hS3.size _) hb4 (Nat.le_refl _)))
  go_wp2
  go_ret
  exact ⟨rfl, HB.out.trans (hS4.mono (by omega))⟩
set_option maxHeartbeats 4000000 in
theorem ofLeaf_any (k b x t l tag : Int) (seed : ByteArray) (p0 p1 p2 p3 : Int) (bk o c : Nat) (xs : List ByteArray) (w : World) (hcells : ∀ (j : Nat) y, xs[j]? = some y → w.cell? ⟨bk, o + j, none⟩ = some (.string y)) (hbk : bk < w.heap.size) (hcap : xs.length ≤ c) (hN : xs.length ≤ 1000)
    (hk : k = 1 ∨ k = 2) (h1 : 1 ≤ b) (h2 : b ≤ 16) (hs : seed.size + (cat xs).size ≤ 200) (hT : Tn w) :
    Calls Tryz.prog 165 #[.agg #[.int .i64 k, .int .i64 b, .int .i64 x, .int .i64 t, .int .i64 l, .string seed, .int .i64 p0, .int .i64 p1, .int .i64 p2, .int .i64 p3], .int .i64 tag, .slice (some ⟨bk, o, none⟩) xs.length c] w fun e w' => e = .returned (.string (hv k b (numB 1 tag ++ (seed ++ (numB 1 p0 ++ (numB 4 p1 ++ (numB 1 p2 ++ cat xs))))))) ∧ Below w.heap.size w w' := by
  obtain ⟨W0, hW⟩ : ∃ W0, w.alloc (.cells #[.int .i64 k, .int .i64 b, .int .i64 x, .int .i64 t, .int .i64 l, .string seed, .int .i64 p0, .int .i64 p1, .int .i64 p2, .int .i64 p3] 140) = W0 := ⟨_, rfl⟩
  have HF := hide (show TenC w.heap.size W0 k b x t l seed p0 p1 p2 p3 by subst hW; refine ⟨?_, ?_, ?_, ?_, ?_, ?_, ?_, ?_, ?_, ?_⟩ <;> simp [go_sem])
  have HB := hide (show Below w.heap.size w W0 by subst hW; exact (Below.refl _ _).alloc (Nat.le_refl _) _)
  have hz : W0.heap.size = w.heap.size + 1 := by subst hW; simp
  have HT := hide (hT.on HB.out)
  have HS := hide (fun (V : World) (h : Below W0.heap.size W0 V) => (by
    obtain ⟨c0, c1, c2, c3, c4, c5, c6, c7, c8, c9⟩ := HF.out.below h (by omega)
    exact ⟨c0, c1, c2, c3, c4, c5, c6, c7, c8, c9, h⟩ : V.cell? ⟨w.heap.size, 0, none⟩ = some (.int .i64 k) ∧ V.cell? ⟨w.heap.size, 1, none⟩ = some (.int .i64 b) ∧ V.cell? ⟨w.heap.size, 2, none⟩ = some (.int .i64 x) ∧ V.cell? ⟨w.heap.size, 3, none⟩ = some (.int .i64 t) ∧ V.cell? ⟨w.heap.size, 4, none⟩ = some (.int .i64 l) ∧ V.cell? ⟨w.heap.size, 5, none⟩ = some (.string seed) ∧ V.cell? ⟨w.heap.size, 6, none⟩ = some (.int .i64 p0) ∧ V.cell? ⟨w.heap.size, 7, none⟩ = some (.int .i64 p1) ∧ V.cell? ⟨w.heap.size, 8, none⟩ = some (.int .i64 p2) ∧ V.cell? ⟨w.heap.size, 9, none⟩ = some (.int .i64 p3) ∧ Below W0.heap.size W0 V))
  have HO1 := hide (fun V : World => one_any p2 V)
  have HJ := hide (fun (V : World) (h : Below W0.heap.size W0 V) => join_any bk o c xs V (fun j y hj => (h.cell (p := ⟨bk, o + j, none⟩) (by show bk < W0.heap.size; omega)).trans ((HB.out.cell (p := ⟨bk, o + j, none⟩) hbk).trans (hcells j y hj))) (by have := h.size; omega) hN hcap (by omega))
  have HV := hide (fun (V : World) (h : Below W0.heap.size W0 V) => ofTree_any k b x t l tag seed p0 p1 p2 p3 V.heap.size 0 2 [numB 1 p2, cat xs] (V.alloc (.cells #[.string (numB 1 p2), .string (cat xs)] 9)) (by
    intro j y hj
    match j, hj with
    | 0, hj => simp at hj; subst hj; simp [go_sem]
    | 1, hj => simp at hj; subst hj; simp [go_sem]) (by simp) (by simp) (by simp) hk h1 h2 (by rw [cat_size]; simp [numB_size]; omega) ((HT.out.on h).alloc _))
  simp only [cat, append_empty, List.length_cons, List.length_nil, Nat.reduceAdd] at HV
  clear hcells hT
  go_enter Tryz.func165, Tryz.ntmps165
  go_wp2_with fail
  try rw [hW]
  go_region_held3 (fun V => V.cell? ⟨w.heap.size, 0, none⟩ = some (.int .i64 k) ∧ V.cell? ⟨w.heap.size, 1, none⟩ = some (.int .i64 b) ∧ V.cell? ⟨w.heap.size, 2, none⟩ = some (.int .i64 x) ∧ V.cell? ⟨w.heap.size, 3, none⟩ = some (.int .i64 t) ∧ V.cell? ⟨w.heap.size, 4, none⟩ = some (.int .i64 l) ∧ V.cell? ⟨w.heap.size, 5, none⟩ = some (.string seed) ∧ V.cell? ⟨w.heap.size, 6, none⟩ = some (.int .i64 p0) ∧ V.cell? ⟨w.heap.size, 7, none⟩ = some (.int .i64 p1) ∧ V.cell? ⟨w.heap.size, 8, none⟩ = some (.int .i64 p2) ∧ V.cell? ⟨w.heap.size, 9, none⟩ = some (.int .i64 p3) ∧ Below W0.heap.size W0 V) (first | exact HS.out _ hS4 | exact HS.out _ (hS3.alloc hS3.size _) | exact HS.out _ hS3 | exact HS.out _ hS1 | exact HS.out _ (Below.refl _ _).drew) (first | (go_at_call 155; refine (HO1.out _).mono ?_; rintro e w1 ⟨rfl, hb1⟩; have hS1 := heldB (Below.refl W0.heap.size W0).drew hb1 (Nat.le_refl _)) | (go_at_call 235; refine (HJ.out _ hS1).mono ?_; rintro e w3 ⟨rfl, hb3⟩; have hS3 := heldB hS1 hb3 (Nat.le_refl _)) | (go_at_call 154; refine (HV.out _ hS3).mono ?_; rintro e w4 ⟨rfl, hb4⟩; have hS4 := heldB (hS3.alloc hS3.size _) hb4 (Nat.le_refl _)))
  go_wp2
  go_ret
  exact ⟨rfl, HB.out.trans (hS4.mono (by omega))⟩
end Go.Proofs.YtgaoeoijdpdjiaaGreatDoor

namespace Go.Proofs.YtgaoeoijdpdjiaaGreatDoor
open Go.RowKit
/-- What the document says of chains and nodes, as plain functions. -/
def startS (k b : Int) (sec : ByteArray) (p0 p1 p2 p3 : Int) : ByteArray := hv k b (numB 1 1 ++ (sec ++ (numB 1 p0 ++ (numB 4 p1 ++ (numB 1 p2 ++ numB 1 p3)))))
def stepS (k b : Int) (pub : ByteArray) (p0 p1 p2 p3 i : Int) (y : ByteArray) : ByteArray := hv k b (numB 1 2 ++ (pub ++ (numB 1 p0 ++ (numB 4 p1 ++ (numB 1 p2 ++ (numB 1 p3 ++ (numB 1 i ++ y)))))))
def chainS (k b : Int) (pub : ByteArray) (p0 p1 p2 p3 f : Int) : Nat → ByteArray → ByteArray
  | 0, y => y
  | n + 1, y => stepS k b pub p0 p1 p2 p3 (f + n) (chainS k b pub p0 p1 p2 p3 f n y)
def joinS (k b : Int) (pub : ByteArray) (p0 p1 h j : Int) (y z : ByteArray) : ByteArray := hv k b (numB 1 4 ++ (pub ++ (numB 1 p0 ++ (numB 4 p1 ++ (numB 1 h ++ (numB 1 j ++ (y ++ z)))))))
def pairS (k b : Int) (pub : ByteArray) (p0 p1 p2 r i : Int) (y z : ByteArray) : ByteArray := hv k b (numB 1 3 ++ (pub ++ (numB 1 p0 ++ (numB 4 p1 ++ (numB 1 p2 ++ (numB 1 r ++ (numB 1 i ++ (y ++ z))))))))
theorem stepS_size (k b : Int) (pub : ByteArray) (p0 p1 p2 p3 i : Int) (y : ByteArray) (hk : k = 1 ∨ k = 2) (h1 : 1 ≤ b) (h2 : b ≤ 16) (hp : pub.size ≤ 16) (hy : y.size ≤ 16) : ((stepS k b pub p0 p1 p2 p3 i y).size : Int) = b :=
  hv_size k b _ hk h1 h2 (by simp only [ByteArray.size_append, numB_size]; omega)
theorem chainS_size (k b : Int) (pub : ByteArray) (p0 p1 p2 p3 f : Int) (n : Nat) (y : ByteArray) (hk : k = 1 ∨ k = 2) (h1 : 1 ≤ b) (h2 : b ≤ 16) (hp : pub.size ≤ 16) (hy : (y.size : Int) = b) : ((chainS k b pub p0 p1 p2 p3 f n y).size : Int) = b := by
  induction n with
  | zero => exact hy
  | succ n ih => exact stepS_size k b pub p0 p1 p2 p3 _ _ hk h1 h2 hp (by omega)
theorem startS_size (k b : Int) (sec : ByteArray) (p0 p1 p2 p3 : Int) (hk : k = 1 ∨ k = 2) (h1 : 1 ≤ b) (h2 : b ≤ 16) (hp : sec.size ≤ 16) : ((startS k b sec p0 p1 p2 p3).size : Int) = b :=
  hv_size k b _ hk h1 h2 (by simp only [ByteArray.size_append, numB_size]; omega)
theorem joinS_size (k b : Int) (pub : ByteArray) (p0 p1 h j : Int) (y z : ByteArray) (hk : k = 1 ∨ k = 2) (h1 : 1 ≤ b) (h2 : b ≤ 16) (hp : pub.size ≤ 16) (hy : y.size ≤ 16) (hz : z.size ≤ 16) : ((joinS k b pub p0 p1 h j y z).size : Int) = b :=
  hv_size k b _ hk h1 h2 (by simp only [ByteArray.size_append, numB_size]; omega)
theorem pairS_size (k b : Int) (pub : ByteArray) (p0 p1 p2 r i : Int) (y z : ByteArray) (hk : k = 1 ∨ k = 2) (h1 : 1 ≤ b) (h2 : b ≤ 16) (hp : pub.size ≤ 16) (hy : y.size ≤ 16) (hz : z.size ≤ 16) : ((pairS k b pub p0 p1 p2 r i y z).size : Int) = b :=
  hv_size k b _ hk h1 h2 (by simp only [ByteArray.size_append, numB_size]; omega)
set_option maxRecDepth 20000 in
set_option maxHeartbeats 4000000 in
theorem sjoin_any (k b x t l : Int) (seed : ByteArray) (p0 p1 p2 p3 h j : Int) (y z : ByteArray) (w : World) (hk : k = 1 ∨ k = 2) (h1 : 1 ≤ b) (h2 : b ≤ 16) (hs : seed.size ≤ 16) (hy : y.size ≤ 16) (hz' : z.size ≤ 16) (hT : Tn w) :
    Calls Tryz.prog 77 #[.agg #[.int .i64 k, .int .i64 b, .int .i64 x, .int .i64 t, .int .i64 l, .string seed, .int .i64 p0, .int .i64 p1, .int .i64 p2, .int .i64 p3], .int .i64 h, .int .i64 j, .string y, .string z] w fun e w' => e = .returned (.string (joinS k b seed p0 p1 h j y z)) ∧ Below w.heap.size w w' := by
  obtain ⟨W0, hW⟩ : ∃ W0, w.alloc (.cells #[.int .i64 k, .int .i64 b, .int .i64 x, .int .i64 t, .int .i64 l, .string seed, .int .i64 p0, .int .i64 p1, .int .i64 p2, .int .i64 p3] 140) = W0 := ⟨_, rfl⟩
  have HF := hide (show TenC w.heap.size W0 k b x t l seed p0 p1 p2 p3 by subst hW; refine ⟨?_, ?_, ?_, ?_, ?_, ?_, ?_, ?_, ?_, ?_⟩ <;> simp [go_sem])
  have HB := hide (show Below w.heap.size w W0 by subst hW; exact (Below.refl _ _).alloc (Nat.le_refl _) _)
  have hz : W0.heap.size = w.heap.size + 1 := by subst hW; simp
  have HT := hide (hT.on HB.out)
  have HS := hide (fun (V : World) (h : Below W0.heap.size W0 V) => (by
    obtain ⟨c0, c1, c2, c3, c4, c5, c6, c7, c8, c9⟩ := HF.out.below h (by omega)
    exact ⟨c0, c1, c2, c3, c4, c5, c6, c7, c8, c9, h⟩ : V.cell? ⟨w.heap.size, 0, none⟩ = some (.int .i64 k) ∧ V.cell? ⟨w.heap.size, 1, none⟩ = some (.int .i64 b) ∧ V.cell? ⟨w.heap.size, 2, none⟩ = some (.int .i64 x) ∧ V.cell? ⟨w.heap.size, 3, none⟩ = some (.int .i64 t) ∧ V.cell? ⟨w.heap.size, 4, none⟩ = some (.int .i64 l) ∧ V.cell? ⟨w.heap.size, 5, none⟩ = some (.string seed) ∧ V.cell? ⟨w.heap.size, 6, none⟩ = some (.int .i64 p0) ∧ V.cell? ⟨w.heap.size, 7, none⟩ = some (.int .i64 p1) ∧ V.cell? ⟨w.heap.size, 8, none⟩ = some (.int .i64 p2) ∧ V.cell? ⟨w.heap.size, 9, none⟩ = some (.int .i64 p3) ∧ Below W0.heap.size W0 V))
  have HO1 := hide (fun V : World => one_any h V)
  have HO2 := hide (fun V : World => one_any j V)
  have HV := hide (fun (V : World) (h' : Below W0.heap.size W0 V) => ofTree_any k b x t l 4 seed p0 p1 p2 p3 V.heap.size 0 4 [numB 1 h, numB 1 j, y, z] (V.alloc (.cells #[.string (numB 1 h), .string (numB 1 j), .string y, .string z] 9)) (by
    intro j y hj
    match j, hj with
    | 0, hj => simp at hj; subst hj; simp [go_sem]
    | 1, hj => simp at hj; subst hj; simp [go_sem]
    | 2, hj => simp at hj; subst hj; simp [go_sem]
    | 3, hj => simp at hj; subst hj; simp [go_sem]) (by simp) (by simp) (by simp) hk h1 h2 (by rw [cat_size]; simp [numB_size]; omega) ((HT.out.on h').alloc _))
  simp only [cat, append_empty, List.length_cons, List.length_nil, Nat.reduceAdd] at HV
  clear hT
  go_enter Tryz.func77, Tryz.ntmps77
  go_wp2_with fail
  try rw [hW]
  go_region_held3 (fun V => V.cell? ⟨w.heap.size, 0, none⟩ = some (.int .i64 k) ∧ V.cell? ⟨w.heap.size, 1, none⟩ = some (.int .i64 b) ∧ V.cell? ⟨w.heap.size, 2, none⟩ = some (.int .i64 x) ∧ V.cell? ⟨w.heap.size, 3, none⟩ = some (.int .i64 t) ∧ V.cell? ⟨w.heap.size, 4, none⟩ = some (.int .i64 l) ∧ V.cell? ⟨w.heap.size, 5, none⟩ = some (.string seed) ∧ V.cell? ⟨w.heap.size, 6, none⟩ = some (.int .i64 p0) ∧ V.cell? ⟨w.heap.size, 7, none⟩ = some (.int .i64 p1) ∧ V.cell? ⟨w.heap.size, 8, none⟩ = some (.int .i64 p2) ∧ V.cell? ⟨w.heap.size, 9, none⟩ = some (.int .i64 p3) ∧ Below W0.heap.size W0 V) (first | exact HS.out _ hS4 | exact HS.out _ (hS2.alloc hS2.size _) | exact HS.out _ hS2 | exact HS.out _ hS1 | exact HS.out _ (Below.refl _ _).drew) (first | (go_at_call 155; refine (HO2.out _).mono ?_; rintro e w2 ⟨rfl, hb2⟩; have hS2 := heldB hS1 hb2 (Nat.le_refl _)) | (go_at_call 155; refine (HO1.out _).mono ?_; rintro e w1 ⟨rfl, hb1⟩; have hS1 := heldB (Below.refl W0.heap.size W0).drew hb1 (Nat.le_refl _)) | (go_at_call 154; refine (HV.out _ hS2).mono ?_; rintro e w4 ⟨rfl, hb4⟩; have hS4 := heldB (hS2.alloc hS2.size _) hb4 (Nat.le_refl _)))
  go_wp2
  go_ret
  exact ⟨rfl, HB.out.trans (hS4.mono (by omega))⟩
set_option maxRecDepth 20000 in
set_option maxHeartbeats 4000000 in
theorem schain_any (k b x t l : Int) (seed : ByteArray) (p0 p1 p2 p3 : Int) (f n : Nat) (y : ByteArray) (w : World) (hk : k = 1 ∨ k = 2) (h1 : 1 ≤ b) (h2 : b ≤ 16) (hs : seed.size ≤ 16) (hy : (y.size : Int) = b) (hf : f + n ≤ 16) (hT : Tn w) :
    Calls Tryz.prog 95 #[.agg #[.int .i64 k, .int .i64 b, .int .i64 x, .int .i64 t, .int .i64 l, .string seed, .int .i64 p0, .int .i64 p1, .int .i64 p2, .int .i64 p3], .int .i64 f, .int .i64 (f + n : Nat), .string y] w fun e w' => e = .returned (.string (chainS k b seed p0 p1 p2 p3 f n y)) ∧ Below w.heap.size w w' := by
  obtain ⟨W0, hW⟩ : ∃ W0, w.alloc (.cells #[.int .i64 k, .int .i64 b, .int .i64 x, .int .i64 t, .int .i64 l, .string seed, .int .i64 p0, .int .i64 p1, .int .i64 p2, .int .i64 p3] 140) = W0 := ⟨_, rfl⟩
  have HF := hide (show TenC w.heap.size W0 k b x t l seed p0 p1 p2 p3 by subst hW; refine ⟨?_, ?_, ?_, ?_, ?_, ?_, ?_, ?_, ?_, ?_⟩ <;> simp [go_sem])
  have HB := hide (show Below w.heap.size w W0 by subst hW; exact (Below.refl _ _).alloc (Nat.le_refl _) _)
  have hz : W0.heap.size = w.heap.size + 1 := by subst hW; simp
  have HT := hide (hT.on HB.out)
  have HS := hide (fun (V : World) (h : Below W0.heap.size W0 V) => (by
    obtain ⟨c0, c1, c2, c3, c4, c5, c6, c7, c8, c9⟩ := HF.out.below h (by omega)
    exact ⟨c0, c1, c2, c3, c4, c5, c6, c7, c8, c9, h⟩ : V.cell? ⟨w.heap.size, 0, none⟩ = some (.int .i64 k) ∧ V.cell? ⟨w.heap.size, 1, none⟩ = some (.int .i64 b) ∧ V.cell? ⟨w.heap.size, 2, none⟩ = some (.int .i64 x) ∧ V.cell? ⟨w.heap.size, 3, none⟩ = some (.int .i64 t) ∧ V.cell? ⟨w.heap.size, 4, none⟩ = some (.int .i64 l) ∧ V.cell? ⟨w.heap.size, 5, none⟩ = some (.string seed) ∧ V.cell? ⟨w.heap.size, 6, none⟩ = some (.int .i64 p0) ∧ V.cell? ⟨w.heap.size, 7, none⟩ = some (.int .i64 p1) ∧ V.cell? ⟨w.heap.size, 8, none⟩ = some (.int .i64 p2) ∧ V.cell? ⟨w.heap.size, 9, none⟩ = some (.int .i64 p3) ∧ Below W0.heap.size W0 V))
  have HO1 := hide (fun V : World => one_any p3 V)
  have HCS := hide (fun m => chainS_size k b seed p0 p1 p2 p3 f m y hk h1 h2 hs hy)
  have HV := hide (fun (i : Int) (u : ByteArray) (hu : u.size ≤ 16) (V : World) (h' : Below W0.heap.size W0 V) => ofLeaf_any k b x t l 2 seed p0 p1 p2 p3 V.heap.size 0 3 [numB 1 p3, numB 1 i, u] (V.alloc (.cells #[.string (numB 1 p3), .string (numB 1 i), .string u] 9)) (by
    intro j y hj
    match j, hj with
    | 0, hj => simp at hj; subst hj; simp [go_sem]
    | 1, hj => simp at hj; subst hj; simp [go_sem]
    | 2, hj => simp at hj; subst hj; simp [go_sem]) (by simp) (by simp) (by simp) hk h1 h2 (by rw [cat_size]; simp [numB_size]; omega) ((HT.out.on h').alloc _))
  simp only [cat, append_empty, List.length_cons, List.length_nil, Nat.reduceAdd] at HV
  clear hT
  go_enter Tryz.func95, Tryz.ntmps95
  go_wp2_with fail
  try rw [hW]
  clear hW
  go_loopw [3, 9] (fun u i wr => ∃ m : Nat, m ≤ n ∧ i = .int .i64 (f + m : Nat) ∧ u = .string (chainS k b seed p0 p1 p2 p3 f m y) ∧ Hid (Below W0.heap.size W0 wr)) (fun _ i _ => f + n - (intOf i).toNat)
  case atStart => exact ⟨0, Nat.zero_le _, rfl, rfl, Below.refl _ _⟩
  case round =>
    obtain ⟨m, hm, rfl, rfl, hb⟩ := hrel
    by_cases hlt : m < n
    · have HU := hide (HCS.out m)
      have HST : Hid (chainS k b seed p0 p1 p2 p3 f (m + 1) y = stepS k b seed p0 p1 p2 p3 (f + m) (chainS k b seed p0 p1 p2 p3 f m y)) := rfl
      generalize chainS k b seed p0 p1 p2 p3 f m y = u at HU HST ⊢
      have hu : u.size ≤ 16 := by have := HU.out; omega
      have HO2 := hide (fun V : World => one_any (f + m : Nat) V)
      have HV1 := hide (HV.out (f + m : Nat) u hu)
      go_wp2_with fail
      go_region_held3 (fun V => V.cell? ⟨w.heap.size, 0, none⟩ = some (.int .i64 k) ∧ V.cell? ⟨w.heap.size, 1, none⟩ = some (.int .i64 b) ∧ V.cell? ⟨w.heap.size, 2, none⟩ = some (.int .i64 x) ∧ V.cell? ⟨w.heap.size, 3, none⟩ = some (.int .i64 t) ∧ V.cell? ⟨w.heap.size, 4, none⟩ = some (.int .i64 l) ∧ V.cell? ⟨w.heap.size, 5, none⟩ = some (.string seed) ∧ V.cell? ⟨w.heap.size, 6, none⟩ = some (.int .i64 p0) ∧ V.cell? ⟨w.heap.size, 7, none⟩ = some (.int .i64 p1) ∧ V.cell? ⟨w.heap.size, 8, none⟩ = some (.int .i64 p2) ∧ V.cell? ⟨w.heap.size, 9, none⟩ = some (.int .i64 p3) ∧ Below W0.heap.size W0 V) (first | exact HS.out _ hS4 | exact HS.out _ (hS2.alloc hS2.size _) | exact HS.out _ hS2 | exact HS.out _ hS1 | exact HS.out _ hb.out.drew) (first | (go_at_call 155; refine (HO2.out _).mono ?_; rintro e w2 ⟨rfl, hb2⟩; have hS2 := heldB hS1 hb2 (Nat.le_refl _)) | (go_at_call 155; refine (HO1.out _).mono ?_; rintro e w1 ⟨rfl, hb1⟩; have hS1 := heldB hb.out.drew hb1 (Nat.le_refl _)) | (go_at_call 165; refine (HV1.out _ hS2).mono ?_; rintro e w4 ⟨rfl, hb4⟩; have hS4 := heldB (hS2.alloc hS2.size _) hb4 (Nat.le_refl _)))
      go_wp2
      go_roundw
      case rel =>
        have R : ∃ q : Nat, q ≤ n ∧ Value.int .i64 ((f : Int) + (m : Int) + 1) = .int .i64 (f + q : Nat) ∧ Value.string (stepS k b seed p0 p1 p2 p3 (f + m) u) = .string (chainS k b seed p0 p1 p2 p3 f q y) ∧ Hid (Below W0.heap.size W0 w4) := ⟨m + 1, by omega, by go_num, by rw [HST.out], hS4⟩
        first | exact R | ((repeat apply Exists.intro); exact ⟨R, rfl⟩)
      case measure => simp [intOf]; omega
    · obtain rfl : m = n := by omega
      go_wp2
      go_ret
      exact ⟨rfl, HB.out.trans (hb.out.mono (by omega))⟩
end Go.Proofs.YtgaoeoijdpdjiaaGreatDoor
