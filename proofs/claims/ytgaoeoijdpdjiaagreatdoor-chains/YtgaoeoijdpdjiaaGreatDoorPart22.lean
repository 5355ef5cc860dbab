/-
  The document's H, and the program's Value. The program's digest and the document's are one: the padded row and the padded text read alike, and the first n bytes of the whole are the n bytes.
-/
import Derived.Test.YtgaoeoijdpdjiaaGreatDoorPart17
import Derived.Test.YtgaoeoijdpdjiaaGreatDoorPart4
import Derived.Deep.RegionHeld3
import Derived.Deep.DrawnRows
import Derived.Test.YtgaoeoijdpdjiaaGreatDoorPart21
namespace Go.Proofs.YtgaoeoijdpdjiaaGreatDoor
open Go.RowKit

/-- The table of turns lies where the program reads it. -/
def Tn (w : World) : Prop := Turns32 w ∧ Turns64 w ∧ 0 < w.heap.size
theorem Tn.below {w w' : World} {B : Nat} (h : Tn w) (hb : Below B w w') (hB : 0 < B) : Tn w' := by
  obtain ⟨h3, h6, hw⟩ := h
  have hs := hb.size
  exact ⟨fun i hi => (hb.cell (p := ⟨0, i, none⟩) hB).trans (h3 i hi), fun i hi => (hb.cell (p := ⟨0, i, none⟩) hB).trans (h6 i hi), by omega⟩
theorem Tn.pos {w : World} (h : Tn w) : 0 < w.heap.size := h.2.2
theorem Tn.on {w w' : World} (h : Tn w) (hb : Below w.heap.size w w') : Tn w' := h.below hb h.pos
theorem Tn.alloc {w : World} (h : Tn w) (o : Obj) : Tn (w.alloc o) := h.on ((Below.refl _ _).alloc (Nat.le_refl _) o)

/-- The digest of a text, for words of the kind k, of b bytes. -/
def hv (k b : Int) (s : ByteArray) : ByteArray := (digAns k b s).1

theorem of_hv (k b : Int) (s : ByteArray) (w : World) (hk : k = 1 ∨ k = 2) (h1 : 1 ≤ b) (h2 : b ≤ 16) (hs : s.size ≤ 400) (hT : Tn w) :
    Calls Tryz.prog 68 #[.int .i64 k, .int .i64 b, .string s] w fun e w' => e = .returned (.tuple #[.string (hv k b s), .int .i64 0]) ∧ Below w.heap.size w w' := by
  refine (of_ans k b s w hT.1 hT.2.1 hT.2.2).mono ?_
  rintro e w' ⟨rfl, hb⟩
  refine ⟨?_, hb⟩
  have : (digAns k b s).2 = 0 := by
    unfold digAns
    rcases hk with rfl | rfl <;> simp [h1, h2, hs]
  rw [this]; rfl
theorem hv_size (k b : Int) (s : ByteArray) (hk : k = 1 ∨ k = 2) (h1 : 1 ≤ b) (h2 : b ≤ 16) (hs : s.size ≤ 400) : ((hv k b s).size : Int) = b := by
  unfold hv digAns
  have h3 := whole32_size s
  have h6 := whole64_size s
  rcases hk with rfl | rfl <;> simp [h1, h2, hs, ByteArray.size_extract, h3, h6] <;> omega

set_option maxHeartbeats 1000000 in
theorem value_any (k b x t l tag : Int) (bk o c : Nat) (xs : List ByteArray) (w : World) (hcells : ∀ (j : Nat) y, xs[j]? = some y → w.cell? ⟨bk, o + j, none⟩ = some (.string y)) (hbk : bk < w.heap.size) (hcap : xs.length ≤ c) (hN : xs.length ≤ 1000)
    (hk : k = 1 ∨ k = 2) (h1 : 1 ≤ b) (h2 : b ≤ 16) (hs : (cat xs).size ≤ 399) (hT : Tn w) :
    Calls Tryz.prog 233 #[.agg #[.int .i64 k, .int .i64 b, .int .i64 x, .int .i64 t, .int .i64 l], .int .i64 tag, .slice (some ⟨bk, o, none⟩) xs.length c] w fun e w' => e = .returned (.string (hv k b (numB 1 tag ++ cat xs))) ∧ Below w.heap.size w w' := by
  have HN := hide (fun w' : World => number_any 1 tag w' (by decide))
  have HJ := hide (fun (w' : World) (hb : Below (w.heap.size + 1) (w.alloc (.cells #[.int .i64 k, .int .i64 b, .int .i64 x, .int .i64 t, .int .i64 l] 23)) w') => join_any bk o c xs w' (fun j y h => (hb.cell (p := ⟨bk, o + j, none⟩) (by show bk < w.heap.size + 1; omega)).trans ((World.cell?_alloc_past _ _ _ hbk).trans (hcells j y h))) (by have := hb.size; simp at this; omega) hN hcap (by omega))
  have HO := hide (fun (w' : World) (hb : Below (w.heap.size + 1) (w.alloc (.cells #[.int .i64 k, .int .i64 b, .int .i64 x, .int .i64 t, .int .i64 l] 23)) w') => of_hv k b (numB 1 tag ++ cat xs) w' hk h1 h2 (by rw [ByteArray.size_append, numB_size]; omega) ((hT.alloc _).below hb (by omega)))
  clear hcells hT
  have hcc : ∀ w : World, (Op.stringOp .add (numB 1 tag) (cat xs)).run Tryz.prog w = .ok (.string (numB 1 tag ++ cat xs)) w := fun w => run_string_add w _ _ (by rw [numB_size]; omega) (by omega)
  go_enter Tryz.func233, Tryz.ntmps233
  go_wp2_with fail
  go_region_held3 (fun w' => w'.cell? ⟨w.heap.size, 0, none⟩ = some (.int .i64 k) ∧ w'.cell? ⟨w.heap.size, 1, none⟩ = some (.int .i64 b) ∧ Below (w.heap.size + 1) (w.alloc (.cells #[.int .i64 k, .int .i64 b, .int .i64 x, .int .i64 t, .int .i64 l] 23)) w') (first | exact hS3 | exact hS2 | exact hS1 | exact ⟨by simp [go_sem], by simp [go_sem], (Below.refl _ _).drew⟩) (first | (go_at_call 234; refine (HN.out _).mono ?_; rintro e w1 ⟨rfl, hb1⟩; have hS1 := held2 (by assumption) hb1 (by simp) (by simp) (by simp)) | (go_at_call 235; refine (HJ.out _ hS1.2.2).mono ?_; rintro e w2 ⟨rfl, hb2⟩; have hS2 := held2 hS1 hb2 (by simp) (by simp) (by simp)) | (go_at_call 68; refine (HO.out _ hS2.2.2).mono ?_; rintro e w3 ⟨rfl, hb3⟩; have hS3 := held2 hS2 hb3 (by simp) (by simp) (by simp)))
  go_wp2
  go_ret
  exact ⟨rfl, ((Below.refl _ _).alloc (Nat.le_refl _) _).trans (hS3.2.2.mono (by omega))⟩
end Go.Proofs.YtgaoeoijdpdjiaaGreatDoor

namespace Go.Proofs.YtgaoeoijdpdjiaaGreatDoor
open Go.RowKit

theorem beN_congr (A B : List Nat) (h : ∀ i, at0 A i = at0 B i) (o k : Nat) : beN A o k = beN B o k := by
  induction k with
  | zero => rfl
  | succ k ih => rw [beN, beN, ih, h]
theorem take32_congr (A B : List Nat) (h : ∀ i, at0 A i = at0 B i) (o : Nat) (L : List Nat) (j : Nat) : take32 A o L j = take32 B o L j := by
  induction j with
  | zero => rfl
  | succ j ih => rw [take32, take32, ih, beN_congr A B h]
theorem take64_congr (A B : List Nat) (h : ∀ i, at0 A i = at0 B i) (o : Nat) (L : List Nat) (j : Nat) : take64 A o L j = take64 B o L j := by
  induction j with
  | zero => rfl
  | succ j ih => rw [take64, take64, ih, beN_congr A B h]
theorem soak32_congr (A B : List Nat) (h : ∀ i, at0 A i = at0 B i) (m : Nat) : soak32 A m = soak32 B m := by
  induction m with
  | zero => rfl
  | succ m ih => rw [soak32_succ, soak32_succ, ih, take32_congr A B h]
theorem soak64_congr (A B : List Nat) (h : ∀ i, at0 A i = at0 B i) (m : Nat) : soak64 A m = soak64 B m := by
  induction m with
  | zero => rfl
  | succ m ih => rw [soak64_succ, soak64_succ, ih, take64_congr A B h]

theorem outs_take (n : Nat) (L : List Nat) (m k : Nat) (h : k ≤ m) : (outs n L m).take k = outs n L k := by
  unfold outs
  rw [← List.map_take, List.take_range, Nat.min_eq_left h]
theorem textOf_cut (D : List Nat) (k : Nat) : (textOf D).extract 0 k = textOf (D.take k) := by
  apply ByteArray.ext
  simp [textOf, ByteArray.extract, ByteArray.copySlice, List.map_take]

theorem whole32_cut (s : ByteArray) (k : Nat) (h : k ≤ 16) : (whole32 s).extract 0 k = textOf (outs 4 (soak32 (padL s) (s.size / 16 + 1)) k) := by
  unfold whole32
  rw [textOf_cut, outs_take _ _ _ _ h, soak32_congr _ _ (padRow_at s _)]
theorem whole64_cut (s : ByteArray) (k : Nat) (h : k ≤ 32) : (whole64 s).extract 0 k = textOf (outs 8 (soak64 (padL s) (s.size / 32 + 1)) k) := by
  unfold whole64
  rw [textOf_cut, outs_take _ _ _ _ h, soak64_congr _ _ (padRow_at s _)]
end Go.Proofs.YtgaoeoijdpdjiaaGreatDoor
