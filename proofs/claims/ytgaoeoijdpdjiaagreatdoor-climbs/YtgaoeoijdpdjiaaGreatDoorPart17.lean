/-
  The program's Of: ErrArg, ErrLong, or the first n bytes of the whole. The document's H, and the program's Value.
-/
import Derived.Test.YtgaoeoijdpdjiaaGreatDoorPart12
import Derived.Test.YtgaoeoijdpdjiaaGreatDoorPart16
import Derived.Test.YtgaoeoijdpdjiaaGreatDoorPart8
import Derived.Test.YtgaoeoijdpdjiaaGreatDoorPart4
import Derived.Deep.RegionHeld3
import Derived.Deep.DrawnRows
namespace Go.Proofs.YtgaoeoijdpdjiaaGreatDoor
open Go.RowKit
def whole32 (s : ByteArray) : ByteArray := textOf (outs 4 (soak32 (padRow s ((s.size / 16 + 1) * 16)) (s.size / 16 + 1)) 16)
def whole64 (s : ByteArray) : ByteArray := textOf (outs 8 (soak64 (padRow s ((s.size / 32 + 1) * 32)) (s.size / 32 + 1)) 32)
theorem whole32_size (s : ByteArray) : (whole32 s).size = 16 := by unfold whole32; rw [textOf_size, outs_length]
theorem whole64_size (s : ByteArray) : (whole64 s).size = 32 := by unfold whole64; rw [textOf_size, outs_length]
theorem whole32_at (s : ByteArray) (w : World) (hs : s.size ≤ 400) (hT : Turns32 w) (hw : 0 < w.heap.size) :
    Calls Tryz.prog 146 #[.string s] w fun e w' => e = .returned (.string (whole32 s)) ∧ Below w.heap.size w w' := whole_32 s w hs hT hw
theorem whole64_at (s : ByteArray) (w : World) (hs : s.size ≤ 400) (hT : Turns64 w) (hw : 0 < w.heap.size) :
    Calls Tryz.prog 147 #[.string s] w fun e w' => e = .returned (.string (whole64 s)) ∧ Below w.heap.size w w' := whole_64 s w hs hT hw
theorem of_arg (kind n : Int) (s : ByteArray) (w : World) (h : ¬ ((kind = 1 ∨ kind = 2) ∧ 1 ≤ n ∧ n ≤ 16)) :
    Calls Tryz.prog 68 #[.int .i64 kind, .int .i64 n, .string s] w fun e w' => e = .returned (.tuple #[.string ⟨#[]⟩, .int .i64 2]) ∧ w' = w := by
  by_cases h1 : kind = 1
  · subst h1
    by_cases h2 : n < 1
    · go_enter Tryz.func68, Tryz.ntmps68
      go_wp2
      go_ret2
      exact ⟨rfl, rfl⟩
    · have h3 : 16 < n := by omega
      go_enter Tryz.func68, Tryz.ntmps68
      go_wp2
      go_ret2
      exact ⟨rfl, rfl⟩
  · by_cases h1' : kind = 2
    · subst h1'
      by_cases h2 : n < 1
      · go_enter Tryz.func68, Tryz.ntmps68
        go_wp2
        go_ret2
        exact ⟨rfl, rfl⟩
      · have h3 : 16 < n := by omega
        go_enter Tryz.func68, Tryz.ntmps68
        go_wp2
        go_ret2
        exact ⟨rfl, rfl⟩
    · go_enter Tryz.func68, Tryz.ntmps68
      go_wp2
      go_ret2
      exact ⟨rfl, rfl⟩
theorem of_long (kind n : Int) (s : ByteArray) (w : World) (h1 : kind = 1 ∨ kind = 2) (h2 : 1 ≤ n) (h3 : n ≤ 16) (hs : 400 < s.size) :
    Calls Tryz.prog 68 #[.int .i64 kind, .int .i64 n, .string s] w fun e w' => e = .returned (.tuple #[.string ⟨#[]⟩, .int .i64 3]) ∧ w' = w := by
  rcases h1 with rfl | rfl
  · go_enter Tryz.func68, Tryz.ntmps68
    go_wp2
    go_ret2
    exact ⟨rfl, rfl⟩
  · go_enter Tryz.func68, Tryz.ntmps68
    go_wp2
    go_ret2
    exact ⟨rfl, rfl⟩
theorem of_32 (n : Nat) (s : ByteArray) (w : World) (h2 : 1 ≤ n) (h3 : n ≤ 16) (hs : s.size ≤ 400) (hT : Turns32 w) (hw : 0 < w.heap.size) :
    Calls Tryz.prog 68 #[.int .i64 1, .int .i64 (n : Int), .string s] w fun e w' => e = .returned (.tuple #[.string ((whole32 s).extract 0 n), .int .i64 0]) ∧ Below w.heap.size w w' := by
  have HW := hide (whole32_at s w hs hT hw)
  have hz := whole32_size s
  clear hT
  go_enter Tryz.func68, Tryz.ntmps68
  go_wp2_with fail
  refine HW.out.mono ?_
  rintro e w1 ⟨rfl, hb⟩
  go_wp2
  go_ret2
  exact ⟨rfl, hb⟩
theorem of_64 (n : Nat) (s : ByteArray) (w : World) (h2 : 1 ≤ n) (h3 : n ≤ 16) (hs : s.size ≤ 400) (hT : Turns64 w) (hw : 0 < w.heap.size) :
    Calls Tryz.prog 68 #[.int .i64 2, .int .i64 (n : Int), .string s] w fun e w' => e = .returned (.tuple #[.string ((whole64 s).extract 0 n), .int .i64 0]) ∧ Below w.heap.size w w' := by
  have HW := hide (whole64_at s w hs hT hw)
  have hz := whole64_size s
  clear hT
  go_enter Tryz.func68, Tryz.ntmps68
  go_wp2_with fail
  refine HW.out.mono ?_
  rintro e w1 ⟨rfl, hb⟩
  go_wp2
  go_ret2
  exact ⟨rfl, hb⟩
/-- What signet.Digest answers. -/
def digAns (kind n : Int) (s : ByteArray) : ByteArray × Int :=
  if (kind = 1 ∨ kind = 2) ∧ 1 ≤ n ∧ n ≤ 16 then (if s.size ≤ 400 then (if kind = 1 then ((whole32 s).extract 0 n.toNat, 0) else ((whole64 s).extract 0 n.toNat, 0)) else (⟨#[]⟩, 3)) else (⟨#[]⟩, 2)
theorem of_ans (kind n : Int) (s : ByteArray) (w : World) (h3 : Turns32 w) (h6 : Turns64 w) (hw : 0 < w.heap.size) :
    Calls Tryz.prog 68 #[.int .i64 kind, .int .i64 n, .string s] w fun e w' => e = .returned (.tuple #[.string (digAns kind n s).1, .int .i64 (digAns kind n s).2]) ∧ Below w.heap.size w w' := by
  by_cases h : (kind = 1 ∨ kind = 2) ∧ 1 ≤ n ∧ n ≤ 16
  · obtain ⟨hk, h1, h2⟩ := h
    by_cases hs : s.size ≤ 400
    · obtain ⟨m, rfl⟩ : ∃ m : Nat, n = (m : Int) := ⟨n.toNat, by omega⟩
      rcases hk with rfl | rfl
      · refine (of_32 m s w (by omega) (by omega) hs h3 hw).mono ?_
        rintro e w' ⟨rfl, hb⟩
        exact ⟨by simp [digAns, h1, h2, hs], hb⟩
      · refine (of_64 m s w (by omega) (by omega) hs h6 hw).mono ?_
        rintro e w' ⟨rfl, hb⟩
        exact ⟨by simp [digAns, h1, h2, hs], hb⟩
    · refine (of_long kind n s w hk h1 h2 (by omega)).mono ?_
      rintro e w' ⟨rfl, rfl⟩
      exact ⟨by simp [digAns, hk, h1, h2, hs], Below.refl _ _⟩
  · refine (of_arg kind n s w h).mono ?_
    rintro e w' ⟨rfl, rfl⟩
    exact ⟨by rw [digAns, if_neg h], Below.refl _ _⟩
theorem digest_ans (kind n : Int) (s : ByteArray) (w : World) (h3 : Turns32 w) (h6 : Turns64 w) (hw : 0 < w.heap.size) :
    Calls Tryz.prog 36 #[.int .i64 kind, .int .i64 n, .string s] w fun e w' => e = .returned (.tuple #[.string (digAns kind n s).1, .int .i64 (digAns kind n s).2]) ∧ Below w.heap.size w w' := by
  have HO := hide (of_ans kind n s w h3 h6 hw)
  clear h3 h6
  go_enter Tryz.func36, Tryz.ntmps36
  go_wp2_with fail
  refine HO.out.mono ?_
  rintro e w1 ⟨rfl, hb⟩
  go_wp2
  go_ret2
  exact ⟨rfl, hb⟩
end Go.Proofs.YtgaoeoijdpdjiaaGreatDoor

namespace Go.Proofs.YtgaoeoijdpdjiaaGreatDoor
open Go.RowKit
/-- The table of turns lies where the program reads it. -/
def Tn (w : World) : Prop := Turns32 w ∧ Turns64 w ∧ 0 < w.heap.size
theorem Tn.below {w w' : World} {B : Nat} (h : Tn w) (hb : Below B w w') (hB : 0 < B) : Tn w' := by
  obtain ⟨h3, h6, hw⟩ := h
  have hs := hb.size
  exact ⟨fun i hi => (hb.cell (p := ⟨0, i, none⟩) hB).trans (h3 i hi), fun i hi => (hb.cell (p := ⟨0, i, none⟩) hB).trans (h6 i hi), by omega⟩
theorem Tn.pos {w : World} (h : Tn w) : 0 < w.heap.size := h.2.2
theorem Tn.on {w w' : World} (h : Tn w) (hb : Below w.heap.size w w') : Tn w' := h.below hb h.pos
theorem Tn.alloc {w : World} (h : Tn w) (o : Obj) : Tn (w.alloc o) := h.on ((Below.refl _ _).alloc (Nat.le_refl _) o)
/-- The digest of a text, for words of the kind k, of b bytes. -/
def hv (k b : Int) (s : ByteArray) : ByteArray := (digAns k b s).1
theorem of_hv (k b : Int) (s : ByteArray) (w : World) (hk : k = 1 ∨ k = 2) (h1 : 1 ≤ b) (h2 : b ≤ 16) (hs : s.size ≤ 400) (hT : Tn w) :
    Calls Tryz.prog 68 #[.int .i64 k, .int .i64 b, .string s] w fun e w' => e = .returned (.tuple #[.string (hv k b s), .int .i64 0]) ∧ Below w.heap.size w w' := by
  refine (of_ans k b s w hT.1 hT.2.1 hT.2.2).mono ?_
  rintro e w' ⟨rfl, hb⟩
  refine ⟨?_, hb⟩
  have : (digAns k b s).2 = 0 := by
    unfold digAns
    rcases hk with rfl | rfl <;> simp [h1, h2, hs]
  rw [this]; rfl
theorem hv_size (k b : Int) (s : ByteArray) (hk : k = 1 ∨ k = 2) (h1 : 1 ≤ b) (h2 : b ≤ 16) (hs : s.size ≤ 400) : ((hv k b s).size : Int) = b := by
  unfold hv digAns
  have h3 := whole32_size s
  have h6 := whole64_size s
  rcases hk with rfl | rfl <;> simp [h1, h2, hs, ByteArray.size_extract, h3, h6] <;> omega
set_option maxHeartbeats 1000000 in
theorem value_any (k b x t l tag : Int) (bk o c : Nat) (xs : List ByteArray) (w : World) (hcells : ∀ (j : Nat) y, xs[j]? = some y → w.cell? ⟨bk, o + j, none⟩ = some (.string y)) (hbk : bk < w.heap.size) (hcap : xs.length ≤ c) (hN : xs.length ≤ 1000)
    (hk : k = 1 ∨ k = 2) (h1 : 1 ≤ b) (h2 : b ≤ 16) (hs : (cat xs).size ≤ 399) (hT : Tn w) :
    Calls Tryz.prog 233 #[.agg #[.int .i64 k, .int .i64 b, .int .i64 x, .int .i64 t, .int .i64 l], .int .i64 tag, .slice (some ⟨bk, o, none⟩) xs.length c] w fun e w' => e = .returned (.string (hv k b (numB 1 tag ++ cat xs))) ∧ Below w.heap.size w w' := by
  have HN := hide (fun w' : World => number_any 1 tag w' (by decide))
  have HJ := hide (fun (w' : World) (hb : Below (w.heap.size + 1) (w.alloc (.cells #[.int .i64 k, .int .i64 b, .int .i64 x, .int .i64 t, .int .i64 l] 23)) w') => join_any bk o c xs w' (fun j y h => (hb.cell (p := ⟨bk, o + j, none⟩) (by show bk < w.heap.size + 1; omega)).trans ((World.cell?_alloc_past _ _ _ hbk).trans (hcells j y h))) (by have := hb.size; simp at this; omega) hN hcap (by omega))
  have HO := hide (fun (w' : World) (hb : Below (w.heap.size + 1) (w.alloc (.cells #[.int .i64 k, .int .i64 b, .int .i64 x, .int .i64 t, .int .i64 l] 23)) w') => of_hv k b (numB 1 tag ++ cat xs) w' hk h1 h2 (by rw [ByteArray.size_append, numB_size]; omega) ((hT.alloc _).below hb (by omega)))
  clear hcells hT
  have hcc : ∀ w : World, (Op.stringOp .add (numB 1 tag) (cat xs)).run Tryz.prog w = .ok (.string (numB 1 tag ++ cat xs)) w := fun w => run_string_add w _ _ (by rw [numB_size]; omega) (by omega)
  go_enter Tryz.func233, Tryz.ntmps233
  go_wp2_with fail
  go_region_held3 (fun w' => w'.cell? ⟨w.heap.size, 0, none⟩ = some (.int .i64 k) ∧ w'.cell? ⟨w.heap.size, 1, none⟩ = some (.int .i64 b) ∧ Below (w.heap.size + 1) (w.alloc (.cells #[.int .i64 k, .int .i64 b, .int .i64 x, .int .i64 t, .int .i64 l] 23)) w') (first | exact hS3 | exact hS2 | exact hS1 | exact ⟨by simp [go_sem], by simp [go_sem], (Below.refl _ _).drew⟩) (first | (go_at_call 234; refine (HN.out _).mono ?_; rintro e w1 ⟨rfl, hb1⟩; have hS1 := held2 (by assumption) hb1 (by simp) (by simp) (by simp)) | (go_at_call 235; refine (HJ.out _ hS1.2.2).mono ?_; rintro e w2 ⟨rfl, hb2⟩; have hS2 := held2 hS1 hb2 (by simp) (by simp) (by simp)) | (go_at_call 68; refine (HO.out _ hS2.2.2).mono ?_; rintro e w3 ⟨rfl, hb3⟩; have hS3 := held2 hS2 hb3 (by simp) (by simp) (by simp)))
  go_wp2
  go_ret
  exact ⟨rfl, ((Below.refl _ _).alloc (Nat.le_refl _) _).trans (hS3.2.2.mono (by omega))⟩
end Go.Proofs.YtgaoeoijdpdjiaaGreatDoor
