/-
  The document's own hash, tree, start, join. sets.ValuesRight, SeedsRight: has each text the length of a value? The program's within, Leaves, trees.
-/
import Derived.Test.YtcaojimmdcdpiaaDoorPart12
import Derived.Test.YtcaojimmdcdpiaaDoorPart10
import Derived.Test.YtcaojimmdcdpiaaDoorPart14
import Derived.Test.YtcaojimmdcdpiaaDoorPart15
import Derived.Test.YtcaojimmdcdpiaaDoorRows
import Derived.Test.YtcaojimmdcdpiaaDoorPart1
import Derived.WalkSpells
import Derived.WalkLawsBesides
import Derived.Handy
namespace Go.Proofs.YtcaojimmdcdpiaaDoor
open Go.RowKit

theorem sadd (y z : ByteArray) (hy : y.size ≤ 1000) (hz : z.size ≤ 1000) (w : World) : (Op.stringOp .add y z).run Tryd.prog w = .ok (.string (y ++ z)) w := run_string_add w _ _ (by omega) (by omega)

theorem refDigested (k : Int) (n : Nat) (s : ByteArray) (w : World) (hk : k = 1 ∨ k = 2) (h1 : 1 ≤ n) (h2 : n ≤ 16) (hs : s.size ≤ 400) :
    Calls Tryd.prog 64 #[.int .i64 k, .int .i64 n, .string s] w fun e w' => e = .returned (.string (hv k n s)) ∧ Below w.heap.size w w' := by
  rcases hk with rfl | rfl
  · refine (digested_32 n s w h1 h2 hs).mono ?_
    rintro e w' ⟨rfl, hb⟩
    refine ⟨?_, hb⟩
    rw [← whole32_cut s n h2]
    unfold hv digAns
    rw [if_pos ⟨by simp, by omega, by omega⟩, if_pos hs, if_pos rfl]
    simp
  · refine (digested_64 n s w h1 h2 hs).mono ?_
    rintro e w' ⟨rfl, hb⟩
    refine ⟨?_, hb⟩
    rw [← whole64_cut s n (by omega)]
    unfold hv digAns
    rw [if_pos ⟨by simp, by omega, by omega⟩, if_pos hs, if_neg (by decide)]
    simp

/-- A set in memory: five cells. -/
def FiveC (B : Nat) (w : World) (k b x t l : Int) : Prop :=
  w.cell? ⟨B, 0, none⟩ = some (.int .i64 k) ∧ w.cell? ⟨B, 1, none⟩ = some (.int .i64 b) ∧ w.cell? ⟨B, 2, none⟩ = some (.int .i64 x) ∧ w.cell? ⟨B, 3, none⟩ = some (.int .i64 t) ∧ w.cell? ⟨B, 4, none⟩ = some (.int .i64 l)
theorem FiveC.below {B n : Nat} {w w' : World} {k b x t l : Int} (h : FiveC B w k b x t l) (hb : Below n w w') (hB : B < n) : FiveC B w' k b x t l := by
  obtain ⟨c0, c1, c2, c3, c4⟩ := h
  exact ⟨(hb.cell (p := ⟨B, 0, none⟩) hB).trans c0, (hb.cell (p := ⟨B, 1, none⟩) hB).trans c1, (hb.cell (p := ⟨B, 2, none⟩) hB).trans c2, (hb.cell (p := ⟨B, 3, none⟩) hB).trans c3, (hb.cell (p := ⟨B, 4, none⟩) hB).trans c4⟩
/-- A place in memory: four cells. -/
def FourC (B : Nat) (w : World) (p0 p1 p2 p3 : Int) : Prop :=
  w.cell? ⟨B, 0, none⟩ = some (.int .i64 p0) ∧ w.cell? ⟨B, 1, none⟩ = some (.int .i64 p1) ∧ w.cell? ⟨B, 2, none⟩ = some (.int .i64 p2) ∧ w.cell? ⟨B, 3, none⟩ = some (.int .i64 p3)
theorem FourC.below {B n : Nat} {w w' : World} {p0 p1 p2 p3 : Int} (h : FourC B w p0 p1 p2 p3) (hb : Below n w w') (hB : B < n) : FourC B w' p0 p1 p2 p3 := by
  obtain ⟨c0, c1, c2, c3⟩ := h
  exact ⟨(hb.cell (p := ⟨B, 0, none⟩) hB).trans c0, (hb.cell (p := ⟨B, 1, none⟩) hB).trans c1, (hb.cell (p := ⟨B, 2, none⟩) hB).trans c2, (hb.cell (p := ⟨B, 3, none⟩) hB).trans c3⟩

set_option maxRecDepth 20000 in
set_option maxHeartbeats 2000000 in
theorem rhash_any (k x t l tag : Int) (b : Nat) (s : ByteArray) (w : World) (hk : k = 1 ∨ k = 2) (h1 : 1 ≤ b) (h2 : b ≤ 16) (hs : s.size ≤ 399) (ht : 0 ≤ tag) (ht2 : tag ≤ 100) :
    Calls Tryd.prog 104 #[.agg #[.int .i64 k, .int .i64 b, .int .i64 x, .int .i64 t, .int .i64 l], .int .i64 tag, .string s] w fun e w' => e = .returned (.string (hv k b (numB 1 tag ++ s))) ∧ Below w.heap.size w w' := by
  obtain ⟨W0, hW⟩ : ∃ W0, w.alloc (.cells #[.int .i64 k, .int .i64 b, .int .i64 x, .int .i64 t, .int .i64 l] 25) = W0 := ⟨_, rfl⟩
  have HF := hide (show FiveC w.heap.size W0 k b x t l by subst hW; refine ⟨?_, ?_, ?_, ?_, ?_⟩ <;> simp [go_sem])
  have HB := hide (show Below w.heap.size w W0 by subst hW; exact (Below.refl _ _).alloc (Nat.le_refl _) _)
  have hz : W0.heap.size = w.heap.size + 1 := by subst hW; simp
  have HS := hide (fun (V : World) (h : Below W0.heap.size W0 V) => (by
    obtain ⟨c0, c1, _, _, _⟩ := HF.out.below h (by omega)
    exact ⟨c0, c1, h⟩ : V.cell? ⟨w.heap.size, 0, none⟩ = some (.int .i64 k) ∧ V.cell? ⟨w.heap.size, 1, none⟩ = some (.int .i64 b) ∧ Below W0.heap.size W0 V))
  have HN := hide (fun V : World => refNumber_any 1 tag V (by decide) ht (by omega))
  have HD := hide (fun V : World => refDigested k b (numB 1 tag ++ s) V hk h1 h2 (by rw [ByteArray.size_append, numB_size]; omega))
  have hcc := sadd (numB 1 tag) s (by rw [numB_size]; omega) (by omega)
  go_enter Tryd.func104, Tryd.ntmps104
  go_wp2_with fail
  try rw [hW]
  go_region_held3 (fun V => V.cell? ⟨w.heap.size, 0, none⟩ = some (.int .i64 k) ∧ V.cell? ⟨w.heap.size, 1, none⟩ = some (.int .i64 b) ∧ Below W0.heap.size W0 V) (first | exact HS.out _ hS2 | exact HS.out _ hS1 | exact HS.out _ (Below.refl _ _).drew) (first | (go_at_call 106; refine (HN.out _).mono ?_; rintro e w1 ⟨rfl, hb1⟩; have hS1 := heldB (Below.refl W0.heap.size W0).drew hb1 (Nat.le_refl _)) | (go_at_call 64; refine (HD.out _).mono ?_; rintro e w2 ⟨rfl, hb2⟩; have hS2 := heldB hS1 hb2 (Nat.le_refl _)))
  go_wp2
  go_ret
  exact ⟨rfl, HB.out.trans (hS2.mono (by omega))⟩

set_option maxRecDepth 20000 in
set_option maxHeartbeats 2000000 in
theorem rtree_any (p0 p1 p2 p3 : Int) (w : World) (h0 : 0 ≤ p0) (h0' : p0 ≤ 100000) (h1 : 0 ≤ p1) (h1' : p1 ≤ 100000) :
    Calls Tryd.prog 105 #[.agg #[.int .i64 p0, .int .i64 p1, .int .i64 p2, .int .i64 p3]] w fun e w' => e = .returned (.string (numB 1 p0 ++ numB 4 p1)) ∧ Below w.heap.size w w' := by
  obtain ⟨W0, hW⟩ : ∃ W0, w.alloc (.cells #[.int .i64 p0, .int .i64 p1, .int .i64 p2, .int .i64 p3] 29) = W0 := ⟨_, rfl⟩
  have HF := hide (show FourC w.heap.size W0 p0 p1 p2 p3 by subst hW; refine ⟨?_, ?_, ?_, ?_⟩ <;> simp [go_sem])
  have HB := hide (show Below w.heap.size w W0 by subst hW; exact (Below.refl _ _).alloc (Nat.le_refl _) _)
  have hz : W0.heap.size = w.heap.size + 1 := by subst hW; simp
  have HS := hide (fun (V : World) (h : Below W0.heap.size W0 V) => (by
    obtain ⟨c0, c1, _, _⟩ := HF.out.below h (by omega)
    exact ⟨c0, c1, h⟩ : V.cell? ⟨w.heap.size, 0, none⟩ = some (.int .i64 p0) ∧ V.cell? ⟨w.heap.size, 1, none⟩ = some (.int .i64 p1) ∧ Below W0.heap.size W0 V))
  have HN := hide (fun V : World => refNumber_any 1 p0 V (by decide) h0 (by omega))
  have HN4 := hide (fun V : World => refNumber_any 4 p1 V (by decide) h1 (by omega))
  have hcc := sadd (numB 1 p0) (numB 4 p1) (by rw [numB_size]; omega) (by rw [numB_size]; omega)
  clear h0 h0' h1 h1'
  go_enter Tryd.func105, Tryd.ntmps105
  go_wp2_with fail
  try rw [hW]
  go_region_held3 (fun V => V.cell? ⟨w.heap.size, 0, none⟩ = some (.int .i64 p0) ∧ V.cell? ⟨w.heap.size, 1, none⟩ = some (.int .i64 p1) ∧ Below W0.heap.size W0 V) (first | exact HS.out _ hS2 | exact HS.out _ hS1 | exact HS.out _ (Below.refl _ _).drew) (first | (go_at_call 106; have hx := hS1; clear hx; refine (HN4.out _).mono ?_; rintro e w2 ⟨rfl, hb2⟩; have hS2 := heldB hS1 hb2 (Nat.le_refl _)) | (go_at_call 106; refine (HN.out _).mono ?_; rintro e w1 ⟨rfl, hb1⟩; have hS1 := heldB (Below.refl W0.heap.size W0).drew hb1 (Nat.le_refl _)))
  go_wp2
  go_ret
  exact ⟨rfl, HB.out.trans (hS2.mono (by omega))⟩
end Go.Proofs.YtcaojimmdcdpiaaDoor

namespace Go.Proofs.YtcaojimmdcdpiaaDoor
open Go.RowKit

/-- Are all texts of this length? -/
def allLen (b : Int) : List ByteArray → Bool
  | [] => true
  | x :: r => decide ((x.size : Int) = b) && allLen b r
theorem allLen_iff (b : Int) (xs : List ByteArray) : allLen b xs = true ↔ ∀ y ∈ xs, (y.size : Int) = b := by
  induction xs with
  | nil => simp [allLen]
  | cons x r ih => simp [allLen, ih]
theorem allLen_take (b : Int) (xs : List ByteArray) (k : Nat) (h : allLen b (xs.take k) = true) (hk : k < xs.length) : allLen b (xs.take (k + 1)) = decide ((xs[k].size : Int) = b) := by
  have e : ∀ l m, allLen b (l ++ m) = (allLen b l && allLen b m) := by
    intro l m
    induction l with
    | nil => simp [allLen]
    | cons x r ih => simp [allLen, ih, Bool.and_assoc]
  rw [List.take_succ_eq_append_getElem hk, e, h]
  simp [allLen]
theorem allLen_no (b : Int) (xs : List ByteArray) (k : Nat) (hk : k < xs.length) (h : (xs[k].size : Int) ≠ b) : allLen b xs = false := by
  rw [Bool.eq_false_iff]
  intro e
  exact h ((allLen_iff b xs).1 e _ (List.getElem_mem hk))

set_option maxHeartbeats 1000000 in
theorem valuesRight_some (k b x t l : Int) (bk o c : Nat) (xs : List ByteArray) (w : World) (hcells : ∀ (j : Nat) y, xs[j]? = some y → w.cell? ⟨bk, o + j, none⟩ = some (.string y)) (hbk : bk < w.heap.size) (hN : xs.length ≤ 9223372036854775807) :
    Calls Tryd.prog 107 #[.agg #[.int .i64 k, .int .i64 b, .int .i64 x, .int .i64 t, .int .i64 l], .slice (some ⟨bk, o, none⟩) xs.length c] w fun e w' => e = .returned (.bool (allLen b xs)) ∧ Below w.heap.size w w' := by
  have HC := hide hcells
  clear hcells
  have HB := hide hbk
  go_enter Tryd.func107, Tryd.ntmps107
  go_wp2
  go_loop [9] (fun i => ∃ j : Nat, j ≤ xs.length ∧ i = .int .i64 j ∧ Hid (allLen b (xs.take j) = true)) (fun i => xs.length - (intOf i).toNat)
  case atStart => exact ⟨0, Nat.zero_le _, rfl, rfl⟩
  case round =>
    obtain ⟨j, hj, rfl, ha⟩ := hrel
    by_cases hlt : j < xs.length
    · have c0 : ∀ o, (w.alloc o).cell? ⟨bk, _, none⟩ = _ := fun o => (World.cell?_alloc_past _ _ _ HB.out).trans (HC.out j xs[j] (List.getElem?_eq_getElem hlt))
      have HT := hide (allLen_take b xs j ha.out hlt)
      have HNO := hide (allLen_no b xs j hlt)
      generalize xs[j] = y at c0 HT HNO
      by_cases hy : (y.size : Int) = b
      · have hys : ((y.size : Int) == b) = true := by simpa using hy
        go_wp2
        go_round
        case rel => exact ⟨j + 1, by omega, by go_num, show allLen b (xs.take (j + 1)) = true by rw [HT.out]; simpa using hy⟩
        case measure => simp [intOf]; omega
      · have hys : ((y.size : Int) == b) = false := by simpa using hy
        have HF := hide (HNO.out hy)
        clear hy HNO
        go_wp2
        go_ret
        exact ⟨congrArg (fun z => Ending.returned (Value.bool z)) HF.out.symm, (Below.refl _ _).alloc (Nat.le_refl _) _⟩
    · obtain rfl : j = xs.length := by omega
      go_wp2
      go_ret
      have hz := ha.out
      rw [List.take_of_length_le (Nat.le_refl _)] at hz
      exact ⟨congrArg (fun z => Ending.returned (Value.bool z)) hz.symm, (Below.refl _ _).alloc (Nat.le_refl _) _⟩

set_option maxHeartbeats 1000000 in
theorem valuesRight_nil (k b x t l : Int) (w : World) :
    Calls Tryd.prog 107 #[.agg #[.int .i64 k, .int .i64 b, .int .i64 x, .int .i64 t, .int .i64 l], .slice none 0 0] w fun e w' => e = .returned (.bool true) ∧ Below w.heap.size w w' := by
  go_enter Tryd.func107, Tryd.ntmps107
  go_wp2
  go_rounds 1
  go_ret
  exact ⟨rfl, (Below.refl _ _).alloc (Nat.le_refl _) _⟩
end Go.Proofs.YtcaojimmdcdpiaaDoor

namespace Go.Proofs.YtcaojimmdcdpiaaDoor
open Go.RowKit

theorem within_any (v n : Int) (w : World) : Calls Tryd.prog 138 #[.int .i64 v, .int .i64 n] w fun e w' => e = .returned (.bool (decide (0 ≤ v ∧ v < n))) ∧ w' = w := by
  by_cases h0 : 0 ≤ v
  · by_cases h1 : v < n
    · have e : decide (0 ≤ v ∧ v < n) = true := by simp [h0, h1]
      rw [e]
      go_enter Tryd.func138, Tryd.ntmps138
      go_wp2
      go_ret
      exact ⟨rfl, rfl⟩
    · have e : decide (0 ≤ v ∧ v < n) = false := by simp [h1]
      rw [e]
      go_enter Tryd.func138, Tryd.ntmps138
      go_wp2
      go_ret
      exact ⟨rfl, rfl⟩
  · have e : decide (0 ≤ v ∧ v < n) = false := by simp [h0]
    rw [e]
    go_enter Tryd.func138, Tryd.ntmps138
    go_wp2
    go_ret
    exact ⟨rfl, rfl⟩

theorem setsLeaves_any (k b x l : Int) (t : Nat) (w : World) (h1 : 1 ≤ t) (h2 : t ≤ 4) :
    Calls Tryd.prog 119 #[.agg #[.int .i64 k, .int .i64 b, .int .i64 x, .int .i64 t, .int .i64 l]] w fun e w' => e = .returned (.int .i64 ((2 ^ t : Nat) : Int)) ∧ Below w.heap.size w w' := by
  rcases (show t = 1 ∨ t = 2 ∨ t = 3 ∨ t = 4 by omega) with rfl | rfl | rfl | rfl
  all_goals
    go_enter Tryd.func119, Tryd.ntmps119
    go_wp2
    go_ret
    exact ⟨rfl, (Below.refl _ _).alloc (Nat.le_refl _) _⟩

set_option maxHeartbeats 4000000 in
theorem trees_any (k b x : Int) (t l q : Nat) (w : World) (h1 : 1 ≤ t) (h2 : t ≤ 4) (h3 : l ≤ 3) (h4 : q < l) :
    Calls Tryd.prog 148 #[.agg #[.int .i64 k, .int .i64 b, .int .i64 x, .int .i64 t, .int .i64 l], .int .i64 q] w fun e w' => e = .returned (.int .i64 ((2 ^ (t * (l - 1 - q)) : Nat) : Int)) ∧ Below w.heap.size w w' := by
  rcases (show t = 1 ∨ t = 2 ∨ t = 3 ∨ t = 4 by omega) with rfl | rfl | rfl | rfl <;> rcases (show (l = 1 ∧ q = 0) ∨ (l = 2 ∧ q = 0) ∨ (l = 2 ∧ q = 1) ∨ (l = 3 ∧ q = 0) ∨ (l = 3 ∧ q = 1) ∨ (l = 3 ∧ q = 2) by omega) with ⟨rfl, rfl⟩ | ⟨rfl, rfl⟩ | ⟨rfl, rfl⟩ | ⟨rfl, rfl⟩ | ⟨rfl, rfl⟩ | ⟨rfl, rfl⟩
  all_goals
    go_enter Tryd.func148, Tryd.ntmps148
    go_wp2
    go_ret
    exact ⟨rfl, (Below.refl _ _).alloc (Nat.le_refl _) _⟩

/-- Is it the place of a leaf of some tree, whatever its chain? -/
def leafB (t l : Nat) (p0 p1 p2 : Int) : Bool := decide (0 ≤ p0 ∧ p0 < l) && (decide (0 ≤ p1 ∧ p1 < ((2 ^ (t * (l - 1 - p0.toNat)) : Nat) : Int)) && decide (0 ≤ p2 ∧ p2 < ((2 ^ t : Nat) : Int)))

end Go.Proofs.YtcaojimmdcdpiaaDoor
