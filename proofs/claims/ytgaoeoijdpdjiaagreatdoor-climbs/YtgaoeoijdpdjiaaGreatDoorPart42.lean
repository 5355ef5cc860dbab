/-
  The program's IsLeaf, IsTree, IsChain. Small facts about sets, seeds, places. The place of a tree.
-/
import Derived.Test.YtgaoeoijdpdjiaaGreatDoorPart32
import Derived.Test.YtgaoeoijdpdjiaaGreatDoorPart41
import Derived.Test.YtgaoeoijdpdjiaaGreatDoorPart4
namespace Go.Proofs.YtgaoeoijdpdjiaaGreatDoor
open Go.RowKit
set_option maxRecDepth 20000 in
set_option maxHeartbeats 2000000 in
theorem isLeaf_any (k b x : Int) (t l : Nat) (p0 p1 p2 p3 : Int) (w : World) (h1 : 1 ≤ t) (h2 : t ≤ 4) (h4 : l ≤ 3) :
    Calls Tryz.prog 150 #[.agg #[.int .i64 k, .int .i64 b, .int .i64 x, .int .i64 t, .int .i64 l], .agg #[.int .i64 p0, .int .i64 p1, .int .i64 p2, .int .i64 p3]] w fun e w' => e = .returned (.bool (leafB t l p0 p1 p2 && p3 == 0)) ∧ Below w.heap.size w w' := by
  have HL := hide (isLeafOf_any k b x t l p0 p1 p2 p3 ((w.alloc (.cells #[.int .i64 k, .int .i64 b, .int .i64 x, .int .i64 t, .int .i64 l] 23)).alloc (.cells #[.int .i64 p0, .int .i64 p1, .int .i64 p2, .int .i64 p3] 27)) h1 h2 h4)
  generalize leafB t l p0 p1 p2 = r at HL ⊢
  cases r with
  | false =>
    go_enter Tryz.func150, Tryz.ntmps150
    go_wp2_with fail
    refine HL.out.mono ?_
    rintro e w1 ⟨rfl, hb1⟩
    have HB1 := hide ((((Below.refl w.heap.size w).alloc (Nat.le_refl _) _).alloc (by simp) _).trans (hb1.mono (by simp; omega)))
    clear hb1
    go_wp2
    go_ret
    exact ⟨rfl, HB1.out⟩
  | true =>
    generalize hr : (p3 == 0) = r
    go_enter Tryz.func150, Tryz.ntmps150
    go_wp2_with fail
    refine HL.out.mono ?_
    rintro e w1 ⟨rfl, hb1⟩
    have d3 : w1.cell? ⟨w.heap.size + 1, 3, none⟩ = some (.int .i64 p3) := (hb1.cell (p := ⟨w.heap.size + 1, 3, none⟩) (by simp)).trans (by simp [go_sem])
    have HB1 := hide ((((Below.refl w.heap.size w).alloc (Nat.le_refl _) _).alloc (by simp) _).trans (hb1.mono (by simp; omega)))
    clear hb1
    go_wp2
    go_ret
    exact ⟨by simp, HB1.out⟩
end Go.Proofs.YtgaoeoijdpdjiaaGreatDoor

namespace Go.Proofs.YtgaoeoijdpdjiaaGreatDoor
open Go.RowKit
theorem pair_small {b x e f : Nat} (h : Pair b x e f) : 1 ≤ b ∧ b ≤ 16 ∧ 1 ≤ b * e + f ∧ b * e + f ≤ 64 ∧ 1 ≤ x ∧ x ≤ 16 := by
  rcases h with ⟨rfl, rfl, rfl, rfl⟩ | ⟨rfl, rfl, rfl, rfl⟩ | ⟨rfl, rfl, rfl, rfl⟩ | ⟨rfl, rfl, rfl, rfl⟩ <;> decide
end Go.Proofs.YtgaoeoijdpdjiaaGreatDoor

namespace Go.Proofs.YtgaoeoijdpdjiaaGreatDoor
open Go.RowKit
set_option maxRecDepth 20000 in
set_option maxHeartbeats 2000000 in
theorem isTree_any (k b x : Int) (t l : Nat) (p0 p1 p2 p3 : Int) (w : World) (h1 : 1 ≤ t) (h2 : t ≤ 4) (h4 : l ≤ 3) :
    Calls Tryz.prog 71 #[.agg #[.int .i64 k, .int .i64 b, .int .i64 x, .int .i64 t, .int .i64 l], .agg #[.int .i64 p0, .int .i64 p1, .int .i64 p2, .int .i64 p3]] w fun e w' => e = .returned (.bool ((leafB t l p0 p1 p2 && p3 == 0) && p2 == 0)) ∧ Below w.heap.size w w' := by
  have HL := hide (isLeaf_any k b x t l p0 p1 p2 p3 ((w.alloc (.cells #[.int .i64 k, .int .i64 b, .int .i64 x, .int .i64 t, .int .i64 l] 23)).alloc (.cells #[.int .i64 p0, .int .i64 p1, .int .i64 p2, .int .i64 p3] 27)) h1 h2 h4)
  generalize (leafB t l p0 p1 p2 && p3 == 0) = r at HL ⊢
  cases r with
  | false =>
    go_enter Tryz.func71, Tryz.ntmps71
    go_wp2_with fail
    refine HL.out.mono ?_
    rintro e w1 ⟨rfl, hb1⟩
    have HB1 := hide ((((Below.refl w.heap.size w).alloc (Nat.le_refl _) _).alloc (by simp) _).trans (hb1.mono (by simp; omega)))
    clear hb1
    go_wp2
    go_ret
    exact ⟨rfl, HB1.out⟩
  | true =>
    generalize hr : (p2 == 0) = r
    go_enter Tryz.func71, Tryz.ntmps71
    go_wp2_with fail
    refine HL.out.mono ?_
    rintro e w1 ⟨rfl, hb1⟩
    have d2 : w1.cell? ⟨w.heap.size + 1, 2, none⟩ = some (.int .i64 p2) := (hb1.cell (p := ⟨w.heap.size + 1, 2, none⟩) (by simp)).trans (by simp [go_sem])
    have HB1 := hide ((((Below.refl w.heap.size w).alloc (Nat.le_refl _) _).alloc (by simp) _).trans (hb1.mono (by simp; omega)))
    clear hb1
    go_wp2
    go_ret
    exact ⟨by simp, HB1.out⟩
end Go.Proofs.YtgaoeoijdpdjiaaGreatDoor
