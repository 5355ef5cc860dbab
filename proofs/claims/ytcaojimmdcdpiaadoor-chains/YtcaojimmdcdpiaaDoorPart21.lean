/-
  The document's own Check: 0 at a set that is right, 1 at every other. The right pairs of Bytes and Wide. sets.Measure and the document's sizes, at every set. The program's IsLeaf, IsTree, IsChain.
-/
import Derived.Test.YtcaojimmdcdpiaaDoorPart18
import Derived.Test.YtcaojimmdcdpiaaDoorRows
import Derived.WalkKit
import Derived.WalkSpells
import Derived.WalkLawsBesides
import Derived.Test.YtcaojimmdcdpiaaDoorPart19
import Derived.Test.YtcaojimmdcdpiaaDoorPart20
import Derived.Test.YtcaojimmdcdpiaaDoorPart17
namespace Go.Proofs.YtcaojimmdcdpiaaDoor
open Go.RowKit

set_option maxHeartbeats 2000000 in
theorem rc_yes (k b x t l : Int) (w : World) (k1 : 1 ≤ k) (k2 : k ≤ 2) (hb : b = 4 ∨ b = 8) (hx : x = 4 ∨ x = 16) (h1 : 1 ≤ t) (h2 : t ≤ 4) (h3 : 1 ≤ l) (h4 : l ≤ 3) :
    Calls Tryd.prog 67 #[.agg #[.int .i64 k, .int .i64 b, .int .i64 x, .int .i64 t, .int .i64 l]] w fun e w' => e = .returned (.int .i64 0) ∧ Below w.heap.size w w' := by
  have a0 : decide (k < 1) = false := by simp; omega
  have a9 : decide (2 < k) = false := by simp; omega
  have b0 : decide (t < 1) = false := by simp; omega
  have b1 : decide (4 < t) = false := by simp; omega
  have b2 : decide (l < 1) = false := by simp; omega
  have b3 : decide (3 < l) = false := by simp; omega
  rcases hb with rfl | rfl <;> rcases hx with rfl | rfl
  all_goals
    go_enter Tryd.func67, Tryd.ntmps67
    go_wp2
    go_ret
    exact ⟨rfl, (Below.refl _ _).alloc (Nat.le_refl _) _⟩

set_option maxHeartbeats 2000000 in
theorem rc_k1 (k b x t l : Int) (w : World) (hk : k < 1) :
    Calls Tryd.prog 67 #[.agg #[.int .i64 k, .int .i64 b, .int .i64 x, .int .i64 t, .int .i64 l]] w fun e w' => e = .returned (.int .i64 1) ∧ Below w.heap.size w w' := by
  have a0 : decide (k < 1) = true := by simp; omega
  all_goals
    go_enter Tryd.func67, Tryd.ntmps67
    go_wp2
    go_ret
    exact ⟨rfl, (Below.refl _ _).alloc (Nat.le_refl _) _⟩

set_option maxHeartbeats 2000000 in
theorem rc_k2 (k b x t l : Int) (w : World) (k1 : 1 ≤ k) (hk : 2 < k) :
    Calls Tryd.prog 67 #[.agg #[.int .i64 k, .int .i64 b, .int .i64 x, .int .i64 t, .int .i64 l]] w fun e w' => e = .returned (.int .i64 1) ∧ Below w.heap.size w w' := by
  have a0 : decide (k < 1) = false := by simp; omega
  have a9 : decide (2 < k) = true := by simp; omega
  all_goals
    go_enter Tryd.func67, Tryd.ntmps67
    go_wp2
    go_ret
    exact ⟨rfl, (Below.refl _ _).alloc (Nat.le_refl _) _⟩

set_option maxHeartbeats 2000000 in
theorem rc_b (k b x t l : Int) (w : World) (k1 : 1 ≤ k) (k2 : k ≤ 2) (hb : ¬ (b = 4 ∨ b = 8)) :
    Calls Tryd.prog 67 #[.agg #[.int .i64 k, .int .i64 b, .int .i64 x, .int .i64 t, .int .i64 l]] w fun e w' => e = .returned (.int .i64 1) ∧ Below w.heap.size w w' := by
  have a0 : decide (k < 1) = false := by simp; omega
  have a9 : decide (2 < k) = false := by simp; omega
  have a1 : (b != 4) = true := by simp; omega
  have a2 : (b != 8) = true := by simp; omega
  clear hb
  all_goals
    go_enter Tryd.func67, Tryd.ntmps67
    go_wp2
    go_ret
    exact ⟨rfl, (Below.refl _ _).alloc (Nat.le_refl _) _⟩

set_option maxHeartbeats 2000000 in
theorem rc_x (k b x t l : Int) (w : World) (k1 : 1 ≤ k) (k2 : k ≤ 2) (hb : b = 4 ∨ b = 8) (hx : ¬ (x = 4 ∨ x = 16)) :
    Calls Tryd.prog 67 #[.agg #[.int .i64 k, .int .i64 b, .int .i64 x, .int .i64 t, .int .i64 l]] w fun e w' => e = .returned (.int .i64 1) ∧ Below w.heap.size w w' := by
  have a0 : decide (k < 1) = false := by simp; omega
  have a9 : decide (2 < k) = false := by simp; omega
  have a1 : (x != 4) = true := by simp; omega
  have a2 : (x != 16) = true := by simp; omega
  clear hx
  rcases hb with rfl | rfl
  all_goals
    go_enter Tryd.func67, Tryd.ntmps67
    go_wp2
    go_ret
    exact ⟨rfl, (Below.refl _ _).alloc (Nat.le_refl _) _⟩

set_option maxHeartbeats 2000000 in
theorem rc_t1 (k b x t l : Int) (w : World) (k1 : 1 ≤ k) (k2 : k ≤ 2) (hb : b = 4 ∨ b = 8) (hx : x = 4 ∨ x = 16) (h1 : t < 1) :
    Calls Tryd.prog 67 #[.agg #[.int .i64 k, .int .i64 b, .int .i64 x, .int .i64 t, .int .i64 l]] w fun e w' => e = .returned (.int .i64 1) ∧ Below w.heap.size w w' := by
  have a0 : decide (k < 1) = false := by simp; omega
  have a9 : decide (2 < k) = false := by simp; omega
  have a1 : decide (t < 1) = true := by simp; omega
  rcases hb with rfl | rfl <;> rcases hx with rfl | rfl
  all_goals
    go_enter Tryd.func67, Tryd.ntmps67
    go_wp2
    go_ret
    exact ⟨rfl, (Below.refl _ _).alloc (Nat.le_refl _) _⟩

set_option maxHeartbeats 2000000 in
theorem rc_t2 (k b x t l : Int) (w : World) (k1 : 1 ≤ k) (k2 : k ≤ 2) (hb : b = 4 ∨ b = 8) (hx : x = 4 ∨ x = 16) (h1 : 1 ≤ t) (h2 : 4 < t) :
    Calls Tryd.prog 67 #[.agg #[.int .i64 k, .int .i64 b, .int .i64 x, .int .i64 t, .int .i64 l]] w fun e w' => e = .returned (.int .i64 1) ∧ Below w.heap.size w w' := by
  have a0 : decide (k < 1) = false := by simp; omega
  have a9 : decide (2 < k) = false := by simp; omega
  have b0 : decide (t < 1) = false := by simp; omega
  have a1 : decide (4 < t) = true := by simp; omega
  rcases hb with rfl | rfl <;> rcases hx with rfl | rfl
  all_goals
    go_enter Tryd.func67, Tryd.ntmps67
    go_wp2
    go_ret
    exact ⟨rfl, (Below.refl _ _).alloc (Nat.le_refl _) _⟩

set_option maxHeartbeats 2000000 in
theorem rc_l1 (k b x t l : Int) (w : World) (k1 : 1 ≤ k) (k2 : k ≤ 2) (hb : b = 4 ∨ b = 8) (hx : x = 4 ∨ x = 16) (h1 : 1 ≤ t) (h2 : t ≤ 4) (h3 : l < 1) :
    Calls Tryd.prog 67 #[.agg #[.int .i64 k, .int .i64 b, .int .i64 x, .int .i64 t, .int .i64 l]] w fun e w' => e = .returned (.int .i64 1) ∧ Below w.heap.size w w' := by
  have a0 : decide (k < 1) = false := by simp; omega
  have a9 : decide (2 < k) = false := by simp; omega
  have b0 : decide (t < 1) = false := by simp; omega
  have b1 : decide (4 < t) = false := by simp; omega
  have a1 : decide (l < 1) = true := by simp; omega
  rcases hb with rfl | rfl <;> rcases hx with rfl | rfl
  all_goals
    go_enter Tryd.func67, Tryd.ntmps67
    go_wp2
    go_ret
    exact ⟨rfl, (Below.refl _ _).alloc (Nat.le_refl _) _⟩

set_option maxHeartbeats 2000000 in
theorem rc_l2 (k b x t l : Int) (w : World) (k1 : 1 ≤ k) (k2 : k ≤ 2) (hb : b = 4 ∨ b = 8) (hx : x = 4 ∨ x = 16) (h1 : 1 ≤ t) (h2 : t ≤ 4) (h3 : 1 ≤ l) (h4 : 3 < l) :
    Calls Tryd.prog 67 #[.agg #[.int .i64 k, .int .i64 b, .int .i64 x, .int .i64 t, .int .i64 l]] w fun e w' => e = .returned (.int .i64 1) ∧ Below w.heap.size w w' := by
  have a0 : decide (k < 1) = false := by simp; omega
  have a9 : decide (2 < k) = false := by simp; omega
  have b0 : decide (t < 1) = false := by simp; omega
  have b1 : decide (4 < t) = false := by simp; omega
  have b2 : decide (l < 1) = false := by simp; omega
  have a1 : decide (3 < l) = true := by simp; omega
  rcases hb with rfl | rfl <;> rcases hx with rfl | rfl
  all_goals
    go_enter Tryd.func67, Tryd.ntmps67
    go_wp2
    go_ret
    exact ⟨rfl, (Below.refl _ _).alloc (Nat.le_refl _) _⟩

theorem refCheck_any (k b x t l : Int) (w : World) :
    Calls Tryd.prog 67 #[.agg #[.int .i64 k, .int .i64 b, .int .i64 x, .int .i64 t, .int .i64 l]] w fun e w' => e = .returned (.int .i64 (if rightB k b x t l then 0 else 1)) ∧ Below w.heap.size w w' := by
  by_cases k1 : 1 ≤ k
  · by_cases k2 : k ≤ 2
    · by_cases hb : b = 4 ∨ b = 8
      · by_cases hx : x = 4 ∨ x = 16
        · by_cases h1 : 1 ≤ t
          · by_cases h2 : t ≤ 4
            · by_cases h3 : 1 ≤ l
              · by_cases h4 : l ≤ 3
                · rw [show rightB k b x t l = true by simp [rightB, hb, hx, h1, h2, h3, h4]; omega]
                  exact rc_yes k b x t l w k1 k2 hb hx h1 h2 h3 h4
                · rw [show rightB k b x t l = false by simp [rightB, h4]]
                  exact rc_l2 k b x t l w k1 k2 hb hx h1 h2 h3 (by omega)
              · rw [show rightB k b x t l = false by simp [rightB, h3]]
                exact rc_l1 k b x t l w k1 k2 hb hx h1 h2 (by omega)
            · rw [show rightB k b x t l = false by simp [rightB, h2]]
              exact rc_t2 k b x t l w k1 k2 hb hx h1 (by omega)
          · rw [show rightB k b x t l = false by simp [rightB, h1]]
            exact rc_t1 k b x t l w k1 k2 hb hx (by omega)
        · rw [show rightB k b x t l = false by simp [rightB, hx]]
          exact rc_x k b x t l w k1 k2 hb hx
      · rw [show rightB k b x t l = false by simp [rightB, hb]]
        exact rc_b k b x t l w k1 k2 hb
    · rw [show rightB k b x t l = false by simp [rightB]; omega]
      exact rc_k2 k b x t l w k1 (by omega)
  · rw [show rightB k b x t l = false by simp [rightB]; omega]
    exact rc_k1 k b x t l w (by omega)
end Go.Proofs.YtcaojimmdcdpiaaDoor

namespace Go.Proofs.YtcaojimmdcdpiaaDoor

/-- The pairs of Bytes and Wide, with the digits of a byte and of what they lack. -/
def Pair (b x e f : Nat) : Prop := (b = 4 ∧ x = 4 ∧ e = 4 ∧ f = 3) ∨ (b = 8 ∧ x = 4 ∧ e = 4 ∧ f = 4) ∨ (b = 4 ∧ x = 16 ∧ e = 2 ∧ f = 2) ∨ (b = 8 ∧ x = 16 ∧ e = 2 ∧ f = 2)

theorem pair_of_right {k b x t l : Int} (h : rightB k b x t l = true) : ∃ b' x' e f t' l' : Nat, Pair b' x' e f ∧ (k = 1 ∨ k = 2) ∧ b = (b' : Int) ∧ x = (x' : Int) ∧ t = (t' : Int) ∧ l = (l' : Int) ∧ 1 ≤ t' ∧ t' ≤ 4 ∧ 1 ≤ l' ∧ l' ≤ 3 := by
  simp only [rightB, decide_eq_true_eq] at h
  obtain ⟨hk, hb, hx, ⟨h1, h2⟩, h3, h4⟩ := h
  have et : t = ((t.toNat : Nat) : Int) := by omega
  have el : l = ((l.toNat : Nat) : Int) := by omega
  rcases hb with rfl | rfl <;> rcases hx with rfl | rfl
  · exact ⟨4, 4, 4, 3, t.toNat, l.toNat, by unfold Pair; omega, hk, rfl, rfl, et, el, by omega, by omega, by omega, by omega⟩
  · exact ⟨4, 16, 2, 2, t.toNat, l.toNat, by unfold Pair; omega, hk, rfl, rfl, et, el, by omega, by omega, by omega, by omega⟩
  · exact ⟨8, 4, 4, 4, t.toNat, l.toNat, by unfold Pair; omega, hk, rfl, rfl, et, el, by omega, by omega, by omega, by omega⟩
  · exact ⟨8, 16, 2, 2, t.toNat, l.toNat, by unfold Pair; omega, hk, rfl, rfl, et, el, by omega, by omega, by omega, by omega⟩
end Go.Proofs.YtcaojimmdcdpiaaDoor

namespace Go.Proofs.YtcaojimmdcdpiaaDoor
open Go.RowKit

theorem setsMeasure_yes (b x e f t l : Nat) (hp : Pair b x e f) (k : Int) (w : World) (hk : k = 1 ∨ k = 2) (h1 : 1 ≤ t) (h2 : t ≤ 4) (h3 : 1 ≤ l) (h4 : l ≤ 3) :
    Calls Tryd.prog 81 #[.agg #[.int .i64 k, .int .i64 b, .int .i64 x, .int .i64 t, .int .i64 l]] w fun r w' =>
      r = .returned (.tuple #[.agg #[.int .i64 ((b * e : Nat) : Int), .int .i64 f, .int .i64 ((b * e + f : Nat) : Int), .int .i64 (totalZ t l), .int .i64 (sigZ b x t l), .int .i64 ((5 + 2 * b : Nat) : Int)], .int .i64 0]) ∧ Below w.heap.size w w' := by
  rcases hp with ⟨rfl, rfl, rfl, rfl⟩ | ⟨rfl, rfl, rfl, rfl⟩ | ⟨rfl, rfl, rfl, rfl⟩ | ⟨rfl, rfl, rfl, rfl⟩
  · exact measure_4_4 k t l w hk (by omega) (by omega) (by omega) (by omega)
  · exact measure_8_4 k t l w hk (by omega) (by omega) (by omega) (by omega)
  · exact measure_4_16 k t l w hk (by omega) (by omega) (by omega) (by omega)
  · exact measure_8_16 k t l w hk (by omega) (by omega) (by omega) (by omega)

theorem refSizes_yes (b x e f t l : Nat) (hp : Pair b x e f) (k : Int) (w : World) (h1 : 1 ≤ t) (h2 : t ≤ 4) (h3 : 1 ≤ l) (h4 : l ≤ 3) :
    Calls Tryd.prog 76 #[.agg #[.int .i64 k, .int .i64 b, .int .i64 x, .int .i64 t, .int .i64 l]] w fun r w' =>
      r = .returned (.agg #[.int .i64 ((b * e : Nat) : Int), .int .i64 f, .int .i64 ((b * e + f : Nat) : Int), .int .i64 (totalZ t l), .int .i64 (sigZ b x t l), .int .i64 ((5 + 2 * b : Nat) : Int)]) ∧ Below w.heap.size w w' := by
  rcases hp with ⟨rfl, rfl, rfl, rfl⟩ | ⟨rfl, rfl, rfl, rfl⟩ | ⟨rfl, rfl, rfl, rfl⟩ | ⟨rfl, rfl, rfl, rfl⟩
  · exact refSizes_4_4 k t l w h1 h2 h3 h4
  · exact refSizes_8_4 k t l w h1 h2 h3 h4
  · exact refSizes_4_16 k t l w h1 h2 h3 h4
  · exact refSizes_8_16 k t l w h1 h2 h3 h4

set_option maxHeartbeats 400000 in
theorem setsMeasure_no (k b x t l : Int) (w : World) (hr : rightB k b x t l = false) :
    Calls Tryd.prog 81 #[.agg #[.int .i64 k, .int .i64 b, .int .i64 x, .int .i64 t, .int .i64 l]] w fun r w' =>
      r = .returned (.tuple #[.agg #[.int .i64 0, .int .i64 0, .int .i64 0, .int .i64 0, .int .i64 0, .int .i64 0], .int .i64 1]) ∧ Below w.heap.size w w' := by
  have HR := hideM hr
  clear hr
  go_enter Tryd.func81, Tryd.ntmps81
  go_wp2_with fail
  refine (check_any k b x t l _).mono ?_
  rintro e w1 ⟨rfl, hb⟩
  rw [HR.out]
  obtain ⟨z0, z1, z2, z3, z4, z5⟩ := six_zero hb
  have fz : ∀ o, w1.frozen? ⟨w.heap.size + 1, o, none⟩ = false := fun o => (hb.frozen (by simp)).trans (by simp [go_sem])
  have HB := hideM ((((Below.refl _ _).alloc (Nat.le_refl _) _).alloc (by simp) _).trans (hb.mono (by simp; omega)) : Below w.heap.size w w1)
  clear hb
  go_wp2
  refine bodyPost_ret (v := .tuple #[.agg #[.int .i64 0, .int .i64 0, .int .i64 0, .int .i64 0, .int .i64 0, .int .i64 0], .int .i64 1]) (by simp [results, Tryd.results81, go_sem, z0, z1, z2, z3, z4, z5]) rfl ⟨rfl, ?_⟩
  iterate 6 refine Below.setCell ?_ (show w.heap.size ≤ _ by simp) _
  exact HB.out

end Go.Proofs.YtcaojimmdcdpiaaDoor

namespace Go.Proofs.YtcaojimmdcdpiaaDoor
open Go.RowKit

set_option maxRecDepth 20000 in
set_option maxHeartbeats 2000000 in
theorem isLeaf_any (k b x : Int) (t l : Nat) (p0 p1 p2 p3 : Int) (w : World) (h1 : 1 ≤ t) (h2 : t ≤ 4) (h4 : l ≤ 3) :
    Calls Tryd.prog 110 #[.agg #[.int .i64 k, .int .i64 b, .int .i64 x, .int .i64 t, .int .i64 l], .agg #[.int .i64 p0, .int .i64 p1, .int .i64 p2, .int .i64 p3]] w fun e w' => e = .returned (.bool (leafB t l p0 p1 p2 && p3 == 0)) ∧ Below w.heap.size w w' := by
  have HL := hide (isLeafOf_any k b x t l p0 p1 p2 p3 ((w.alloc (.cells #[.int .i64 k, .int .i64 b, .int .i64 x, .int .i64 t, .int .i64 l] 25)).alloc (.cells #[.int .i64 p0, .int .i64 p1, .int .i64 p2, .int .i64 p3] 29)) h1 h2 h4)
  generalize leafB t l p0 p1 p2 = r at HL ⊢
  cases r with
  | false =>
    go_enter Tryd.func110, Tryd.ntmps110
    go_wp2_with fail
    refine HL.out.mono ?_
    rintro e w1 ⟨rfl, hb1⟩
    have HB1 := hide ((((Below.refl w.heap.size w).alloc (Nat.le_refl _) _).alloc (by simp) _).trans (hb1.mono (by simp; omega)))
    clear hb1
    go_wp2
    go_ret
    exact ⟨rfl, HB1.out⟩
  | true =>
    generalize hr : (p3 == 0) = r
    go_enter Tryd.func110, Tryd.ntmps110
    go_wp2_with fail
    refine HL.out.mono ?_
    rintro e w1 ⟨rfl, hb1⟩
    have d3 : w1.cell? ⟨w.heap.size + 1, 3, none⟩ = some (.int .i64 p3) := (hb1.cell (p := ⟨w.heap.size + 1, 3, none⟩) (by simp)).trans (by simp [go_sem])
    have HB1 := hide ((((Below.refl w.heap.size w).alloc (Nat.le_refl _) _).alloc (by simp) _).trans (hb1.mono (by simp; omega)))
    clear hb1
    go_wp2
    go_ret
    exact ⟨by simp, HB1.out⟩

set_option maxRecDepth 20000 in
set_option maxHeartbeats 2000000 in
theorem isTree_any (k b x : Int) (t l : Nat) (p0 p1 p2 p3 : Int) (w : World) (h1 : 1 ≤ t) (h2 : t ≤ 4) (h4 : l ≤ 3) :
    Calls Tryd.prog 83 #[.agg #[.int .i64 k, .int .i64 b, .int .i64 x, .int .i64 t, .int .i64 l], .agg #[.int .i64 p0, .int .i64 p1, .int .i64 p2, .int .i64 p3]] w fun e w' => e = .returned (.bool ((leafB t l p0 p1 p2 && p3 == 0) && p2 == 0)) ∧ Below w.heap.size w w' := by
  have HL := hide (isLeaf_any k b x t l p0 p1 p2 p3 ((w.alloc (.cells #[.int .i64 k, .int .i64 b, .int .i64 x, .int .i64 t, .int .i64 l] 25)).alloc (.cells #[.int .i64 p0, .int .i64 p1, .int .i64 p2, .int .i64 p3] 29)) h1 h2 h4)
  generalize (leafB t l p0 p1 p2 && p3 == 0) = r at HL ⊢
  cases r with
  | false =>
    go_enter Tryd.func83, Tryd.ntmps83
    go_wp2_with fail
    refine HL.out.mono ?_
    rintro e w1 ⟨rfl, hb1⟩
    have HB1 := hide ((((Below.refl w.heap.size w).alloc (Nat.le_refl _) _).alloc (by simp) _).trans (hb1.mono (by simp; omega)))
    clear hb1
    go_wp2
    go_ret
    exact ⟨rfl, HB1.out⟩
  | true =>
    generalize hr : (p2 == 0) = r
    go_enter Tryd.func83, Tryd.ntmps83
    go_wp2_with fail
    refine HL.out.mono ?_
    rintro e w1 ⟨rfl, hb1⟩
    have d2 : w1.cell? ⟨w.heap.size + 1, 2, none⟩ = some (.int .i64 p2) := (hb1.cell (p := ⟨w.heap.size + 1, 2, none⟩) (by simp)).trans (by simp [go_sem])
    have HB1 := hide ((((Below.refl w.heap.size w).alloc (Nat.le_refl _) _).alloc (by simp) _).trans (hb1.mono (by simp; omega)))
    clear hb1
    go_wp2
    go_ret
    exact ⟨by simp, HB1.out⟩

/-- Is it the place of a chain? -/
def chainB (t l ch : Nat) (p0 p1 p2 p3 : Int) : Bool := leafB t l p0 p1 p2 && decide (0 ≤ p3 ∧ p3 < (ch : Int))

set_option maxRecDepth 20000 in
set_option maxHeartbeats 2000000 in
theorem isChain_any (k b x a0 a1 a3 a4 a5 : Int) (t l ch : Nat) (p0 p1 p2 p3 : Int) (w : World) (h1 : 1 ≤ t) (h2 : t ≤ 4) (h4 : l ≤ 3)
    (hM : ∀ V : World, Calls Tryd.prog 81 #[.agg #[.int .i64 k, .int .i64 b, .int .i64 x, .int .i64 t, .int .i64 l]] V fun r w' => r = .returned (.tuple #[.agg #[.int .i64 a0, .int .i64 a1, .int .i64 ch, .int .i64 a3, .int .i64 a4, .int .i64 a5], .int .i64 0]) ∧ Below V.heap.size V w') :
    Calls Tryd.prog 102 #[.agg #[.int .i64 k, .int .i64 b, .int .i64 x, .int .i64 t, .int .i64 l], .agg #[.int .i64 p0, .int .i64 p1, .int .i64 p2, .int .i64 p3]] w fun e w' => e = .returned (.bool (chainB t l ch p0 p1 p2 p3)) ∧ Below w.heap.size w w' := by
  unfold chainB
  obtain ⟨W0, hW⟩ : ∃ W0, (w.alloc (.cells #[.int .i64 k, .int .i64 b, .int .i64 x, .int .i64 t, .int .i64 l] 25)).alloc (.cells #[.int .i64 p0, .int .i64 p1, .int .i64 p2, .int .i64 p3] 29) = W0 := ⟨_, rfl⟩
  have HF := hide (show FiveC w.heap.size W0 k b x t l by subst hW; refine ⟨?_, ?_, ?_, ?_, ?_⟩ <;> simp [go_sem])
  have HP := hide (show FourC (w.heap.size + 1) W0 p0 p1 p2 p3 by subst hW; refine ⟨?_, ?_, ?_, ?_⟩ <;> simp [go_sem])
  have HB := hide (show Below w.heap.size w W0 by subst hW; exact ((Below.refl _ _).alloc (Nat.le_refl _) _).alloc (by simp) _)
  have hz : W0.heap.size ≤ w.heap.size + 2 := by subst hW; simp
  have hz' : w.heap.size + 2 ≤ W0.heap.size := by subst hW; simp
  have HM := hide hM
  have HL := hide (fun V : World => isLeafOf_any k b x t l p0 p1 p2 p3 V h1 h2 h4)
  have HW := hide (fun V : World => within_any p3 ch V)
  generalize decide (0 ≤ p3 ∧ p3 < (ch : Int)) = rc at HW ⊢
  generalize leafB t l p0 p1 p2 = r at HL ⊢
  clear hM
  obtain ⟨c0, c1, c2, c3, c4⟩ := HF.out
  cases r
  all_goals
    go_enter Tryd.func102, Tryd.ntmps102
    go_wp2_with fail
    try rw [hW]
    refine (HM.out _).mono ?_
    rintro e w1 ⟨rfl, hb1⟩
    have HB1 := hide (hb1.alloc hb1.size (.cells #[.int .i64 a0, .int .i64 a1, .int .i64 ch, .int .i64 a3, .int .i64 a4, .int .i64 a5] 106))
    have hzz := hb1.size
    clear hb1 c0 c1 c2 c3 c4 hW
    obtain ⟨c0, c1, c2, c3, c4⟩ := HF.out.below HB1.out (by omega)
    obtain ⟨d0, d1, d2, d3⟩ := HP.out.below HB1.out (by omega)
    go_wp2_with fail
    refine (HL.out _).mono ?_
    rintro e w2 ⟨rfl, hb2⟩
    have HB2 := hide (heldB HB1.out hb2 (Nat.le_refl _))
    have z2 : w2.cell? ⟨w1.heap.size, 2, none⟩ = some (.int .i64 ch) := (hb2.cell (p := ⟨w1.heap.size, 2, none⟩) (by simp)).trans (by simp [go_sem])
    clear hb2 c0 c1 c2 c3 c4 d0 d1 d2 d3
    obtain ⟨d0, d1, d2, d3⟩ := HP.out.below HB2.out (by omega)
    go_wp2_with (go_at_call 138; refine (HW.out _).mono ?_; rintro e w3 ⟨rfl, rfl⟩)
    go_ret
    exact ⟨rfl, HB.out.trans (HB2.out.mono (by omega))⟩
end Go.Proofs.YtcaojimmdcdpiaaDoor
