/-
  sets.right, by its contract: true at a set that is right, false at every other.
-/
import Derived.Test.YtgaoeoijdpdjiaaGreatDoorPart3
namespace Go.Proofs.YtgaoeoijdpdjiaaGreatDoor
open Go.RowKit
set_option maxHeartbeats 2000000 in
theorem right_yes (k b x t l : Int) (w : World) (hk : k = 1 ∨ k = 2) (hb : b = 4 ∨ b = 8) (hx : x = 4 ∨ x = 16) (h1 : 1 ≤ t) (h2 : t ≤ 4) (h3 : 1 ≤ l) (h4 : l ≤ 3) :
    Calls Tryz.prog 162 #[.agg #[.int .i64 k, .int .i64 b, .int .i64 x, .int .i64 t, .int .i64 l]] w fun e w' => e = .returned (.bool true) ∧ Below w.heap.size w w' := by
  rcases hk with rfl | rfl <;> rcases hb with rfl | rfl <;> rcases hx with rfl | rfl
  all_goals
    go_enter Tryz.func162, Tryz.ntmps162
    go_wp2
    go_ret
    exact ⟨rfl, (Below.refl _ _).alloc (Nat.le_refl _) _⟩
set_option maxHeartbeats 2000000 in
theorem right_k (k b x t l : Int) (w : World) (hk : ¬ (k = 1 ∨ k = 2)) :
    Calls Tryz.prog 162 #[.agg #[.int .i64 k, .int .i64 b, .int .i64 x, .int .i64 t, .int .i64 l]] w fun e w' => e = .returned (.bool false) ∧ Below w.heap.size w w' := by
  have a1 : (k == 1) = false := by simp; omega
  have a2 : (k == 2) = false := by simp; omega
  clear hk
  all_goals
    go_enter Tryz.func162, Tryz.ntmps162
    go_wp2
    go_ret
    exact ⟨rfl, (Below.refl _ _).alloc (Nat.le_refl _) _⟩
set_option maxHeartbeats 2000000 in
theorem right_b (k b x t l : Int) (w : World) (hk : k = 1 ∨ k = 2) (hb : ¬ (b = 4 ∨ b = 8)) :
    Calls Tryz.prog 162 #[.agg #[.int .i64 k, .int .i64 b, .int .i64 x, .int .i64 t, .int .i64 l]] w fun e w' => e = .returned (.bool false) ∧ Below w.heap.size w w' := by
  have a1 : (b == 4) = false := by simp; omega
  have a2 : (b == 8) = false := by simp; omega
  clear hb
  rcases hk with rfl | rfl
  all_goals
    go_enter Tryz.func162, Tryz.ntmps162
    go_wp2
    go_ret
    exact ⟨rfl, (Below.refl _ _).alloc (Nat.le_refl _) _⟩
set_option maxHeartbeats 2000000 in
theorem right_x (k b x t l : Int) (w : World) (hk : k = 1 ∨ k = 2) (hb : b = 4 ∨ b = 8) (hx : ¬ (x = 4 ∨ x = 16)) :
    Calls Tryz.prog 162 #[.agg #[.int .i64 k, .int .i64 b, .int .i64 x, .int .i64 t, .int .i64 l]] w fun e w' => e = .returned (.bool false) ∧ Below w.heap.size w w' := by
  have a1 : (x == 4) = false := by simp; omega
  have a2 : (x == 16) = false := by simp; omega
  clear hx
  rcases hk with rfl | rfl <;> rcases hb with rfl | rfl
  all_goals
    go_enter Tryz.func162, Tryz.ntmps162
    go_wp2
    go_ret
    exact ⟨rfl, (Below.refl _ _).alloc (Nat.le_refl _) _⟩
set_option maxHeartbeats 2000000 in
theorem right_t1 (k b x t l : Int) (w : World) (hk : k = 1 ∨ k = 2) (hb : b = 4 ∨ b = 8) (hx : x = 4 ∨ x = 16) (h1 : ¬ 1 ≤ t) :
    Calls Tryz.prog 162 #[.agg #[.int .i64 k, .int .i64 b, .int .i64 x, .int .i64 t, .int .i64 l]] w fun e w' => e = .returned (.bool false) ∧ Below w.heap.size w w' := by
  have a1 : decide (1 ≤ t) = false := by simpa using h1
  rcases hk with rfl | rfl <;> rcases hb with rfl | rfl <;> rcases hx with rfl | rfl
  all_goals
    go_enter Tryz.func162, Tryz.ntmps162
    go_wp2
    go_ret
    exact ⟨rfl, (Below.refl _ _).alloc (Nat.le_refl _) _⟩
set_option maxHeartbeats 2000000 in
theorem right_t2 (k b x t l : Int) (w : World) (hk : k = 1 ∨ k = 2) (hb : b = 4 ∨ b = 8) (hx : x = 4 ∨ x = 16) (h1 : 1 ≤ t) (h2 : ¬ t ≤ 4) :
    Calls Tryz.prog 162 #[.agg #[.int .i64 k, .int .i64 b, .int .i64 x, .int .i64 t, .int .i64 l]] w fun e w' => e = .returned (.bool false) ∧ Below w.heap.size w w' := by
  have a1 : decide (t ≤ 4) = false := by simpa using h2
  rcases hk with rfl | rfl <;> rcases hb with rfl | rfl <;> rcases hx with rfl | rfl
  all_goals
    go_enter Tryz.func162, Tryz.ntmps162
    go_wp2
    go_ret
    exact ⟨rfl, (Below.refl _ _).alloc (Nat.le_refl _) _⟩
set_option maxHeartbeats 2000000 in
theorem right_l1 (k b x t l : Int) (w : World) (hk : k = 1 ∨ k = 2) (hb : b = 4 ∨ b = 8) (hx : x = 4 ∨ x = 16) (h1 : 1 ≤ t) (h2 : t ≤ 4) (h3 : ¬ 1 ≤ l) :
    Calls Tryz.prog 162 #[.agg #[.int .i64 k, .int .i64 b, .int .i64 x, .int .i64 t, .int .i64 l]] w fun e w' => e = .returned (.bool false) ∧ Below w.heap.size w w' := by
  have a1 : decide (1 ≤ l) = false := by simpa using h3
  rcases hk with rfl | rfl <;> rcases hb with rfl | rfl <;> rcases hx with rfl | rfl
  all_goals
    go_enter Tryz.func162, Tryz.ntmps162
    go_wp2
    go_ret
    exact ⟨rfl, (Below.refl _ _).alloc (Nat.le_refl _) _⟩
set_option maxHeartbeats 2000000 in
theorem right_l2 (k b x t l : Int) (w : World) (hk : k = 1 ∨ k = 2) (hb : b = 4 ∨ b = 8) (hx : x = 4 ∨ x = 16) (h1 : 1 ≤ t) (h2 : t ≤ 4) (h3 : 1 ≤ l) (h4 : ¬ l ≤ 3) :
    Calls Tryz.prog 162 #[.agg #[.int .i64 k, .int .i64 b, .int .i64 x, .int .i64 t, .int .i64 l]] w fun e w' => e = .returned (.bool false) ∧ Below w.heap.size w w' := by
  have a1 : decide (l ≤ 3) = false := by simpa using h4
  rcases hk with rfl | rfl <;> rcases hb with rfl | rfl <;> rcases hx with rfl | rfl
  all_goals
    go_enter Tryz.func162, Tryz.ntmps162
    go_wp2
    go_ret
    exact ⟨rfl, (Below.refl _ _).alloc (Nat.le_refl _) _⟩
theorem right_any (k b x t l : Int) (w : World) :
    Calls Tryz.prog 162 #[.agg #[.int .i64 k, .int .i64 b, .int .i64 x, .int .i64 t, .int .i64 l]] w fun e w' => e = .returned (.bool (rightB k b x t l)) ∧ Below w.heap.size w w' := by
  by_cases hk : k = 1 ∨ k = 2
  · by_cases hb : b = 4 ∨ b = 8
    · by_cases hx : x = 4 ∨ x = 16
      · by_cases h1 : 1 ≤ t
        · by_cases h2 : t ≤ 4
          · by_cases h3 : 1 ≤ l
            · by_cases h4 : l ≤ 3
              · rw [show rightB k b x t l = true by simp [rightB, hk, hb, hx, h1, h2, h3, h4]]
                exact right_yes k b x t l w hk hb hx h1 h2 h3 h4
              · rw [show rightB k b x t l = false by simp [rightB, h4]]
                exact right_l2 k b x t l w hk hb hx h1 h2 h3 h4
            · rw [show rightB k b x t l = false by simp [rightB, h3]]
              exact right_l1 k b x t l w hk hb hx h1 h2 h3
          · rw [show rightB k b x t l = false by simp [rightB, h2]]
            exact right_t2 k b x t l w hk hb hx h1 h2
        · rw [show rightB k b x t l = false by simp [rightB, h1]]
          exact right_t1 k b x t l w hk hb hx h1
      · rw [show rightB k b x t l = false by simp [rightB, hx]]
        exact right_x k b x t l w hk hb hx
    · rw [show rightB k b x t l = false by simp [rightB, hb]]
      exact right_b k b x t l w hk hb
  · rw [show rightB k b x t l = false by simp [rightB, hk]]
    exact right_k k b x t l w hk
end Go.Proofs.YtgaoeoijdpdjiaaGreatDoor
