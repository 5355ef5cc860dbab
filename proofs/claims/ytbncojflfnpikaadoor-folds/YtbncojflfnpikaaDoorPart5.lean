/-
  Package sets by contracts: perByte, right, Check; and the statements' own chains. sets.right, by its contract: true at a set that is right, false at every other. The statement's own small functions: fit, chains.
-/
import Derived.Test.YtbncojflfnpikaaDoorPart1
import Derived.Test.YtbncojflfnpikaaDoorPart2
import Derived.BigQuiet
import Derived.Deep.QuietTactic
import Derived.Deep.RegionHeld3
namespace Go.Proofs.YtbncojflfnpikaaDoor
open Go.RowKit

/-- How many digits of base x a byte has. -/
def each (x : Int) : Int := if x = 4 then 4 else 2

set_option maxHeartbeats 400000 in
theorem perByte_any (x : Int) (w : World) (hx : x = 4 ∨ x = 16) :
    Calls Tryd.prog 112 #[.int .i64 x] w fun e w' => e = .returned (.int .i64 (each x)) ∧ w' = w := by
  rcases hx with rfl | rfl
  · go_enter Tryd.func112, Tryd.ntmps112
    go_wp2_with (go_at_call 113; refine (count_any 255 4 8 _ (by decide) (by decide) (by decide) (by decide)).mono ?_; rintro e w' ⟨rfl, rfl⟩)
    go_ret
    exact ⟨rfl, rfl⟩
  · go_enter Tryd.func112, Tryd.ntmps112
    go_wp2_with (go_at_call 113; refine (count_any 255 16 8 _ (by decide) (by decide) (by decide) (by decide)).mono ?_; rintro e w' ⟨rfl, rfl⟩)
    go_ret
    exact ⟨rfl, rfl⟩

theorem perByte_4 (w : World) : Calls Tryd.prog 112 #[.int .i64 4] w fun e w' => e = .returned (.int .i64 4) ∧ w' = w := perByte_any 4 w (Or.inl rfl)
theorem perByte_16 (w : World) : Calls Tryd.prog 112 #[.int .i64 16] w fun e w' => e = .returned (.int .i64 2) ∧ w' = w := perByte_any 16 w (Or.inr rfl)
theorem count_48 (w : World) : Calls Tryd.prog 113 #[.int .i64 48, .int .i64 4] w fun e w' => e = .returned (.int .i64 3) ∧ w' = w := count_any 48 4 6 w (by decide) (by decide) (by decide) (by decide)
theorem count_96 (w : World) : Calls Tryd.prog 113 #[.int .i64 96, .int .i64 4] w fun e w' => e = .returned (.int .i64 4) ∧ w' = w := count_any 96 4 7 w (by decide) (by decide) (by decide) (by decide)
theorem count_120 (w : World) : Calls Tryd.prog 113 #[.int .i64 120, .int .i64 16] w fun e w' => e = .returned (.int .i64 2) ∧ w' = w := count_any 120 16 7 w (by decide) (by decide) (by decide) (by decide)
theorem count_240 (w : World) : Calls Tryd.prog 113 #[.int .i64 240, .int .i64 16] w fun e w' => e = .returned (.int .i64 2) ∧ w' = w := count_any 240 16 8 w (by decide) (by decide) (by decide) (by decide)
end Go.Proofs.YtbncojflfnpikaaDoor

namespace Go.Proofs.YtbncojflfnpikaaDoor
open Go.RowKit

set_option maxHeartbeats 2000000 in
theorem right_yes (k b x t l : Int) (w : World) (hk : k = 1 ∨ k = 2) (hb : b = 4 ∨ b = 8) (hx : x = 4 ∨ x = 16) (h1 : 1 ≤ t) (h2 : t ≤ 4) (h3 : 1 ≤ l) (h4 : l ≤ 3) :
    Calls Tryd.prog 136 #[.agg #[.int .i64 k, .int .i64 b, .int .i64 x, .int .i64 t, .int .i64 l]] w fun e w' => e = .returned (.bool true) ∧ Below w.heap.size w w' := by
  rcases hk with rfl | rfl <;> rcases hb with rfl | rfl <;> rcases hx with rfl | rfl
  all_goals
    go_enter Tryd.func136, Tryd.ntmps136
    go_wp2
    go_ret
    exact ⟨rfl, (Below.refl _ _).alloc (Nat.le_refl _) _⟩

set_option maxHeartbeats 2000000 in
theorem right_k (k b x t l : Int) (w : World) (hk : ¬ (k = 1 ∨ k = 2)) :
    Calls Tryd.prog 136 #[.agg #[.int .i64 k, .int .i64 b, .int .i64 x, .int .i64 t, .int .i64 l]] w fun e w' => e = .returned (.bool false) ∧ Below w.heap.size w w' := by
  have a1 : (k == 1) = false := by simp; omega
  have a2 : (k == 2) = false := by simp; omega
  clear hk
  all_goals
    go_enter Tryd.func136, Tryd.ntmps136
    go_wp2
    go_ret
    exact ⟨rfl, (Below.refl _ _).alloc (Nat.le_refl _) _⟩

set_option maxHeartbeats 2000000 in
theorem right_b (k b x t l : Int) (w : World) (hk : k = 1 ∨ k = 2) (hb : ¬ (b = 4 ∨ b = 8)) :
    Calls Tryd.prog 136 #[.agg #[.int .i64 k, .int .i64 b, .int .i64 x, .int .i64 t, .int .i64 l]] w fun e w' => e = .returned (.bool false) ∧ Below w.heap.size w w' := by
  have a1 : (b == 4) = false := by simp; omega
  have a2 : (b == 8) = false := by simp; omega
  clear hb
  rcases hk with rfl | rfl
  all_goals
    go_enter Tryd.func136, Tryd.ntmps136
    go_wp2
    go_ret
    exact ⟨rfl, (Below.refl _ _).alloc (Nat.le_refl _) _⟩

set_option maxHeartbeats 2000000 in
theorem right_x (k b x t l : Int) (w : World) (hk : k = 1 ∨ k = 2) (hb : b = 4 ∨ b = 8) (hx : ¬ (x = 4 ∨ x = 16)) :
    Calls Tryd.prog 136 #[.agg #[.int .i64 k, .int .i64 b, .int .i64 x, .int .i64 t, .int .i64 l]] w fun e w' => e = .returned (.bool false) ∧ Below w.heap.size w w' := by
  have a1 : (x == 4) = false := by simp; omega
  have a2 : (x == 16) = false := by simp; omega
  clear hx
  rcases hk with rfl | rfl <;> rcases hb with rfl | rfl
  all_goals
    go_enter Tryd.func136, Tryd.ntmps136
    go_wp2
    go_ret
    exact ⟨rfl, (Below.refl _ _).alloc (Nat.le_refl _) _⟩

set_option maxHeartbeats 2000000 in
theorem right_t1 (k b x t l : Int) (w : World) (hk : k = 1 ∨ k = 2) (hb : b = 4 ∨ b = 8) (hx : x = 4 ∨ x = 16) (h1 : ¬ 1 ≤ t) :
    Calls Tryd.prog 136 #[.agg #[.int .i64 k, .int .i64 b, .int .i64 x, .int .i64 t, .int .i64 l]] w fun e w' => e = .returned (.bool false) ∧ Below w.heap.size w w' := by
  have a1 : decide (1 ≤ t) = false := by simpa using h1
  rcases hk with rfl | rfl <;> rcases hb with rfl | rfl <;> rcases hx with rfl | rfl
  all_goals
    go_enter Tryd.func136, Tryd.ntmps136
    go_wp2
    go_ret
    exact ⟨rfl, (Below.refl _ _).alloc (Nat.le_refl _) _⟩

set_option maxHeartbeats 2000000 in
theorem right_t2 (k b x t l : Int) (w : World) (hk : k = 1 ∨ k = 2) (hb : b = 4 ∨ b = 8) (hx : x = 4 ∨ x = 16) (h1 : 1 ≤ t) (h2 : ¬ t ≤ 4) :
    Calls Tryd.prog 136 #[.agg #[.int .i64 k, .int .i64 b, .int .i64 x, .int .i64 t, .int .i64 l]] w fun e w' => e = .returned (.bool false) ∧ Below w.heap.size w w' := by
  have a1 : decide (t ≤ 4) = false := by simpa using h2
  rcases hk with rfl | rfl <;> rcases hb with rfl | rfl <;> rcases hx with rfl | rfl
  all_goals
    go_enter Tryd.func136, Tryd.ntmps136
    go_wp2
    go_ret
    exact ⟨rfl, (Below.refl _ _).alloc (Nat.le_refl _) _⟩

set_option maxHeartbeats 2000000 in
theorem right_l1 (k b x t l : Int) (w : World) (hk : k = 1 ∨ k = 2) (hb : b = 4 ∨ b = 8) (hx : x = 4 ∨ x = 16) (h1 : 1 ≤ t) (h2 : t ≤ 4) (h3 : ¬ 1 ≤ l) :
    Calls Tryd.prog 136 #[.agg #[.int .i64 k, .int .i64 b, .int .i64 x, .int .i64 t, .int .i64 l]] w fun e w' => e = .returned (.bool false) ∧ Below w.heap.size w w' := by
  have a1 : decide (1 ≤ l) = false := by simpa using h3
  rcases hk with rfl | rfl <;> rcases hb with rfl | rfl <;> rcases hx with rfl | rfl
  all_goals
    go_enter Tryd.func136, Tryd.ntmps136
    go_wp2
    go_ret
    exact ⟨rfl, (Below.refl _ _).alloc (Nat.le_refl _) _⟩

set_option maxHeartbeats 2000000 in
theorem right_l2 (k b x t l : Int) (w : World) (hk : k = 1 ∨ k = 2) (hb : b = 4 ∨ b = 8) (hx : x = 4 ∨ x = 16) (h1 : 1 ≤ t) (h2 : t ≤ 4) (h3 : 1 ≤ l) (h4 : ¬ l ≤ 3) :
    Calls Tryd.prog 136 #[.agg #[.int .i64 k, .int .i64 b, .int .i64 x, .int .i64 t, .int .i64 l]] w fun e w' => e = .returned (.bool false) ∧ Below w.heap.size w w' := by
  have a1 : decide (l ≤ 3) = false := by simpa using h4
  rcases hk with rfl | rfl <;> rcases hb with rfl | rfl <;> rcases hx with rfl | rfl
  all_goals
    go_enter Tryd.func136, Tryd.ntmps136
    go_wp2
    go_ret
    exact ⟨rfl, (Below.refl _ _).alloc (Nat.le_refl _) _⟩

theorem right_any (k b x t l : Int) (w : World) :
    Calls Tryd.prog 136 #[.agg #[.int .i64 k, .int .i64 b, .int .i64 x, .int .i64 t, .int .i64 l]] w fun e w' => e = .returned (.bool (rightB k b x t l)) ∧ Below w.heap.size w w' := by
  by_cases hk : k = 1 ∨ k = 2
  · by_cases hb : b = 4 ∨ b = 8
    · by_cases hx : x = 4 ∨ x = 16
      · by_cases h1 : 1 ≤ t
        · by_cases h2 : t ≤ 4
          · by_cases h3 : 1 ≤ l
            · by_cases h4 : l ≤ 3
              · rw [show rightB k b x t l = true by simp [rightB, hk, hb, hx, h1, h2, h3, h4]]
                exact right_yes k b x t l w hk hb hx h1 h2 h3 h4
              · rw [show rightB k b x t l = false by simp [rightB, h4]]
                exact right_l2 k b x t l w hk hb hx h1 h2 h3 h4
            · rw [show rightB k b x t l = false by simp [rightB, h3]]
              exact right_l1 k b x t l w hk hb hx h1 h2 h3
          · rw [show rightB k b x t l = false by simp [rightB, h2]]
            exact right_t2 k b x t l w hk hb hx h1 h2
        · rw [show rightB k b x t l = false by simp [rightB, h1]]
          exact right_t1 k b x t l w hk hb hx h1
      · rw [show rightB k b x t l = false by simp [rightB, hx]]
        exact right_x k b x t l w hk hb hx
    · rw [show rightB k b x t l = false by simp [rightB, hb]]
      exact right_b k b x t l w hk hb
  · rw [show rightB k b x t l = false by simp [rightB, hk]]
    exact right_k k b x t l w hk
end Go.Proofs.YtbncojflfnpikaaDoor

namespace Go.Proofs.YtbncojflfnpikaaDoor
open Go.RowKit

/-- A number that an int holds. -/
def Int64 (c : Int) : Prop := -9223372036854775808 ≤ c ∧ c ≤ 9223372036854775807

set_option maxHeartbeats 400000 in
theorem fit_any (k b x t l : Int) (w : World) (hk : Int64 k) (hb : Int64 b) (hx : Int64 x) (ht : Int64 t) (hl : Int64 l) :
    Calls Tryd.prog 15 #[.agg #[.int .i64 k, .int .i64 b, .int .i64 x, .int .i64 t, .int .i64 l]] w fun e w' =>
      e = .returned (.agg #[.int .i64 (pickZ k 2 + 1), .int .i64 (4 + 4 * pickZ b 2), .int .i64 (4 + 12 * pickZ x 2), .int .i64 (pickZ t 4 + 1), .int .i64 (pickZ l 3 + 1)]) ∧ Below w.heap.size w w' := by
  have p1 := pickZ_bd k 2 (by omega)
  have p2 := pickZ_bd b 2 (by omega)
  have p3 := pickZ_bd x 2 (by omega)
  have p4 := pickZ_bd t 4 (by omega)
  have p5 := pickZ_bd l 3 (by omega)
  obtain ⟨p1a, p1b⟩ := p1
  obtain ⟨p2a, p2b⟩ := p2
  obtain ⟨p3a, p3b⟩ := p3
  obtain ⟨p4a, p4b⟩ := p4
  obtain ⟨p5a, p5b⟩ := p5
  go_enter Tryd.func15, Tryd.ntmps15
  go_wp2_with fail
  refine (pick_any k 2 _ (by omega) (by omega) hk.1 hk.2).mono ?_
  rintro e w1 ⟨rfl, rfl⟩
  go_wp2_with fail
  refine (pick_any b 2 _ (by omega) (by omega) hb.1 hb.2).mono ?_
  rintro e w1 ⟨rfl, rfl⟩
  go_wp2_with fail
  refine (pick_any x 2 _ (by omega) (by omega) hx.1 hx.2).mono ?_
  rintro e w1 ⟨rfl, rfl⟩
  go_wp2_with fail
  refine (pick_any t 4 _ (by omega) (by omega) ht.1 ht.2).mono ?_
  rintro e w1 ⟨rfl, rfl⟩
  go_wp2_with fail
  refine (pick_any l 3 _ (by omega) (by omega) hl.1 hl.2).mono ?_
  rintro e w1 ⟨rfl, rfl⟩
  go_wp2
  refine bodyPost_ret (v := .agg #[.int .i64 (pickZ k 2 + 1), .int .i64 (4 + 4 * pickZ b 2), .int .i64 (4 + 12 * pickZ x 2), .int .i64 (pickZ t 4 + 1), .int .i64 (pickZ l 3 + 1)]) (by simp [results, Tryd.results15, go_sem]) rfl ⟨rfl, ?_⟩
  first
    | exact ((Below.refl _ _).alloc (Nat.le_refl _) _).alloc (by simp) _
    | (repeat refine Below.setCell ?_ (by simp) _
       exact ((Below.refl _ _).alloc (Nat.le_refl _) _).alloc (by simp) _)

/-- How many chains: as the statement has it. -/
def chainsK (b x : Nat) : Nat := if b = 4 ∧ x = 16 then 10 else if b = 4 then 19 else if x = 16 then 18 else 36

set_option maxHeartbeats 400000 in
theorem keepChains_any (b x : Nat) (k t l : Int) (w : World) (hb : b = 4 ∨ b = 8) (hx : x = 4 ∨ x = 16) :
    Calls Tryd.prog 48 #[.agg #[.int .i64 k, .int .i64 b, .int .i64 x, .int .i64 t, .int .i64 l]] w fun e w' => e = .returned (.int .i64 (chainsK b x)) ∧ Below w.heap.size w w' := by
  rcases hb with rfl | rfl <;> rcases hx with rfl | rfl
  all_goals
    go_enter Tryd.func48, Tryd.ntmps48
    go_wp2
    go_ret
    exact ⟨rfl, (Below.refl _ _).alloc (Nat.le_refl _) _⟩
end Go.Proofs.YtbncojflfnpikaaDoor
