/-
  The statement's own small functions: fit, chains.
-/
import Derived.Test.YtgaoeoijdpdjiaaPlain
import Derived.Test.YtgaoeoijdpdjiaaCells
import Derived.Deep.RegionHeld3
namespace Go.Proofs.Ytgaoeoijdpdjiaa
open Go.RowKit

/-- A number that an int holds. -/
def Int64 (c : Int) : Prop := -9223372036854775808 ≤ c ∧ c ≤ 9223372036854775807

set_option maxHeartbeats 400000 in
theorem fit_any (k b x t l : Int) (w : World) (hk : Int64 k) (hb : Int64 b) (hx : Int64 x) (ht : Int64 t) (hl : Int64 l) :
    Calls Try.prog 11 #[.agg #[.int .i64 k, .int .i64 b, .int .i64 x, .int .i64 t, .int .i64 l]] w fun e w' =>
      e = .returned (.agg #[.int .i64 (pickZ k 2 + 1), .int .i64 (4 + 4 * pickZ b 2), .int .i64 (4 + 12 * pickZ x 2), .int .i64 (pickZ t 4 + 1), .int .i64 (pickZ l 3 + 1)]) ∧ Below w.heap.size w w' := by
  have p1 := pickZ_bd k 2 (by omega)
  have p2 := pickZ_bd b 2 (by omega)
  have p3 := pickZ_bd x 2 (by omega)
  have p4 := pickZ_bd t 4 (by omega)
  have p5 := pickZ_bd l 3 (by omega)
  obtain ⟨p1a, p1b⟩ := p1
  obtain ⟨p2a, p2b⟩ := p2
  obtain ⟨p3a, p3b⟩ := p3
  obtain ⟨p4a, p4b⟩ := p4
  obtain ⟨p5a, p5b⟩ := p5
  go_enter Try.func11, Try.ntmps11
  go_wp2_with fail
  refine (pick_any k 2 _ (by omega) (by omega) hk.1 hk.2).mono ?_
  rintro e w1 ⟨rfl, rfl⟩
  go_wp2_with fail
  refine (pick_any b 2 _ (by omega) (by omega) hb.1 hb.2).mono ?_
  rintro e w1 ⟨rfl, rfl⟩
  go_wp2_with fail
  refine (pick_any x 2 _ (by omega) (by omega) hx.1 hx.2).mono ?_
  rintro e w1 ⟨rfl, rfl⟩
  go_wp2_with fail
  refine (pick_any t 4 _ (by omega) (by omega) ht.1 ht.2).mono ?_
  rintro e w1 ⟨rfl, rfl⟩
  go_wp2_with fail
  refine (pick_any l 3 _ (by omega) (by omega) hl.1 hl.2).mono ?_
  rintro e w1 ⟨rfl, rfl⟩
  go_wp2
  refine bodyPost_ret (v := .agg #[.int .i64 (pickZ k 2 + 1), .int .i64 (4 + 4 * pickZ b 2), .int .i64 (4 + 12 * pickZ x 2), .int .i64 (pickZ t 4 + 1), .int .i64 (pickZ l 3 + 1)]) (by simp [results, Try.results11, go_sem]) rfl ⟨rfl, ?_⟩
  first
    | exact ((Below.refl _ _).alloc (Nat.le_refl _) _).alloc (by simp) _
    | (repeat refine Below.setCell ?_ (by simp) _
       exact ((Below.refl _ _).alloc (Nat.le_refl _) _).alloc (by simp) _)

/-- How many chains: as the statement has it. -/
def chainsK (b x : Nat) : Nat := if b = 4 ∧ x = 16 then 10 else if b = 4 then 19 else if x = 16 then 18 else 36

set_option maxHeartbeats 400000 in
theorem keepChains_any (b x : Nat) (k t l : Int) (w : World) (hb : b = 4 ∨ b = 8) (hx : x = 4 ∨ x = 16) :
    Calls Try.prog 35 #[.agg #[.int .i64 k, .int .i64 b, .int .i64 x, .int .i64 t, .int .i64 l]] w fun e w' => e = .returned (.int .i64 (chainsK b x)) ∧ Below w.heap.size w w' := by
  rcases hb with rfl | rfl <;> rcases hx with rfl | rfl
  all_goals
    go_enter Try.func35, Try.ntmps35
    go_wp2
    go_ret
    exact ⟨rfl, (Below.refl _ _).alloc (Nat.le_refl _) _⟩
end Go.Proofs.Ytgaoeoijdpdjiaa
