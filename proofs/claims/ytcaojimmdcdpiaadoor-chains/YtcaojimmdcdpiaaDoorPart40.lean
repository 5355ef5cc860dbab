/-
  The document's own Placed, at every place.
-/
import Derived.Test.YtcaojimmdcdpiaaDoorPart33
import Derived.Test.YtcaojimmdcdpiaaDoorPart34
import Derived.Test.YtcaojimmdcdpiaaDoorPart35
import Derived.Test.YtcaojimmdcdpiaaDoorPart36
import Derived.Test.YtcaojimmdcdpiaaDoorPart37
import Derived.Test.YtcaojimmdcdpiaaDoorPart38
import Derived.Test.YtcaojimmdcdpiaaDoorPart39
import Derived.Test.YtcaojimmdcdpiaaDoorPart21
namespace Go.Proofs.YtcaojimmdcdpiaaDoor
open Go.RowKit

set_option maxRecDepth 20000 in
set_option maxHeartbeats 2000000 in
theorem placed_out (k b x t l p0 p1 p2 p3 : Int) (w : World) (h : p0 < 0 ∨ l ≤ p0) :
    Calls Tryd.prog 69 #[.agg #[.int .i64 k, .int .i64 b, .int .i64 x, .int .i64 t, .int .i64 l], .agg #[.int .i64 p0, .int .i64 p1, .int .i64 p2, .int .i64 p3]] w fun e w' => e = .returned (.bool false) ∧ Below w.heap.size w w' := by
  by_cases h0 : p0 < 0
  · go_enter Tryd.func69, Tryd.ntmps69
    go_wp2
    go_ret
    exact ⟨rfl, ((Below.refl _ _).alloc (Nat.le_refl _) _).alloc (by simp) _⟩
  · have h1 : l ≤ p0 := by omega
    go_enter Tryd.func69, Tryd.ntmps69
    go_wp2
    go_ret
    exact ⟨rfl, ((Below.refl _ _).alloc (Nat.le_refl _) _).alloc (by simp) _⟩

theorem placed_any (k x a0 a1 a3 a4 a5 : Int) (b t l ch : Nat) (p0 p1 p2 p3 : Int) (w : World) (h2 : t ≤ 4) (h4 : l ≤ 3)
    (hsz : ∀ V : World, Calls Tryd.prog 76 #[.agg #[.int .i64 k, .int .i64 b, .int .i64 x, .int .i64 t, .int .i64 l]] V fun r w' => r = .returned (.agg #[.int .i64 a0, .int .i64 a1, .int .i64 ch, .int .i64 a3, .int .i64 a4, .int .i64 a5]) ∧ Below V.heap.size V w') :
    Calls Tryd.prog 69 #[.agg #[.int .i64 k, .int .i64 b, .int .i64 x, .int .i64 t, .int .i64 l], .agg #[.int .i64 p0, .int .i64 p1, .int .i64 p2, .int .i64 p3]] w fun e w' => e = .returned (.bool (chainB t l ch p0 p1 p2 p3)) ∧ Below w.heap.size w w' := by
  by_cases h0 : p0 < 0 ∨ (l : Int) ≤ p0
  · refine (placed_out k b x t l p0 p1 p2 p3 w h0).mono ?_
    rintro e w' ⟨rfl, hb⟩
    refine ⟨?_, hb⟩
    have : decide (0 ≤ p0 ∧ p0 < (l : Int)) = false := by simp; omega
    unfold chainB leafB
    rw [this]
    rfl
  · obtain ⟨q, rfl⟩ : ∃ q : Nat, p0 = (q : Int) := ⟨p0.toNat, by omega⟩
    have hq : q < l := by omega
    have d0 : decide (0 ≤ (q : Int) ∧ (q : Int) < (l : Int)) = true := by simp; omega
    unfold chainB leafB
    rw [d0, Int.toNat_natCast, Nat.pow_mul, Bool.true_and]
    by_cases e1 : 0 ≤ p1
    · by_cases e2 : p1 < ((((2 ^ t) ^ (l - 1 - q) : Nat)) : Int)
      · rw [show decide (0 ≤ p1 ∧ p1 < ((((2 ^ t) ^ (l - 1 - q) : Nat)) : Int)) = true from decide_eq_true ⟨e1, e2⟩, Bool.true_and]
        by_cases e3 : 0 ≤ p2
        · by_cases e4 : p2 < (((2 ^ t : Nat)) : Int)
          · rw [show decide (0 ≤ p2 ∧ p2 < (((2 ^ t : Nat)) : Int)) = true from decide_eq_true ⟨e3, e4⟩, Bool.true_and]
            by_cases e5 : 0 ≤ p3
            · by_cases e6 : p3 < (ch : Int)
              · rw [show decide (0 ≤ p3 ∧ p3 < (ch : Int)) = true from decide_eq_true ⟨e5, e6⟩]
                exact placed_7 k x a0 a1 a3 a4 a5 b t l q ch p1 p2 p3 w h2 h4 hq hsz e1 e2 e3 e4 e5 e6
              · rw [show decide (0 ≤ p3 ∧ p3 < (ch : Int)) = false from decide_eq_false (fun h => e6 h.2)]
                exact placed_6 k x a0 a1 a3 a4 a5 b t l q ch p1 p2 p3 w h2 h4 hq hsz e1 e2 e3 e4 e5 (by omega)
            · rw [show decide (0 ≤ p3 ∧ p3 < (ch : Int)) = false from decide_eq_false (fun h => e5 h.1)]
              exact placed_5 k x a0 a1 a3 a4 a5 b t l q ch p1 p2 p3 w h2 h4 hq hsz e1 e2 e3 e4 (by omega)
          · rw [show decide (0 ≤ p2 ∧ p2 < (((2 ^ t : Nat)) : Int)) = false from decide_eq_false (fun h => e4 h.2), Bool.false_and]
            exact placed_4 k x a0 a1 a3 a4 a5 b t l q ch p1 p2 p3 w h2 h4 hq hsz e1 e2 e3 (Int.not_lt.1 e4)
        · rw [show decide (0 ≤ p2 ∧ p2 < (((2 ^ t : Nat)) : Int)) = false from decide_eq_false (fun h => e3 h.1), Bool.false_and]
          exact placed_3 k x a0 a1 a3 a4 a5 b t l q ch p1 p2 p3 w h2 h4 hq hsz e1 e2 (by omega)
      · rw [show decide (0 ≤ p1 ∧ p1 < ((((2 ^ t) ^ (l - 1 - q) : Nat)) : Int)) = false from decide_eq_false (fun h => e2 h.2), Bool.false_and, Bool.false_and]
        exact placed_2 k x a0 a1 a3 a4 a5 b t l q ch p1 p2 p3 w h2 h4 hq hsz e1 (Int.not_lt.1 e2)
    · rw [show decide (0 ≤ p1 ∧ p1 < ((((2 ^ t) ^ (l - 1 - q) : Nat)) : Int)) = false from decide_eq_false (fun h => e1 h.1), Bool.false_and, Bool.false_and]
      exact placed_1 k x a0 a1 a3 a4 a5 b t l q ch p1 p2 p3 w h2 h4 hq hsz (by omega)
end Go.Proofs.YtcaojimmdcdpiaaDoor
