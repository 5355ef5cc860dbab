/-
  The document's own answer, its small functions: Power, Leaves, Check.
-/
import Derived.Test.YtgaoeoijdpdjiaaCells
import Derived.Test.YtgaoeoijdpdjiaaSetB
import Derived.Test.YtgaoeoijdpdjiaaFit
namespace Go.Proofs.Ytgaoeoijdpdjiaa
open Go.RowKit

set_option maxHeartbeats 400000 in
theorem power_any (a n : Nat) (w : World) (ha : a ≤ 16) (hn : n ≤ 12) (hp : a ^ n ≤ 65536) (ha1 : 1 ≤ a) :
    Calls Try.prog 69 #[.int .i64 a, .int .i64 n] w fun e w' => e = .returned (.int .i64 ((a ^ n : Nat) : Int)) ∧ w' = w := by
  have HP := hideM hp
  clear hp
  go_enter Try.func69, Try.ntmps69
  go_wp2
  go_loop [5, 6] (fun p i => ∃ j : Nat, j ≤ n ∧ i = .int .i64 j ∧ p = .int .i64 ((a ^ j : Nat) : Int)) (fun _ i => n - (intOf i).toNat)
  case atStart => exact ⟨0, by omega, rfl, rfl⟩
  case round =>
    obtain ⟨j, hj, rfl, rfl⟩ := hrel
    by_cases hlt : j < n
    · have hb : a ^ (j + 1) ≤ 65536 := Nat.le_trans (Nat.pow_le_pow_right ha1 (by omega)) HP.out
      have HS : Hid (a ^ (j + 1) = a ^ j * a) := Nat.pow_succ a j
      have hb2 : ((a ^ j : Nat) : Int) * (a : Int) ≤ 65536 := by have h := HS.out; have e : ((a ^ j * a : Nat) : Int) = ((a ^ j : Nat) : Int) * (a : Int) := Int.natCast_mul _ _; omega
      have hb0 : 0 ≤ ((a ^ j : Nat) : Int) * (a : Int) := Int.mul_nonneg (by omega) (by omega)
      clear hb
      generalize hq : a ^ j = q at HS hb2 hb0 ⊢
      have HQ := hideM hq
      clear hq
      go_wp2
      go_round
      case rel => exact ⟨j + 1, by omega, by go_num, by rw [HS.out, Int.natCast_mul]⟩
      case measure => simp [intOf]; omega
    · obtain rfl : j = n := by omega
      go_wp2
      go_ret
      exact ⟨rfl, rfl⟩

set_option maxHeartbeats 400000 in
theorem leaves_any (t : Nat) (k b x l : Int) (w : World) (ht : t ≤ 4) :
    Calls Try.prog 70 #[.agg #[.int .i64 k, .int .i64 b, .int .i64 x, .int .i64 t, .int .i64 l]] w fun e w' => e = .returned (.int .i64 ((2 ^ t : Nat) : Int)) ∧ Below w.heap.size w w' := by
  have hp : 2 ^ t ≤ 65536 := Nat.le_trans (Nat.pow_le_pow_right (by decide) ht) (by decide)
  have HC := hideM (fun w' : World => power_any 2 t w' (by decide) (by omega) hp (by decide))
  clear hp
  go_enter Try.func70, Try.ntmps70
  go_wp2_with fail
  refine (HC.out _).mono ?_
  rintro e w1 ⟨rfl, rfl⟩
  go_wp2
  go_ret
  exact ⟨rfl, (Below.refl _ _).alloc (Nat.le_refl _) _⟩
end Go.Proofs.Ytgaoeoijdpdjiaa
