/-
  Package sets by contracts: perByte, right, Check; and the statements' own chains.
-/
import Derived.Test.YtgaoeoijdpdjiaaPlain
import Derived.Test.YtgaoeoijdpdjiaaSetB
import Derived.BigQuiet
import Derived.Deep.QuietTactic
namespace Go.Proofs.Ytgaoeoijdpdjiaa
open Go.RowKit

/-- How many digits of base x a byte has. -/
def each (x : Int) : Int := if x = 4 then 4 else 2

set_option maxHeartbeats 400000 in
theorem perByte_any (x : Int) (w : World) (hx : x = 4 ∨ x = 16) :
    Calls Try.prog 67 #[.int .i64 x] w fun e w' => e = .returned (.int .i64 (each x)) ∧ w' = w := by
  rcases hx with rfl | rfl
  · go_enter Try.func67, Try.ntmps67
    go_wp2_with (go_at_call 68; refine (count_any 255 4 8 _ (by decide) (by decide) (by decide) (by decide)).mono ?_; rintro e w' ⟨rfl, rfl⟩)
    go_ret
    exact ⟨rfl, rfl⟩
  · go_enter Try.func67, Try.ntmps67
    go_wp2_with (go_at_call 68; refine (count_any 255 16 8 _ (by decide) (by decide) (by decide) (by decide)).mono ?_; rintro e w' ⟨rfl, rfl⟩)
    go_ret
    exact ⟨rfl, rfl⟩

theorem perByte_4 (w : World) : Calls Try.prog 67 #[.int .i64 4] w fun e w' => e = .returned (.int .i64 4) ∧ w' = w := perByte_any 4 w (Or.inl rfl)
theorem perByte_16 (w : World) : Calls Try.prog 67 #[.int .i64 16] w fun e w' => e = .returned (.int .i64 2) ∧ w' = w := perByte_any 16 w (Or.inr rfl)
theorem count_48 (w : World) : Calls Try.prog 68 #[.int .i64 48, .int .i64 4] w fun e w' => e = .returned (.int .i64 3) ∧ w' = w := count_any 48 4 6 w (by decide) (by decide) (by decide) (by decide)
theorem count_96 (w : World) : Calls Try.prog 68 #[.int .i64 96, .int .i64 4] w fun e w' => e = .returned (.int .i64 4) ∧ w' = w := count_any 96 4 7 w (by decide) (by decide) (by decide) (by decide)
theorem count_120 (w : World) : Calls Try.prog 68 #[.int .i64 120, .int .i64 16] w fun e w' => e = .returned (.int .i64 2) ∧ w' = w := count_any 120 16 7 w (by decide) (by decide) (by decide) (by decide)
theorem count_240 (w : World) : Calls Try.prog 68 #[.int .i64 240, .int .i64 16] w fun e w' => e = .returned (.int .i64 2) ∧ w' = w := count_any 240 16 8 w (by decide) (by decide) (by decide) (by decide)
end Go.Proofs.Ytgaoeoijdpdjiaa
