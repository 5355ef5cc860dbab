/-
  The document's Value.
-/
import Derived.Test.YtgaoeoijdpdjiaaRNum
namespace Go.Proofs.Ytgaoeoijdpdjiaa
open Go.RowKit

set_option maxHeartbeats 400000 in
theorem refValue_any (s : ByteArray) (a : Nat) (w : World) (h1 : s.size ≤ 32) (h2 : a + 4 ≤ s.size) :
    Calls Try.prog 56 #[.string s, .int .i64 a, .int .i64 4] w fun e w' => e = .returned (.int .i64 ((valN s a 4 : Nat) : Int)) ∧ w' = w := by
  go_enter Try.func56, Try.ntmps56
  go_wp2
  go_loop [7, 8] (fun v i => ∃ j : Nat, j ≤ 4 ∧ i = .int .i64 ((a + j : Nat) : Int) ∧ v = .int .i64 ((valN s a j : Nat) : Int)) (fun _ i => a + 4 - (intOf i).toNat)
  case atStart => exact ⟨0, by omega, rfl, rfl⟩
  case round =>
    obtain ⟨j, hj, rfl, rfl⟩ := hrel
    by_cases hlt : j < 4
    · have hv : valN s a j < 16777216 := valN_small s a j (by omega)
      have hlt2 : a + j < s.size := by omega
      have hby : byt s (a + j) = (s[a + j]'hlt2).toNat := byt_of s (a + j) hlt2
      have HS : Hid (valN s a (j + 1) = valN s a j * 256 + byt s (a + j)) := rfl
      generalize valN s a j = v at hv HS ⊢
      have hc := byt_lt s (a + j)
      rw [hby] at HS hc
      have hwb : wrap64 ((s[a + j]'hlt2).toNat : Int) = ((s[a + j]'hlt2).toNat : Int) := IntWalk.wrap64_in _ ⟨by omega, by omega⟩
      clear hby
      go_wp2
      go_round
      case rel => exact ⟨j + 1, by omega, by go_num, by rw [HS.out]; go_num⟩
      case measure => simp [intOf]; omega
    · obtain rfl : j = 4 := by omega
      go_wp2
      go_ret
      exact ⟨rfl, rfl⟩
end Go.Proofs.Ytgaoeoijdpdjiaa
