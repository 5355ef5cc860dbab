/-
  The value of a text's bytes: the program's NumberIn and the document's Value.
-/
import Derived.Test.YtgaoeoijdpdjiaaRSealM
namespace Go.Proofs.Ytgaoeoijdpdjiaa
open Go.RowKit

theorem i64_or_nat (a b : Nat) (ha : a < 9223372036854775808) (hb : b < 9223372036854775808) : bits .or .i64 (a : Int) (b : Int) = ((a ||| b : Nat) : Int) := by
  have hx : a ||| b < 2 ^ 63 := Nat.or_lt_two_pow (by omega) (by omega)
  show IntKind.i64.wrap ((BitVec.ofInt 64 (a : Int) ||| BitVec.ofInt 64 (b : Int)).toNat : Int) = _
  rw [BitVec.toNat_or, ofInt_u64 a (by omega), ofInt_u64 b (by omega), IntKind.wrap_i64]
  omega
theorem or_byte (v c : Nat) (hv : v < 16777216) (hc : c < 256) : bits BinOp.or IntKind.i64 ((v : Int) * 256) (c : Int) = ((v * 256 + c : Nat) : Int) := by
  have h := i64_or_nat (v * 256) c (by omega) (by omega)
  have e : v * 256 ||| c = v * 256 + c := by
    have := Nat.two_pow_add_eq_or_of_lt (i := 8) hc v
    rw [Nat.mul_comm]
    exact this.symm
  rw [e] at h
  rw [Int.natCast_mul] at h
  exact h
theorem valN_small (s : ByteArray) (i j : Nat) (h : j ≤ 3) : valN s i j < 16777216 := by
  have h0 := byt_lt s (i + 0)
  have h1 := byt_lt s (i + 1)
  have h2 := byt_lt s (i + 2)
  have hc : j = 0 ∨ j = 1 ∨ j = 2 ∨ j = 3 := by omega
  rcases hc with rfl | rfl | rfl | rfl <;> simp only [valN] <;> omega

set_option maxHeartbeats 400000 in
theorem numberIn_any (t : ByteArray) (w : World) (h1 : t.size ≤ 4) (h2 : 4 ≤ t.size) :
    Calls Try.prog 65 #[.string t] w fun e w' => e = .returned (.int .i64 ((valN t 0 4 : Nat) : Int)) ∧ w' = w := by
  have HE : Hid (valN t 0 t.size = valN t 0 4) := by
    have e : t.size = 4 := by omega
    show _ = _
    rw [e]
  clear h2
  go_enter Try.func65, Try.ntmps65
  go_wp2
  go_loop [3, 7] (fun v i => ∃ j : Nat, j ≤ t.size ∧ i = .int .i64 j ∧ v = .int .i64 ((valN t 0 j : Nat) : Int)) (fun _ i => t.size - (intOf i).toNat)
  case atStart => exact ⟨0, by omega, rfl, rfl⟩
  case round =>
    obtain ⟨j, hj, rfl, rfl⟩ := hrel
    by_cases hlt : j < t.size
    · have hv : valN t 0 j < 16777216 := valN_small t 0 j (by omega)
      have hc := byt_lt t j
      have hby : byt t j = (t[j]'hlt).toNat := byt_of t j hlt
      have HS : Hid (valN t 0 (j + 1) = valN t 0 j * 256 + byt t j) := by show _ = _; rw [valN, Nat.zero_add]
      have HO := hide (or_byte (valN t 0 j) (byt t j) hv hc)
      generalize valN t 0 j = v at hv HS HO ⊢
      rw [hby] at HS HO hc
      have hwb : wrap64 ((t[j]'hlt).toNat : Int) = ((t[j]'hlt).toNat : Int) := IntWalk.wrap64_in _ ⟨by omega, by omega⟩
      clear hby
      go_wp2
      go_round
      case rel => exact ⟨j + 1, by omega, by go_num, by rw [HS.out, ← HO.out]⟩
      case measure => simp [intOf]; omega
    · obtain rfl : j = t.size := by omega
      go_wp2
      go_ret
      exact ⟨congrArg (fun n : Nat => Ending.returned (Value.int .i64 (n : Int))) HE.out, rfl⟩

end Go.Proofs.Ytgaoeoijdpdjiaa
