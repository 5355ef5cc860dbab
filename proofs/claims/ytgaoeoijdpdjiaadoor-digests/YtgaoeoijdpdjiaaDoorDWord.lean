/-
  The program's words of two kinds: how many bytes; a word rotated.
-/
import Derived.Test.YtgaoeoijdpdjiaaDoorDBase
namespace Go.Proofs.YtgaoeoijdpdjiaaDoor
open Go.RowKit

set_option maxHeartbeats 1000000 in
set_option maxRecDepth 100000 in
theorem len64_32 (w : World) : Calls Tryd.prog 102 #[.int .u64 4294967295] w fun e w' => e = .returned (.int .i64 32) ∧ w' = w := by
  go_enter Tryd.func102, Tryd.ntmps102
  go_wp2
  go_ret
  exact ⟨by kernel_rfl, rfl⟩

set_option maxHeartbeats 1000000 in
set_option maxRecDepth 100000 in
theorem len64_64 (w : World) : Calls Tryd.prog 102 #[.int .u64 18446744073709551615] w fun e w' => e = .returned (.int .i64 64) ∧ w' = w := by
  go_enter Tryd.func102, Tryd.ntmps102
  go_wp2
  go_ret
  exact ⟨by kernel_rfl, rfl⟩

set_option maxHeartbeats 400000 in
theorem size_32 (w : World) : Calls Tryd.prog 75 #[] w fun e w' => e = .returned (.int .i64 4) ∧ w' = w := by
  go_enter Tryd.func75, Tryd.ntmps75
  go_wp2_with fail
  refine (len64_32 _).mono ?_
  rintro e w1 ⟨rfl, rfl⟩
  go_wp2
  go_ret
  exact ⟨rfl, rfl⟩

theorem rot_32_5 (x : Nat) (hx : x < 4294967296) : bits BinOp.or IntKind.u32 ((x : Int) * 32 % 4294967296) ((x : Int) / 134217728) = ((rotW 32 x 5 : Nat) : Int) := by
  have h := u32_or_nat (x * 32 % 4294967296) (x / 134217728) (Nat.mod_lt _ (by decide)) (by omega)
  rw [Int.natCast_emod, Int.natCast_mul, Int.natCast_ediv] at h
  exact h
theorem rot_32_11 (x : Nat) (hx : x < 4294967296) : bits BinOp.or IntKind.u32 ((x : Int) * 2048 % 4294967296) ((x : Int) / 2097152) = ((rotW 32 x 11 : Nat) : Int) := by
  have h := u32_or_nat (x * 2048 % 4294967296) (x / 2097152) (Nat.mod_lt _ (by decide)) (by omega)
  rw [Int.natCast_emod, Int.natCast_mul, Int.natCast_ediv] at h
  exact h
theorem rot_32_19 (x : Nat) (hx : x < 4294967296) : bits BinOp.or IntKind.u32 ((x : Int) * 524288 % 4294967296) ((x : Int) / 8192) = ((rotW 32 x 19 : Nat) : Int) := by
  have h := u32_or_nat (x * 524288 % 4294967296) (x / 8192) (Nat.mod_lt _ (by decide)) (by omega)
  rw [Int.natCast_emod, Int.natCast_mul, Int.natCast_ediv] at h
  exact h
theorem rot_32_26 (x : Nat) (hx : x < 4294967296) : bits BinOp.or IntKind.u32 ((x : Int) * 67108864 % 4294967296) ((x : Int) / 64) = ((rotW 32 x 26 : Nat) : Int) := by
  have h := u32_or_nat (x * 67108864 % 4294967296) (x / 64) (Nat.mod_lt _ (by decide)) (by omega)
  rw [Int.natCast_emod, Int.natCast_mul, Int.natCast_ediv] at h
  exact h

set_option maxHeartbeats 400000 in
theorem turned_32 (x k : Nat) (w : World) (hx : x < 4294967296) (hk : k = 5 ∨ k = 11 ∨ k = 19 ∨ k = 26) :
    Calls Tryd.prog 115 #[.int .u32 x, .int .i64 k] w fun e w' => e = .returned (.int .u32 ((rotW 32 x k : Nat) : Int)) ∧ ∃ n, w' = w.drewN n := by
  rcases hk with rfl | rfl | rfl | rfl
  · go_enter Tryd.func115, Tryd.ntmps115
    go_wp2
    go_quiet ((go_at_call 75; exact Calls.quiet_of_same (size_32 _)))
    go_wp2
    go_ret
    exact ⟨congrArg (fun z : Int => Ending.returned (.int .u32 z)) (rot_32_5 x hx), _, rfl⟩
  · go_enter Tryd.func115, Tryd.ntmps115
    go_wp2
    go_quiet ((go_at_call 75; exact Calls.quiet_of_same (size_32 _)))
    go_wp2
    go_ret
    exact ⟨congrArg (fun z : Int => Ending.returned (.int .u32 z)) (rot_32_11 x hx), _, rfl⟩
  · go_enter Tryd.func115, Tryd.ntmps115
    go_wp2
    go_quiet ((go_at_call 75; exact Calls.quiet_of_same (size_32 _)))
    go_wp2
    go_ret
    exact ⟨congrArg (fun z : Int => Ending.returned (.int .u32 z)) (rot_32_19 x hx), _, rfl⟩
  · go_enter Tryd.func115, Tryd.ntmps115
    go_wp2
    go_quiet ((go_at_call 75; exact Calls.quiet_of_same (size_32 _)))
    go_wp2
    go_ret
    exact ⟨congrArg (fun z : Int => Ending.returned (.int .u32 z)) (rot_32_26 x hx), _, rfl⟩

set_option maxHeartbeats 400000 in
theorem size_64 (w : World) : Calls Tryd.prog 80 #[] w fun e w' => e = .returned (.int .i64 8) ∧ w' = w := by
  go_enter Tryd.func80, Tryd.ntmps80
  go_wp2_with fail
  refine (len64_64 _).mono ?_
  rintro e w1 ⟨rfl, rfl⟩
  go_wp2
  go_ret
  exact ⟨rfl, rfl⟩

theorem rot_64_5 (x : Nat) (hx : x < 18446744073709551616) : bits BinOp.or IntKind.u64 ((x : Int) * 32 % 18446744073709551616) ((x : Int) / 576460752303423488) = ((rotW 64 x 5 : Nat) : Int) := by
  have h := u64_or_nat (x * 32 % 18446744073709551616) (x / 576460752303423488) (Nat.mod_lt _ (by decide)) (by omega)
  rw [Int.natCast_emod, Int.natCast_mul, Int.natCast_ediv] at h
  exact h
theorem rot_64_11 (x : Nat) (hx : x < 18446744073709551616) : bits BinOp.or IntKind.u64 ((x : Int) * 2048 % 18446744073709551616) ((x : Int) / 9007199254740992) = ((rotW 64 x 11 : Nat) : Int) := by
  have h := u64_or_nat (x * 2048 % 18446744073709551616) (x / 9007199254740992) (Nat.mod_lt _ (by decide)) (by omega)
  rw [Int.natCast_emod, Int.natCast_mul, Int.natCast_ediv] at h
  exact h
theorem rot_64_19 (x : Nat) (hx : x < 18446744073709551616) : bits BinOp.or IntKind.u64 ((x : Int) * 524288 % 18446744073709551616) ((x : Int) / 35184372088832) = ((rotW 64 x 19 : Nat) : Int) := by
  have h := u64_or_nat (x * 524288 % 18446744073709551616) (x / 35184372088832) (Nat.mod_lt _ (by decide)) (by omega)
  rw [Int.natCast_emod, Int.natCast_mul, Int.natCast_ediv] at h
  exact h
theorem rot_64_26 (x : Nat) (hx : x < 18446744073709551616) : bits BinOp.or IntKind.u64 ((x : Int) * 67108864 % 18446744073709551616) ((x : Int) / 274877906944) = ((rotW 64 x 26 : Nat) : Int) := by
  have h := u64_or_nat (x * 67108864 % 18446744073709551616) (x / 274877906944) (Nat.mod_lt _ (by decide)) (by omega)
  rw [Int.natCast_emod, Int.natCast_mul, Int.natCast_ediv] at h
  exact h

set_option maxHeartbeats 400000 in
theorem turned_64 (x k : Nat) (w : World) (hx : x < 18446744073709551616) (hk : k = 5 ∨ k = 11 ∨ k = 19 ∨ k = 26) :
    Calls Tryd.prog 116 #[.int .u64 x, .int .i64 k] w fun e w' => e = .returned (.int .u64 ((rotW 64 x k : Nat) : Int)) ∧ ∃ n, w' = w.drewN n := by
  rcases hk with rfl | rfl | rfl | rfl
  · go_enter Tryd.func116, Tryd.ntmps116
    go_wp2
    go_quiet ((go_at_call 80; exact Calls.quiet_of_same (size_64 _)))
    go_wp2
    go_ret
    exact ⟨congrArg (fun z : Int => Ending.returned (.int .u64 z)) (rot_64_5 x hx), _, rfl⟩
  · go_enter Tryd.func116, Tryd.ntmps116
    go_wp2
    go_quiet ((go_at_call 80; exact Calls.quiet_of_same (size_64 _)))
    go_wp2
    go_ret
    exact ⟨congrArg (fun z : Int => Ending.returned (.int .u64 z)) (rot_64_11 x hx), _, rfl⟩
  · go_enter Tryd.func116, Tryd.ntmps116
    go_wp2
    go_quiet ((go_at_call 80; exact Calls.quiet_of_same (size_64 _)))
    go_wp2
    go_ret
    exact ⟨congrArg (fun z : Int => Ending.returned (.int .u64 z)) (rot_64_19 x hx), _, rfl⟩
  · go_enter Tryd.func116, Tryd.ntmps116
    go_wp2
    go_quiet ((go_at_call 80; exact Calls.quiet_of_same (size_64 _)))
    go_wp2
    go_ret
    exact ⟨congrArg (fun z : Int => Ending.returned (.int .u64 z)) (rot_64_26 x hx), _, rfl⟩

end Go.Proofs.YtgaoeoijdpdjiaaDoor
