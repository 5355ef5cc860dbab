/-
  The document's own words: what a word holds, a word rotated, the columns' numbers.
-/
import Derived.Test.YtgaoeoijdpdjiaaDoorDBase
namespace Go.Proofs.YtgaoeoijdpdjiaaDoor
open Go.RowKit

set_option maxHeartbeats 400000 in
theorem turn_any (i : Nat) (w : World) (hi : i < 4) : Calls Tryd.prog 86 #[.int .i64 i] w fun e w' => e = .returned (.int .i64 ((turnN i : Nat) : Int)) ∧ w' = w := by
  rcases (show i = 0 ∨ i = 1 ∨ i = 2 ∨ i = 3 by omega) with rfl | rfl | rfl | rfl
  all_goals
    go_enter Tryd.func86, Tryd.ntmps86
    go_wp2
    go_ret
    exact ⟨rfl, rfl⟩

set_option maxHeartbeats 400000 in
theorem kept_32 (g x : Nat) (w : World) (hc : w.cell? ⟨g, 8, none⟩ = some (.int .i64 32)) (hx : x < 18446744073709551616) :
    Calls Tryd.prog 84 #[.pointer (some ⟨g, 0, none⟩), .int .u64 x] w fun e w' => e = .returned (.int .u64 ((x % 4294967296 : Nat) : Int)) ∧ w' = w := by
  go_enter Tryd.func84, Tryd.ntmps84
  go_wp2
  go_ret
  exact ⟨rfl, rfl⟩

theorem rrot_32_5 (x : Nat) (hx : x < 4294967296) : bits BinOp.or IntKind.u64 (((x * 32 % 4294967296 : Nat)) : Int) ((x : Int) / 134217728) = ((rotW 32 x 5 : Nat) : Int) := by
  have h := u64_or_nat (x * 32 % 4294967296) (x / 134217728) (Nat.lt_trans (Nat.mod_lt _ (by decide : 0 < 4294967296)) (by decide)) (by omega)
  rw [Int.natCast_ediv] at h
  exact h
theorem rrot_32_11 (x : Nat) (hx : x < 4294967296) : bits BinOp.or IntKind.u64 (((x * 2048 % 4294967296 : Nat)) : Int) ((x : Int) / 2097152) = ((rotW 32 x 11 : Nat) : Int) := by
  have h := u64_or_nat (x * 2048 % 4294967296) (x / 2097152) (Nat.lt_trans (Nat.mod_lt _ (by decide : 0 < 4294967296)) (by decide)) (by omega)
  rw [Int.natCast_ediv] at h
  exact h
theorem rrot_32_19 (x : Nat) (hx : x < 4294967296) : bits BinOp.or IntKind.u64 (((x * 524288 % 4294967296 : Nat)) : Int) ((x : Int) / 8192) = ((rotW 32 x 19 : Nat) : Int) := by
  have h := u64_or_nat (x * 524288 % 4294967296) (x / 8192) (Nat.lt_trans (Nat.mod_lt _ (by decide : 0 < 4294967296)) (by decide)) (by omega)
  rw [Int.natCast_ediv] at h
  exact h
theorem rrot_32_26 (x : Nat) (hx : x < 4294967296) : bits BinOp.or IntKind.u64 (((x * 67108864 % 4294967296 : Nat)) : Int) ((x : Int) / 64) = ((rotW 32 x 26 : Nat) : Int) := by
  have h := u64_or_nat (x * 67108864 % 4294967296) (x / 64) (Nat.lt_trans (Nat.mod_lt _ (by decide : 0 < 4294967296)) (by decide)) (by omega)
  rw [Int.natCast_ediv] at h
  exact h

set_option maxHeartbeats 400000 in
theorem rturned_32 (g x k : Nat) (w : World) (hc : w.cell? ⟨g, 8, none⟩ = some (.int .i64 32)) (hx : x < 4294967296) (hk : k = 5 ∨ k = 11 ∨ k = 19 ∨ k = 26) :
    Calls Tryd.prog 85 #[.pointer (some ⟨g, 0, none⟩), .int .u64 x, .int .i64 k] w fun e w' => e = .returned (.int .u64 ((rotW 32 x k : Nat) : Int)) ∧ w' = w := by
  rcases hk with rfl | rfl | rfl | rfl
  · go_enter Tryd.func85, Tryd.ntmps85
    go_wp2_with fail
    rw [show ((x : Int) * 32) = (((x * 32) : Nat) : Int) by omega]
    refine (kept_32 g (x * 32) _ hc (by omega)).mono ?_
    rintro e w1 ⟨rfl, rfl⟩
    go_wp2
    go_ret
    exact ⟨congrArg (fun z : Int => Ending.returned (.int .u64 z)) (rrot_32_5 x hx), rfl⟩
  · go_enter Tryd.func85, Tryd.ntmps85
    go_wp2_with fail
    rw [show ((x : Int) * 2048) = (((x * 2048) : Nat) : Int) by omega]
    refine (kept_32 g (x * 2048) _ hc (by omega)).mono ?_
    rintro e w1 ⟨rfl, rfl⟩
    go_wp2
    go_ret
    exact ⟨congrArg (fun z : Int => Ending.returned (.int .u64 z)) (rrot_32_11 x hx), rfl⟩
  · go_enter Tryd.func85, Tryd.ntmps85
    go_wp2_with fail
    rw [show ((x : Int) * 524288) = (((x * 524288) : Nat) : Int) by omega]
    refine (kept_32 g (x * 524288) _ hc (by omega)).mono ?_
    rintro e w1 ⟨rfl, rfl⟩
    go_wp2
    go_ret
    exact ⟨congrArg (fun z : Int => Ending.returned (.int .u64 z)) (rrot_32_19 x hx), rfl⟩
  · go_enter Tryd.func85, Tryd.ntmps85
    go_wp2_with fail
    rw [show ((x : Int) * 67108864) = (((x * 67108864) : Nat) : Int) by omega]
    refine (kept_32 g (x * 67108864) _ hc (by omega)).mono ?_
    rintro e w1 ⟨rfl, rfl⟩
    go_wp2
    go_ret
    exact ⟨congrArg (fun z : Int => Ending.returned (.int .u64 z)) (rrot_32_26 x hx), rfl⟩

set_option maxHeartbeats 400000 in
theorem kept_64 (g x : Nat) (w : World) (hc : w.cell? ⟨g, 8, none⟩ = some (.int .i64 64)) (_hx : x < 18446744073709551616) :
    Calls Tryd.prog 84 #[.pointer (some ⟨g, 0, none⟩), .int .u64 x] w fun e w' => e = .returned (.int .u64 ((x : Nat) : Int)) ∧ w' = w := by
  go_enter Tryd.func84, Tryd.ntmps84
  go_wp2
  go_ret
  exact ⟨rfl, rfl⟩

theorem rrot_64_5 (x : Nat) (hx : x < 18446744073709551616) : bits BinOp.or IntKind.u64 (((x * 32 % 18446744073709551616 : Nat)) : Int) ((x : Int) / 576460752303423488) = ((rotW 64 x 5 : Nat) : Int) := by
  have h := u64_or_nat (x * 32 % 18446744073709551616) (x / 576460752303423488) (Nat.mod_lt _ (by decide)) (by omega)
  rw [Int.natCast_ediv] at h
  exact h
theorem rrot_64_11 (x : Nat) (hx : x < 18446744073709551616) : bits BinOp.or IntKind.u64 (((x * 2048 % 18446744073709551616 : Nat)) : Int) ((x : Int) / 9007199254740992) = ((rotW 64 x 11 : Nat) : Int) := by
  have h := u64_or_nat (x * 2048 % 18446744073709551616) (x / 9007199254740992) (Nat.mod_lt _ (by decide)) (by omega)
  rw [Int.natCast_ediv] at h
  exact h
theorem rrot_64_19 (x : Nat) (hx : x < 18446744073709551616) : bits BinOp.or IntKind.u64 (((x * 524288 % 18446744073709551616 : Nat)) : Int) ((x : Int) / 35184372088832) = ((rotW 64 x 19 : Nat) : Int) := by
  have h := u64_or_nat (x * 524288 % 18446744073709551616) (x / 35184372088832) (Nat.mod_lt _ (by decide)) (by omega)
  rw [Int.natCast_ediv] at h
  exact h
theorem rrot_64_26 (x : Nat) (hx : x < 18446744073709551616) : bits BinOp.or IntKind.u64 (((x * 67108864 % 18446744073709551616 : Nat)) : Int) ((x : Int) / 274877906944) = ((rotW 64 x 26 : Nat) : Int) := by
  have h := u64_or_nat (x * 67108864 % 18446744073709551616) (x / 274877906944) (Nat.mod_lt _ (by decide)) (by omega)
  rw [Int.natCast_ediv] at h
  exact h

set_option maxHeartbeats 400000 in
theorem rturned_64 (g x k : Nat) (w : World) (hc : w.cell? ⟨g, 8, none⟩ = some (.int .i64 64)) (hx : x < 18446744073709551616) (hk : k = 5 ∨ k = 11 ∨ k = 19 ∨ k = 26) :
    Calls Tryd.prog 85 #[.pointer (some ⟨g, 0, none⟩), .int .u64 x, .int .i64 k] w fun e w' => e = .returned (.int .u64 ((rotW 64 x k : Nat) : Int)) ∧ w' = w := by
  rcases hk with rfl | rfl | rfl | rfl
  · go_enter Tryd.func85, Tryd.ntmps85
    go_wp2_with fail
    rw [IntKind.wrap_u64]
    rw [show ((x : Int) * 32 % 18446744073709551616) = (((x * 32 % 18446744073709551616) : Nat) : Int) by omega]
    refine (kept_64 g (x * 32 % 18446744073709551616) _ hc (by omega)).mono ?_
    rintro e w1 ⟨rfl, rfl⟩
    go_wp2
    go_ret
    exact ⟨congrArg (fun z : Int => Ending.returned (.int .u64 z)) (rrot_64_5 x hx), rfl⟩
  · go_enter Tryd.func85, Tryd.ntmps85
    go_wp2_with fail
    rw [IntKind.wrap_u64]
    rw [show ((x : Int) * 2048 % 18446744073709551616) = (((x * 2048 % 18446744073709551616) : Nat) : Int) by omega]
    refine (kept_64 g (x * 2048 % 18446744073709551616) _ hc (by omega)).mono ?_
    rintro e w1 ⟨rfl, rfl⟩
    go_wp2
    go_ret
    exact ⟨congrArg (fun z : Int => Ending.returned (.int .u64 z)) (rrot_64_11 x hx), rfl⟩
  · go_enter Tryd.func85, Tryd.ntmps85
    go_wp2_with fail
    rw [IntKind.wrap_u64]
    rw [show ((x : Int) * 524288 % 18446744073709551616) = (((x * 524288 % 18446744073709551616) : Nat) : Int) by omega]
    refine (kept_64 g (x * 524288 % 18446744073709551616) _ hc (by omega)).mono ?_
    rintro e w1 ⟨rfl, rfl⟩
    go_wp2
    go_ret
    exact ⟨congrArg (fun z : Int => Ending.returned (.int .u64 z)) (rrot_64_19 x hx), rfl⟩
  · go_enter Tryd.func85, Tryd.ntmps85
    go_wp2_with fail
    rw [IntKind.wrap_u64]
    rw [show ((x : Int) * 67108864 % 18446744073709551616) = (((x * 67108864 % 18446744073709551616) : Nat) : Int) by omega]
    refine (kept_64 g (x * 67108864 % 18446744073709551616) _ hc (by omega)).mono ?_
    rintro e w1 ⟨rfl, rfl⟩
    go_wp2
    go_ret
    exact ⟨congrArg (fun z : Int => Ending.returned (.int .u64 z)) (rrot_64_26 x hx), rfl⟩

end Go.Proofs.YtgaoeoijdpdjiaaDoor
