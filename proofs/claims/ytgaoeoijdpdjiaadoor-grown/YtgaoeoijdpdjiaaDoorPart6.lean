/-
  The program's words of two kinds: how many bytes; a word rotated. The document's own words: what a word holds, a word rotated, the columns' numbers. math/bits.Mul of 1 and a leaf's number of chains. The document's own question: is it a list of n values? Are seeds right? The program's SeedsRight, the document's Seeded. The program's read over words of two kinds: the bytes of a word, the highest first.
-/
import Derived.Test.YtgaoeoijdpdjiaaDoorPart5
import Derived.Test.YtgaoeoijdpdjiaaDoorPart4
namespace Go.Proofs.YtgaoeoijdpdjiaaDoor
open Go.RowKit

set_option maxHeartbeats 1000000 in
set_option maxRecDepth 100000 in
theorem len64_32 (w : World) : Calls Tryd.prog 102 #[.int .u64 4294967295] w fun e w' => e = .returned (.int .i64 32) ∧ w' = w := by
  go_enter Tryd.func102, Tryd.ntmps102
  go_wp2
  go_ret
  exact ⟨by kernel_rfl, rfl⟩

set_option maxHeartbeats 1000000 in
set_option maxRecDepth 100000 in
theorem len64_64 (w : World) : Calls Tryd.prog 102 #[.int .u64 18446744073709551615] w fun e w' => e = .returned (.int .i64 64) ∧ w' = w := by
  go_enter Tryd.func102, Tryd.ntmps102
  go_wp2
  go_ret
  exact ⟨by kernel_rfl, rfl⟩

set_option maxHeartbeats 400000 in
theorem size_32 (w : World) : Calls Tryd.prog 75 #[] w fun e w' => e = .returned (.int .i64 4) ∧ w' = w := by
  go_enter Tryd.func75, Tryd.ntmps75
  go_wp2_with fail
  refine (len64_32 _).mono ?_
  rintro e w1 ⟨rfl, rfl⟩
  go_wp2
  go_ret
  exact ⟨rfl, rfl⟩

theorem rot_32_5 (x : Nat) (hx : x < 4294967296) : bits BinOp.or IntKind.u32 ((x : Int) * 32 % 4294967296) ((x : Int) / 134217728) = ((rotW 32 x 5 : Nat) : Int) := by
  have h := u32_or_nat (x * 32 % 4294967296) (x / 134217728) (Nat.mod_lt _ (by decide)) (by omega)
  rw [Int.natCast_emod, Int.natCast_mul, Int.natCast_ediv] at h
  exact h
theorem rot_32_11 (x : Nat) (hx : x < 4294967296) : bits BinOp.or IntKind.u32 ((x : Int) * 2048 % 4294967296) ((x : Int) / 2097152) = ((rotW 32 x 11 : Nat) : Int) := by
  have h := u32_or_nat (x * 2048 % 4294967296) (x / 2097152) (Nat.mod_lt _ (by decide)) (by omega)
  rw [Int.natCast_emod, Int.natCast_mul, Int.natCast_ediv] at h
  exact h
theorem rot_32_19 (x : Nat) (hx : x < 4294967296) : bits BinOp.or IntKind.u32 ((x : Int) * 524288 % 4294967296) ((x : Int) / 8192) = ((rotW 32 x 19 : Nat) : Int) := by
  have h := u32_or_nat (x * 524288 % 4294967296) (x / 8192) (Nat.mod_lt _ (by decide)) (by omega)
  rw [Int.natCast_emod, Int.natCast_mul, Int.natCast_ediv] at h
  exact h
theorem rot_32_26 (x : Nat) (hx : x < 4294967296) : bits BinOp.or IntKind.u32 ((x : Int) * 67108864 % 4294967296) ((x : Int) / 64) = ((rotW 32 x 26 : Nat) : Int) := by
  have h := u32_or_nat (x * 67108864 % 4294967296) (x / 64) (Nat.mod_lt _ (by decide)) (by omega)
  rw [Int.natCast_emod, Int.natCast_mul, Int.natCast_ediv] at h
  exact h

set_option maxHeartbeats 400000 in
theorem turned_32 (x k : Nat) (w : World) (hx : x < 4294967296) (hk : k = 5 ∨ k = 11 ∨ k = 19 ∨ k = 26) :
    Calls Tryd.prog 115 #[.int .u32 x, .int .i64 k] w fun e w' => e = .returned (.int .u32 ((rotW 32 x k : Nat) : Int)) ∧ ∃ n, w' = w.drewN n := by
  rcases hk with rfl | rfl | rfl | rfl
  · go_enter Tryd.func115, Tryd.ntmps115
    go_wp2
    go_quiet ((go_at_call 75; exact Calls.quiet_of_same (size_32 _)))
    go_wp2
    go_ret
    exact ⟨congrArg (fun z : Int => Ending.returned (.int .u32 z)) (rot_32_5 x hx), _, rfl⟩
  · go_enter Tryd.func115, Tryd.ntmps115
    go_wp2
    go_quiet ((go_at_call 75; exact Calls.quiet_of_same (size_32 _)))
    go_wp2
    go_ret
    exact ⟨congrArg (fun z : Int => Ending.returned (.int .u32 z)) (rot_32_11 x hx), _, rfl⟩
  · go_enter Tryd.func115, Tryd.ntmps115
    go_wp2
    go_quiet ((go_at_call 75; exact Calls.quiet_of_same (size_32 _)))
    go_wp2
    go_ret
    exact ⟨congrArg (fun z : Int => Ending.returned (.int .u32 z)) (rot_32_19 x hx), _, rfl⟩
  · go_enter Tryd.func115, Tryd.ntmps115
    go_wp2
    go_quiet ((go_at_call 75; exact Calls.quiet_of_same (size_32 _)))
    go_wp2
    go_ret
    exact ⟨congrArg (fun z : Int => Ending.returned (.int .u32 z)) (rot_32_26 x hx), _, rfl⟩

set_option maxHeartbeats 400000 in
theorem size_64 (w : World) : Calls Tryd.prog 80 #[] w fun e w' => e = .returned (.int .i64 8) ∧ w' = w := by
  go_enter Tryd.func80, Tryd.ntmps80
  go_wp2_with fail
  refine (len64_64 _).mono ?_
  rintro e w1 ⟨rfl, rfl⟩
  go_wp2
  go_ret
  exact ⟨rfl, rfl⟩

theorem rot_64_5 (x : Nat) (hx : x < 18446744073709551616) : bits BinOp.or IntKind.u64 ((x : Int) * 32 % 18446744073709551616) ((x : Int) / 576460752303423488) = ((rotW 64 x 5 : Nat) : Int) := by
  have h := u64_or_nat (x * 32 % 18446744073709551616) (x / 576460752303423488) (Nat.mod_lt _ (by decide)) (by omega)
  rw [Int.natCast_emod, Int.natCast_mul, Int.natCast_ediv] at h
  exact h
theorem rot_64_11 (x : Nat) (hx : x < 18446744073709551616) : bits BinOp.or IntKind.u64 ((x : Int) * 2048 % 18446744073709551616) ((x : Int) / 9007199254740992) = ((rotW 64 x 11 : Nat) : Int) := by
  have h := u64_or_nat (x * 2048 % 18446744073709551616) (x / 9007199254740992) (Nat.mod_lt _ (by decide)) (by omega)
  rw [Int.natCast_emod, Int.natCast_mul, Int.natCast_ediv] at h
  exact h
theorem rot_64_19 (x : Nat) (hx : x < 18446744073709551616) : bits BinOp.or IntKind.u64 ((x : Int) * 524288 % 18446744073709551616) ((x : Int) / 35184372088832) = ((rotW 64 x 19 : Nat) : Int) := by
  have h := u64_or_nat (x * 524288 % 18446744073709551616) (x / 35184372088832) (Nat.mod_lt _ (by decide)) (by omega)
  rw [Int.natCast_emod, Int.natCast_mul, Int.natCast_ediv] at h
  exact h
theorem rot_64_26 (x : Nat) (hx : x < 18446744073709551616) : bits BinOp.or IntKind.u64 ((x : Int) * 67108864 % 18446744073709551616) ((x : Int) / 274877906944) = ((rotW 64 x 26 : Nat) : Int) := by
  have h := u64_or_nat (x * 67108864 % 18446744073709551616) (x / 274877906944) (Nat.mod_lt _ (by decide)) (by omega)
  rw [Int.natCast_emod, Int.natCast_mul, Int.natCast_ediv] at h
  exact h

set_option maxHeartbeats 400000 in
theorem turned_64 (x k : Nat) (w : World) (hx : x < 18446744073709551616) (hk : k = 5 ∨ k = 11 ∨ k = 19 ∨ k = 26) :
    Calls Tryd.prog 116 #[.int .u64 x, .int .i64 k] w fun e w' => e = .returned (.int .u64 ((rotW 64 x k : Nat) : Int)) ∧ ∃ n, w' = w.drewN n := by
  rcases hk with rfl | rfl | rfl | rfl
  · go_enter Tryd.func116, Tryd.ntmps116
    go_wp2
    go_quiet ((go_at_call 80; exact Calls.quiet_of_same (size_64 _)))
    go_wp2
    go_ret
    exact ⟨congrArg (fun z : Int => Ending.returned (.int .u64 z)) (rot_64_5 x hx), _, rfl⟩
  · go_enter Tryd.func116, Tryd.ntmps116
    go_wp2
    go_quiet ((go_at_call 80; exact Calls.quiet_of_same (size_64 _)))
    go_wp2
    go_ret
    exact ⟨congrArg (fun z : Int => Ending.returned (.int .u64 z)) (rot_64_11 x hx), _, rfl⟩
  · go_enter Tryd.func116, Tryd.ntmps116
    go_wp2
    go_quiet ((go_at_call 80; exact Calls.quiet_of_same (size_64 _)))
    go_wp2
    go_ret
    exact ⟨congrArg (fun z : Int => Ending.returned (.int .u64 z)) (rot_64_19 x hx), _, rfl⟩
  · go_enter Tryd.func116, Tryd.ntmps116
    go_wp2
    go_quiet ((go_at_call 80; exact Calls.quiet_of_same (size_64 _)))
    go_wp2
    go_ret
    exact ⟨congrArg (fun z : Int => Ending.returned (.int .u64 z)) (rot_64_26 x hx), _, rfl⟩

end Go.Proofs.YtgaoeoijdpdjiaaDoor

namespace Go.Proofs.YtgaoeoijdpdjiaaDoor
open Go.RowKit

set_option maxHeartbeats 400000 in
theorem turn_any (i : Nat) (w : World) (hi : i < 4) : Calls Tryd.prog 86 #[.int .i64 i] w fun e w' => e = .returned (.int .i64 ((turnN i : Nat) : Int)) ∧ w' = w := by
  rcases (show i = 0 ∨ i = 1 ∨ i = 2 ∨ i = 3 by omega) with rfl | rfl | rfl | rfl
  all_goals
    go_enter Tryd.func86, Tryd.ntmps86
    go_wp2
    go_ret
    exact ⟨rfl, rfl⟩

set_option maxHeartbeats 400000 in
theorem kept_32 (g x : Nat) (w : World) (hc : w.cell? ⟨g, 8, none⟩ = some (.int .i64 32)) (hx : x < 18446744073709551616) :
    Calls Tryd.prog 84 #[.pointer (some ⟨g, 0, none⟩), .int .u64 x] w fun e w' => e = .returned (.int .u64 ((x % 4294967296 : Nat) : Int)) ∧ w' = w := by
  go_enter Tryd.func84, Tryd.ntmps84
  go_wp2
  go_ret
  exact ⟨rfl, rfl⟩

theorem rrot_32_5 (x : Nat) (hx : x < 4294967296) : bits BinOp.or IntKind.u64 (((x * 32 % 4294967296 : Nat)) : Int) ((x : Int) / 134217728) = ((rotW 32 x 5 : Nat) : Int) := by
  have h := u64_or_nat (x * 32 % 4294967296) (x / 134217728) (Nat.lt_trans (Nat.mod_lt _ (by decide : 0 < 4294967296)) (by decide)) (by omega)
  rw [Int.natCast_ediv] at h
  exact h
theorem rrot_32_11 (x : Nat) (hx : x < 4294967296) : bits BinOp.or IntKind.u64 (((x * 2048 % 4294967296 : Nat)) : Int) ((x : Int) / 2097152) = ((rotW 32 x 11 : Nat) : Int) := by
  have h := u64_or_nat (x * 2048 % 4294967296) (x / 2097152) (Nat.lt_trans (Nat.mod_lt _ (by decide : 0 < 4294967296)) (by decide)) (by omega)
  rw [Int.natCast_ediv] at h
  exact h
theorem rrot_32_19 (x : Nat) (hx : x < 4294967296) : bits BinOp.or IntKind.u64 (((x * 524288 % 4294967296 : Nat)) : Int) ((x : Int) / 8192) = ((rotW 32 x 19 : Nat) : Int) := by
  have h := u64_or_nat (x * 524288 % 4294967296) (x / 8192) (Nat.lt_trans (Nat.mod_lt _ (by decide : 0 < 4294967296)) (by decide)) (by omega)
  rw [Int.natCast_ediv] at h
  exact h
theorem rrot_32_26 (x : Nat) (hx : x < 4294967296) : bits BinOp.or IntKind.u64 (((x * 67108864 % 4294967296 : Nat)) : Int) ((x : Int) / 64) = ((rotW 32 x 26 : Nat) : Int) := by
  have h := u64_or_nat (x * 67108864 % 4294967296) (x / 64) (Nat.lt_trans (Nat.mod_lt _ (by decide : 0 < 4294967296)) (by decide)) (by omega)
  rw [Int.natCast_ediv] at h
  exact h

set_option maxHeartbeats 400000 in
theorem rturned_32 (g x k : Nat) (w : World) (hc : w.cell? ⟨g, 8, none⟩ = some (.int .i64 32)) (hx : x < 4294967296) (hk : k = 5 ∨ k = 11 ∨ k = 19 ∨ k = 26) :
    Calls Tryd.prog 85 #[.pointer (some ⟨g, 0, none⟩), .int .u64 x, .int .i64 k] w fun e w' => e = .returned (.int .u64 ((rotW 32 x k : Nat) : Int)) ∧ w' = w := by
  rcases hk with rfl | rfl | rfl | rfl
  · go_enter Tryd.func85, Tryd.ntmps85
    go_wp2_with fail
    rw [show ((x : Int) * 32) = (((x * 32) : Nat) : Int) by omega]
    refine (kept_32 g (x * 32) _ hc (by omega)).mono ?_
    rintro e w1 ⟨rfl, rfl⟩
    go_wp2
    go_ret
    exact ⟨congrArg (fun z : Int => Ending.returned (.int .u64 z)) (rrot_32_5 x hx), rfl⟩
  · go_enter Tryd.func85, Tryd.ntmps85
    go_wp2_with fail
    rw [show ((x : Int) * 2048) = (((x * 2048) : Nat) : Int) by omega]
    refine (kept_32 g (x * 2048) _ hc (by omega)).mono ?_
    rintro e w1 ⟨rfl, rfl⟩
    go_wp2
    go_ret
    exact ⟨congrArg (fun z : Int => Ending.returned (.int .u64 z)) (rrot_32_11 x hx), rfl⟩
  · go_enter Tryd.func85, Tryd.ntmps85
    go_wp2_with fail
    rw [show ((x : Int) * 524288) = (((x * 524288) : Nat) : Int) by omega]
    refine (kept_32 g (x * 524288) _ hc (by omega)).mono ?_
    rintro e w1 ⟨rfl, rfl⟩
    go_wp2
    go_ret
    exact ⟨congrArg (fun z : Int => Ending.returned (.int .u64 z)) (rrot_32_19 x hx), rfl⟩
  · go_enter Tryd.func85, Tryd.ntmps85
    go_wp2_with fail
    rw [show ((x : Int) * 67108864) = (((x * 67108864) : Nat) : Int) by omega]
    refine (kept_32 g (x * 67108864) _ hc (by omega)).mono ?_
    rintro e w1 ⟨rfl, rfl⟩
    go_wp2
    go_ret
    exact ⟨congrArg (fun z : Int => Ending.returned (.int .u64 z)) (rrot_32_26 x hx), rfl⟩

set_option maxHeartbeats 400000 in
theorem kept_64 (g x : Nat) (w : World) (hc : w.cell? ⟨g, 8, none⟩ = some (.int .i64 64)) (_hx : x < 18446744073709551616) :
    Calls Tryd.prog 84 #[.pointer (some ⟨g, 0, none⟩), .int .u64 x] w fun e w' => e = .returned (.int .u64 ((x : Nat) : Int)) ∧ w' = w := by
  go_enter Tryd.func84, Tryd.ntmps84
  go_wp2
  go_ret
  exact ⟨rfl, rfl⟩

theorem rrot_64_5 (x : Nat) (hx : x < 18446744073709551616) : bits BinOp.or IntKind.u64 (((x * 32 % 18446744073709551616 : Nat)) : Int) ((x : Int) / 576460752303423488) = ((rotW 64 x 5 : Nat) : Int) := by
  have h := u64_or_nat (x * 32 % 18446744073709551616) (x / 576460752303423488) (Nat.mod_lt _ (by decide)) (by omega)
  rw [Int.natCast_ediv] at h
  exact h
theorem rrot_64_11 (x : Nat) (hx : x < 18446744073709551616) : bits BinOp.or IntKind.u64 (((x * 2048 % 18446744073709551616 : Nat)) : Int) ((x : Int) / 9007199254740992) = ((rotW 64 x 11 : Nat) : Int) := by
  have h := u64_or_nat (x * 2048 % 18446744073709551616) (x / 9007199254740992) (Nat.mod_lt _ (by decide)) (by omega)
  rw [Int.natCast_ediv] at h
  exact h
theorem rrot_64_19 (x : Nat) (hx : x < 18446744073709551616) : bits BinOp.or IntKind.u64 (((x * 524288 % 18446744073709551616 : Nat)) : Int) ((x : Int) / 35184372088832) = ((rotW 64 x 19 : Nat) : Int) := by
  have h := u64_or_nat (x * 524288 % 18446744073709551616) (x / 35184372088832) (Nat.mod_lt _ (by decide)) (by omega)
  rw [Int.natCast_ediv] at h
  exact h
theorem rrot_64_26 (x : Nat) (hx : x < 18446744073709551616) : bits BinOp.or IntKind.u64 (((x * 67108864 % 18446744073709551616 : Nat)) : Int) ((x : Int) / 274877906944) = ((rotW 64 x 26 : Nat) : Int) := by
  have h := u64_or_nat (x * 67108864 % 18446744073709551616) (x / 274877906944) (Nat.mod_lt _ (by decide)) (by omega)
  rw [Int.natCast_ediv] at h
  exact h

set_option maxHeartbeats 400000 in
theorem rturned_64 (g x k : Nat) (w : World) (hc : w.cell? ⟨g, 8, none⟩ = some (.int .i64 64)) (hx : x < 18446744073709551616) (hk : k = 5 ∨ k = 11 ∨ k = 19 ∨ k = 26) :
    Calls Tryd.prog 85 #[.pointer (some ⟨g, 0, none⟩), .int .u64 x, .int .i64 k] w fun e w' => e = .returned (.int .u64 ((rotW 64 x k : Nat) : Int)) ∧ w' = w := by
  rcases hk with rfl | rfl | rfl | rfl
  · go_enter Tryd.func85, Tryd.ntmps85
    go_wp2_with fail
    rw [IntKind.wrap_u64]
    rw [show ((x : Int) * 32 % 18446744073709551616) = (((x * 32 % 18446744073709551616) : Nat) : Int) by omega]
    refine (kept_64 g (x * 32 % 18446744073709551616) _ hc (by omega)).mono ?_
    rintro e w1 ⟨rfl, rfl⟩
    go_wp2
    go_ret
    exact ⟨congrArg (fun z : Int => Ending.returned (.int .u64 z)) (rrot_64_5 x hx), rfl⟩
  · go_enter Tryd.func85, Tryd.ntmps85
    go_wp2_with fail
    rw [IntKind.wrap_u64]
    rw [show ((x : Int) * 2048 % 18446744073709551616) = (((x * 2048 % 18446744073709551616) : Nat) : Int) by omega]
    refine (kept_64 g (x * 2048 % 18446744073709551616) _ hc (by omega)).mono ?_
    rintro e w1 ⟨rfl, rfl⟩
    go_wp2
    go_ret
    exact ⟨congrArg (fun z : Int => Ending.returned (.int .u64 z)) (rrot_64_11 x hx), rfl⟩
  · go_enter Tryd.func85, Tryd.ntmps85
    go_wp2_with fail
    rw [IntKind.wrap_u64]
    rw [show ((x : Int) * 524288 % 18446744073709551616) = (((x * 524288 % 18446744073709551616) : Nat) : Int) by omega]
    refine (kept_64 g (x * 524288 % 18446744073709551616) _ hc (by omega)).mono ?_
    rintro e w1 ⟨rfl, rfl⟩
    go_wp2
    go_ret
    exact ⟨congrArg (fun z : Int => Ending.returned (.int .u64 z)) (rrot_64_19 x hx), rfl⟩
  · go_enter Tryd.func85, Tryd.ntmps85
    go_wp2_with fail
    rw [IntKind.wrap_u64]
    rw [show ((x : Int) * 67108864 % 18446744073709551616) = (((x * 67108864 % 18446744073709551616) : Nat) : Int) by omega]
    refine (kept_64 g (x * 67108864 % 18446744073709551616) _ hc (by omega)).mono ?_
    rintro e w1 ⟨rfl, rfl⟩
    go_wp2
    go_ret
    exact ⟨congrArg (fun z : Int => Ending.returned (.int .u64 z)) (rrot_64_26 x hx), rfl⟩

end Go.Proofs.YtgaoeoijdpdjiaaDoor

namespace Go.Proofs.YtgaoeoijdpdjiaaDoor
open Go.RowKit

/-- How many chains a leaf may have. -/
def Ch4 (ch : Nat) : Prop := ch = 10 ∨ ch = 18 ∨ ch = 19 ∨ ch = 36

set_option maxRecDepth 20000 in
theorem mul64_one (ch : Nat) (h : Ch4 ch) (w : World) :
    Calls Tryd.prog 126 #[.int .u64 1, .int .u64 ch] w fun e w' => e = .returned (.tuple #[.int .u64 0, .int .u64 ch]) ∧ w' = w := by
  rcases h with rfl | rfl | rfl | rfl
  all_goals
    go_enter Tryd.func126, Tryd.ntmps126
    go_wp2
    go_ret2
    exact ⟨rfl, rfl⟩

set_option maxRecDepth 20000 in
theorem mul_one (ch : Nat) (h : Ch4 ch) (w : World) :
    Calls Tryd.prog 122 #[.int .u64 1, .int .u64 ch] w fun e w' => e = .returned (.tuple #[.int .u64 0, .int .u64 ch]) ∧ w' = w := by
  have H := hide (fun V : World => mul64_one ch h V)
  rcases h with rfl | rfl | rfl | rfl
  all_goals
    go_enter Tryd.func122, Tryd.ntmps122
    go_wp2_with fail
    refine (H.out _).mono ?_
    rintro e w1 ⟨rfl, rfl⟩
    go_wp2
    go_ret2
    exact ⟨rfl, rfl⟩

theorem ch4_of {b x e f : Nat} (h : Pair b x e f) : Ch4 (b * e + f) := by
  unfold Pair at h
  unfold Ch4
  rcases h with ⟨rfl, rfl, rfl, rfl⟩ | ⟨rfl, rfl, rfl, rfl⟩ | ⟨rfl, rfl, rfl, rfl⟩ | ⟨rfl, rfl, rfl, rfl⟩ <;> omega
end Go.Proofs.YtgaoeoijdpdjiaaDoor

namespace Go.Proofs.YtgaoeoijdpdjiaaDoor
open Go.RowKit

set_option maxRecDepth 20000 in
set_option maxHeartbeats 1000000 in
theorem rvalues_some (k b x t l n : Int) (bk o c : Nat) (xs : List ByteArray) (w : World) (hcells : ∀ (j : Nat) y, xs[j]? = some y → w.cell? ⟨bk, o + j, none⟩ = some (.string y)) (hbk : bk < w.heap.size) (hN : xs.length ≤ 8796093022208) :
    Calls Tryd.prog 45 #[.agg #[.int .i64 k, .int .i64 b, .int .i64 x, .int .i64 t, .int .i64 l], .slice (some ⟨bk, o, none⟩) xs.length c, .int .i64 n] w fun e w' => e = .returned (.bool (allLen b xs && decide ((xs.length : Int) = n))) ∧ Below w.heap.size w w' := by
  obtain ⟨W0, hW⟩ : ∃ W0, w.alloc (.cells #[.int .i64 k, .int .i64 b, .int .i64 x, .int .i64 t, .int .i64 l] 25) = W0 := ⟨_, rfl⟩
  have HF := hide (show W0.cell? ⟨w.heap.size, 1, none⟩ = some (.int .i64 b) by subst hW; simp [go_sem])
  have HB := hide (show Below w.heap.size w W0 by subst hW; exact (Below.refl _ _).alloc (Nat.le_refl _) _)
  have hz : W0.heap.size ≤ w.heap.size + 1 := by subst hW; simp
  have hz' : w.heap.size + 1 ≤ W0.heap.size := by subst hW; simp
  have HC := hide (fun (V : World) (h : Below W0.heap.size W0 V) (j : Nat) (y : ByteArray) (hj : xs[j]? = some y) => (h.cell (p := ⟨bk, o + j, none⟩) (by show bk < _; omega)).trans ((HB.out.cell (p := ⟨bk, o + j, none⟩) hbk).trans (hcells j y hj)))
  clear hcells
  go_enter Tryd.func45, Tryd.ntmps45
  go_wp2_with fail
  try rw [hW]
  clear hW
  go_loopw [7] (fun i wr => ∃ j : Nat, j ≤ xs.length ∧ i = .int .i64 j ∧ Hid (allLen b (xs.take j) = true) ∧ Hid (Below W0.heap.size W0 wr)) (fun i _ => xs.length - (intOf i).toNat)
  case atStart => exact ⟨0, Nat.zero_le _, rfl, rfl, Below.refl _ _⟩
  case round =>
    obtain ⟨j, hj, rfl, ha, hb⟩ := hrel
    have c1 := (hb.out.cell (p := ⟨w.heap.size, 1, none⟩) (by show w.heap.size < _; omega)).trans HF.out
    by_cases hlt : j < xs.length
    · have c0 := HC.out wr hb.out j xs[j] (List.getElem?_eq_getElem hlt)
      have HT := hide (allLen_take b xs j ha.out hlt)
      have HNO := hide (allLen_no b xs j hlt)
      have HBD := hide (hb.out.drew)
      generalize xs[j] = y at c0 HT HNO
      by_cases hy : (y.size : Int) = b
      · have hys : ((y.size : Int) == b) = true := by simpa using hy
        have hyn : ((y.size : Int) != b) = false := by rw [bne, hys]; rfl
        have HTT := hide (show allLen b (xs.take (j + 1)) = true by rw [HT.out]; simpa using hy)
        clear hy HNO HT
        go_wp2_with fail
        go_region
        go_wp2
        go_roundw
        case rel =>
          have R : ∃ j' : Nat, j' ≤ xs.length ∧ Value.int .i64 ((j : Int) + 1) = .int .i64 j' ∧ Hid (allLen b (xs.take j') = true) ∧ Hid (Below W0.heap.size W0 wr.drew) := ⟨j + 1, by omega, by go_num, HTT.out, HBD.out⟩
          first | exact R | ((repeat apply Exists.intro); exact ⟨R, rfl⟩)
        case measure => simp [intOf]; omega
      · have hys : ((y.size : Int) == b) = false := by simpa using hy
        have hyn : ((y.size : Int) != b) = true := by rw [bne, hys]; rfl
        have HF2 := hide (HNO.out hy)
        clear hy HNO
        go_wp2_with fail
        go_region
        go_wp2
        go_ret
        exact ⟨by rw [HF2.out]; rfl, HB.out.trans (HBD.out.mono (by omega))⟩
    · obtain rfl : j = xs.length := by omega
      have hz := ha.out
      rw [List.take_of_length_le (Nat.le_refl _)] at hz
      have HZ := hide hz
      clear hz
      go_wp2
      go_ret
      exact ⟨by rw [HZ.out]; rfl, HB.out.trans (hb.out.mono (by omega))⟩

set_option maxRecDepth 20000 in
set_option maxHeartbeats 1000000 in
theorem rvalues_nil (k b x t l n : Int) (w : World) :
    Calls Tryd.prog 45 #[.agg #[.int .i64 k, .int .i64 b, .int .i64 x, .int .i64 t, .int .i64 l], .slice none 0 0, .int .i64 n] w fun e w' => e = .returned (.bool (decide (0 = n))) ∧ Below w.heap.size w w' := by
  go_enter Tryd.func45, Tryd.ntmps45
  go_wp2
  go_rounds 1
  go_ret
  exact ⟨rfl, (Below.refl _ _).alloc (Nat.le_refl _) _⟩

set_option maxRecDepth 20000 in
set_option maxHeartbeats 1000000 in
theorem rvalues_emp (k b x t l n : Int) (a : Addr) (c : Nat) (w : World) :
    Calls Tryd.prog 45 #[.agg #[.int .i64 k, .int .i64 b, .int .i64 x, .int .i64 t, .int .i64 l], .slice (some a) 0 c, .int .i64 n] w fun e w' => e = .returned (.bool (decide (0 = n))) ∧ Below w.heap.size w w' := by
  go_enter Tryd.func45, Tryd.ntmps45
  go_wp2
  go_rounds 1
  go_ret
  exact ⟨rfl, (Below.refl _ _).alloc (Nat.le_refl _) _⟩
set_option maxRecDepth 20000 in
set_option maxHeartbeats 1000000 in
theorem valuesRight_emp (k b x t l : Int) (a : Addr) (c : Nat) (w : World) :
    Calls Tryd.prog 58 #[.agg #[.int .i64 k, .int .i64 b, .int .i64 x, .int .i64 t, .int .i64 l], .slice (some a) 0 c] w fun e w' => e = .returned (.bool true) ∧ Below w.heap.size w w' := by
  go_enter Tryd.func58, Tryd.ntmps58
  go_wp2
  go_rounds 1
  go_ret
  exact ⟨rfl, (Below.refl _ _).alloc (Nat.le_refl _) _⟩
end Go.Proofs.YtgaoeoijdpdjiaaDoor

namespace Go.Proofs.YtgaoeoijdpdjiaaDoor
open Go.RowKit

/-- Are the seeds right? -/
def seedsB (b : Int) (sec rnd pub : ByteArray) : Bool := allLen b [sec, rnd, pub]

set_option maxRecDepth 20000 in
set_option maxHeartbeats 2000000 in
theorem seedsRight_any (k b x t l : Int) (sec rnd pub : ByteArray) (w : World) :
    Calls Tryd.prog 96 #[.agg #[.int .i64 k, .int .i64 b, .int .i64 x, .int .i64 t, .int .i64 l], .agg #[.string sec, .string rnd, .string pub]] w fun e w' => e = .returned (.bool (seedsB b sec rnd pub)) ∧ Below w.heap.size w w' := by
  have HV := hide (valuesRight_some k b x t l ((w.alloc (.cells #[.int .i64 k, .int .i64 b, .int .i64 x, .int .i64 t, .int .i64 l] 25)).alloc (.cells #[.string sec, .string rnd, .string pub] 33)).heap.size 0 3 [sec, rnd, pub] (((w.alloc (.cells #[.int .i64 k, .int .i64 b, .int .i64 x, .int .i64 t, .int .i64 l] 25)).alloc (.cells #[.string sec, .string rnd, .string pub] 33)).alloc (.cells #[.string sec, .string rnd, .string pub] 9)) (by
    intro j y hj
    match j, hj with
    | 0, hj => simp at hj; subst hj; simp [go_sem]
    | 1, hj => simp at hj; subst hj; simp [go_sem]
    | 2, hj => simp at hj; subst hj; simp [go_sem]) (by simp) (by simp))
  simp only [List.length_cons, List.length_nil, Nat.reduceAdd] at HV
  have hsz : ((w.alloc (.cells #[.int .i64 k, .int .i64 b, .int .i64 x, .int .i64 t, .int .i64 l] 25)).alloc (.cells #[.string sec, .string rnd, .string pub] 33)).heap.size = w.heap.size + 1 + 1 := by simp
  rw [hsz] at HV
  unfold seedsB
  generalize allLen b [sec, rnd, pub] = r at HV ⊢
  go_enter Tryd.func96, Tryd.ntmps96
  go_wp2_with fail
  refine HV.out.mono ?_
  rintro e w1 ⟨rfl, hb1⟩
  have HB1 := hide (((((Below.refl w.heap.size w).alloc (Nat.le_refl _) _).alloc (by simp) _).alloc (by simp; omega) _).trans (hb1.mono (by simp; omega)))
  clear hsz
  clear hb1
  go_wp2
  go_ret
  exact ⟨rfl, HB1.out⟩

end Go.Proofs.YtgaoeoijdpdjiaaDoor

namespace Go.Proofs.YtgaoeoijdpdjiaaDoor
open Go.RowKit

/-- The number of the first k bytes from place o on. -/
def beN (L : List Nat) (o : Nat) : Nat → Nat
  | 0 => 0
  | k + 1 => beN L o k * 256 + at0 L (o + k)

theorem beN_lt (L : List Nat) (o k : Nat) (h : ∀ i, at0 L i < 256) : beN L o k < 256 ^ k := by
  induction k with
  | zero => simp [beN]
  | succ k ih =>
    have := h (o + k)
    simp only [beN, Nat.pow_succ]
    omega
--GEN

theorem or_byte_32 (v c : Nat) (hv : v < 16777216) (hc : c < 256) : bits BinOp.or IntKind.u32 ((v : Int) * 256) (c : Int) = ((v * 256 + c : Nat) : Int) := by
  have h := u32_or_nat (v * 256) c (by omega) (by omega)
  have e : v * 256 ||| c = v * 256 + c := by
    have := Nat.two_pow_add_eq_or_of_lt (i := 8) hc v
    rw [Nat.mul_comm]
    exact this.symm
  rw [e] at h
  rw [Int.natCast_mul] at h
  exact h

set_option maxHeartbeats 400000 in
theorem read_32 (g o cap : Nat) (L : List Nat) (w : World) (hr : RowK w g .u8 5 L) (hL : o + 4 ≤ L.length) (hB : ∀ i, at0 L i < 256) :
    Calls Tryd.prog 103 #[.slice (some ⟨g, o, none⟩) 4 cap] w fun e w' => e = .returned (.int .u32 ((beN L o 4 : Nat) : Int)) ∧ w' = w := by
  have HR := hide hr
  have HL := hide hL
  have HB := hide hB
  clear hr hL hB
  go_enter Tryd.func103, Tryd.ntmps103
  go_wp2
  go_loop [3, 8] (fun t i => ∃ j : Nat, j ≤ 4 ∧ i = .int .i64 j ∧ t = .int .u32 ((beN L o j : Nat) : Int)) (fun _ i => 4 - (intOf i).toNat)
  case atStart => exact ⟨0, by omega, rfl, rfl⟩
  case round =>
    obtain ⟨j, hj, rfl, rfl⟩ := hrel
    by_cases hlt : j < 4
    · have c := HR.out.cell (i := o + j) (by have := HL.out; omega)
      have hc := HB.out (o + j)
      have hv : beN L o j < 16777216 := Nat.lt_of_lt_of_le (beN_lt L o j HB.out) (Nat.pow_le_pow_right (by decide) (show j ≤ 3 by omega))
      have HS : Hid (beN L o (j + 1) = beN L o j * 256 + at0 L (o + j)) := rfl
      have HO := hide (or_byte_32 (beN L o j) (at0 L (o + j)) hv hc)
      generalize beN L o j = v at hv HS HO ⊢
      generalize at0 L (o + j) = q at c hc HS HO
      go_wp2
      go_round
      case rel => exact ⟨j + 1, by omega, by go_num, by rw [HS.out, ← HO.out]⟩
      case measure => simp [intOf]; omega
    · obtain rfl : j = 4 := by omega
      go_wp2
      go_ret
      exact ⟨rfl, rfl⟩

theorem or_byte_64 (v c : Nat) (hv : v < 72057594037927936) (hc : c < 256) : bits BinOp.or IntKind.u64 ((v : Int) * 256) (c : Int) = ((v * 256 + c : Nat) : Int) := by
  have h := u64_or_nat (v * 256) c (by omega) (by omega)
  have e : v * 256 ||| c = v * 256 + c := by
    have := Nat.two_pow_add_eq_or_of_lt (i := 8) hc v
    rw [Nat.mul_comm]
    exact this.symm
  rw [e] at h
  rw [Int.natCast_mul] at h
  exact h

set_option maxHeartbeats 400000 in
theorem read_64 (g o cap : Nat) (L : List Nat) (w : World) (hr : RowK w g .u8 5 L) (hL : o + 8 ≤ L.length) (hB : ∀ i, at0 L i < 256) :
    Calls Tryd.prog 105 #[.slice (some ⟨g, o, none⟩) 8 cap] w fun e w' => e = .returned (.int .u64 ((beN L o 8 : Nat) : Int)) ∧ w' = w := by
  have HR := hide hr
  have HL := hide hL
  have HB := hide hB
  clear hr hL hB
  go_enter Tryd.func105, Tryd.ntmps105
  go_wp2
  go_loop [3, 8] (fun t i => ∃ j : Nat, j ≤ 8 ∧ i = .int .i64 j ∧ t = .int .u64 ((beN L o j : Nat) : Int)) (fun _ i => 8 - (intOf i).toNat)
  case atStart => exact ⟨0, by omega, rfl, rfl⟩
  case round =>
    obtain ⟨j, hj, rfl, rfl⟩ := hrel
    by_cases hlt : j < 8
    · have c := HR.out.cell (i := o + j) (by have := HL.out; omega)
      have hc := HB.out (o + j)
      have hv : beN L o j < 72057594037927936 := Nat.lt_of_lt_of_le (beN_lt L o j HB.out) (Nat.pow_le_pow_right (by decide) (show j ≤ 7 by omega))
      have HS : Hid (beN L o (j + 1) = beN L o j * 256 + at0 L (o + j)) := rfl
      have HO := hide (or_byte_64 (beN L o j) (at0 L (o + j)) hv hc)
      generalize beN L o j = v at hv HS HO ⊢
      generalize at0 L (o + j) = q at c hc HS HO
      go_wp2
      go_round
      case rel => exact ⟨j + 1, by omega, by go_num, by rw [HS.out, ← HO.out]⟩
      case measure => simp [intOf]; omega
    · obtain rfl : j = 8 := by omega
      go_wp2
      go_ret
      exact ⟨rfl, rfl⟩
end Go.Proofs.YtgaoeoijdpdjiaaDoor
