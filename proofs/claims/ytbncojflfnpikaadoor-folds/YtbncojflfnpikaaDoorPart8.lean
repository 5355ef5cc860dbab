/-
  The stirring as a plain function of eight words. The document's own words: what a word holds, a word rotated, the columns' numbers. sets.Check and sets.Measure, by their contracts.
-/
import Derived.Test.YtbncojflfnpikaaDoorPart4
import Derived.Test.YtbncojflfnpikaaDoorPart5
import Derived.Test.YtbncojflfnpikaaDoorPart2
import Derived.Deep.RegionHeld3
namespace Go.Proofs.YtbncojflfnpikaaDoor

/-- Behind the columns: the upper words move on, the round's number goes into the first. -/
def roundW (r : Nat) : List Nat → List Nat
  | [a0, a1, a2, a3, a4, a5, a6, a7] => [a0 ^^^ r, a1, a2, a3, a5, a6, a7, a4]
  | L => L
def stirTo (b : Nat) (L : List Nat) : Nat → List Nat
  | 0 => L
  | r + 1 => roundW (r + 1) (mixTo b (stirTo b L r) 4)

theorem eight_of {L : List Nat} (h : L.length = 8) : ∃ a0 a1 a2 a3 a4 a5 a6 a7, L = [a0, a1, a2, a3, a4, a5, a6, a7] := by
  match L, h with
  | [a0, a1, a2, a3, a4, a5, a6, a7], _ => exact ⟨a0, a1, a2, a3, a4, a5, a6, a7, rfl⟩
theorem roundW_length (r : Nat) (L : List Nat) (h : L.length = 8) : (roundW r L).length = 8 := by
  obtain ⟨a0, a1, a2, a3, a4, a5, a6, a7, rfl⟩ := eight_of h
  rfl
theorem stirTo_length (b : Nat) (L : List Nat) (r : Nat) (h : L.length = 8) : (stirTo b L r).length = 8 := by
  induction r with
  | zero => exact h
  | succ r ih => exact roundW_length _ _ (by rw [mixTo_length]; exact ih)
theorem stirTo_words (b : Nat) (L : List Nat) (r : Nat) (hl : L.length = 8) (h : Words b L) (hb : 4 ≤ b := by decide) (hr : r ≤ 8 := by omega) : Words b (stirTo b L r) := by
  induction r with
  | zero => exact h
  | succ r ih =>
    have hm := mixTo_words b (stirTo b L r) 4 (ih (by omega))
    obtain ⟨a0, a1, a2, a3, a4, a5, a6, a7, e⟩ := eight_of (show (mixTo b (stirTo b L r) 4).length = 8 by rw [mixTo_length]; exact stirTo_length b L r hl)
    show Words b (roundW (r + 1) (mixTo b (stirTo b L r) 4))
    rw [e] at hm ⊢
    have h16 : 2 ^ 4 ≤ 2 ^ b := Nat.pow_le_pow_right (by decide) hb
    intro x hx
    simp only [roundW, List.mem_cons, List.not_mem_nil, or_false] at hx
    rcases hx with rfl | rfl | rfl | rfl | rfl | rfl | rfl | rfl
    · exact Nat.xor_lt_two_pow (hm a0 (by simp)) (by omega)
    all_goals exact hm _ (by simp)

end Go.Proofs.YtbncojflfnpikaaDoor

namespace Go.Proofs.YtbncojflfnpikaaDoor
open Go.RowKit

set_option maxHeartbeats 400000 in
theorem turn_any (i : Nat) (w : World) (hi : i < 4) : Calls Tryd.prog 135 #[.int .i64 i] w fun e w' => e = .returned (.int .i64 ((turnN i : Nat) : Int)) ∧ w' = w := by
  rcases (show i = 0 ∨ i = 1 ∨ i = 2 ∨ i = 3 by omega) with rfl | rfl | rfl | rfl
  all_goals
    go_enter Tryd.func135, Tryd.ntmps135
    go_wp2
    go_ret
    exact ⟨rfl, rfl⟩

set_option maxHeartbeats 400000 in
theorem kept_32 (g x : Nat) (w : World) (hc : w.cell? ⟨g, 8, none⟩ = some (.int .i64 32)) (hx : x < 18446744073709551616) :
    Calls Tryd.prog 133 #[.pointer (some ⟨g, 0, none⟩), .int .u64 x] w fun e w' => e = .returned (.int .u64 ((x % 4294967296 : Nat) : Int)) ∧ w' = w := by
  go_enter Tryd.func133, Tryd.ntmps133
  go_wp2
  go_ret
  exact ⟨rfl, rfl⟩

theorem rrot_32_5 (x : Nat) (hx : x < 4294967296) : bits BinOp.or IntKind.u64 (((x * 32 % 4294967296 : Nat)) : Int) ((x : Int) / 134217728) = ((rotW 32 x 5 : Nat) : Int) := by
  have h := u64_or_nat (x * 32 % 4294967296) (x / 134217728) (Nat.lt_trans (Nat.mod_lt _ (by decide : 0 < 4294967296)) (by decide)) (by omega)
  rw [Int.natCast_ediv] at h
  exact h
theorem rrot_32_11 (x : Nat) (hx : x < 4294967296) : bits BinOp.or IntKind.u64 (((x * 2048 % 4294967296 : Nat)) : Int) ((x : Int) / 2097152) = ((rotW 32 x 11 : Nat) : Int) := by
  have h := u64_or_nat (x * 2048 % 4294967296) (x / 2097152) (Nat.lt_trans (Nat.mod_lt _ (by decide : 0 < 4294967296)) (by decide)) (by omega)
  rw [Int.natCast_ediv] at h
  exact h
theorem rrot_32_19 (x : Nat) (hx : x < 4294967296) : bits BinOp.or IntKind.u64 (((x * 524288 % 4294967296 : Nat)) : Int) ((x : Int) / 8192) = ((rotW 32 x 19 : Nat) : Int) := by
  have h := u64_or_nat (x * 524288 % 4294967296) (x / 8192) (Nat.lt_trans (Nat.mod_lt _ (by decide : 0 < 4294967296)) (by decide)) (by omega)
  rw [Int.natCast_ediv] at h
  exact h
theorem rrot_32_26 (x : Nat) (hx : x < 4294967296) : bits BinOp.or IntKind.u64 (((x * 67108864 % 4294967296 : Nat)) : Int) ((x : Int) / 64) = ((rotW 32 x 26 : Nat) : Int) := by
  have h := u64_or_nat (x * 67108864 % 4294967296) (x / 64) (Nat.lt_trans (Nat.mod_lt _ (by decide : 0 < 4294967296)) (by decide)) (by omega)
  rw [Int.natCast_ediv] at h
  exact h

set_option maxHeartbeats 400000 in
theorem rturned_32 (g x k : Nat) (w : World) (hc : w.cell? ⟨g, 8, none⟩ = some (.int .i64 32)) (hx : x < 4294967296) (hk : k = 5 ∨ k = 11 ∨ k = 19 ∨ k = 26) :
    Calls Tryd.prog 134 #[.pointer (some ⟨g, 0, none⟩), .int .u64 x, .int .i64 k] w fun e w' => e = .returned (.int .u64 ((rotW 32 x k : Nat) : Int)) ∧ w' = w := by
  rcases hk with rfl | rfl | rfl | rfl
  · go_enter Tryd.func134, Tryd.ntmps134
    go_wp2_with fail
    rw [show ((x : Int) * 32) = (((x * 32) : Nat) : Int) by omega]
    refine (kept_32 g (x * 32) _ hc (by omega)).mono ?_
    rintro e w1 ⟨rfl, rfl⟩
    go_wp2
    go_ret
    exact ⟨congrArg (fun z : Int => Ending.returned (.int .u64 z)) (rrot_32_5 x hx), rfl⟩
  · go_enter Tryd.func134, Tryd.ntmps134
    go_wp2_with fail
    rw [show ((x : Int) * 2048) = (((x * 2048) : Nat) : Int) by omega]
    refine (kept_32 g (x * 2048) _ hc (by omega)).mono ?_
    rintro e w1 ⟨rfl, rfl⟩
    go_wp2
    go_ret
    exact ⟨congrArg (fun z : Int => Ending.returned (.int .u64 z)) (rrot_32_11 x hx), rfl⟩
  · go_enter Tryd.func134, Tryd.ntmps134
    go_wp2_with fail
    rw [show ((x : Int) * 524288) = (((x * 524288) : Nat) : Int) by omega]
    refine (kept_32 g (x * 524288) _ hc (by omega)).mono ?_
    rintro e w1 ⟨rfl, rfl⟩
    go_wp2
    go_ret
    exact ⟨congrArg (fun z : Int => Ending.returned (.int .u64 z)) (rrot_32_19 x hx), rfl⟩
  · go_enter Tryd.func134, Tryd.ntmps134
    go_wp2_with fail
    rw [show ((x : Int) * 67108864) = (((x * 67108864) : Nat) : Int) by omega]
    refine (kept_32 g (x * 67108864) _ hc (by omega)).mono ?_
    rintro e w1 ⟨rfl, rfl⟩
    go_wp2
    go_ret
    exact ⟨congrArg (fun z : Int => Ending.returned (.int .u64 z)) (rrot_32_26 x hx), rfl⟩

set_option maxHeartbeats 400000 in
theorem kept_64 (g x : Nat) (w : World) (hc : w.cell? ⟨g, 8, none⟩ = some (.int .i64 64)) (_hx : x < 18446744073709551616) :
    Calls Tryd.prog 133 #[.pointer (some ⟨g, 0, none⟩), .int .u64 x] w fun e w' => e = .returned (.int .u64 ((x : Nat) : Int)) ∧ w' = w := by
  go_enter Tryd.func133, Tryd.ntmps133
  go_wp2
  go_ret
  exact ⟨rfl, rfl⟩

theorem rrot_64_5 (x : Nat) (hx : x < 18446744073709551616) : bits BinOp.or IntKind.u64 (((x * 32 % 18446744073709551616 : Nat)) : Int) ((x : Int) / 576460752303423488) = ((rotW 64 x 5 : Nat) : Int) := by
  have h := u64_or_nat (x * 32 % 18446744073709551616) (x / 576460752303423488) (Nat.mod_lt _ (by decide)) (by omega)
  rw [Int.natCast_ediv] at h
  exact h
theorem rrot_64_11 (x : Nat) (hx : x < 18446744073709551616) : bits BinOp.or IntKind.u64 (((x * 2048 % 18446744073709551616 : Nat)) : Int) ((x : Int) / 9007199254740992) = ((rotW 64 x 11 : Nat) : Int) := by
  have h := u64_or_nat (x * 2048 % 18446744073709551616) (x / 9007199254740992) (Nat.mod_lt _ (by decide)) (by omega)
  rw [Int.natCast_ediv] at h
  exact h
theorem rrot_64_19 (x : Nat) (hx : x < 18446744073709551616) : bits BinOp.or IntKind.u64 (((x * 524288 % 18446744073709551616 : Nat)) : Int) ((x : Int) / 35184372088832) = ((rotW 64 x 19 : Nat) : Int) := by
  have h := u64_or_nat (x * 524288 % 18446744073709551616) (x / 35184372088832) (Nat.mod_lt _ (by decide)) (by omega)
  rw [Int.natCast_ediv] at h
  exact h
theorem rrot_64_26 (x : Nat) (hx : x < 18446744073709551616) : bits BinOp.or IntKind.u64 (((x * 67108864 % 18446744073709551616 : Nat)) : Int) ((x : Int) / 274877906944) = ((rotW 64 x 26 : Nat) : Int) := by
  have h := u64_or_nat (x * 67108864 % 18446744073709551616) (x / 274877906944) (Nat.mod_lt _ (by decide)) (by omega)
  rw [Int.natCast_ediv] at h
  exact h

set_option maxHeartbeats 400000 in
theorem rturned_64 (g x k : Nat) (w : World) (hc : w.cell? ⟨g, 8, none⟩ = some (.int .i64 64)) (hx : x < 18446744073709551616) (hk : k = 5 ∨ k = 11 ∨ k = 19 ∨ k = 26) :
    Calls Tryd.prog 134 #[.pointer (some ⟨g, 0, none⟩), .int .u64 x, .int .i64 k] w fun e w' => e = .returned (.int .u64 ((rotW 64 x k : Nat) : Int)) ∧ w' = w := by
  rcases hk with rfl | rfl | rfl | rfl
  · go_enter Tryd.func134, Tryd.ntmps134
    go_wp2_with fail
    rw [IntKind.wrap_u64]
    rw [show ((x : Int) * 32 % 18446744073709551616) = (((x * 32 % 18446744073709551616) : Nat) : Int) by omega]
    refine (kept_64 g (x * 32 % 18446744073709551616) _ hc (by omega)).mono ?_
    rintro e w1 ⟨rfl, rfl⟩
    go_wp2
    go_ret
    exact ⟨congrArg (fun z : Int => Ending.returned (.int .u64 z)) (rrot_64_5 x hx), rfl⟩
  · go_enter Tryd.func134, Tryd.ntmps134
    go_wp2_with fail
    rw [IntKind.wrap_u64]
    rw [show ((x : Int) * 2048 % 18446744073709551616) = (((x * 2048 % 18446744073709551616) : Nat) : Int) by omega]
    refine (kept_64 g (x * 2048 % 18446744073709551616) _ hc (by omega)).mono ?_
    rintro e w1 ⟨rfl, rfl⟩
    go_wp2
    go_ret
    exact ⟨congrArg (fun z : Int => Ending.returned (.int .u64 z)) (rrot_64_11 x hx), rfl⟩
  · go_enter Tryd.func134, Tryd.ntmps134
    go_wp2_with fail
    rw [IntKind.wrap_u64]
    rw [show ((x : Int) * 524288 % 18446744073709551616) = (((x * 524288 % 18446744073709551616) : Nat) : Int) by omega]
    refine (kept_64 g (x * 524288 % 18446744073709551616) _ hc (by omega)).mono ?_
    rintro e w1 ⟨rfl, rfl⟩
    go_wp2
    go_ret
    exact ⟨congrArg (fun z : Int => Ending.returned (.int .u64 z)) (rrot_64_19 x hx), rfl⟩
  · go_enter Tryd.func134, Tryd.ntmps134
    go_wp2_with fail
    rw [IntKind.wrap_u64]
    rw [show ((x : Int) * 67108864 % 18446744073709551616) = (((x * 67108864 % 18446744073709551616) : Nat) : Int) by omega]
    refine (kept_64 g (x * 67108864 % 18446744073709551616) _ hc (by omega)).mono ?_
    rintro e w1 ⟨rfl, rfl⟩
    go_wp2
    go_ret
    exact ⟨congrArg (fun z : Int => Ending.returned (.int .u64 z)) (rrot_64_26 x hx), rfl⟩

end Go.Proofs.YtbncojflfnpikaaDoor

namespace Go.Proofs.YtbncojflfnpikaaDoor
open Go.RowKit

theorem bcell {W w1 : World} (hb : Below W.heap.size W w1) : (∀ b o, b < W.heap.size → w1.cell? ⟨b, o, none⟩ = W.cell? ⟨b, o, none⟩) ∧ (∀ b o, b < W.heap.size → w1.frozen? ⟨b, o, none⟩ = W.frozen? ⟨b, o, none⟩) :=
  ⟨fun b o h => hb.cell (p := ⟨b, o, none⟩) h, fun b o h => hb.frozen (p := ⟨b, o, none⟩) h⟩

set_option maxHeartbeats 400000 in
theorem check_any (k b x t l : Int) (w : World) :
    Calls Tryd.prog 101 #[.agg #[.int .i64 k, .int .i64 b, .int .i64 x, .int .i64 t, .int .i64 l]] w fun e w' => e = .returned (.int .i64 (if rightB k b x t l then 0 else 1)) ∧ Below w.heap.size w w' := by
  cases hr : rightB k b x t l
  all_goals
    go_enter Tryd.func101, Tryd.ntmps101
    go_wp2_with (go_at_call 136; refine (right_any _ _ _ _ _ _).mono ?_; rintro e w' ⟨rfl, hb⟩)
    go_ret
    refine ⟨rfl, ?_⟩
    exact ((Below.refl _ _).alloc (Nat.le_refl _) _).trans (hb.mono (by simp))

/-- What follows from a set that is right. -/
def firstZ (b x : Int) : Int := b * each x
def lastZ (b x : Int) : Int := if x = 16 then 2 else if b = 4 then 3 else 4
def chainsZ (b x : Int) : Int := firstZ b x + lastZ b x
def totalZ (t l : Int) : Int := 2 ^ (t * l).toNat
def sigZ (b x t l : Int) : Int := 4 + b + l * (chainsZ b x + t) * b

theorem shift_total (t l : Int) (h1 : 1 ≤ t) (h2 : t ≤ 4) (h3 : 1 ≤ l) (h4 : l ≤ 3) : ∀ w : World, Sem.run Tryd.prog (Op.shift BinOp.shl IntKind.i64 1 IntKind.i64 (IntKind.i64.wrap (t * l))) w = .ok (.int .i64 (totalZ t l)) w := by
  rcases (show t = 1 ∨ t = 2 ∨ t = 3 ∨ t = 4 by omega) with rfl | rfl | rfl | rfl <;> rcases (show l = 1 ∨ l = 2 ∨ l = 3 by omega) with rfl | rfl | rfl <;> intro w <;> rfl

theorem cell_other {w : World} {a p : Addr} (v : Value) (h : p.block ≠ a.block) : (w.setCell a v).cell? p = w.cell? p := World.cell?_of_block (Below.heap_setCell _ _ _ _ h)
theorem five_other {w : World} {B C o : Nat} {k b x t l : Int} (h : Five w B k b x t l) (v : Value) (hne : B ≠ C) : Five (w.setCell ⟨C, o, none⟩ v) B k b x t l :=
  ⟨(cell_other v hne).trans h.1, (cell_other v hne).trans h.2.1, (cell_other v hne).trans h.2.2.1, (cell_other v hne).trans h.2.2.2.1, (cell_other v hne).trans h.2.2.2.2⟩

/-- The new variable of the sizes holds noughts. -/
theorem six_zero {w w' : World} {o : Array Value} (hb : Below ((w.alloc (.cells o 25)).alloc (.cells #[.int .i64 0, .int .i64 0, .int .i64 0, .int .i64 0, .int .i64 0, .int .i64 0] 106)).heap.size ((w.alloc (.cells o 25)).alloc (.cells #[.int .i64 0, .int .i64 0, .int .i64 0, .int .i64 0, .int .i64 0, .int .i64 0] 106)) w') :
    w'.cell? ⟨w.heap.size + 1, 0, none⟩ = some (.int .i64 0) ∧ w'.cell? ⟨w.heap.size + 1, 1, none⟩ = some (.int .i64 0) ∧ w'.cell? ⟨w.heap.size + 1, 2, none⟩ = some (.int .i64 0) ∧
    w'.cell? ⟨w.heap.size + 1, 3, none⟩ = some (.int .i64 0) ∧ w'.cell? ⟨w.heap.size + 1, 4, none⟩ = some (.int .i64 0) ∧ w'.cell? ⟨w.heap.size + 1, 5, none⟩ = some (.int .i64 0) := by
  refine ⟨?_, ?_, ?_, ?_, ?_, ?_⟩ <;> exact (hb.cell (by simp)).trans (by simp [go_sem])
end Go.Proofs.YtbncojflfnpikaaDoor
