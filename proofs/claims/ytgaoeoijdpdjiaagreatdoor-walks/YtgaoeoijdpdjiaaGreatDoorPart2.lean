/-
  Rows of numbers of one kind in memory; worlds that part in one block alone; the plain functions of the digest. The program's words of two kinds: how many bytes; a word rotated.
-/
import Derived.Test.YtgaoeoijdpdjiaaGreatDoorPart1
import Derived.Deep.RegionHeld3
import Derived.Deep.DrawnRows
import Derived.BigQuiet
import Derived.Deep.QuietTactic
namespace Go.Proofs.YtgaoeoijdpdjiaaGreatDoor
open Go.RowKit
/-- The i-th entry, 0 where there is none. -/
def at0 (l : List Nat) (i : Nat) : Nat := l.getD i 0
theorem at0_set_same (l : List Nat) (i z : Nat) (h : i < l.length) : at0 (l.set i z) i = z := by simp [at0, h]
theorem at0_set_other (l : List Nat) (i j z : Nat) (h : i ≠ j) : at0 (l.set i z) j = at0 l j := by simp [at0, List.getElem?_set_ne h]
/-- Block g is a row of the numbers L of kind k, and may be written. -/
def RowK (w : World) (g : Nat) (k : IntKind) (T : TypeId) (L : List Nat) : Prop := w.heap[g]? = some (.cells (L.map (fun n => Value.int k ((n : Nat) : Int))).toArray T (0, 0))
theorem RowK.cell {w : World} {g : Nat} {k : IntKind} {T : TypeId} {L : List Nat} (h : RowK w g k T L) {i : Nat} (hi : i < L.length) : w.cell? ⟨g, i, none⟩ = some (.int k ((at0 L i : Nat) : Int)) := by
  unfold RowK at h
  simp [World.cell?, h, hi, at0]
theorem RowK.free {w : World} {g : Nat} {k : IntKind} {T : TypeId} {L : List Nat} (h : RowK w g k T L) (i : Nat) : w.frozen? ⟨g, i, none⟩ = false := by
  unfold RowK at h
  simp [World.frozen?, h]
theorem RowK.lt {w : World} {g : Nat} {k : IntKind} {T : TypeId} {L : List Nat} (h : RowK w g k T L) : g < w.heap.size := lt_of_block h
theorem RowK.set {w : World} {g : Nat} {k : IntKind} {T : TypeId} {L : List Nat} (h : RowK w g k T L) (i z : Nat) : RowK (w.setCell ⟨g, i, none⟩ (.int k ((z : Nat) : Int))) g k T (L.set i z) := by
  have hlt := h.lt
  unfold RowK at h ⊢
  have h' : w.heap[g] = .cells (L.map (fun n => Value.int k ((n : Nat) : Int))).toArray T (0, 0) := by simpa [Array.getElem?_eq_getElem hlt] using h
  show (w.heap.modify g _)[g]? = _
  rw [Array.getElem?_eq_getElem (by simpa using hlt), Array.getElem_modify_self, h']
  simp
theorem RowK.below {w w' : World} {g B : Nat} {k : IntKind} {T : TypeId} {L : List Nat} (h : RowK w g k T L) (hb : Below B w w') (hg : g < B) : RowK w' g k T L := by
  unfold RowK at h ⊢
  rw [hb.block g hg]; exact h
theorem RowK.drewN {w : World} {g : Nat} {k : IntKind} {T : TypeId} {L : List Nat} (h : RowK w g k T L) (n : Nat) : RowK (w.drewN n) g k T L := h
/-- The worlds part in block g alone. -/
structure Only (g : Nat) (w w' : World) : Prop where
  os : w'.os = w.os
  tape : w'.tape = w.tape
  output : w'.output = w.output
  size : w'.heap.size = w.heap.size
  block : ∀ k, k ≠ g → w'.heap[k]? = w.heap[k]?
theorem Only.refl (g : Nat) (w : World) : Only g w w := ⟨rfl, rfl, rfl, rfl, fun _ _ => rfl⟩
theorem Only.trans {g : Nat} {a b c : World} (h : Only g a b) (k : Only g b c) : Only g a c :=
  ⟨k.os.trans h.os, k.tape.trans h.tape, k.output.trans h.output, k.size.trans h.size, fun i hi => (k.block i hi).trans (h.block i hi)⟩
theorem Only.setCell {g : Nat} {a w : World} (h : Only g a w) (i : Nat) (u : Value) : Only g a (w.setCell ⟨g, i, none⟩ u) :=
  h.trans ⟨rfl, rfl, rfl, by simp [World.setCell], fun _ hk => Below.heap_setCell _ _ _ _ hk⟩
theorem Only.drew {g : Nat} {a w : World} (h : Only g a w) : Only g a w.drew := ⟨h.os, h.tape, h.output, h.size, h.block⟩
theorem Only.drewN {g : Nat} {a w : World} (h : Only g a w) (n : Nat) : Only g a (w.drewN n) := ⟨h.os, h.tape, h.output, h.size, h.block⟩
theorem Only.below {g B : Nat} {a w w' : World} (h : Below B a w) (k : Only g w w') (hg : B ≤ g) : Below B a w' :=
  h.trans ⟨k.os, k.tape, k.output, by rw [k.size]; exact Nat.le_refl _, fun i hi => k.block i (by omega)⟩
theorem Only.cell {g : Nat} {w w' : World} (h : Only g w w') {p : Addr} (hp : p.block ≠ g) : w'.cell? p = w.cell? p := World.cell?_of_block (w := w) (h.block p.block hp)
theorem Only.row {g q : Nat} {w w' : World} {k : IntKind} {T : TypeId} {L : List Nat} (h : Only g w w') (r : RowK w q k T L) (hk : q ≠ g) : RowK w' q k T L := by
  unfold RowK at r ⊢
  rw [h.block q hk]; exact r
/-- The plain words of b bits: a sum, a word rotated. -/
def addW (b x y : Nat) : Nat := (x + y) % 2 ^ b
def rotW (b x k : Nat) : Nat := (x * 2 ^ k % 2 ^ b) ||| (x / 2 ^ (b - k))
/-- The numbers of bits of the columns. -/
def turnN (i : Nat) : Nat := if i = 0 then 5 else if i = 1 then 11 else if i = 2 then 19 else 26
theorem addW_lt (b x y : Nat) : addW b x y < 2 ^ b := Nat.mod_lt _ (Nat.two_pow_pos b)
theorem rotW_lt (b x k : Nat) (hx : x < 2 ^ b) : rotW b x k < 2 ^ b :=
  Nat.or_lt_two_pow (Nat.mod_lt _ (Nat.two_pow_pos b)) (Nat.lt_of_le_of_lt (Nat.div_le_self _ _) hx)
/-- A list of eight words, one behind the other, as the column i leaves it. -/
def colW (b i j : Nat) (L : List Nat) : List Nat :=
  (L.set i (addW b (at0 L i) (at0 L j))).set j (rotW b (at0 L j) (turnN i) ^^^ addW b (at0 L i) (at0 L j))
theorem colW_length (b i j : Nat) (L : List Nat) : (colW b i j L).length = L.length := by simp [colW]
/-- Every entry is a word. -/
def Words (b : Nat) (L : List Nat) : Prop := ∀ x ∈ L, x < 2 ^ b
theorem Words.at {b : Nat} {L : List Nat} (h : Words b L) (i : Nat) : at0 L i < 2 ^ b := by
  by_cases hi : i < L.length
  · simp only [at0, List.getD_eq_getElem?_getD, List.getElem?_eq_getElem hi, Option.getD_some]
    exact h _ (List.getElem_mem hi)
  · simp only [at0, List.getD_eq_getElem?_getD, List.getElem?_eq_none (by omega : L.length ≤ i), Option.getD_none]
    exact Nat.two_pow_pos b
theorem Words.set {b : Nat} {L : List Nat} (h : Words b L) (i z : Nat) (hz : z < 2 ^ b) : Words b (L.set i z) := by
  intro x hx
  rcases List.mem_or_eq_of_mem_set hx with hx | rfl
  · exact h x hx
  · exact hz
theorem Words.col {b : Nat} {L : List Nat} (h : Words b L) (i j : Nat) : Words b (colW b i j L) :=
  (h.set i _ (addW_lt _ _ _)).set j _ (Nat.xor_lt_two_pow (rotW_lt _ _ _ (h.at j)) (addW_lt _ _ _))
/-- The columns 0 to k - 1, each with the word four places on. -/
def mixTo (b : Nat) (L : List Nat) : Nat → List Nat
  | 0 => L
  | k + 1 => colW b k (k + 4) (mixTo b L k)
theorem mixTo_length (b : Nat) (L : List Nat) (k : Nat) : (mixTo b L k).length = L.length := by
  induction k with
  | zero => rfl
  | succ k ih => simp only [mixTo, colW_length, ih]
theorem mixTo_words (b : Nat) (L : List Nat) (k : Nat) (h : Words b L) : Words b (mixTo b L k) := by
  induction k with
  | zero => exact h
  | succ k ih => exact ih.col _ _
end Go.Proofs.YtgaoeoijdpdjiaaGreatDoor

namespace Go.Proofs.YtgaoeoijdpdjiaaGreatDoor
open Go.RowKit
set_option maxHeartbeats 1000000 in
set_option maxRecDepth 100000 in
theorem len64_32 (w : World) : Calls Tryz.prog 270 #[.int .u64 4294967295] w fun e w' => e = .returned (.int .i64 32) ∧ w' = w := by
  go_enter Tryz.func270, Tryz.ntmps270
  go_wp2
  go_ret
  exact ⟨by kernel_rfl, rfl⟩
set_option maxHeartbeats 1000000 in
set_option maxRecDepth 100000 in
theorem len64_64 (w : World) : Calls Tryz.prog 270 #[.int .u64 18446744073709551615] w fun e w' => e = .returned (.int .i64 64) ∧ w' = w := by
  go_enter Tryz.func270, Tryz.ntmps270
  go_wp2
  go_ret
  exact ⟨by kernel_rfl, rfl⟩
set_option maxHeartbeats 400000 in
theorem size_32 (w : World) : Calls Tryz.prog 221 #[] w fun e w' => e = .returned (.int .i64 4) ∧ w' = w := by
  go_enter Tryz.func221, Tryz.ntmps221
  go_wp2_with fail
  refine (len64_32 _).mono ?_
  rintro e w1 ⟨rfl, rfl⟩
  go_wp2
  go_ret
  exact ⟨rfl, rfl⟩
theorem rot_32_5 (x : Nat) (hx : x < 4294967296) : bits BinOp.or IntKind.u32 ((x : Int) * 32 % 4294967296) ((x : Int) / 134217728) = ((rotW 32 x 5 : Nat) : Int) := by
  have h := u32_or_nat (x * 32 % 4294967296) (x / 134217728) (Nat.mod_lt _ (by decide)) (by omega)
  rw [Int.natCast_emod, Int.natCast_mul, Int.natCast_ediv] at h
  exact h
theorem rot_32_11 (x : Nat) (hx : x < 4294967296) : bits BinOp.or IntKind.u32 ((x : Int) * 2048 % 4294967296) ((x : Int) / 2097152) = ((rotW 32 x 11 : Nat) : Int) := by
  have h := u32_or_nat (x * 2048 % 4294967296) (x / 2097152) (Nat.mod_lt _ (by decide)) (by omega)
  rw [Int.natCast_emod, Int.natCast_mul, Int.natCast_ediv] at h
  exact h
theorem rot_32_19 (x : Nat) (hx : x < 4294967296) : bits BinOp.or IntKind.u32 ((x : Int) * 524288 % 4294967296) ((x : Int) / 8192) = ((rotW 32 x 19 : Nat) : Int) := by
  have h := u32_or_nat (x * 524288 % 4294967296) (x / 8192) (Nat.mod_lt _ (by decide)) (by omega)
  rw [Int.natCast_emod, Int.natCast_mul, Int.natCast_ediv] at h
  exact h
theorem rot_32_26 (x : Nat) (hx : x < 4294967296) : bits BinOp.or IntKind.u32 ((x : Int) * 67108864 % 4294967296) ((x : Int) / 64) = ((rotW 32 x 26 : Nat) : Int) := by
  have h := u32_or_nat (x * 67108864 % 4294967296) (x / 64) (Nat.mod_lt _ (by decide)) (by omega)
  rw [Int.natCast_emod, Int.natCast_mul, Int.natCast_ediv] at h
  exact h
set_option maxHeartbeats 400000 in
theorem turned_32 (x k : Nat) (w : World) (hx : x < 4294967296) (hk : k = 5 ∨ k = 11 ∨ k = 19 ∨ k = 26) :
    Calls Tryz.prog 308 #[.int .u32 x, .int .i64 k] w fun e w' => e = .returned (.int .u32 ((rotW 32 x k : Nat) : Int)) ∧ ∃ n, w' = w.drewN n := by
  rcases hk with rfl | rfl | rfl | rfl
  · go_enter Tryz.func308, Tryz.ntmps308
    go_wp2
    go_quiet ((go_at_call 221; exact Calls.quiet_of_same (size_32 _)))
    go_wp2
    go_ret
    exact ⟨congrArg (fun z : Int => Ending.returned (.int .u32 z)) (rot_32_5 x hx), _, rfl⟩
  · go_enter Tryz.func308, Tryz.ntmps308
    go_wp2
    go_quiet ((go_at_call 221; exact Calls.quiet_of_same (size_32 _)))
    go_wp2
    go_ret
    exact ⟨congrArg (fun z : Int => Ending.returned (.int .u32 z)) (rot_32_11 x hx), _, rfl⟩
  · go_enter Tryz.func308, Tryz.ntmps308
    go_wp2
    go_quiet ((go_at_call 221; exact Calls.quiet_of_same (size_32 _)))
    go_wp2
    go_ret
    exact ⟨congrArg (fun z : Int => Ending.returned (.int .u32 z)) (rot_32_19 x hx), _, rfl⟩
  · go_enter Tryz.func308, Tryz.ntmps308
    go_wp2
    go_quiet ((go_at_call 221; exact Calls.quiet_of_same (size_32 _)))
    go_wp2
    go_ret
    exact ⟨congrArg (fun z : Int => Ending.returned (.int .u32 z)) (rot_32_26 x hx), _, rfl⟩
set_option maxHeartbeats 400000 in
theorem size_64 (w : World) : Calls Tryz.prog 226 #[] w fun e w' => e = .returned (.int .i64 8) ∧ w' = w := by
  go_enter Tryz.func226, Tryz.ntmps226
  go_wp2_with fail
  refine (len64_64 _).mono ?_
  rintro e w1 ⟨rfl, rfl⟩
  go_wp2
  go_ret
  exact ⟨rfl, rfl⟩
theorem rot_64_5 (x : Nat) (hx : x < 18446744073709551616) : bits BinOp.or IntKind.u64 ((x : Int) * 32 % 18446744073709551616) ((x : Int) / 576460752303423488) = ((rotW 64 x 5 : Nat) : Int) := by
  have h := u64_or_nat (x * 32 % 18446744073709551616) (x / 576460752303423488) (Nat.mod_lt _ (by decide)) (by omega)
  rw [Int.natCast_emod, Int.natCast_mul, Int.natCast_ediv] at h
  exact h
theorem rot_64_11 (x : Nat) (hx : x < 18446744073709551616) : bits BinOp.or IntKind.u64 ((x : Int) * 2048 % 18446744073709551616) ((x : Int) / 9007199254740992) = ((rotW 64 x 11 : Nat) : Int) := by
  have h := u64_or_nat (x * 2048 % 18446744073709551616) (x / 9007199254740992) (Nat.mod_lt _ (by decide)) (by omega)
  rw [Int.natCast_emod, Int.natCast_mul, Int.natCast_ediv] at h
  exact h
theorem rot_64_19 (x : Nat) (hx : x < 18446744073709551616) : bits BinOp.or IntKind.u64 ((x : Int) * 524288 % 18446744073709551616) ((x : Int) / 35184372088832) = ((rotW 64 x 19 : Nat) : Int) := by
  have h := u64_or_nat (x * 524288 % 18446744073709551616) (x / 35184372088832) (Nat.mod_lt _ (by decide)) (by omega)
  rw [Int.natCast_emod, Int.natCast_mul, Int.natCast_ediv] at h
  exact h
theorem rot_64_26 (x : Nat) (hx : x < 18446744073709551616) : bits BinOp.or IntKind.u64 ((x : Int) * 67108864 % 18446744073709551616) ((x : Int) / 274877906944) = ((rotW 64 x 26 : Nat) : Int) := by
  have h := u64_or_nat (x * 67108864 % 18446744073709551616) (x / 274877906944) (Nat.mod_lt _ (by decide)) (by omega)
  rw [Int.natCast_emod, Int.natCast_mul, Int.natCast_ediv] at h
  exact h
set_option maxHeartbeats 400000 in
theorem turned_64 (x k : Nat) (w : World) (hx : x < 18446744073709551616) (hk : k = 5 ∨ k = 11 ∨ k = 19 ∨ k = 26) :
    Calls Tryz.prog 309 #[.int .u64 x, .int .i64 k] w fun e w' => e = .returned (.int .u64 ((rotW 64 x k : Nat) : Int)) ∧ ∃ n, w' = w.drewN n := by
  rcases hk with rfl | rfl | rfl | rfl
  · go_enter Tryz.func309, Tryz.ntmps309
    go_wp2
    go_quiet ((go_at_call 226; exact Calls.quiet_of_same (size_64 _)))
    go_wp2
    go_ret
    exact ⟨congrArg (fun z : Int => Ending.returned (.int .u64 z)) (rot_64_5 x hx), _, rfl⟩
  · go_enter Tryz.func309, Tryz.ntmps309
    go_wp2
    go_quiet ((go_at_call 226; exact Calls.quiet_of_same (size_64 _)))
    go_wp2
    go_ret
    exact ⟨congrArg (fun z : Int => Ending.returned (.int .u64 z)) (rot_64_11 x hx), _, rfl⟩
  · go_enter Tryz.func309, Tryz.ntmps309
    go_wp2
    go_quiet ((go_at_call 226; exact Calls.quiet_of_same (size_64 _)))
    go_wp2
    go_ret
    exact ⟨congrArg (fun z : Int => Ending.returned (.int .u64 z)) (rot_64_19 x hx), _, rfl⟩
  · go_enter Tryz.func309, Tryz.ntmps309
    go_wp2
    go_quiet ((go_at_call 226; exact Calls.quiet_of_same (size_64 _)))
    go_wp2
    go_ret
    exact ⟨congrArg (fun z : Int => Ending.returned (.int .u64 z)) (rot_64_26 x hx), _, rfl⟩
end Go.Proofs.YtgaoeoijdpdjiaaGreatDoor
