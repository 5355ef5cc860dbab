/-
  A new disk; what a disk counts. math/bits.Mul of 1 and a leaf's number of chains. The program's words of two kinds: how many bytes; a word rotated. A step through a region that draws its order: an operation that only reads is taken; one whose guard says no is passed by. The statement's own small functions: fit, chains. The program's read over words of two kinds: the bytes of a word, the highest first. Are seeds right? The program's SeedsRight, the document's Seeded. A whole number in so many bytes, the highest first: the program's Number. An empty list of values. A set that comes in by value, opened: five numbers that an int holds. The stirring as a plain function of eight words. sets.Check and sets.Measure, by their contracts.
-/
import Derived.Test.YtgaoeoijdpdjiabGreatDoorPart2
import Derived.Deep.RegionHeld3
import Derived.Test.YtgaoeoijdpdjiabGreatDoorPart1
import Derived.WalkSpells
import Derived.WalkLawsBesides
import Derived.Handy
import Derived.Laws.MakeOwn
import Derived.ProofKit
namespace Go.Proofs.YtgaoeoijdpdjiabGreatDoor
open Go.RowKit

/-- A sector of zeros. -/
def zeroS : ByteArray := ⟨(List.replicate 32 (0 : UInt8)).toArray⟩
theorem zeroS_size : zeroS.size = 32 := by simp [zeroS, ByteArray.size]
theorem cellsB_zero : cellsB zeroS = List.replicate 32 (.int .u8 0) := by simp [cellsB, zeroS]

def newD (n : Nat) : DSt := ⟨n, List.replicate n zeroS, [], 0, 0, 0, 0⟩
theorem newD_ok (n : Nat) (h1 : 1 ≤ n) (h2 : n ≤ 8) : DOk (newD n) :=
  ⟨by simp [newD], fun x hx => by rw [(List.mem_replicate.1 hx).2]; exact zeroS_size, fun p hp => by simp [newD] at hp, h1, h2, by simp [newD], by simp [newD], by simp [newD]⟩

theorem madeRep (m k : Nat) (hm : 0 < m) (v : Value) : madeCells (List.replicate m v).toArray k = (List.replicate k v).toArray := by
  apply Array.ext
  · simp [size_madeCells]
  · intro i h1 h2
    have : i % m < m := Nat.mod_lt _ hm
    simp [madeCells, this]

theorem infoSec : (Tryz.prog.info? 239).map (fun i => (i.zero, i.size, i.bytes)) = some (some (.agg (List.replicate 32 (Value.int .u8 0)).toArray), 32, 32) := by kernel_rfl
theorem madeSec (n : Nat) : madeCells (Value.agg (List.replicate 32 (Value.int .u8 0)).toArray).cells (n * 32) = (secs (List.replicate n zeroS)).toArray := by
  have e : secs (List.replicate n zeroS) = List.replicate (n * 32) (.int .u8 0) := by
    induction n with
    | zero => rfl
    | succ n ih =>
      rw [List.replicate_succ, secs, List.flatMap_cons, cellsB_zero]
      rw [secs] at ih
      rw [ih, Nat.succ_mul, Nat.add_comm, List.replicate_append_replicate]
  rw [e]
  exact madeRep 32 (n * 32) (by decide) _
theorem makeSec (n : Nat) (hn : n ≤ 8) (w : World) : (Instr.makeSlice 179 (.int .i64 n) (.int .i64 n)).run Tryz.prog w = .ok (.slice (some ⟨w.heap.size, 0, none⟩) n n) (w.alloc (.cells (secs (List.replicate n zeroS)).toArray 239)) := by
  obtain ⟨i0, hi, hz0, hz1, hz2⟩ := info_parts infoSec
  have h := run_make (P := Tryz.prog) w 179 239 i0 _ Tryz.underlying179 hi hz0 .i64 .i64 n n (by omega) (by omega) (by rw [hz2]; omega) (by omega)
  rw [hz1, Int.toNat_natCast, madeSec] at h
  exact h

set_option maxHeartbeats 1000000 in
theorem dnew_yes (n : Nat) (w : World) (lo : Nat) (h1 : 1 ≤ n) (h2 : n ≤ 8) (hlo : lo ≤ w.heap.size) :
    Calls Tryz.prog 68 #[.int .i64 n] w fun e w' => e = .returned (.tuple #[.pointer (some ⟨w.heap.size + 1, 0, none⟩), .int .i64 0]) ∧ DAt lo (w.heap.size + 1) w.heap.size (.slice none 0 0) (newD n) w' ∧ Below w.heap.size w w' := by
  have hmk := makeSec n h2
  have HK := hideK (newD_ok n h1 h2)
  go_enter Tryz.func68, Tryz.ntmps68
  go_wp2
  clear hmk
  go_ret2
  refine ⟨rfl, ⟨?_, ?_, World.ownsRow_nil _ _ _ _, HK.out, by omega, by simp [Value.ownBlock], by simp [Value.ownBlock], by omega, hlo⟩, ((Below.refl _ _).alloc (Nat.le_refl _) _).alloc (by simp) _⟩
  · have := heap_alloc_new (w.alloc (.cells (secs (List.replicate n zeroS)).toArray 239)) (.cells #[.slice (some ⟨w.heap.size, 0, none⟩) n n, .slice none 0 0, .int .i64 0, .int .i64 0, .int .i64 0, .int .i64 0] 182)
    rw [World.size_alloc] at this
    exact this
  · rw [heap_alloc_old _ _ (by simp)]
    exact heap_alloc_new w _
theorem dnew_no (n : Int) (w : World) (h : n < 1 ∨ 8 < n) :
    Calls Tryz.prog 68 #[.int .i64 n] w fun e w' => e = .returned (.tuple #[.pointer none, .int .i64 2]) ∧ w' = w := by
  by_cases h1 : n < 1
  · go_enter Tryz.func68, Tryz.ntmps68
    go_wp2
    go_ret2
    exact ⟨rfl, rfl⟩
  · have h2 : 8 < n := by omega
    go_enter Tryz.func68, Tryz.ntmps68
    go_wp2
    go_ret2
    exact ⟨rfl, rfl⟩

/-- The number of pending writes, as 'len' tells it. -/
theorem owns_len {w : World} {base : Nat} {e : TypeId} {size : Nat} {v : Value} {n : Nat} {xs : List Value} (h : w.ownsRow base e size v n xs) : ∃ a c, v = .slice a n c := by
  rcases h.2 with ⟨rfl, rfl⟩ | ⟨g, cap, cur, rfl, _⟩
  · exact ⟨none, 0, rfl⟩
  · exact ⟨_, _, rfl⟩

set_option maxHeartbeats 1000000 in
theorem dcount_any (lo D E : Nat) (pv : Value) (s : DSt) (w : World) (h : DAt lo D E pv s w) :
    Calls Tryz.prog 112 #[.pointer (some ⟨D, 0, none⟩)] w fun e w' => e = .returned (.agg #[.int .i64 s.writes, .int .i64 s.syncs, .int .i64 s.pend.length]) ∧ Below w.heap.size w w' := by
  obtain ⟨a, c, rfl⟩ := owns_len h.pending
  have hlt := h.ltD
  have HS := hideK (fun (V : World) (hb : Below w.heap.size w V) => (by
    have h' := h.below hb
    exact ⟨h'.c1, h'.c2, h'.c3, hb⟩ : V.cell? ⟨D, 1, none⟩ = some (.slice a s.pend.length c) ∧ V.cell? ⟨D, 2, none⟩ = some (.int .i64 s.writes) ∧ V.cell? ⟨D, 3, none⟩ = some (.int .i64 s.syncs) ∧ Below w.heap.size w V))
  have hm := h.ok.most
  clear h
  generalize s.writes = wr at *
  generalize s.syncs = sy at *
  generalize s.pend.length = pl at *
  have HL := hideK hlt
  clear hlt
  go_enter Tryz.func112, Tryz.ntmps112
  go_wp2_with fail
  go_region_held3 (fun V => V.cell? ⟨D, 1, none⟩ = some (.slice a pl c) ∧ V.cell? ⟨D, 2, none⟩ = some (.int .i64 wr) ∧ V.cell? ⟨D, 3, none⟩ = some (.int .i64 sy) ∧ Below w.heap.size w V) (exact HS.out _ ((Below.refl _ _).alloc (Nat.le_refl _) _).drew) (fail)
  go_wp2
  refine bodyPost_ret (v := .agg #[.int .i64 wr, .int .i64 sy, .int .i64 pl]) (by simp [results, Tryz.results112, go_sem]) rfl ⟨rfl, ((Below.refl _ _).alloc (Nat.le_refl _) _).drew⟩
end Go.Proofs.YtgaoeoijdpdjiabGreatDoor

namespace Go.Proofs.YtgaoeoijdpdjiabGreatDoor
open Go.RowKit

/-- How many chains a leaf may have. -/
def Ch4 (ch : Nat) : Prop := ch = 10 ∨ ch = 18 ∨ ch = 19 ∨ ch = 36

set_option maxRecDepth 20000 in
theorem mul64_one (ch : Nat) (h : Ch4 ch) (w : World) :
    Calls Tryz.prog 325 #[.int .u64 1, .int .u64 ch] w fun e w' => e = .returned (.tuple #[.int .u64 0, .int .u64 ch]) ∧ w' = w := by
  rcases h with rfl | rfl | rfl | rfl
  all_goals
    go_enter Tryz.func325, Tryz.ntmps325
    go_wp2
    go_ret2
    exact ⟨rfl, rfl⟩

set_option maxRecDepth 20000 in
theorem mul_one (ch : Nat) (h : Ch4 ch) (w : World) :
    Calls Tryz.prog 309 #[.int .u64 1, .int .u64 ch] w fun e w' => e = .returned (.tuple #[.int .u64 0, .int .u64 ch]) ∧ w' = w := by
  have H := hide (fun V : World => mul64_one ch h V)
  rcases h with rfl | rfl | rfl | rfl
  all_goals
    go_enter Tryz.func309, Tryz.ntmps309
    go_wp2_with fail
    refine (H.out _).mono ?_
    rintro e w1 ⟨rfl, rfl⟩
    go_wp2
    go_ret2
    exact ⟨rfl, rfl⟩

theorem ch4_of {b x e f : Nat} (h : Pair b x e f) : Ch4 (b * e + f) := by
  unfold Pair at h
  unfold Ch4
  rcases h with ⟨rfl, rfl, rfl, rfl⟩ | ⟨rfl, rfl, rfl, rfl⟩ | ⟨rfl, rfl, rfl, rfl⟩ | ⟨rfl, rfl, rfl, rfl⟩ <;> omega
end Go.Proofs.YtgaoeoijdpdjiabGreatDoor

namespace Go.Proofs.YtgaoeoijdpdjiabGreatDoor
open Go.RowKit

set_option maxHeartbeats 1000000 in
set_option maxRecDepth 100000 in
theorem len64_32 (w : World) : Calls Tryz.prog 318 #[.int .u64 4294967295] w fun e w' => e = .returned (.int .i64 32) ∧ w' = w := by
  go_enter Tryz.func318, Tryz.ntmps318
  go_wp2
  go_ret
  exact ⟨by kernel_rfl, rfl⟩

set_option maxHeartbeats 1000000 in
set_option maxRecDepth 100000 in
theorem len64_64 (w : World) : Calls Tryz.prog 318 #[.int .u64 18446744073709551615] w fun e w' => e = .returned (.int .i64 64) ∧ w' = w := by
  go_enter Tryz.func318, Tryz.ntmps318
  go_wp2
  go_ret
  exact ⟨by kernel_rfl, rfl⟩

set_option maxHeartbeats 400000 in
theorem size_32 (w : World) : Calls Tryz.prog 290 #[] w fun e w' => e = .returned (.int .i64 4) ∧ w' = w := by
  go_enter Tryz.func290, Tryz.ntmps290
  go_wp2_with fail
  refine (len64_32 _).mono ?_
  rintro e w1 ⟨rfl, rfl⟩
  go_wp2
  go_ret
  exact ⟨rfl, rfl⟩

theorem rot_32_5 (x : Nat) (hx : x < 4294967296) : bits BinOp.or IntKind.u32 ((x : Int) * 32 % 4294967296) ((x : Int) / 134217728) = ((rotW 32 x 5 : Nat) : Int) := by
  have h := u32_or_nat (x * 32 % 4294967296) (x / 134217728) (Nat.mod_lt _ (by decide)) (by omega)
  rw [Int.natCast_emod, Int.natCast_mul, Int.natCast_ediv] at h
  exact h
theorem rot_32_11 (x : Nat) (hx : x < 4294967296) : bits BinOp.or IntKind.u32 ((x : Int) * 2048 % 4294967296) ((x : Int) / 2097152) = ((rotW 32 x 11 : Nat) : Int) := by
  have h := u32_or_nat (x * 2048 % 4294967296) (x / 2097152) (Nat.mod_lt _ (by decide)) (by omega)
  rw [Int.natCast_emod, Int.natCast_mul, Int.natCast_ediv] at h
  exact h
theorem rot_32_19 (x : Nat) (hx : x < 4294967296) : bits BinOp.or IntKind.u32 ((x : Int) * 524288 % 4294967296) ((x : Int) / 8192) = ((rotW 32 x 19 : Nat) : Int) := by
  have h := u32_or_nat (x * 524288 % 4294967296) (x / 8192) (Nat.mod_lt _ (by decide)) (by omega)
  rw [Int.natCast_emod, Int.natCast_mul, Int.natCast_ediv] at h
  exact h
theorem rot_32_26 (x : Nat) (hx : x < 4294967296) : bits BinOp.or IntKind.u32 ((x : Int) * 67108864 % 4294967296) ((x : Int) / 64) = ((rotW 32 x 26 : Nat) : Int) := by
  have h := u32_or_nat (x * 67108864 % 4294967296) (x / 64) (Nat.mod_lt _ (by decide)) (by omega)
  rw [Int.natCast_emod, Int.natCast_mul, Int.natCast_ediv] at h
  exact h

set_option maxHeartbeats 400000 in
theorem turned_32 (x k : Nat) (w : World) (hx : x < 4294967296) (hk : k = 5 ∨ k = 11 ∨ k = 19 ∨ k = 26) :
    Calls Tryz.prog 327 #[.int .u32 x, .int .i64 k] w fun e w' => e = .returned (.int .u32 ((rotW 32 x k : Nat) : Int)) ∧ ∃ n, w' = w.drewN n := by
  rcases hk with rfl | rfl | rfl | rfl
  · go_enter Tryz.func327, Tryz.ntmps327
    go_wp2
    go_quiet ((go_at_call 290; exact Calls.quiet_of_same (size_32 _)))
    go_wp2
    go_ret
    exact ⟨congrArg (fun z : Int => Ending.returned (.int .u32 z)) (rot_32_5 x hx), _, rfl⟩
  · go_enter Tryz.func327, Tryz.ntmps327
    go_wp2
    go_quiet ((go_at_call 290; exact Calls.quiet_of_same (size_32 _)))
    go_wp2
    go_ret
    exact ⟨congrArg (fun z : Int => Ending.returned (.int .u32 z)) (rot_32_11 x hx), _, rfl⟩
  · go_enter Tryz.func327, Tryz.ntmps327
    go_wp2
    go_quiet ((go_at_call 290; exact Calls.quiet_of_same (size_32 _)))
    go_wp2
    go_ret
    exact ⟨congrArg (fun z : Int => Ending.returned (.int .u32 z)) (rot_32_19 x hx), _, rfl⟩
  · go_enter Tryz.func327, Tryz.ntmps327
    go_wp2
    go_quiet ((go_at_call 290; exact Calls.quiet_of_same (size_32 _)))
    go_wp2
    go_ret
    exact ⟨congrArg (fun z : Int => Ending.returned (.int .u32 z)) (rot_32_26 x hx), _, rfl⟩

set_option maxHeartbeats 400000 in
theorem size_64 (w : World) : Calls Tryz.prog 295 #[] w fun e w' => e = .returned (.int .i64 8) ∧ w' = w := by
  go_enter Tryz.func295, Tryz.ntmps295
  go_wp2_with fail
  refine (len64_64 _).mono ?_
  rintro e w1 ⟨rfl, rfl⟩
  go_wp2
  go_ret
  exact ⟨rfl, rfl⟩

theorem rot_64_5 (x : Nat) (hx : x < 18446744073709551616) : bits BinOp.or IntKind.u64 ((x : Int) * 32 % 18446744073709551616) ((x : Int) / 576460752303423488) = ((rotW 64 x 5 : Nat) : Int) := by
  have h := u64_or_nat (x * 32 % 18446744073709551616) (x / 576460752303423488) (Nat.mod_lt _ (by decide)) (by omega)
  rw [Int.natCast_emod, Int.natCast_mul, Int.natCast_ediv] at h
  exact h
theorem rot_64_11 (x : Nat) (hx : x < 18446744073709551616) : bits BinOp.or IntKind.u64 ((x : Int) * 2048 % 18446744073709551616) ((x : Int) / 9007199254740992) = ((rotW 64 x 11 : Nat) : Int) := by
  have h := u64_or_nat (x * 2048 % 18446744073709551616) (x / 9007199254740992) (Nat.mod_lt _ (by decide)) (by omega)
  rw [Int.natCast_emod, Int.natCast_mul, Int.natCast_ediv] at h
  exact h
theorem rot_64_19 (x : Nat) (hx : x < 18446744073709551616) : bits BinOp.or IntKind.u64 ((x : Int) * 524288 % 18446744073709551616) ((x : Int) / 35184372088832) = ((rotW 64 x 19 : Nat) : Int) := by
  have h := u64_or_nat (x * 524288 % 18446744073709551616) (x / 35184372088832) (Nat.mod_lt _ (by decide)) (by omega)
  rw [Int.natCast_emod, Int.natCast_mul, Int.natCast_ediv] at h
  exact h
theorem rot_64_26 (x : Nat) (hx : x < 18446744073709551616) : bits BinOp.or IntKind.u64 ((x : Int) * 67108864 % 18446744073709551616) ((x : Int) / 274877906944) = ((rotW 64 x 26 : Nat) : Int) := by
  have h := u64_or_nat (x * 67108864 % 18446744073709551616) (x / 274877906944) (Nat.mod_lt _ (by decide)) (by omega)
  rw [Int.natCast_emod, Int.natCast_mul, Int.natCast_ediv] at h
  exact h

set_option maxHeartbeats 400000 in
theorem turned_64 (x k : Nat) (w : World) (hx : x < 18446744073709551616) (hk : k = 5 ∨ k = 11 ∨ k = 19 ∨ k = 26) :
    Calls Tryz.prog 328 #[.int .u64 x, .int .i64 k] w fun e w' => e = .returned (.int .u64 ((rotW 64 x k : Nat) : Int)) ∧ ∃ n, w' = w.drewN n := by
  rcases hk with rfl | rfl | rfl | rfl
  · go_enter Tryz.func328, Tryz.ntmps328
    go_wp2
    go_quiet ((go_at_call 295; exact Calls.quiet_of_same (size_64 _)))
    go_wp2
    go_ret
    exact ⟨congrArg (fun z : Int => Ending.returned (.int .u64 z)) (rot_64_5 x hx), _, rfl⟩
  · go_enter Tryz.func328, Tryz.ntmps328
    go_wp2
    go_quiet ((go_at_call 295; exact Calls.quiet_of_same (size_64 _)))
    go_wp2
    go_ret
    exact ⟨congrArg (fun z : Int => Ending.returned (.int .u64 z)) (rot_64_11 x hx), _, rfl⟩
  · go_enter Tryz.func328, Tryz.ntmps328
    go_wp2
    go_quiet ((go_at_call 295; exact Calls.quiet_of_same (size_64 _)))
    go_wp2
    go_ret
    exact ⟨congrArg (fun z : Int => Ending.returned (.int .u64 z)) (rot_64_19 x hx), _, rfl⟩
  · go_enter Tryz.func328, Tryz.ntmps328
    go_wp2
    go_quiet ((go_at_call 295; exact Calls.quiet_of_same (size_64 _)))
    go_wp2
    go_ret
    exact ⟨congrArg (fun z : Int => Ending.returned (.int .u64 z)) (rot_64_26 x hx), _, rfl⟩

end Go.Proofs.YtgaoeoijdpdjiabGreatDoor

namespace Go.Proofs.YtgaoeoijdpdjiabGreatDoor
open Go.RowKit

section
variable {P : Program} {ops : Array Oper} {Q : Exit → Act → World → Prop} {md : Region.Mode} {S : World → Prop}
theorem tk (i : Nat) {oi : Oper} {v : Value} {fuel : Nat} {listed : Array Bool} {a b : Act} {w : World} (hS : S w)
    (hi : ops[i]? = some oi := by (simp only [List.getElem?_toArray, List.getElem?_cons_succ, List.getElem?_cons_zero]; rfl))
    (hs : Region.noSelect ops = true := by kernel_rfl) (hf : Region.free md ops listed i = true := by kernel_rfl) (hr : (Region.ready md ops listed).contains i = true := by kernel_rfl)
    (h1 : Region.wanted oi (yielded ops a.tmps) = true := by rfl) (hy : ∀ w, S w → (execOp a.eval oi).run P w = .ok (.value v) w := by intro V hSV; (try dsimp only at hSV); go_simp; (try with_reducible rfl))
    (hQ : ∀ c a w, Q (.panic c) (a.put oi.dst v) w → Q (.panic c) a w := by exact fun _ _ _ h => h)
    (hb : a.put oi.dst v = b := by (first | (simp only [Act.put, List.setIfInBounds_toArray, List.set_cons_zero, List.set_cons_succ]; done) | (simp only [Act.put, List.setIfInBounds_toArray, List.set_cons_zero, List.set_cons_succ]; rfl) | rfl))
    (h : wpAnyH P md ops Q S fuel (listed.setIfInBounds i true) b w) : wpAnyH P md ops Q S (fuel + 1) listed a w :=
  wpAnyH_take hi hs hf hr hQ (.inl ⟨h1, hy⟩) hS (by rw [hb]; exact h)
theorem sk (i : Nat) {oi : Oper} {fuel : Nat} {listed : Array Bool} {a b : Act} {w : World} (hS : S w)
    (hi : ops[i]? = some oi := by (simp only [List.getElem?_toArray, List.getElem?_cons_succ, List.getElem?_cons_zero]; rfl))
    (hs : Region.noSelect ops = true := by kernel_rfl) (hf : Region.free md ops listed i = true := by kernel_rfl) (hr : (Region.ready md ops listed).contains i = true := by kernel_rfl)
    (h1 : Region.wanted oi (yielded ops a.tmps) = false := by rfl)
    (hQ : ∀ c a w, Q (.panic c) (a.put oi.dst undef) w → Q (.panic c) a w := by exact fun _ _ _ h => h)
    (hb : a.put oi.dst undef = b := by (first | (simp only [Act.put, List.setIfInBounds_toArray, List.set_cons_zero, List.set_cons_succ]; done) | (simp only [Act.put, List.setIfInBounds_toArray, List.set_cons_zero, List.set_cons_succ]; rfl) | rfl))
    (h : wpAnyH P md ops Q S fuel (listed.setIfInBounds i true) b w) : wpAnyH P md ops Q S (fuel + 1) listed a w :=
  wpAnyH_take hi hs hf hr hQ (.inr ⟨h1, rfl⟩) hS (by rw [hb]; exact h)
end
end Go.Proofs.YtgaoeoijdpdjiabGreatDoor

namespace Go.Proofs.YtgaoeoijdpdjiabGreatDoor
open Go.RowKit


set_option maxHeartbeats 400000 in
theorem fit_any (k b x t l : Int) (w : World) (hk : Int64 k) (hb : Int64 b) (hx : Int64 x) (ht : Int64 t) (hl : Int64 l) :
    Calls Tryz.prog 14 #[.agg #[.int .i64 k, .int .i64 b, .int .i64 x, .int .i64 t, .int .i64 l]] w fun e w' =>
      e = .returned (.agg #[.int .i64 (pickZ k 2 + 1), .int .i64 (4 + 4 * pickZ b 2), .int .i64 (4 + 12 * pickZ x 2), .int .i64 (pickZ t 4 + 1), .int .i64 (pickZ l 3 + 1)]) ∧ Below w.heap.size w w' := by
  have p1 := pickZ_bd k 2 (by omega)
  have p2 := pickZ_bd b 2 (by omega)
  have p3 := pickZ_bd x 2 (by omega)
  have p4 := pickZ_bd t 4 (by omega)
  have p5 := pickZ_bd l 3 (by omega)
  obtain ⟨p1a, p1b⟩ := p1
  obtain ⟨p2a, p2b⟩ := p2
  obtain ⟨p3a, p3b⟩ := p3
  obtain ⟨p4a, p4b⟩ := p4
  obtain ⟨p5a, p5b⟩ := p5
  go_enter Tryz.func14, Tryz.ntmps14
  go_wp2_with fail
  refine (pick_any k 2 _ (by omega) (by omega) hk.1 hk.2).mono ?_
  rintro e w1 ⟨rfl, rfl⟩
  go_wp2_with fail
  refine (pick_any b 2 _ (by omega) (by omega) hb.1 hb.2).mono ?_
  rintro e w1 ⟨rfl, rfl⟩
  go_wp2_with fail
  refine (pick_any x 2 _ (by omega) (by omega) hx.1 hx.2).mono ?_
  rintro e w1 ⟨rfl, rfl⟩
  go_wp2_with fail
  refine (pick_any t 4 _ (by omega) (by omega) ht.1 ht.2).mono ?_
  rintro e w1 ⟨rfl, rfl⟩
  go_wp2_with fail
  refine (pick_any l 3 _ (by omega) (by omega) hl.1 hl.2).mono ?_
  rintro e w1 ⟨rfl, rfl⟩
  go_wp2
  refine bodyPost_ret (v := .agg #[.int .i64 (pickZ k 2 + 1), .int .i64 (4 + 4 * pickZ b 2), .int .i64 (4 + 12 * pickZ x 2), .int .i64 (pickZ t 4 + 1), .int .i64 (pickZ l 3 + 1)]) (by simp [results, Tryz.results14, go_sem]) rfl ⟨rfl, ?_⟩
  first
    | exact ((Below.refl _ _).alloc (Nat.le_refl _) _).alloc (by simp) _
    | (repeat refine Below.setCell ?_ (by simp) _
       exact ((Below.refl _ _).alloc (Nat.le_refl _) _).alloc (by simp) _)
end Go.Proofs.YtgaoeoijdpdjiabGreatDoor

namespace Go.Proofs.YtgaoeoijdpdjiabGreatDoor
open Go.RowKit

/-- The number of the first k bytes from place o on. -/
def beN (L : List Nat) (o : Nat) : Nat → Nat
  | 0 => 0
  | k + 1 => beN L o k * 256 + at0 L (o + k)

theorem beN_lt (L : List Nat) (o k : Nat) (h : ∀ i, at0 L i < 256) : beN L o k < 256 ^ k := by
  induction k with
  | zero => simp [beN]
  | succ k ih =>
    have := h (o + k)
    simp only [beN, Nat.pow_succ]
    omega
--GEN

theorem or_byte_32 (v c : Nat) (hv : v < 16777216) (hc : c < 256) : bits BinOp.or IntKind.u32 ((v : Int) * 256) (c : Int) = ((v * 256 + c : Nat) : Int) := by
  have h := u32_or_nat (v * 256) c (by omega) (by omega)
  have e : v * 256 ||| c = v * 256 + c := by
    have := Nat.two_pow_add_eq_or_of_lt (i := 8) hc v
    rw [Nat.mul_comm]
    exact this.symm
  rw [e] at h
  rw [Int.natCast_mul] at h
  exact h

set_option maxHeartbeats 400000 in
theorem read_32 (g o cap : Nat) (L : List Nat) (w : World) (hr : RowK w g .u8 5 L) (hL : o + 4 ≤ L.length) (hB : ∀ i, at0 L i < 256) :
    Calls Tryz.prog 319 #[.slice (some ⟨g, o, none⟩) 4 cap] w fun e w' => e = .returned (.int .u32 ((beN L o 4 : Nat) : Int)) ∧ w' = w := by
  have HR := hide hr
  have HL := hide hL
  have HB := hide hB
  clear hr hL hB
  go_enter Tryz.func319, Tryz.ntmps319
  go_wp2
  go_loop [3, 8] (fun t i => ∃ j : Nat, j ≤ 4 ∧ i = .int .i64 j ∧ t = .int .u32 ((beN L o j : Nat) : Int)) (fun _ i => 4 - (intOf i).toNat)
  case atStart => exact ⟨0, by omega, rfl, rfl⟩
  case round =>
    obtain ⟨j, hj, rfl, rfl⟩ := hrel
    by_cases hlt : j < 4
    · have c := HR.out.cell (i := o + j) (by have := HL.out; omega)
      have hc := HB.out (o + j)
      have hv : beN L o j < 16777216 := Nat.lt_of_lt_of_le (beN_lt L o j HB.out) (Nat.pow_le_pow_right (by decide) (show j ≤ 3 by omega))
      have HS : Hid (beN L o (j + 1) = beN L o j * 256 + at0 L (o + j)) := rfl
      have HO := hide (or_byte_32 (beN L o j) (at0 L (o + j)) hv hc)
      generalize beN L o j = v at hv HS HO ⊢
      generalize at0 L (o + j) = q at c hc HS HO
      go_wp2
      go_round
      case rel => exact ⟨j + 1, by omega, by go_num, by rw [HS.out, ← HO.out]⟩
      case measure => simp [intOf]; omega
    · obtain rfl : j = 4 := by omega
      go_wp2
      go_ret
      exact ⟨rfl, rfl⟩

theorem or_byte_64 (v c : Nat) (hv : v < 72057594037927936) (hc : c < 256) : bits BinOp.or IntKind.u64 ((v : Int) * 256) (c : Int) = ((v * 256 + c : Nat) : Int) := by
  have h := u64_or_nat (v * 256) c (by omega) (by omega)
  have e : v * 256 ||| c = v * 256 + c := by
    have := Nat.two_pow_add_eq_or_of_lt (i := 8) hc v
    rw [Nat.mul_comm]
    exact this.symm
  rw [e] at h
  rw [Int.natCast_mul] at h
  exact h

set_option maxHeartbeats 400000 in
theorem read_64 (g o cap : Nat) (L : List Nat) (w : World) (hr : RowK w g .u8 5 L) (hL : o + 8 ≤ L.length) (hB : ∀ i, at0 L i < 256) :
    Calls Tryz.prog 321 #[.slice (some ⟨g, o, none⟩) 8 cap] w fun e w' => e = .returned (.int .u64 ((beN L o 8 : Nat) : Int)) ∧ w' = w := by
  have HR := hide hr
  have HL := hide hL
  have HB := hide hB
  clear hr hL hB
  go_enter Tryz.func321, Tryz.ntmps321
  go_wp2
  go_loop [3, 8] (fun t i => ∃ j : Nat, j ≤ 8 ∧ i = .int .i64 j ∧ t = .int .u64 ((beN L o j : Nat) : Int)) (fun _ i => 8 - (intOf i).toNat)
  case atStart => exact ⟨0, by omega, rfl, rfl⟩
  case round =>
    obtain ⟨j, hj, rfl, rfl⟩ := hrel
    by_cases hlt : j < 8
    · have c := HR.out.cell (i := o + j) (by have := HL.out; omega)
      have hc := HB.out (o + j)
      have hv : beN L o j < 72057594037927936 := Nat.lt_of_lt_of_le (beN_lt L o j HB.out) (Nat.pow_le_pow_right (by decide) (show j ≤ 7 by omega))
      have HS : Hid (beN L o (j + 1) = beN L o j * 256 + at0 L (o + j)) := rfl
      have HO := hide (or_byte_64 (beN L o j) (at0 L (o + j)) hv hc)
      generalize beN L o j = v at hv HS HO ⊢
      generalize at0 L (o + j) = q at c hc HS HO
      go_wp2
      go_round
      case rel => exact ⟨j + 1, by omega, by go_num, by rw [HS.out, ← HO.out]⟩
      case measure => simp [intOf]; omega
    · obtain rfl : j = 8 := by omega
      go_wp2
      go_ret
      exact ⟨rfl, rfl⟩
end Go.Proofs.YtgaoeoijdpdjiabGreatDoor

namespace Go.Proofs.YtgaoeoijdpdjiabGreatDoor
open Go.RowKit

/-- Are the seeds right? -/
def seedsB (b : Int) (sec rnd pub : ByteArray) : Bool := allLen b [sec, rnd, pub]

set_option maxRecDepth 20000 in
set_option maxHeartbeats 2000000 in
theorem seedsRight_any (k b x t l : Int) (sec rnd pub : ByteArray) (w : World) :
    Calls Tryz.prog 265 #[.agg #[.int .i64 k, .int .i64 b, .int .i64 x, .int .i64 t, .int .i64 l], .agg #[.string sec, .string rnd, .string pub]] w fun e w' => e = .returned (.bool (seedsB b sec rnd pub)) ∧ Below w.heap.size w w' := by
  have HV := hide (valuesRight_some k b x t l ((w.alloc (.cells #[.int .i64 k, .int .i64 b, .int .i64 x, .int .i64 t, .int .i64 l] 26)).alloc (.cells #[.string sec, .string rnd, .string pub] 42)).heap.size 0 3 [sec, rnd, pub] (((w.alloc (.cells #[.int .i64 k, .int .i64 b, .int .i64 x, .int .i64 t, .int .i64 l] 26)).alloc (.cells #[.string sec, .string rnd, .string pub] 42)).alloc (.cells #[.string sec, .string rnd, .string pub] 9)) (by
    intro j y hj
    match j, hj with
    | 0, hj => simp at hj; subst hj; simp [go_sem]
    | 1, hj => simp at hj; subst hj; simp [go_sem]
    | 2, hj => simp at hj; subst hj; simp [go_sem]) (by simp) (by simp))
  simp only [List.length_cons, List.length_nil, Nat.reduceAdd] at HV
  have hsz : ((w.alloc (.cells #[.int .i64 k, .int .i64 b, .int .i64 x, .int .i64 t, .int .i64 l] 26)).alloc (.cells #[.string sec, .string rnd, .string pub] 42)).heap.size = w.heap.size + 1 + 1 := by simp
  rw [hsz] at HV
  unfold seedsB
  generalize allLen b [sec, rnd, pub] = r at HV ⊢
  go_enter Tryz.func265, Tryz.ntmps265
  go_wp2_with fail
  refine HV.out.mono ?_
  rintro e w1 ⟨rfl, hb1⟩
  have HB1 := hide (((((Below.refl w.heap.size w).alloc (Nat.le_refl _) _).alloc (by simp) _).alloc (by simp; omega) _).trans (hb1.mono (by simp; omega)))
  clear hsz
  clear hb1
  go_wp2
  go_ret
  exact ⟨rfl, HB1.out⟩

end Go.Proofs.YtgaoeoijdpdjiabGreatDoor

namespace Go.Proofs.YtgaoeoijdpdjiabGreatDoor
open Go.RowKit

/-- The k lowest bytes of a number, the highest first. -/
def numL : Nat → Int → List Nat
  | 0, _ => []
  | k + 1, v => (v / 256 ^ k % 256).toNat :: numL k v
theorem numL_length (k : Nat) (v : Int) : (numL k v).length = k := by induction k with | zero => rfl | succ k ih => simp [numL, ih]
theorem numL_lt (k : Nat) (v : Int) : ∀ d ∈ numL k v, d < 256 := by
  induction k with
  | zero => intro d h; cases h
  | succ k ih =>
    intro d h
    rcases List.mem_cons.1 h with rfl | h
    · omega
    · exact ih d h
/-- A number in k bytes. -/
def numB (k : Nat) (v : Int) : ByteArray := ⟨((numL k v).map UInt8.ofNat).toArray⟩
theorem numB_size (k : Nat) (v : Int) : (numB k v).size = k := by simp [numB, ByteArray.size, numL_length]

theorem infoU8 : (Tryz.prog.info? 5).map (fun i => (i.zero, i.size, i.bytes)) = some (some (.int .u8 0), 1, 1) := by kernel_rfl
theorem madeU8 (n : Nat) : madeCells (Value.int .u8 0).cells n = ((List.replicate n 0).map (fun n => Value.int .u8 ((n : Nat) : Int))).toArray := by
  apply Array.ext
  · simp [size_madeCells]
  · intro i h1 h2
    simp [madeCells, Value.cells, Nat.mod_one]
theorem makeU8 (k : Nat) (hk : k ≤ 8) (w : World) : (Instr.makeSlice 170 (.int .i64 k) (.int .i64 k)).run Tryz.prog w = .ok (.slice (some ⟨w.heap.size, 0, none⟩) k k) (w.alloc (.cells ((List.replicate k 0).map (fun n => Value.int .u8 ((n : Nat) : Int))).toArray 5)) := by
  obtain ⟨i0, hi, hz0, hz1, hz2⟩ := info_parts infoU8
  have h := run_make (P := Tryz.prog) w 170 5 i0 (.int .u8 0) Tryz.underlying170 hi hz0 .i64 .i64 k k (by omega) (by omega) (by rw [hz2]; omega) (by omega)
  rw [hz1, Nat.mul_one, Int.toNat_natCast, madeU8] at h
  exact h

/-- The text of a row of bytes. -/
theorem textRow (w : World) (g k : Nat) (D : List Nat) (hD : ∀ d ∈ D, d < 256) (h : RowK w g .u8 5 D) (hk : D.length = k) :
    (convert 170 9 (.slice (some ⟨g, 0, none⟩) k k)).run Tryz.prog w = .ok (.string ⟨(D.map UInt8.ofNat).toArray⟩) w := by
  have hl : (D.map UInt8.ofNat).length = k := by simp [hk]
  have hc := run_convert_bytes_back (P := Tryz.prog) w 170 9 5 ⟨g, 0, none⟩ k (D.map UInt8.ofNat) Tryz.underlying170 Tryz.underlying5 Tryz.underlying9 (by
    intro j hj
    have hj' : j < D.length := by simpa using hj
    have hadd : (Addr.mk g 0 none).add j = ⟨g, j, none⟩ := by unfold Addr.add; split <;> simp_all
    rw [hadd, h.cell hj']
    have hd := hD D[j] (List.getElem_mem hj')
    simp [at0, hj', Nat.mod_eq_of_lt hd])
  rw [hl] at hc
  exact hc

theorem numRow_step (k j : Nat) (v : Int) (h : j < k) : (List.replicate (j + 1) 0 ++ numL (k - (j + 1)) v).set j (v / 256 ^ (k - (j + 1)) % 256).toNat = List.replicate j 0 ++ numL (k - j) v := by
  rw [show k - j = (k - (j + 1)) + 1 by omega, numL, List.replicate_succ', List.append_assoc, List.set_append_right _ _ (by simp)]
  simp
theorem num_div (k j : Nat) (v : Int) (h : j < k) : v / 256 ^ (k - (j + 1)) / 256 = v / 256 ^ (k - j) := by
  rw [Int.ediv_ediv_of_nonneg (Int.le_of_lt (Int.pow_pos (by decide))), show k - j = (k - (j + 1)) + 1 by omega, Int.pow_succ]

set_option maxHeartbeats 1000000 in
theorem number_any (k : Nat) (v : Int) (w : World) (hk : k ≤ 8) :
    Calls Tryz.prog 160 #[.int .i64 v, .int .i64 k] w fun e w' => e = .returned (.string (numB k v)) ∧ Below w.heap.size w w' := by
  have hmk := makeU8 k hk
  go_enter Tryz.func160, Tryz.ntmps160
  go_wp2
  clear hmk
  go_loopw [0, 6] (fun t i wr => ∃ j : Nat, j ≤ k ∧ i = .int .i64 ((j : Int) - 1) ∧ t = .int .i64 (v / 256 ^ (k - j)) ∧ Hid (RowK wr w.heap.size .u8 5 (List.replicate j 0 ++ numL (k - j) v)) ∧ Hid (Below w.heap.size w wr)) (fun _ i _ => (intOf i + 1).toNat)
  case atStart =>
    refine ⟨k, Nat.le_refl _, rfl, by simp, ?_, (Below.refl _ _).alloc (Nat.le_refl _) _⟩
    show RowK _ _ _ _ _
    unfold RowK
    rw [heap_alloc_new]
    simp [numL]
  case round =>
    obtain ⟨j, hj, rfl, rfl, hr, hb⟩ := hrel
    by_cases h0 : 0 < j
    · obtain ⟨j, rfl⟩ : ∃ i, j = i + 1 := ⟨j - 1, by omega⟩
      have HD := hide (num_div k j v (by omega))
      have HS := hide (numRow_step k j v (by omega))
      have hl : (List.replicate (j + 1) 0 ++ numL (k - (j + 1)) v).length = k := by simp [numL_length]; omega
      have hc := hr.out.cell (i := j) (by omega)
      have hf := hr.out.free j
      generalize v / 256 ^ (k - (j + 1)) = q at HD HS ⊢
      clear hl
      go_wp2
      go_roundw
      case rel =>
        refine ⟨j, by omega, by go_num, ?_, ?_, ?_⟩
        · rw [← HD.out]
        · have := hr.out.set j (q % 256).toNat
          rw [HS.out, Int.toNat_of_nonneg (Int.emod_nonneg _ (by decide))] at this
          exact this
        · exact hb.out.setCell (Nat.le_refl _) _
      case measure => simp [intOf]
    · obtain rfl : j = 0 := by omega
      have HT := textRow wr w.heap.size k (numL k v) (numL_lt k v) hr.out (numL_length k v)
      go_wp2
      go_ret
      exact ⟨rfl, hb.out⟩

end Go.Proofs.YtgaoeoijdpdjiabGreatDoor

namespace Go.Proofs.YtgaoeoijdpdjiabGreatDoor
open Go.RowKit

set_option maxRecDepth 20000 in
set_option maxHeartbeats 1000000 in
theorem valuesRight_emp (k b x t l : Int) (a : Addr) (c : Nat) (w : World) :
    Calls Tryz.prog 159 #[.agg #[.int .i64 k, .int .i64 b, .int .i64 x, .int .i64 t, .int .i64 l], .slice (some a) 0 c] w fun e w' => e = .returned (.bool true) ∧ Below w.heap.size w w' := by
  go_enter Tryz.func159, Tryz.ntmps159
  go_wp2
  go_rounds 1
  go_ret
  exact ⟨rfl, (Below.refl _ _).alloc (Nat.le_refl _) _⟩
end Go.Proofs.YtgaoeoijdpdjiabGreatDoor

namespace Go.Proofs.YtgaoeoijdpdjiabGreatDoor
open Go.ChangeShapes Go.WideShapes Go.ChangeAt Go.RowKit

theorem int64_of_wf {x : Int} (h : (Lit.int .i64 x).wf = true) : Int64 x := by
  simp [Lit.wf, IntKind.min, IntKind.max, IntKind.signed, IntKind.bits] at h
  exact ⟨by omega, by omega⟩

theorem array5 {a : Array Value} (h : a.size = 5) : ∃ c0 c1 c2 c3 c4, a = #[c0, c1, c2, c3, c4] := by
  obtain ⟨l⟩ := a
  match l, h with
  | [c0, c1, c2, c3, c4], _ => exact ⟨c0, c1, c2, c3, c4, rfl⟩

theorem cellsSet : Tryz.prog.cellsOf 26 = 5 := by kernel_rfl
theorem cellsInt : Tryz.prog.cellsOf 3 = 1 := by kernel_rfl

set_option maxRecDepth 100000 in
theorem open_set {H : Type} {enc : TypeId × Value → H} {W : World} {base b0 : Nat} {sp : Nat → Bool} {held : Bool} {r : Reach} {v : Value} {d : DataW H} {p : List MemPlace}
    (hv : Value.okWide Tryz.prog W r b0 26 v) (h : DataW.Trod enc Tryz.prog W base sp held 26 v d p) :
    ∃ k b x t l : Int, v = .agg #[.int .i64 k, .int .i64 b, .int .i64 x, .int .i64 t, .int .i64 l] ∧ Int64 k ∧ Int64 b ∧ Int64 x ∧ Int64 t ∧ Int64 l := by
  obtain ⟨cs, rfl, hsz⟩ := okWide_struct Tryz.underlying26 hv
  obtain ⟨c0, c1, c2, c3, c4, rfl⟩ := array5 (hsz.trans cellsSet)
  obtain ⟨fuel, hf⟩ := h
  obtain ⟨xs, n, _, _, _, hlen, hfs⟩ := DataW.trod_struct Tryz.underlying26 hf
  simp at hlen
  have g0 : DataW.trod enc Tryz.prog W base sp held n 3 [c0] = xs[0]? := by simpa [Value.cells, cellsInt] using hfs 0 _ rfl
  have g1 : DataW.trod enc Tryz.prog W base sp held n 3 [c1] = xs[1]? := by simpa [Value.cells, cellsInt] using hfs 1 _ rfl
  have g2 : DataW.trod enc Tryz.prog W base sp held n 3 [c2] = xs[2]? := by simpa [Value.cells, cellsInt] using hfs 2 _ rfl
  have g3 : DataW.trod enc Tryz.prog W base sp held n 3 [c3] = xs[3]? := by simpa [Value.cells, cellsInt] using hfs 3 _ rfl
  have g4 : DataW.trod enc Tryz.prog W base sp held n 3 [c4] = xs[4]? := by simpa [Value.cells, cellsInt] using hfs 4 _ rfl
  rw [List.getElem?_eq_getElem (by omega)] at g0 g1 g2 g3 g4
  obtain ⟨k, e0, _, w0⟩ := DataW.trod_int Tryz.underlying3 g0
  obtain ⟨b, e1, _, w1⟩ := DataW.trod_int Tryz.underlying3 g1
  obtain ⟨x, e2, _, w2⟩ := DataW.trod_int Tryz.underlying3 g2
  obtain ⟨t, e3, _, w3⟩ := DataW.trod_int Tryz.underlying3 g3
  obtain ⟨l, e4, _, w4⟩ := DataW.trod_int Tryz.underlying3 g4
  simp at e0 e1 e2 e3 e4
  subst e0 e1 e2 e3 e4
  exact ⟨k, b, x, t, l, rfl, int64_of_wf w0, int64_of_wf w1, int64_of_wf w2, int64_of_wf w3, int64_of_wf w4⟩
end Go.Proofs.YtgaoeoijdpdjiabGreatDoor

namespace Go.Proofs.YtgaoeoijdpdjiabGreatDoor

/-- Behind the columns: the upper words move on, the round's number goes into the first. -/
def roundW (r : Nat) : List Nat → List Nat
  | [a0, a1, a2, a3, a4, a5, a6, a7] => [a0 ^^^ r, a1, a2, a3, a5, a6, a7, a4]
  | L => L
def stirTo (b : Nat) (L : List Nat) : Nat → List Nat
  | 0 => L
  | r + 1 => roundW (r + 1) (mixTo b (stirTo b L r) 4)

theorem eight_of {L : List Nat} (h : L.length = 8) : ∃ a0 a1 a2 a3 a4 a5 a6 a7, L = [a0, a1, a2, a3, a4, a5, a6, a7] := by
  match L, h with
  | [a0, a1, a2, a3, a4, a5, a6, a7], _ => exact ⟨a0, a1, a2, a3, a4, a5, a6, a7, rfl⟩
theorem roundW_length (r : Nat) (L : List Nat) (h : L.length = 8) : (roundW r L).length = 8 := by
  obtain ⟨a0, a1, a2, a3, a4, a5, a6, a7, rfl⟩ := eight_of h
  rfl
theorem stirTo_length (b : Nat) (L : List Nat) (r : Nat) (h : L.length = 8) : (stirTo b L r).length = 8 := by
  induction r with
  | zero => exact h
  | succ r ih => exact roundW_length _ _ (by rw [mixTo_length]; exact ih)
theorem stirTo_words (b : Nat) (L : List Nat) (r : Nat) (hl : L.length = 8) (h : Words b L) (hb : 4 ≤ b := by decide) (hr : r ≤ 8 := by omega) : Words b (stirTo b L r) := by
  induction r with
  | zero => exact h
  | succ r ih =>
    have hm := mixTo_words b (stirTo b L r) 4 (ih (by omega))
    obtain ⟨a0, a1, a2, a3, a4, a5, a6, a7, e⟩ := eight_of (show (mixTo b (stirTo b L r) 4).length = 8 by rw [mixTo_length]; exact stirTo_length b L r hl)
    show Words b (roundW (r + 1) (mixTo b (stirTo b L r) 4))
    rw [e] at hm ⊢
    have h16 : 2 ^ 4 ≤ 2 ^ b := Nat.pow_le_pow_right (by decide) hb
    intro x hx
    simp only [roundW, List.mem_cons, List.not_mem_nil, or_false] at hx
    rcases hx with rfl | rfl | rfl | rfl | rfl | rfl | rfl | rfl
    · exact Nat.xor_lt_two_pow (hm a0 (by simp)) (by omega)
    all_goals exact hm _ (by simp)

end Go.Proofs.YtgaoeoijdpdjiabGreatDoor

namespace Go.Proofs.YtgaoeoijdpdjiabGreatDoor
open Go.RowKit

theorem bcell {W w1 : World} (hb : Below W.heap.size W w1) : (∀ b o, b < W.heap.size → w1.cell? ⟨b, o, none⟩ = W.cell? ⟨b, o, none⟩) ∧ (∀ b o, b < W.heap.size → w1.frozen? ⟨b, o, none⟩ = W.frozen? ⟨b, o, none⟩) :=
  ⟨fun b o h => hb.cell (p := ⟨b, o, none⟩) h, fun b o h => hb.frozen (p := ⟨b, o, none⟩) h⟩

set_option maxHeartbeats 400000 in
theorem check_any (k b x t l : Int) (w : World) :
    Calls Tryz.prog 231 #[.agg #[.int .i64 k, .int .i64 b, .int .i64 x, .int .i64 t, .int .i64 l]] w fun e w' => e = .returned (.int .i64 (if rightB k b x t l then 0 else 1)) ∧ Below w.heap.size w w' := by
  cases hr : rightB k b x t l
  all_goals
    go_enter Tryz.func231, Tryz.ntmps231
    go_wp2_with (go_at_call 279; refine (right_any _ _ _ _ _ _).mono ?_; rintro e w' ⟨rfl, hb⟩)
    go_ret
    refine ⟨rfl, ?_⟩
    exact ((Below.refl _ _).alloc (Nat.le_refl _) _).trans (hb.mono (by simp))

/-- What follows from a set that is right. -/
def firstZ (b x : Int) : Int := b * each x
def lastZ (b x : Int) : Int := if x = 16 then 2 else if b = 4 then 3 else 4
def chainsZ (b x : Int) : Int := firstZ b x + lastZ b x
def totalZ (t l : Int) : Int := 2 ^ (t * l).toNat
def sigZ (b x t l : Int) : Int := 4 + b + l * (chainsZ b x + t) * b

theorem shift_total (t l : Int) (h1 : 1 ≤ t) (h2 : t ≤ 4) (h3 : 1 ≤ l) (h4 : l ≤ 3) : ∀ w : World, Sem.run Tryz.prog (Op.shift BinOp.shl IntKind.i64 1 IntKind.i64 (IntKind.i64.wrap (t * l))) w = .ok (.int .i64 (totalZ t l)) w := by
  rcases (show t = 1 ∨ t = 2 ∨ t = 3 ∨ t = 4 by omega) with rfl | rfl | rfl | rfl <;> rcases (show l = 1 ∨ l = 2 ∨ l = 3 by omega) with rfl | rfl | rfl <;> intro w <;> rfl

theorem cell_other {w : World} {a p : Addr} (v : Value) (h : p.block ≠ a.block) : (w.setCell a v).cell? p = w.cell? p := World.cell?_of_block (Below.heap_setCell _ _ _ _ h)
theorem five_other {w : World} {B C o : Nat} {k b x t l : Int} (h : Five w B k b x t l) (v : Value) (hne : B ≠ C) : Five (w.setCell ⟨C, o, none⟩ v) B k b x t l :=
  ⟨(cell_other v hne).trans h.1, (cell_other v hne).trans h.2.1, (cell_other v hne).trans h.2.2.1, (cell_other v hne).trans h.2.2.2.1, (cell_other v hne).trans h.2.2.2.2⟩

/-- The new variable of the sizes holds noughts. -/
theorem six_zero {w w' : World} {o : Array Value} (hb : Below ((w.alloc (.cells o 26)).alloc (.cells #[.int .i64 0, .int .i64 0, .int .i64 0, .int .i64 0, .int .i64 0, .int .i64 0] 158)).heap.size ((w.alloc (.cells o 26)).alloc (.cells #[.int .i64 0, .int .i64 0, .int .i64 0, .int .i64 0, .int .i64 0, .int .i64 0] 158)) w') :
    w'.cell? ⟨w.heap.size + 1, 0, none⟩ = some (.int .i64 0) ∧ w'.cell? ⟨w.heap.size + 1, 1, none⟩ = some (.int .i64 0) ∧ w'.cell? ⟨w.heap.size + 1, 2, none⟩ = some (.int .i64 0) ∧
    w'.cell? ⟨w.heap.size + 1, 3, none⟩ = some (.int .i64 0) ∧ w'.cell? ⟨w.heap.size + 1, 4, none⟩ = some (.int .i64 0) ∧ w'.cell? ⟨w.heap.size + 1, 5, none⟩ = some (.int .i64 0) := by
  refine ⟨?_, ?_, ?_, ?_, ?_, ?_⟩ <;> exact (hb.cell (by simp)).trans (by simp [go_sem])
end Go.Proofs.YtgaoeoijdpdjiabGreatDoor
