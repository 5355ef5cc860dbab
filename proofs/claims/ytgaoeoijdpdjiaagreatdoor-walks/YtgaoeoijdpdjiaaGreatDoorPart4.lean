/-
  A whole number in so many bytes, the highest first: the program's Number. The program's read over words of two kinds: the bytes of a word, the highest first. A step through a region that draws its order: an operation that only reads is taken; one whose guard says no is passed by. The document's own words: what a word holds, a word rotated, the columns' numbers.
-/
import Derived.Test.YtgaoeoijdpdjiaaGreatDoorPart2
import Derived.WalkSpells
import Derived.WalkLawsBesides
import Derived.Handy
import Derived.Laws.MakeOwn
import Derived.Test.YtgaoeoijdpdjiaaGreatDoorPart3
import Derived.Deep.RegionHeld3
namespace Go.Proofs.YtgaoeoijdpdjiaaGreatDoor
open Go.RowKit
/-- The k lowest bytes of a number, the highest first. -/
def numL : Nat → Int → List Nat
  | 0, _ => []
  | k + 1, v => (v / 256 ^ k % 256).toNat :: numL k v
theorem numL_length (k : Nat) (v : Int) : (numL k v).length = k := by induction k with | zero => rfl | succ k ih => simp [numL, ih]
theorem numL_lt (k : Nat) (v : Int) : ∀ d ∈ numL k v, d < 256 := by
  induction k with
  | zero => intro d h; cases h
  | succ k ih =>
    intro d h
    rcases List.mem_cons.1 h with rfl | h
    · omega
    · exact ih d h
/-- A number in k bytes. -/
def numB (k : Nat) (v : Int) : ByteArray := ⟨((numL k v).map UInt8.ofNat).toArray⟩
theorem numB_size (k : Nat) (v : Int) : (numB k v).size = k := by simp [numB, ByteArray.size, numL_length]
theorem infoU8 : (Tryz.prog.info? 5).map (fun i => (i.zero, i.size, i.bytes)) = some (some (.int .u8 0), 1, 1) := by kernel_rfl
theorem madeU8 (n : Nat) : madeCells (Value.int .u8 0).cells n = ((List.replicate n 0).map (fun n => Value.int .u8 ((n : Nat) : Int))).toArray := by
  apply Array.ext
  · simp [size_madeCells]
  · intro i h1 h2
    simp [madeCells, Value.cells, Nat.mod_one]
theorem makeU8 (k : Nat) (hk : k ≤ 8) (w : World) : (Instr.makeSlice 125 (.int .i64 k) (.int .i64 k)).run Tryz.prog w = .ok (.slice (some ⟨w.heap.size, 0, none⟩) k k) (w.alloc (.cells ((List.replicate k 0).map (fun n => Value.int .u8 ((n : Nat) : Int))).toArray 5)) := by
  obtain ⟨i0, hi, hz0, hz1, hz2⟩ := info_parts infoU8
  have h := run_make (P := Tryz.prog) w 125 5 i0 (.int .u8 0) Tryz.underlying125 hi hz0 .i64 .i64 k k (by omega) (by omega) (by rw [hz2]; omega) (by omega)
  rw [hz1, Nat.mul_one, Int.toNat_natCast, madeU8] at h
  exact h
/-- The text of a row of bytes. -/
theorem textRow (w : World) (g k : Nat) (D : List Nat) (hD : ∀ d ∈ D, d < 256) (h : RowK w g .u8 5 D) (hk : D.length = k) :
    (convert 125 9 (.slice (some ⟨g, 0, none⟩) k k)).run Tryz.prog w = .ok (.string ⟨(D.map UInt8.ofNat).toArray⟩) w := by
  have hl : (D.map UInt8.ofNat).length = k := by simp [hk]
  have hc := run_convert_bytes_back (P := Tryz.prog) w 125 9 5 ⟨g, 0, none⟩ k (D.map UInt8.ofNat) Tryz.underlying125 Tryz.underlying5 Tryz.underlying9 (by
    intro j hj
    have hj' : j < D.length := by simpa using hj
    have hadd : (Addr.mk g 0 none).add j = ⟨g, j, none⟩ := by unfold Addr.add; split <;> simp_all
    rw [hadd, h.cell hj']
    have hd := hD D[j] (List.getElem_mem hj')
    simp [at0, hj', Nat.mod_eq_of_lt hd])
  rw [hl] at hc
  exact hc
theorem numRow_step (k j : Nat) (v : Int) (h : j < k) : (List.replicate (j + 1) 0 ++ numL (k - (j + 1)) v).set j (v / 256 ^ (k - (j + 1)) % 256).toNat = List.replicate j 0 ++ numL (k - j) v := by
  rw [show k - j = (k - (j + 1)) + 1 by omega, numL, List.replicate_succ', List.append_assoc, List.set_append_right _ _ (by simp)]
  simp
theorem num_div (k j : Nat) (v : Int) (h : j < k) : v / 256 ^ (k - (j + 1)) / 256 = v / 256 ^ (k - j) := by
  rw [Int.ediv_ediv_of_nonneg (Int.le_of_lt (Int.pow_pos (by decide))), show k - j = (k - (j + 1)) + 1 by omega, Int.pow_succ]
set_option maxHeartbeats 1000000 in
theorem number_any (k : Nat) (v : Int) (w : World) (hk : k ≤ 8) :
    Calls Tryz.prog 234 #[.int .i64 v, .int .i64 k] w fun e w' => e = .returned (.string (numB k v)) ∧ Below w.heap.size w w' := by
  have hmk := makeU8 k hk
  go_enter Tryz.func234, Tryz.ntmps234
  go_wp2
  clear hmk
  go_loopw [0, 6] (fun t i wr => ∃ j : Nat, j ≤ k ∧ i = .int .i64 ((j : Int) - 1) ∧ t = .int .i64 (v / 256 ^ (k - j)) ∧ Hid (RowK wr w.heap.size .u8 5 (List.replicate j 0 ++ numL (k - j) v)) ∧ Hid (Below w.heap.size w wr)) (fun _ i _ => (intOf i + 1).toNat)
  case atStart =>
    refine ⟨k, Nat.le_refl _, rfl, by simp, ?_, (Below.refl _ _).alloc (Nat.le_refl _) _⟩
    show RowK _ _ _ _ _
    unfold RowK
    rw [heap_alloc_new]
    simp [numL]
  case round =>
    obtain ⟨j, hj, rfl, rfl, hr, hb⟩ := hrel
    by_cases h0 : 0 < j
    · obtain ⟨j, rfl⟩ : ∃ i, j = i + 1 := ⟨j - 1, by omega⟩
      have HD := hide (num_div k j v (by omega))
      have HS := hide (numRow_step k j v (by omega))
      have hl : (List.replicate (j + 1) 0 ++ numL (k - (j + 1)) v).length = k := by simp [numL_length]; omega
      have hc := hr.out.cell (i := j) (by omega)
      have hf := hr.out.free j
      generalize v / 256 ^ (k - (j + 1)) = q at HD HS ⊢
      clear hl
      go_wp2
      go_roundw
      case rel =>
        refine ⟨j, by omega, by go_num, ?_, ?_, ?_⟩
        · rw [← HD.out]
        · have := hr.out.set j (q % 256).toNat
          rw [HS.out, Int.toNat_of_nonneg (Int.emod_nonneg _ (by decide))] at this
          exact this
        · exact hb.out.setCell (Nat.le_refl _) _
      case measure => simp [intOf]
    · obtain rfl : j = 0 := by omega
      have HT := textRow wr w.heap.size k (numL k v) (numL_lt k v) hr.out (numL_length k v)
      go_wp2
      go_ret
      exact ⟨rfl, hb.out⟩
end Go.Proofs.YtgaoeoijdpdjiaaGreatDoor

namespace Go.Proofs.YtgaoeoijdpdjiaaGreatDoor
open Go.RowKit
/-- The number of the first k bytes from place o on. -/
def beN (L : List Nat) (o : Nat) : Nat → Nat
  | 0 => 0
  | k + 1 => beN L o k * 256 + at0 L (o + k)
theorem beN_lt (L : List Nat) (o k : Nat) (h : ∀ i, at0 L i < 256) : beN L o k < 256 ^ k := by
  induction k with
  | zero => simp [beN]
  | succ k ih =>
    have := h (o + k)
    simp only [beN, Nat.pow_succ]
    omega
--GEN
theorem or_byte_32 (v c : Nat) (hv : v < 16777216) (hc : c < 256) : bits BinOp.or IntKind.u32 ((v : Int) * 256) (c : Int) = ((v * 256 + c : Nat) : Int) := by
  have h := u32_or_nat (v * 256) c (by omega) (by omega)
  have e : v * 256 ||| c = v * 256 + c := by
    have := Nat.two_pow_add_eq_or_of_lt (i := 8) hc v
    rw [Nat.mul_comm]
    exact this.symm
  rw [e] at h
  rw [Int.natCast_mul] at h
  exact h
set_option maxHeartbeats 400000 in
theorem read_32 (g o cap : Nat) (L : List Nat) (w : World) (hr : RowK w g .u8 5 L) (hL : o + 4 ≤ L.length) (hB : ∀ i, at0 L i < 256) :
    Calls Tryz.prog 271 #[.slice (some ⟨g, o, none⟩) 4 cap] w fun e w' => e = .returned (.int .u32 ((beN L o 4 : Nat) : Int)) ∧ w' = w := by
  have HR := hide hr
  have HL := hide hL
  have HB := hide hB
  clear hr hL hB
  go_enter Tryz.func271, Tryz.ntmps271
  go_wp2
  go_loop [3, 8] (fun t i => ∃ j : Nat, j ≤ 4 ∧ i = .int .i64 j ∧ t = .int .u32 ((beN L o j : Nat) : Int)) (fun _ i => 4 - (intOf i).toNat)
  case atStart => exact ⟨0, by omega, rfl, rfl⟩
  case round =>
    obtain ⟨j, hj, rfl, rfl⟩ := hrel
    by_cases hlt : j < 4
    · have c := HR.out.cell (i := o + j) (by have := HL.out; omega)
      have hc := HB.out (o + j)
      have hv : beN L o j < 16777216 := Nat.lt_of_lt_of_le (beN_lt L o j HB.out) (Nat.pow_le_pow_right (by decide) (show j ≤ 3 by omega))
      have HS : Hid (beN L o (j + 1) = beN L o j * 256 + at0 L (o + j)) := rfl
      have HO := hide (or_byte_32 (beN L o j) (at0 L (o + j)) hv hc)
      generalize beN L o j = v at hv HS HO ⊢
      generalize at0 L (o + j) = q at c hc HS HO
      go_wp2
      go_round
      case rel => exact ⟨j + 1, by omega, by go_num, by rw [HS.out, ← HO.out]⟩
      case measure => simp [intOf]; omega
    · obtain rfl : j = 4 := by omega
      go_wp2
      go_ret
      exact ⟨rfl, rfl⟩
theorem or_byte_64 (v c : Nat) (hv : v < 72057594037927936) (hc : c < 256) : bits BinOp.or IntKind.u64 ((v : Int) * 256) (c : Int) = ((v * 256 + c : Nat) : Int) := by
  have h := u64_or_nat (v * 256) c (by omega) (by omega)
  have e : v * 256 ||| c = v * 256 + c := by
    have := Nat.two_pow_add_eq_or_of_lt (i := 8) hc v
    rw [Nat.mul_comm]
    exact this.symm
  rw [e] at h
  rw [Int.natCast_mul] at h
  exact h
set_option maxHeartbeats 400000 in
theorem read_64 (g o cap : Nat) (L : List Nat) (w : World) (hr : RowK w g .u8 5 L) (hL : o + 8 ≤ L.length) (hB : ∀ i, at0 L i < 256) :
    Calls Tryz.prog 273 #[.slice (some ⟨g, o, none⟩) 8 cap] w fun e w' => e = .returned (.int .u64 ((beN L o 8 : Nat) : Int)) ∧ w' = w := by
  have HR := hide hr
  have HL := hide hL
  have HB := hide hB
  clear hr hL hB
  go_enter Tryz.func273, Tryz.ntmps273
  go_wp2
  go_loop [3, 8] (fun t i => ∃ j : Nat, j ≤ 8 ∧ i = .int .i64 j ∧ t = .int .u64 ((beN L o j : Nat) : Int)) (fun _ i => 8 - (intOf i).toNat)
  case atStart => exact ⟨0, by omega, rfl, rfl⟩
  case round =>
    obtain ⟨j, hj, rfl, rfl⟩ := hrel
    by_cases hlt : j < 8
    · have c := HR.out.cell (i := o + j) (by have := HL.out; omega)
      have hc := HB.out (o + j)
      have hv : beN L o j < 72057594037927936 := Nat.lt_of_lt_of_le (beN_lt L o j HB.out) (Nat.pow_le_pow_right (by decide) (show j ≤ 7 by omega))
      have HS : Hid (beN L o (j + 1) = beN L o j * 256 + at0 L (o + j)) := rfl
      have HO := hide (or_byte_64 (beN L o j) (at0 L (o + j)) hv hc)
      generalize beN L o j = v at hv HS HO ⊢
      generalize at0 L (o + j) = q at c hc HS HO
      go_wp2
      go_round
      case rel => exact ⟨j + 1, by omega, by go_num, by rw [HS.out, ← HO.out]⟩
      case measure => simp [intOf]; omega
    · obtain rfl : j = 8 := by omega
      go_wp2
      go_ret
      exact ⟨rfl, rfl⟩
end Go.Proofs.YtgaoeoijdpdjiaaGreatDoor

namespace Go.Proofs.YtgaoeoijdpdjiaaGreatDoor
open Go.RowKit
section
variable {P : Program} {ops : Array Oper} {Q : Exit → Act → World → Prop} {md : Region.Mode} {S : World → Prop}
theorem tk (i : Nat) {oi : Oper} {v : Value} {fuel : Nat} {listed : Array Bool} {a b : Act} {w : World} (hS : S w)
    (hi : ops[i]? = some oi := by (simp only [List.getElem?_toArray, List.getElem?_cons_succ, List.getElem?_cons_zero]; rfl))
    (hs : Region.noSelect ops = true := by kernel_rfl) (hf : Region.free md ops listed i = true := by kernel_rfl) (hr : (Region.ready md ops listed).contains i = true := by kernel_rfl)
    (h1 : Region.wanted oi (yielded ops a.tmps) = true := by rfl) (hy : ∀ w, S w → (execOp a.eval oi).run P w = .ok (.value v) w := by intro V hSV; (try dsimp only at hSV); go_simp; (try with_reducible rfl))
    (hQ : ∀ c a w, Q (.panic c) (a.put oi.dst v) w → Q (.panic c) a w := by exact fun _ _ _ h => h)
    (hb : a.put oi.dst v = b := by (first | (simp only [Act.put, List.setIfInBounds_toArray, List.set_cons_zero, List.set_cons_succ]; done) | (simp only [Act.put, List.setIfInBounds_toArray, List.set_cons_zero, List.set_cons_succ]; rfl) | rfl))
    (h : wpAnyH P md ops Q S fuel (listed.setIfInBounds i true) b w) : wpAnyH P md ops Q S (fuel + 1) listed a w :=
  wpAnyH_take hi hs hf hr hQ (.inl ⟨h1, hy⟩) hS (by rw [hb]; exact h)
theorem sk (i : Nat) {oi : Oper} {fuel : Nat} {listed : Array Bool} {a b : Act} {w : World} (hS : S w)
    (hi : ops[i]? = some oi := by (simp only [List.getElem?_toArray, List.getElem?_cons_succ, List.getElem?_cons_zero]; rfl))
    (hs : Region.noSelect ops = true := by kernel_rfl) (hf : Region.free md ops listed i = true := by kernel_rfl) (hr : (Region.ready md ops listed).contains i = true := by kernel_rfl)
    (h1 : Region.wanted oi (yielded ops a.tmps) = false := by rfl)
    (hQ : ∀ c a w, Q (.panic c) (a.put oi.dst undef) w → Q (.panic c) a w := by exact fun _ _ _ h => h)
    (hb : a.put oi.dst undef = b := by (first | (simp only [Act.put, List.setIfInBounds_toArray, List.set_cons_zero, List.set_cons_succ]; done) | (simp only [Act.put, List.setIfInBounds_toArray, List.set_cons_zero, List.set_cons_succ]; rfl) | rfl))
    (h : wpAnyH P md ops Q S fuel (listed.setIfInBounds i true) b w) : wpAnyH P md ops Q S (fuel + 1) listed a w :=
  wpAnyH_take hi hs hf hr hQ (.inr ⟨h1, rfl⟩) hS (by rw [hb]; exact h)
end
end Go.Proofs.YtgaoeoijdpdjiaaGreatDoor

namespace Go.Proofs.YtgaoeoijdpdjiaaGreatDoor
open Go.RowKit
set_option maxHeartbeats 400000 in
theorem turn_any (i : Nat) (w : World) (hi : i < 4) : Calls Tryz.prog 281 #[.int .i64 i] w fun e w' => e = .returned (.int .i64 ((turnN i : Nat) : Int)) ∧ w' = w := by
  rcases (show i = 0 ∨ i = 1 ∨ i = 2 ∨ i = 3 by omega) with rfl | rfl | rfl | rfl
  all_goals
    go_enter Tryz.func281, Tryz.ntmps281
    go_wp2
    go_ret
    exact ⟨rfl, rfl⟩
set_option maxHeartbeats 400000 in
theorem kept_32 (g x : Nat) (w : World) (hc : w.cell? ⟨g, 8, none⟩ = some (.int .i64 32)) (hx : x < 18446744073709551616) :
    Calls Tryz.prog 279 #[.pointer (some ⟨g, 0, none⟩), .int .u64 x] w fun e w' => e = .returned (.int .u64 ((x % 4294967296 : Nat) : Int)) ∧ w' = w := by
  go_enter Tryz.func279, Tryz.ntmps279
  go_wp2
  go_ret
  exact ⟨rfl, rfl⟩
theorem rrot_32_5 (x : Nat) (hx : x < 4294967296) : bits BinOp.or IntKind.u64 (((x * 32 % 4294967296 : Nat)) : Int) ((x : Int) / 134217728) = ((rotW 32 x 5 : Nat) : Int) := by
  have h := u64_or_nat (x * 32 % 4294967296) (x / 134217728) (Nat.lt_trans (Nat.mod_lt _ (by decide : 0 < 4294967296)) (by decide)) (by omega)
  rw [Int.natCast_ediv] at h
  exact h
theorem rrot_32_11 (x : Nat) (hx : x < 4294967296) : bits BinOp.or IntKind.u64 (((x * 2048 % 4294967296 : Nat)) : Int) ((x : Int) / 2097152) = ((rotW 32 x 11 : Nat) : Int) := by
  have h := u64_or_nat (x * 2048 % 4294967296) (x / 2097152) (Nat.lt_trans (Nat.mod_lt _ (by decide : 0 < 4294967296)) (by decide)) (by omega)
  rw [Int.natCast_ediv] at h
  exact h
theorem rrot_32_19 (x : Nat) (hx : x < 4294967296) : bits BinOp.or IntKind.u64 (((x * 524288 % 4294967296 : Nat)) : Int) ((x : Int) / 8192) = ((rotW 32 x 19 : Nat) : Int) := by
  have h := u64_or_nat (x * 524288 % 4294967296) (x / 8192) (Nat.lt_trans (Nat.mod_lt _ (by decide : 0 < 4294967296)) (by decide)) (by omega)
  rw [Int.natCast_ediv] at h
  exact h
theorem rrot_32_26 (x : Nat) (hx : x < 4294967296) : bits BinOp.or IntKind.u64 (((x * 67108864 % 4294967296 : Nat)) : Int) ((x : Int) / 64) = ((rotW 32 x 26 : Nat) : Int) := by
  have h := u64_or_nat (x * 67108864 % 4294967296) (x / 64) (Nat.lt_trans (Nat.mod_lt _ (by decide : 0 < 4294967296)) (by decide)) (by omega)
  rw [Int.natCast_ediv] at h
  exact h
set_option maxHeartbeats 400000 in
theorem rturned_32 (g x k : Nat) (w : World) (hc : w.cell? ⟨g, 8, none⟩ = some (.int .i64 32)) (hx : x < 4294967296) (hk : k = 5 ∨ k = 11 ∨ k = 19 ∨ k = 26) :
    Calls Tryz.prog 280 #[.pointer (some ⟨g, 0, none⟩), .int .u64 x, .int .i64 k] w fun e w' => e = .returned (.int .u64 ((rotW 32 x k : Nat) : Int)) ∧ w' = w := by
  rcases hk with rfl | rfl | rfl | rfl
  · go_enter Tryz.func280, Tryz.ntmps280
    go_wp2_with fail
    rw [show ((x : Int) * 32) = (((x * 32) : Nat) : Int) by omega]
    refine (kept_32 g (x * 32) _ hc (by omega)).mono ?_
    rintro e w1 ⟨rfl, rfl⟩
    go_wp2
    go_ret
    exact ⟨congrArg (fun z : Int => Ending.returned (.int .u64 z)) (rrot_32_5 x hx), rfl⟩
  · go_enter Tryz.func280, Tryz.ntmps280
    go_wp2_with fail
    rw [show ((x : Int) * 2048) = (((x * 2048) : Nat) : Int) by omega]
    refine (kept_32 g (x * 2048) _ hc (by omega)).mono ?_
    rintro e w1 ⟨rfl, rfl⟩
    go_wp2
    go_ret
    exact ⟨congrArg (fun z : Int => Ending.returned (.int .u64 z)) (rrot_32_11 x hx), rfl⟩
  · go_enter Tryz.func280, Tryz.ntmps280
    go_wp2_with fail
    rw [show ((x : Int) * 524288) = (((x * 524288) : Nat) : Int) by omega]
    refine (kept_32 g (x * 524288) _ hc (by omega)).mono ?_
    rintro e w1 ⟨rfl, rfl⟩
    go_wp2
    go_ret
    exact ⟨congrArg (fun z : Int => Ending.returned (.int .u64 z)) (rrot_32_19 x hx), rfl⟩
  · go_enter Tryz.func280, Tryz.ntmps280
    go_wp2_with fail
    rw [show ((x : Int) * 67108864) = (((x * 67108864) : Nat) : Int) by omega]
    refine (kept_32 g (x * 67108864) _ hc (by omega)).mono ?_
    rintro e w1 ⟨rfl, rfl⟩
    go_wp2
    go_ret
    exact ⟨congrArg (fun z : Int => Ending.returned (.int .u64 z)) (rrot_32_26 x hx), rfl⟩
set_option maxHeartbeats 400000 in
theorem kept_64 (g x : Nat) (w : World) (hc : w.cell? ⟨g, 8, none⟩ = some (.int .i64 64)) (_hx : x < 18446744073709551616) :
    Calls Tryz.prog 279 #[.pointer (some ⟨g, 0, none⟩), .int .u64 x] w fun e w' => e = .returned (.int .u64 ((x : Nat) : Int)) ∧ w' = w := by
  go_enter Tryz.func279, Tryz.ntmps279
  go_wp2
  go_ret
  exact ⟨rfl, rfl⟩
theorem rrot_64_5 (x : Nat) (hx : x < 18446744073709551616) : bits BinOp.or IntKind.u64 (((x * 32 % 18446744073709551616 : Nat)) : Int) ((x : Int) / 576460752303423488) = ((rotW 64 x 5 : Nat) : Int) := by
  have h := u64_or_nat (x * 32 % 18446744073709551616) (x / 576460752303423488) (Nat.mod_lt _ (by decide)) (by omega)
  rw [Int.natCast_ediv] at h
  exact h
theorem rrot_64_11 (x : Nat) (hx : x < 18446744073709551616) : bits BinOp.or IntKind.u64 (((x * 2048 % 18446744073709551616 : Nat)) : Int) ((x : Int) / 9007199254740992) = ((rotW 64 x 11 : Nat) : Int) := by
  have h := u64_or_nat (x * 2048 % 18446744073709551616) (x / 9007199254740992) (Nat.mod_lt _ (by decide)) (by omega)
  rw [Int.natCast_ediv] at h
  exact h
theorem rrot_64_19 (x : Nat) (hx : x < 18446744073709551616) : bits BinOp.or IntKind.u64 (((x * 524288 % 18446744073709551616 : Nat)) : Int) ((x : Int) / 35184372088832) = ((rotW 64 x 19 : Nat) : Int) := by
  have h := u64_or_nat (x * 524288 % 18446744073709551616) (x / 35184372088832) (Nat.mod_lt _ (by decide)) (by omega)
  rw [Int.natCast_ediv] at h
  exact h
theorem rrot_64_26 (x : Nat) (hx : x < 18446744073709551616) : bits BinOp.or IntKind.u64 (((x * 67108864 % 18446744073709551616 : Nat)) : Int) ((x : Int) / 274877906944) = ((rotW 64 x 26 : Nat) : Int) := by
  have h := u64_or_nat (x * 67108864 % 18446744073709551616) (x / 274877906944) (Nat.mod_lt _ (by decide)) (by omega)
  rw [Int.natCast_ediv] at h
  exact h
set_option maxHeartbeats 400000 in
theorem rturned_64 (g x k : Nat) (w : World) (hc : w.cell? ⟨g, 8, none⟩ = some (.int .i64 64)) (hx : x < 18446744073709551616) (hk : k = 5 ∨ k = 11 ∨ k = 19 ∨ k = 26) :
    Calls Tryz.prog 280 #[.pointer (some ⟨g, 0, none⟩), .int .u64 x, .int .i64 k] w fun e w' => e = .returned (.int .u64 ((rotW 64 x k : Nat) : Int)) ∧ w' = w := by
  rcases hk with rfl | rfl | rfl | rfl
  · go_enter Tryz.func280, Tryz.ntmps280
    go_wp2_with fail
    rw [IntKind.wrap_u64]
    rw [show ((x : Int) * 32 % 18446744073709551616) = (((x * 32 % 18446744073709551616) : Nat) : Int) by omega]
    refine (kept_64 g (x * 32 % 18446744073709551616) _ hc (by omega)).mono ?_
    rintro e w1 ⟨rfl, rfl⟩
    go_wp2
    go_ret
    exact ⟨congrArg (fun z : Int => Ending.returned (.int .u64 z)) (rrot_64_5 x hx), rfl⟩
  · go_enter Tryz.func280, Tryz.ntmps280
    go_wp2_with fail
    rw [IntKind.wrap_u64]
    rw [show ((x : Int) * 2048 % 18446744073709551616) = (((x * 2048 % 18446744073709551616) : Nat) : Int) by omega]
    refine (kept_64 g (x * 2048 % 18446744073709551616) _ hc (by omega)).mono ?_
    rintro e w1 ⟨rfl, rfl⟩
    go_wp2
    go_ret
    exact ⟨congrArg (fun z : Int => Ending.returned (.int .u64 z)) (rrot_64_11 x hx), rfl⟩
  · go_enter Tryz.func280, Tryz.ntmps280
    go_wp2_with fail
    rw [IntKind.wrap_u64]
    rw [show ((x : Int) * 524288 % 18446744073709551616) = (((x * 524288 % 18446744073709551616) : Nat) : Int) by omega]
    refine (kept_64 g (x * 524288 % 18446744073709551616) _ hc (by omega)).mono ?_
    rintro e w1 ⟨rfl, rfl⟩
    go_wp2
    go_ret
    exact ⟨congrArg (fun z : Int => Ending.returned (.int .u64 z)) (rrot_64_19 x hx), rfl⟩
  · go_enter Tryz.func280, Tryz.ntmps280
    go_wp2_with fail
    rw [IntKind.wrap_u64]
    rw [show ((x : Int) * 67108864 % 18446744073709551616) = (((x * 67108864 % 18446744073709551616) : Nat) : Int) by omega]
    refine (kept_64 g (x * 67108864 % 18446744073709551616) _ hc (by omega)).mono ?_
    rintro e w1 ⟨rfl, rfl⟩
    go_wp2
    go_ret
    exact ⟨congrArg (fun z : Int => Ending.returned (.int .u64 z)) (rrot_64_26 x hx), rfl⟩
end Go.Proofs.YtgaoeoijdpdjiaaGreatDoor
