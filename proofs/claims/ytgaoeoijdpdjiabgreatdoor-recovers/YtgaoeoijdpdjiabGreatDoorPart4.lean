/-
  A whole number in so many bytes, the highest first: the program's Number. A new disk; what a disk counts. The program's read over words of two kinds: the bytes of a word, the highest first. The stirring as a plain function of eight words. The right pairs of Bytes and Wide. math/bits.Mul of 1 and a leaf's number of chains. sets.ValuesRight, SeedsRight: has each text the length of a value? sets.lay and sets.lack, by their contracts. Package sets by contracts: perByte, right, Check; and the statements' own chains. Are seeds right? The program's SeedsRight, the document's Seeded. A number of 64 bits. The statement's own small functions: fit, chains. A set that comes in by value, opened: five numbers that an int holds.
-/
import Derived.Test.YtgaoeoijdpdjiabGreatDoorPart2
import Derived.WalkSpells
import Derived.WalkLawsBesides
import Derived.Handy
import Derived.Laws.MakeOwn
import Derived.WalkKit
import Derived.Test.YtgaoeoijdpdjiabGreatDoorPart3
import Derived.Test.YtgaoeoijdpdjiabGreatDoorRows
import Derived.Test.YtgaoeoijdpdjiabGreatDoorPart1
import Derived.BigQuiet
import Derived.Deep.QuietTactic
import Derived.Deep.RegionHeld3
import Derived.ProofKit
namespace Go.Proofs.YtgaoeoijdpdjiabGreatDoor
open Go.RowKit
/-- The k lowest bytes of a number, the highest first. -/
def numL : Nat → Int → List Nat
  | 0, _ => []
  | k + 1, v => (v / 256 ^ k % 256).toNat :: numL k v
theorem numL_length (k : Nat) (v : Int) : (numL k v).length = k := by induction k with | zero => rfl | succ k ih => simp [numL, ih]
theorem numL_lt (k : Nat) (v : Int) : ∀ d ∈ numL k v, d < 256 := by
  induction k with
  | zero => intro d h; cases h
  | succ k ih =>
    intro d h
    rcases List.mem_cons.1 h with rfl | h
    · omega
    · exact ih d h
/-- A number in k bytes. -/
def numB (k : Nat) (v : Int) : ByteArray := ⟨((numL k v).map UInt8.ofNat).toArray⟩
theorem numB_size (k : Nat) (v : Int) : (numB k v).size = k := by simp [numB, ByteArray.size, numL_length]
theorem infoU8 : (Tryz.prog.info? 5).map (fun i => (i.zero, i.size, i.bytes)) = some (some (.int .u8 0), 1, 1) := by kernel_rfl
theorem madeU8 (n : Nat) : madeCells (Value.int .u8 0).cells n = ((List.replicate n 0).map (fun n => Value.int .u8 ((n : Nat) : Int))).toArray := by
  apply Array.ext
  · simp [size_madeCells]
  · intro i h1 h2
    simp [madeCells, Value.cells, Nat.mod_one]
theorem makeU8 (k : Nat) (hk : k ≤ 8) (w : World) : (Instr.makeSlice 170 (.int .i64 k) (.int .i64 k)).run Tryz.prog w = .ok (.slice (some ⟨w.heap.size, 0, none⟩) k k) (w.alloc (.cells ((List.replicate k 0).map (fun n => Value.int .u8 ((n : Nat) : Int))).toArray 5)) := by
  obtain ⟨i0, hi, hz0, hz1, hz2⟩ := info_parts infoU8
  have h := run_make (P := Tryz.prog) w 170 5 i0 (.int .u8 0) Tryz.underlying170 hi hz0 .i64 .i64 k k (by omega) (by omega) (by rw [hz2]; omega) (by omega)
  rw [hz1, Nat.mul_one, Int.toNat_natCast, madeU8] at h
  exact h
/-- The text of a row of bytes. -/
theorem textRow (w : World) (g k : Nat) (D : List Nat) (hD : ∀ d ∈ D, d < 256) (h : RowK w g .u8 5 D) (hk : D.length = k) :
    (convert 170 9 (.slice (some ⟨g, 0, none⟩) k k)).run Tryz.prog w = .ok (.string ⟨(D.map UInt8.ofNat).toArray⟩) w := by
  have hl : (D.map UInt8.ofNat).length = k := by simp [hk]
  have hc := run_convert_bytes_back (P := Tryz.prog) w 170 9 5 ⟨g, 0, none⟩ k (D.map UInt8.ofNat) Tryz.underlying170 Tryz.underlying5 Tryz.underlying9 (by
    intro j hj
    have hj' : j < D.length := by simpa using hj
    have hadd : (Addr.mk g 0 none).add j = ⟨g, j, none⟩ := by unfold Addr.add; split <;> simp_all
    rw [hadd, h.cell hj']
    have hd := hD D[j] (List.getElem_mem hj')
    simp [at0, hj', Nat.mod_eq_of_lt hd])
  rw [hl] at hc
  exact hc
theorem numRow_step (k j : Nat) (v : Int) (h : j < k) : (List.replicate (j + 1) 0 ++ numL (k - (j + 1)) v).set j (v / 256 ^ (k - (j + 1)) % 256).toNat = List.replicate j 0 ++ numL (k - j) v := by
  rw [show k - j = (k - (j + 1)) + 1 by omega, numL, List.replicate_succ', List.append_assoc, List.set_append_right _ _ (by simp)]
  simp
theorem num_div (k j : Nat) (v : Int) (h : j < k) : v / 256 ^ (k - (j + 1)) / 256 = v / 256 ^ (k - j) := by
  rw [Int.ediv_ediv_of_nonneg (Int.le_of_lt (Int.pow_pos (by decide))), show k - j = (k - (j + 1)) + 1 by omega, Int.pow_succ]
set_option maxHeartbeats 1000000 in
theorem number_any (k : Nat) (v : Int) (w : World) (hk : k ≤ 8) :
    Calls Tryz.prog 160 #[.int .i64 v, .int .i64 k] w fun e w' => e = .returned (.string (numB k v)) ∧ Below w.heap.size w w' := by
  have hmk := makeU8 k hk
  go_enter Tryz.func160, Tryz.ntmps160
  go_wp2
  clear hmk
  go_loopw [0, 6] (fun t i wr => ∃ j : Nat, j ≤ k ∧ i = .int .i64 ((j : Int) - 1) ∧ t = .int .i64 (v / 256 ^ (k - j)) ∧ Hid (RowK wr w.heap.size .u8 5 (List.replicate j 0 ++ numL (k - j) v)) ∧ Hid (Below w.heap.size w wr)) (fun _ i _ => (intOf i + 1).toNat)
  case atStart =>
    refine ⟨k, Nat.le_refl _, rfl, by simp, ?_, (Below.refl _ _).alloc (Nat.le_refl _) _⟩
    show RowK _ _ _ _ _
    unfold RowK
    rw [heap_alloc_new]
    simp [numL]
  case round =>
    obtain ⟨j, hj, rfl, rfl, hr, hb⟩ := hrel
    by_cases h0 : 0 < j
    · obtain ⟨j, rfl⟩ : ∃ i, j = i + 1 := ⟨j - 1, by omega⟩
      have HD := hide (num_div k j v (by omega))
      have HS := hide (numRow_step k j v (by omega))
      have hl : (List.replicate (j + 1) 0 ++ numL (k - (j + 1)) v).length = k := by simp [numL_length]; omega
      have hc := hr.out.cell (i := j) (by omega)
      have hf := hr.out.free j
      generalize v / 256 ^ (k - (j + 1)) = q at HD HS ⊢
      clear hl
      go_wp2
      go_roundw
      case rel =>
        refine ⟨j, by omega, by go_num, ?_, ?_, ?_⟩
        · rw [← HD.out]
        · have := hr.out.set j (q % 256).toNat
          rw [HS.out, Int.toNat_of_nonneg (Int.emod_nonneg _ (by decide))] at this
          exact this
        · exact hb.out.setCell (Nat.le_refl _) _
      case measure => simp [intOf]
    · obtain rfl : j = 0 := by omega
      have HT := textRow wr w.heap.size k (numL k v) (numL_lt k v) hr.out (numL_length k v)
      go_wp2
      go_ret
      exact ⟨rfl, hb.out⟩
end Go.Proofs.YtgaoeoijdpdjiabGreatDoor

namespace Go.Proofs.YtgaoeoijdpdjiabGreatDoor
open Go.RowKit
/-- A sector of zeros. -/
def zeroS : ByteArray := ⟨(List.replicate 32 (0 : UInt8)).toArray⟩
theorem zeroS_size : zeroS.size = 32 := by simp [zeroS, ByteArray.size]
theorem cellsB_zero : cellsB zeroS = List.replicate 32 (.int .u8 0) := by simp [cellsB, zeroS]
def newD (n : Nat) : DSt := ⟨n, List.replicate n zeroS, [], 0, 0, 0, 0⟩
theorem newD_ok (n : Nat) (h1 : 1 ≤ n) (h2 : n ≤ 8) : DOk (newD n) :=
  ⟨by simp [newD], fun x hx => by rw [(List.mem_replicate.1 hx).2]; exact zeroS_size, fun p hp => by simp [newD] at hp, h1, h2, by simp [newD], by simp [newD], by simp [newD]⟩
theorem madeRep (m k : Nat) (hm : 0 < m) (v : Value) : madeCells (List.replicate m v).toArray k = (List.replicate k v).toArray := by
  apply Array.ext
  · simp [size_madeCells]
  · intro i h1 h2
    have : i % m < m := Nat.mod_lt _ hm
    simp [madeCells, this]
theorem infoSec : (Tryz.prog.info? 239).map (fun i => (i.zero, i.size, i.bytes)) = some (some (.agg (List.replicate 32 (Value.int .u8 0)).toArray), 32, 32) := by kernel_rfl
theorem madeSec (n : Nat) : madeCells (Value.agg (List.replicate 32 (Value.int .u8 0)).toArray).cells (n * 32) = (secs (List.replicate n zeroS)).toArray := by
  have e : secs (List.replicate n zeroS) = List.replicate (n * 32) (.int .u8 0) := by
    induction n with
    | zero => rfl
    | succ n ih =>
      rw [List.replicate_succ, secs, List.flatMap_cons, cellsB_zero]
      rw [secs] at ih
      rw [ih, Nat.succ_mul, Nat.add_comm, List.replicate_append_replicate]
  rw [e]
  exact madeRep 32 (n * 32) (by decide) _
theorem makeSec (n : Nat) (hn : n ≤ 8) (w : World) : (Instr.makeSlice 179 (.int .i64 n) (.int .i64 n)).run Tryz.prog w = .ok (.slice (some ⟨w.heap.size, 0, none⟩) n n) (w.alloc (.cells (secs (List.replicate n zeroS)).toArray 239)) := by
  obtain ⟨i0, hi, hz0, hz1, hz2⟩ := info_parts infoSec
  have h := run_make (P := Tryz.prog) w 179 239 i0 _ Tryz.underlying179 hi hz0 .i64 .i64 n n (by omega) (by omega) (by rw [hz2]; omega) (by omega)
  rw [hz1, Int.toNat_natCast, madeSec] at h
  exact h
set_option maxHeartbeats 1000000 in
theorem dnew_yes (n : Nat) (w : World) (lo : Nat) (h1 : 1 ≤ n) (h2 : n ≤ 8) (hlo : lo ≤ w.heap.size) :
    Calls Tryz.prog 68 #[.int .i64 n] w fun e w' => e = .returned (.tuple #[.pointer (some ⟨w.heap.size + 1, 0, none⟩), .int .i64 0]) ∧ DAt lo (w.heap.size + 1) w.heap.size (.slice none 0 0) (newD n) w' ∧ Below w.heap.size w w' := by
  have hmk := makeSec n h2
  have HK := hideK (newD_ok n h1 h2)
  go_enter Tryz.func68, Tryz.ntmps68
  go_wp2
  clear hmk
  go_ret2
  refine ⟨rfl, ⟨?_, ?_, World.ownsRow_nil _ _ _ _, HK.out, by omega, by simp [Value.ownBlock], by simp [Value.ownBlock], by omega, hlo⟩, ((Below.refl _ _).alloc (Nat.le_refl _) _).alloc (by simp) _⟩
  · have := heap_alloc_new (w.alloc (.cells (secs (List.replicate n zeroS)).toArray 239)) (.cells #[.slice (some ⟨w.heap.size, 0, none⟩) n n, .slice none 0 0, .int .i64 0, .int .i64 0, .int .i64 0, .int .i64 0] 182)
    rw [World.size_alloc] at this
    exact this
  · rw [heap_alloc_old _ _ (by simp)]
    exact heap_alloc_new w _
/-- The number of pending writes, as 'len' tells it. -/
theorem owns_len {w : World} {base : Nat} {e : TypeId} {size : Nat} {v : Value} {n : Nat} {xs : List Value} (h : w.ownsRow base e size v n xs) : ∃ a c, v = .slice a n c := by
  rcases h.2 with ⟨rfl, rfl⟩ | ⟨g, cap, cur, rfl, _⟩
  · exact ⟨none, 0, rfl⟩
  · exact ⟨_, _, rfl⟩
end Go.Proofs.YtgaoeoijdpdjiabGreatDoor

namespace Go.Proofs.YtgaoeoijdpdjiabGreatDoor
open Go.RowKit
/-- The number of the first k bytes from place o on. -/
def beN (L : List Nat) (o : Nat) : Nat → Nat
  | 0 => 0
  | k + 1 => beN L o k * 256 + at0 L (o + k)
theorem beN_lt (L : List Nat) (o k : Nat) (h : ∀ i, at0 L i < 256) : beN L o k < 256 ^ k := by
  induction k with
  | zero => simp [beN]
  | succ k ih =>
    have := h (o + k)
    simp only [beN, Nat.pow_succ]
    omega
--GEN
theorem or_byte_32 (v c : Nat) (hv : v < 16777216) (hc : c < 256) : bits BinOp.or IntKind.u32 ((v : Int) * 256) (c : Int) = ((v * 256 + c : Nat) : Int) := by
  have h := u32_or_nat (v * 256) c (by omega) (by omega)
  have e : v * 256 ||| c = v * 256 + c := by
    have := Nat.two_pow_add_eq_or_of_lt (i := 8) hc v
    rw [Nat.mul_comm]
    exact this.symm
  rw [e] at h
  rw [Int.natCast_mul] at h
  exact h
set_option maxHeartbeats 400000 in
theorem read_32 (g o cap : Nat) (L : List Nat) (w : World) (hr : RowK w g .u8 5 L) (hL : o + 4 ≤ L.length) (hB : ∀ i, at0 L i < 256) :
    Calls Tryz.prog 319 #[.slice (some ⟨g, o, none⟩) 4 cap] w fun e w' => e = .returned (.int .u32 ((beN L o 4 : Nat) : Int)) ∧ w' = w := by
  have HR := hide hr
  have HL := hide hL
  have HB := hide hB
  clear hr hL hB
  go_enter Tryz.func319, Tryz.ntmps319
  go_wp2
  go_loop [3, 8] (fun t i => ∃ j : Nat, j ≤ 4 ∧ i = .int .i64 j ∧ t = .int .u32 ((beN L o j : Nat) : Int)) (fun _ i => 4 - (intOf i).toNat)
  case atStart => exact ⟨0, by omega, rfl, rfl⟩
  case round =>
    obtain ⟨j, hj, rfl, rfl⟩ := hrel
    by_cases hlt : j < 4
    · have c := HR.out.cell (i := o + j) (by have := HL.out; omega)
      have hc := HB.out (o + j)
      have hv : beN L o j < 16777216 := Nat.lt_of_lt_of_le (beN_lt L o j HB.out) (Nat.pow_le_pow_right (by decide) (show j ≤ 3 by omega))
      have HS : Hid (beN L o (j + 1) = beN L o j * 256 + at0 L (o + j)) := rfl
      have HO := hide (or_byte_32 (beN L o j) (at0 L (o + j)) hv hc)
      generalize beN L o j = v at hv HS HO ⊢
      generalize at0 L (o + j) = q at c hc HS HO
      go_wp2
      go_round
      case rel => exact ⟨j + 1, by omega, by go_num, by rw [HS.out, ← HO.out]⟩
      case measure => simp [intOf]; omega
    · obtain rfl : j = 4 := by omega
      go_wp2
      go_ret
      exact ⟨rfl, rfl⟩
theorem or_byte_64 (v c : Nat) (hv : v < 72057594037927936) (hc : c < 256) : bits BinOp.or IntKind.u64 ((v : Int) * 256) (c : Int) = ((v * 256 + c : Nat) : Int) := by
  have h := u64_or_nat (v * 256) c (by omega) (by omega)
  have e : v * 256 ||| c = v * 256 + c := by
    have := Nat.two_pow_add_eq_or_of_lt (i := 8) hc v
    rw [Nat.mul_comm]
    exact this.symm
  rw [e] at h
  rw [Int.natCast_mul] at h
  exact h
set_option maxHeartbeats 400000 in
theorem read_64 (g o cap : Nat) (L : List Nat) (w : World) (hr : RowK w g .u8 5 L) (hL : o + 8 ≤ L.length) (hB : ∀ i, at0 L i < 256) :
    Calls Tryz.prog 321 #[.slice (some ⟨g, o, none⟩) 8 cap] w fun e w' => e = .returned (.int .u64 ((beN L o 8 : Nat) : Int)) ∧ w' = w := by
  have HR := hide hr
  have HL := hide hL
  have HB := hide hB
  clear hr hL hB
  go_enter Tryz.func321, Tryz.ntmps321
  go_wp2
  go_loop [3, 8] (fun t i => ∃ j : Nat, j ≤ 8 ∧ i = .int .i64 j ∧ t = .int .u64 ((beN L o j : Nat) : Int)) (fun _ i => 8 - (intOf i).toNat)
  case atStart => exact ⟨0, by omega, rfl, rfl⟩
  case round =>
    obtain ⟨j, hj, rfl, rfl⟩ := hrel
    by_cases hlt : j < 8
    · have c := HR.out.cell (i := o + j) (by have := HL.out; omega)
      have hc := HB.out (o + j)
      have hv : beN L o j < 72057594037927936 := Nat.lt_of_lt_of_le (beN_lt L o j HB.out) (Nat.pow_le_pow_right (by decide) (show j ≤ 7 by omega))
      have HS : Hid (beN L o (j + 1) = beN L o j * 256 + at0 L (o + j)) := rfl
      have HO := hide (or_byte_64 (beN L o j) (at0 L (o + j)) hv hc)
      generalize beN L o j = v at hv HS HO ⊢
      generalize at0 L (o + j) = q at c hc HS HO
      go_wp2
      go_round
      case rel => exact ⟨j + 1, by omega, by go_num, by rw [HS.out, ← HO.out]⟩
      case measure => simp [intOf]; omega
    · obtain rfl : j = 8 := by omega
      go_wp2
      go_ret
      exact ⟨rfl, rfl⟩
end Go.Proofs.YtgaoeoijdpdjiabGreatDoor

namespace Go.Proofs.YtgaoeoijdpdjiabGreatDoor
/-- Behind the columns: the upper words move on, the round's number goes into the first. -/
def roundW (r : Nat) : List Nat → List Nat
  | [a0, a1, a2, a3, a4, a5, a6, a7] => [a0 ^^^ r, a1, a2, a3, a5, a6, a7, a4]
  | L => L
def stirTo (b : Nat) (L : List Nat) : Nat → List Nat
  | 0 => L
  | r + 1 => roundW (r + 1) (mixTo b (stirTo b L r) 4)
theorem eight_of {L : List Nat} (h : L.length = 8) : ∃ a0 a1 a2 a3 a4 a5 a6 a7, L = [a0, a1, a2, a3, a4, a5, a6, a7] := by
  match L, h with
  | [a0, a1, a2, a3, a4, a5, a6, a7], _ => exact ⟨a0, a1, a2, a3, a4, a5, a6, a7, rfl⟩
theorem roundW_length (r : Nat) (L : List Nat) (h : L.length = 8) : (roundW r L).length = 8 := by
  obtain ⟨a0, a1, a2, a3, a4, a5, a6, a7, rfl⟩ := eight_of h
  rfl
theorem stirTo_length (b : Nat) (L : List Nat) (r : Nat) (h : L.length = 8) : (stirTo b L r).length = 8 := by
  induction r with
  | zero => exact h
  | succ r ih => exact roundW_length _ _ (by rw [mixTo_length]; exact ih)
theorem stirTo_words (b : Nat) (L : List Nat) (r : Nat) (hl : L.length = 8) (h : Words b L) (hb : 4 ≤ b := by decide) (hr : r ≤ 8 := by omega) : Words b (stirTo b L r) := by
  induction r with
  | zero => exact h
  | succ r ih =>
    have hm := mixTo_words b (stirTo b L r) 4 (ih (by omega))
    obtain ⟨a0, a1, a2, a3, a4, a5, a6, a7, e⟩ := eight_of (show (mixTo b (stirTo b L r) 4).length = 8 by rw [mixTo_length]; exact stirTo_length b L r hl)
    show Words b (roundW (r + 1) (mixTo b (stirTo b L r) 4))
    rw [e] at hm ⊢
    have h16 : 2 ^ 4 ≤ 2 ^ b := Nat.pow_le_pow_right (by decide) hb
    intro x hx
    simp only [roundW, List.mem_cons, List.not_mem_nil, or_false] at hx
    rcases hx with rfl | rfl | rfl | rfl | rfl | rfl | rfl | rfl
    · exact Nat.xor_lt_two_pow (hm a0 (by simp)) (by omega)
    all_goals exact hm _ (by simp)
end Go.Proofs.YtgaoeoijdpdjiabGreatDoor

namespace Go.Proofs.YtgaoeoijdpdjiabGreatDoor
/-- The pairs of Bytes and Wide, with the digits of a byte and of what they lack. -/
def Pair (b x e f : Nat) : Prop := (b = 4 ∧ x = 4 ∧ e = 4 ∧ f = 3) ∨ (b = 8 ∧ x = 4 ∧ e = 4 ∧ f = 4) ∨ (b = 4 ∧ x = 16 ∧ e = 2 ∧ f = 2) ∨ (b = 8 ∧ x = 16 ∧ e = 2 ∧ f = 2)
end Go.Proofs.YtgaoeoijdpdjiabGreatDoor

namespace Go.Proofs.YtgaoeoijdpdjiabGreatDoor
open Go.RowKit
/-- How many chains a leaf may have. -/
def Ch4 (ch : Nat) : Prop := ch = 10 ∨ ch = 18 ∨ ch = 19 ∨ ch = 36
set_option maxRecDepth 20000 in
theorem mul64_one (ch : Nat) (h : Ch4 ch) (w : World) :
    Calls Tryz.prog 325 #[.int .u64 1, .int .u64 ch] w fun e w' => e = .returned (.tuple #[.int .u64 0, .int .u64 ch]) ∧ w' = w := by
  rcases h with rfl | rfl | rfl | rfl
  all_goals
    go_enter Tryz.func325, Tryz.ntmps325
    go_wp2
    go_ret2
    exact ⟨rfl, rfl⟩
set_option maxRecDepth 20000 in
theorem mul_one (ch : Nat) (h : Ch4 ch) (w : World) :
    Calls Tryz.prog 309 #[.int .u64 1, .int .u64 ch] w fun e w' => e = .returned (.tuple #[.int .u64 0, .int .u64 ch]) ∧ w' = w := by
  have H := hide (fun V : World => mul64_one ch h V)
  rcases h with rfl | rfl | rfl | rfl
  all_goals
    go_enter Tryz.func309, Tryz.ntmps309
    go_wp2_with fail
    refine (H.out _).mono ?_
    rintro e w1 ⟨rfl, rfl⟩
    go_wp2
    go_ret2
    exact ⟨rfl, rfl⟩
theorem ch4_of {b x e f : Nat} (h : Pair b x e f) : Ch4 (b * e + f) := by
  unfold Pair at h
  unfold Ch4
  rcases h with ⟨rfl, rfl, rfl, rfl⟩ | ⟨rfl, rfl, rfl, rfl⟩ | ⟨rfl, rfl, rfl, rfl⟩ | ⟨rfl, rfl, rfl, rfl⟩ <;> omega
end Go.Proofs.YtgaoeoijdpdjiabGreatDoor

namespace Go.Proofs.YtgaoeoijdpdjiabGreatDoor
open Go.RowKit
/-- Are all texts of this length? -/
def allLen (b : Int) : List ByteArray → Bool
  | [] => true
  | x :: r => decide ((x.size : Int) = b) && allLen b r
theorem allLen_iff (b : Int) (xs : List ByteArray) : allLen b xs = true ↔ ∀ y ∈ xs, (y.size : Int) = b := by
  induction xs with
  | nil => simp [allLen]
  | cons x r ih => simp [allLen, ih]
theorem allLen_take (b : Int) (xs : List ByteArray) (k : Nat) (h : allLen b (xs.take k) = true) (hk : k < xs.length) : allLen b (xs.take (k + 1)) = decide ((xs[k].size : Int) = b) := by
  have e : ∀ l m, allLen b (l ++ m) = (allLen b l && allLen b m) := by
    intro l m
    induction l with
    | nil => simp [allLen]
    | cons x r ih => simp [allLen, ih, Bool.and_assoc]
  rw [List.take_succ_eq_append_getElem hk, e, h]
  simp [allLen]
theorem allLen_no (b : Int) (xs : List ByteArray) (k : Nat) (hk : k < xs.length) (h : (xs[k].size : Int) ≠ b) : allLen b xs = false := by
  rw [Bool.eq_false_iff]
  intro e
  exact h ((allLen_iff b xs).1 e _ (List.getElem_mem hk))
set_option maxHeartbeats 1000000 in
theorem valuesRight_some (k b x t l : Int) (bk o c : Nat) (xs : List ByteArray) (w : World) (hcells : ∀ (j : Nat) y, xs[j]? = some y → w.cell? ⟨bk, o + j, none⟩ = some (.string y)) (hbk : bk < w.heap.size) (hN : xs.length ≤ 9223372036854775807) :
    Calls Tryz.prog 159 #[.agg #[.int .i64 k, .int .i64 b, .int .i64 x, .int .i64 t, .int .i64 l], .slice (some ⟨bk, o, none⟩) xs.length c] w fun e w' => e = .returned (.bool (allLen b xs)) ∧ Below w.heap.size w w' := by
  have HC := hide hcells
  clear hcells
  have HB := hide hbk
  go_enter Tryz.func159, Tryz.ntmps159
  go_wp2
  go_loop [9] (fun i => ∃ j : Nat, j ≤ xs.length ∧ i = .int .i64 j ∧ Hid (allLen b (xs.take j) = true)) (fun i => xs.length - (intOf i).toNat)
  case atStart => exact ⟨0, Nat.zero_le _, rfl, rfl⟩
  case round =>
    obtain ⟨j, hj, rfl, ha⟩ := hrel
    by_cases hlt : j < xs.length
    · have c0 : ∀ o, (w.alloc o).cell? ⟨bk, _, none⟩ = _ := fun o => (World.cell?_alloc_past _ _ _ HB.out).trans (HC.out j xs[j] (List.getElem?_eq_getElem hlt))
      have HT := hide (allLen_take b xs j ha.out hlt)
      have HNO := hide (allLen_no b xs j hlt)
      generalize xs[j] = y at c0 HT HNO
      by_cases hy : (y.size : Int) = b
      · have hys : ((y.size : Int) == b) = true := by simpa using hy
        go_wp2
        go_round
        case rel => exact ⟨j + 1, by omega, by go_num, show allLen b (xs.take (j + 1)) = true by rw [HT.out]; simpa using hy⟩
        case measure => simp [intOf]; omega
      · have hys : ((y.size : Int) == b) = false := by simpa using hy
        have HF := hide (HNO.out hy)
        clear hy HNO
        go_wp2
        go_ret
        exact ⟨congrArg (fun z => Ending.returned (Value.bool z)) HF.out.symm, (Below.refl _ _).alloc (Nat.le_refl _) _⟩
    · obtain rfl : j = xs.length := by omega
      go_wp2
      go_ret
      have hz := ha.out
      rw [List.take_of_length_le (Nat.le_refl _)] at hz
      exact ⟨congrArg (fun z => Ending.returned (Value.bool z)) hz.symm, (Below.refl _ _).alloc (Nat.le_refl _) _⟩
end Go.Proofs.YtgaoeoijdpdjiabGreatDoor

namespace Go.Proofs.YtgaoeoijdpdjiabGreatDoor
open Go.RowKit
theorem digs_at (x n v k : Nat) (h : k < n) : (digs x n v)[k]?.getD 0 = v / x ^ (n - (k + 1)) % x := by
  induction n generalizing v with
  | zero => omega
  | succ n ih =>
    simp only [digs]
    by_cases e : k < n
    · rw [List.getElem?_append_left (by rw [digs_length]; exact e), ih _ e, Nat.div_div_eq_div_mul, ← Nat.pow_succ', show n + 1 - (k + 1) = (n - (k + 1)).succ by omega]
    · obtain rfl : k = n := by omega
      rw [List.getElem?_append_right (by rw [digs_length]; exact Nat.le_refl _)]
      simp [digs_length]
theorem div_step (x n v k : Nat) (h : k + 1 ≤ n) : v / x ^ (n - (k + 1)) / x = v / x ^ (n - k) := by
  rw [Nat.div_div_eq_div_mul, ← Nat.pow_succ, show (n - (k + 1)).succ = n - k by omega]
set_option maxHeartbeats 400000 in
theorem lay_any (g off n cap v x : Nat) (L : List Int) (w : World) (hrow : RowZ w g L) (hlen : off + n ≤ L.length) (hL : L.length ≤ 1000) (hx : 2 ≤ x) (hx2 : x ≤ 16) (hv : v ≤ 4096) :
    Calls Tryz.prog 283 #[.slice (some ⟨g, off, none⟩) n cap, .int .i64 v, .int .i64 x] w fun e w' => e = .returned (.tuple #[]) ∧ RowZ w' g (laidTo L off n (digs x n v) 0) ∧ OnlyM g w w' := by
  have HR : Hid (RowZ w g L) := hrow
  clear hrow
  go_enter Tryz.func283, Tryz.ntmps283
  go_wp2
  go_loopw [1, 6] (fun t i wr => ∃ k : Nat, k ≤ n ∧ i = .int .i64 ((k : Int) - 1) ∧ t = .int .i64 ((v / x ^ (n - k) : Nat) : Int) ∧ Hid (RowZ wr g (laidTo L off n (digs x n v) k)) ∧ Hid (OnlyM g w wr)) (fun _ i _ => (intOf i + 1).toNat)
  case atStart => exact ⟨n, Nat.le_refl _, rfl, by simp, by rw [laidTo_start _ _ _ _ (digs_length _ _ _)]; exact HR, OnlyM.refl _ _⟩
  case round =>
    obtain ⟨k, hk, rfl, rfl, hr, ho⟩ := hrel
    by_cases h0 : 0 < k
    · obtain ⟨k, rfl⟩ : ∃ j, k = j + 1 := ⟨k - 1, by omega⟩
      have HD : Hid ((digs x n v)[k]?.getD 0 = v / x ^ (n - (k + 1)) % x) := digs_at x n v k (by omega)
      have HS : Hid (v / x ^ (n - (k + 1)) / x = v / x ^ (n - k)) := div_step x n v k hk
      have hu : v / x ^ (n - (k + 1)) ≤ 4096 := Nat.le_trans (Nat.div_le_self _ _) hv
      generalize hq : v / x ^ (n - (k + 1)) = q at HD HS hu ⊢
      have HQ : Hid (v / x ^ (n - (k + 1)) = q) := hq
      clear hq
      have hlen' := laidTo_length L off n (digs x n v) (k + 1) (digs_length _ _ _) hlen hk
      have hc := hr.out.cell (i := off + k) (by omega)
      have hf := hr.out.free (off + k)
      have d0 : (0 : Int) ≤ (q : Int) / (x : Int) := Int.ediv_nonneg (by omega) (by omega)
      have d1 : (q : Int) / (x : Int) ≤ 4096 := by have := Nat.div_le_self q x; have e : ((q / x : Nat) : Int) = (q : Int) / (x : Int) := Int.natCast_ediv q x; omega
      go_wp2
      go_roundw
      case rel =>
        refine ⟨k, by omega, by go_num, ?_, ?_, ?_⟩
        · rw [← HS.out, Int.natCast_ediv]
        · have := hr.out.set (off + k) (((digs x n v)[k]?.getD 0 : Nat) : Int)
          rw [laidTo_step L off n _ k (digs_length _ _ _) hlen (by omega), HD.out, Int.natCast_emod] at this
          exact this
        · exact ho.out.setCell _ _
      case measure => simp [intOf]
    · obtain rfl : k = 0 := by omega
      go_wp2
      go_end0
      exact ⟨rfl, hr.out, ho.out⟩
/-- The sum, as the loop makes it. -/
theorem lackN_snoc (x : Nat) (l : List Nat) (d : Nat) : lackN x (l ++ [d]) = lackN x l + (x - 1 - d) := by
  rw [lackN_append]; simp [lackN]
set_option maxHeartbeats 400000 in
theorem lack_any (g n cap x : Nat) (L : List Int) (D : List Nat) (w : World) (hrow : RowZ w g L) (hD : L.take n = D.map Int.ofNat) (hn : D.length = n) (hL : n ≤ 1000) (hx : 2 ≤ x) (hx2 : x ≤ 16) (hd : ∀ d ∈ D, d < x) :
    Calls Tryz.prog 284 #[.slice (some ⟨g, 0, none⟩) n cap, .int .i64 x] w fun e w' => e = .returned (.int .i64 (lackN x D)) ∧ w' = w := by
  have hnL : n ≤ L.length := by
    have := congrArg List.length hD
    simp at this; omega
  have hcell : ∀ i, i < n → w.cell? ⟨g, i, none⟩ = some (.int .i64 ((at0M D i : Nat) : Int)) := by
    intro i hi
    rw [hrow.cell (by omega)]
    have e : L[i]? = (L.take n)[i]? := by rw [List.getElem?_take_of_lt hi]
    rw [e, hD]
    simp [at0M, List.getElem?_map, List.getElem?_eq_getElem (show i < D.length by omega)]
  have HC : Hid (∀ i, i < n → w.cell? ⟨g, i, none⟩ = some (.int .i64 ((at0M D i : Nat) : Int))) := hcell
  have HD : Hid (∀ d ∈ D, d < x) := hd
  clear hrow hD hd hcell
  go_enter Tryz.func284, Tryz.ntmps284
  go_wp2
  go_loop [5, 10] (fun s i => ∃ k : Nat, k ≤ n ∧ i = .int .i64 k ∧ s = .int .i64 ((lackN x (D.take k) : Nat) : Int)) (fun _ i => n - (intOf i).toNat)
  case atStart => exact ⟨0, Nat.zero_le _, rfl, rfl⟩
  case round =>
    obtain ⟨k, hk, rfl, rfl⟩ := hrel
    by_cases hlt : k < n
    · have c := HC.out k hlt
      have hb := at0_lt D x k (by omega) HD.out
      have hs : lackN x (D.take k) ≤ k * (x - 1) := by have := lackN_le x (D.take k); rwa [List.length_take_of_le (by omega)] at this
      have hs2 : lackN x (D.take k) ≤ 1000 * 15 := Nat.le_trans hs (Nat.mul_le_mul (by omega) (by omega))
      have HS : Hid (lackN x (D.take (k + 1)) = lackN x (D.take k) + (x - 1 - at0M D k)) := by
        show lackN x (D.take (k + 1)) = _
        rw [List.take_succ_eq_append_getElem (show k < D.length by omega), lackN_snoc]
        simp [at0M, show k < D.length by omega]
      clear hs
      generalize lackN x (D.take k) = s at HS hs2 ⊢
      generalize at0M D k = d at c hb HS ⊢
      go_wp2
      go_round
      case rel => exact ⟨k + 1, by omega, by go_num, by rw [HS.out]; go_num⟩
      case measure => simp [intOf]; omega
    · obtain rfl : k = n := by omega
      go_wp2
      go_ret
      exact ⟨congrArg (fun z : Nat => Ending.returned (.int .i64 (z : Int))) (by rw [List.take_of_length_le (by omega)]), rfl⟩
end Go.Proofs.YtgaoeoijdpdjiabGreatDoor

namespace Go.Proofs.YtgaoeoijdpdjiabGreatDoor
open Go.RowKit
/-- How many digits of base x a byte has. -/
def each (x : Int) : Int := if x = 4 then 4 else 2
set_option maxHeartbeats 400000 in
theorem perByte_any (x : Int) (w : World) (hx : x = 4 ∨ x = 16) :
    Calls Tryz.prog 232 #[.int .i64 x] w fun e w' => e = .returned (.int .i64 (each x)) ∧ w' = w := by
  rcases hx with rfl | rfl
  · go_enter Tryz.func232, Tryz.ntmps232
    go_wp2_with (go_at_call 233; refine (count_any 255 4 8 _ (by decide) (by decide) (by decide) (by decide)).mono ?_; rintro e w' ⟨rfl, rfl⟩)
    go_ret
    exact ⟨rfl, rfl⟩
  · go_enter Tryz.func232, Tryz.ntmps232
    go_wp2_with (go_at_call 233; refine (count_any 255 16 8 _ (by decide) (by decide) (by decide) (by decide)).mono ?_; rintro e w' ⟨rfl, rfl⟩)
    go_ret
    exact ⟨rfl, rfl⟩
theorem perByte_4 (w : World) : Calls Tryz.prog 232 #[.int .i64 4] w fun e w' => e = .returned (.int .i64 4) ∧ w' = w := perByte_any 4 w (Or.inl rfl)
theorem perByte_16 (w : World) : Calls Tryz.prog 232 #[.int .i64 16] w fun e w' => e = .returned (.int .i64 2) ∧ w' = w := perByte_any 16 w (Or.inr rfl)
theorem count_48 (w : World) : Calls Tryz.prog 233 #[.int .i64 48, .int .i64 4] w fun e w' => e = .returned (.int .i64 3) ∧ w' = w := count_any 48 4 6 w (by decide) (by decide) (by decide) (by decide)
theorem count_96 (w : World) : Calls Tryz.prog 233 #[.int .i64 96, .int .i64 4] w fun e w' => e = .returned (.int .i64 4) ∧ w' = w := count_any 96 4 7 w (by decide) (by decide) (by decide) (by decide)
theorem count_120 (w : World) : Calls Tryz.prog 233 #[.int .i64 120, .int .i64 16] w fun e w' => e = .returned (.int .i64 2) ∧ w' = w := count_any 120 16 7 w (by decide) (by decide) (by decide) (by decide)
theorem count_240 (w : World) : Calls Tryz.prog 233 #[.int .i64 240, .int .i64 16] w fun e w' => e = .returned (.int .i64 2) ∧ w' = w := count_any 240 16 8 w (by decide) (by decide) (by decide) (by decide)
end Go.Proofs.YtgaoeoijdpdjiabGreatDoor

namespace Go.Proofs.YtgaoeoijdpdjiabGreatDoor
open Go.RowKit
/-- Are the seeds right? -/
def seedsB (b : Int) (sec rnd pub : ByteArray) : Bool := allLen b [sec, rnd, pub]
set_option maxRecDepth 20000 in
set_option maxHeartbeats 2000000 in
theorem seedsRight_any (k b x t l : Int) (sec rnd pub : ByteArray) (w : World) :
    Calls Tryz.prog 265 #[.agg #[.int .i64 k, .int .i64 b, .int .i64 x, .int .i64 t, .int .i64 l], .agg #[.string sec, .string rnd, .string pub]] w fun e w' => e = .returned (.bool (seedsB b sec rnd pub)) ∧ Below w.heap.size w w' := by
  have HV := hide (valuesRight_some k b x t l ((w.alloc (.cells #[.int .i64 k, .int .i64 b, .int .i64 x, .int .i64 t, .int .i64 l] 26)).alloc (.cells #[.string sec, .string rnd, .string pub] 42)).heap.size 0 3 [sec, rnd, pub] (((w.alloc (.cells #[.int .i64 k, .int .i64 b, .int .i64 x, .int .i64 t, .int .i64 l] 26)).alloc (.cells #[.string sec, .string rnd, .string pub] 42)).alloc (.cells #[.string sec, .string rnd, .string pub] 9)) (by
    intro j y hj
    match j, hj with
    | 0, hj => simp at hj; subst hj; simp [go_sem]
    | 1, hj => simp at hj; subst hj; simp [go_sem]
    | 2, hj => simp at hj; subst hj; simp [go_sem]) (by simp) (by simp))
  simp only [List.length_cons, List.length_nil, Nat.reduceAdd] at HV
  have hsz : ((w.alloc (.cells #[.int .i64 k, .int .i64 b, .int .i64 x, .int .i64 t, .int .i64 l] 26)).alloc (.cells #[.string sec, .string rnd, .string pub] 42)).heap.size = w.heap.size + 1 + 1 := by simp
  rw [hsz] at HV
  unfold seedsB
  generalize allLen b [sec, rnd, pub] = r at HV ⊢
  go_enter Tryz.func265, Tryz.ntmps265
  go_wp2_with fail
  refine HV.out.mono ?_
  rintro e w1 ⟨rfl, hb1⟩
  have HB1 := hide (((((Below.refl w.heap.size w).alloc (Nat.le_refl _) _).alloc (by simp) _).alloc (by simp; omega) _).trans (hb1.mono (by simp; omega)))
  clear hsz
  clear hb1
  go_wp2
  go_ret
  exact ⟨rfl, HB1.out⟩
end Go.Proofs.YtgaoeoijdpdjiabGreatDoor

namespace Go.Proofs.YtgaoeoijdpdjiabGreatDoor
/-- A number that an int holds. -/
def Int64 (c : Int) : Prop := -9223372036854775808 ≤ c ∧ c ≤ 9223372036854775807
end Go.Proofs.YtgaoeoijdpdjiabGreatDoor

namespace Go.Proofs.YtgaoeoijdpdjiabGreatDoor
open Go.RowKit
set_option maxHeartbeats 400000 in
theorem fit_any (k b x t l : Int) (w : World) (hk : Int64 k) (hb : Int64 b) (hx : Int64 x) (ht : Int64 t) (hl : Int64 l) :
    Calls Tryz.prog 14 #[.agg #[.int .i64 k, .int .i64 b, .int .i64 x, .int .i64 t, .int .i64 l]] w fun e w' =>
      e = .returned (.agg #[.int .i64 (pickZ k 2 + 1), .int .i64 (4 + 4 * pickZ b 2), .int .i64 (4 + 12 * pickZ x 2), .int .i64 (pickZ t 4 + 1), .int .i64 (pickZ l 3 + 1)]) ∧ Below w.heap.size w w' := by
  have p1 := pickZ_bd k 2 (by omega)
  have p2 := pickZ_bd b 2 (by omega)
  have p3 := pickZ_bd x 2 (by omega)
  have p4 := pickZ_bd t 4 (by omega)
  have p5 := pickZ_bd l 3 (by omega)
  obtain ⟨p1a, p1b⟩ := p1
  obtain ⟨p2a, p2b⟩ := p2
  obtain ⟨p3a, p3b⟩ := p3
  obtain ⟨p4a, p4b⟩ := p4
  obtain ⟨p5a, p5b⟩ := p5
  go_enter Tryz.func14, Tryz.ntmps14
  go_wp2_with fail
  refine (pick_any k 2 _ (by omega) (by omega) hk.1 hk.2).mono ?_
  rintro e w1 ⟨rfl, rfl⟩
  go_wp2_with fail
  refine (pick_any b 2 _ (by omega) (by omega) hb.1 hb.2).mono ?_
  rintro e w1 ⟨rfl, rfl⟩
  go_wp2_with fail
  refine (pick_any x 2 _ (by omega) (by omega) hx.1 hx.2).mono ?_
  rintro e w1 ⟨rfl, rfl⟩
  go_wp2_with fail
  refine (pick_any t 4 _ (by omega) (by omega) ht.1 ht.2).mono ?_
  rintro e w1 ⟨rfl, rfl⟩
  go_wp2_with fail
  refine (pick_any l 3 _ (by omega) (by omega) hl.1 hl.2).mono ?_
  rintro e w1 ⟨rfl, rfl⟩
  go_wp2
  refine bodyPost_ret (v := .agg #[.int .i64 (pickZ k 2 + 1), .int .i64 (4 + 4 * pickZ b 2), .int .i64 (4 + 12 * pickZ x 2), .int .i64 (pickZ t 4 + 1), .int .i64 (pickZ l 3 + 1)]) (by simp [results, Tryz.results14, go_sem]) rfl ⟨rfl, ?_⟩
  first
    | exact ((Below.refl _ _).alloc (Nat.le_refl _) _).alloc (by simp) _
    | (repeat refine Below.setCell ?_ (by simp) _
       exact ((Below.refl _ _).alloc (Nat.le_refl _) _).alloc (by simp) _)
end Go.Proofs.YtgaoeoijdpdjiabGreatDoor

namespace Go.Proofs.YtgaoeoijdpdjiabGreatDoor
open Go.ChangeShapes Go.WideShapes Go.ChangeAt Go.RowKit
theorem int64_of_wf {x : Int} (h : (Lit.int .i64 x).wf = true) : Int64 x := by
  simp [Lit.wf, IntKind.min, IntKind.max, IntKind.signed, IntKind.bits] at h
  exact ⟨by omega, by omega⟩
theorem array5 {a : Array Value} (h : a.size = 5) : ∃ c0 c1 c2 c3 c4, a = #[c0, c1, c2, c3, c4] := by
  obtain ⟨l⟩ := a
  match l, h with
  | [c0, c1, c2, c3, c4], _ => exact ⟨c0, c1, c2, c3, c4, rfl⟩
theorem cellsSet : Tryz.prog.cellsOf 26 = 5 := by kernel_rfl
theorem cellsInt : Tryz.prog.cellsOf 3 = 1 := by kernel_rfl
set_option maxRecDepth 100000 in
theorem open_set {H : Type} {enc : TypeId × Value → H} {W : World} {base b0 : Nat} {sp : Nat → Bool} {held : Bool} {r : Reach} {v : Value} {d : DataW H} {p : List MemPlace}
    (hv : Value.okWide Tryz.prog W r b0 26 v) (h : DataW.Trod enc Tryz.prog W base sp held 26 v d p) :
    ∃ k b x t l : Int, v = .agg #[.int .i64 k, .int .i64 b, .int .i64 x, .int .i64 t, .int .i64 l] ∧ Int64 k ∧ Int64 b ∧ Int64 x ∧ Int64 t ∧ Int64 l := by
  obtain ⟨cs, rfl, hsz⟩ := okWide_struct Tryz.underlying26 hv
  obtain ⟨c0, c1, c2, c3, c4, rfl⟩ := array5 (hsz.trans cellsSet)
  obtain ⟨fuel, hf⟩ := h
  obtain ⟨xs, n, _, _, _, hlen, hfs⟩ := DataW.trod_struct Tryz.underlying26 hf
  simp at hlen
  have g0 : DataW.trod enc Tryz.prog W base sp held n 3 [c0] = xs[0]? := by simpa [Value.cells, cellsInt] using hfs 0 _ rfl
  have g1 : DataW.trod enc Tryz.prog W base sp held n 3 [c1] = xs[1]? := by simpa [Value.cells, cellsInt] using hfs 1 _ rfl
  have g2 : DataW.trod enc Tryz.prog W base sp held n 3 [c2] = xs[2]? := by simpa [Value.cells, cellsInt] using hfs 2 _ rfl
  have g3 : DataW.trod enc Tryz.prog W base sp held n 3 [c3] = xs[3]? := by simpa [Value.cells, cellsInt] using hfs 3 _ rfl
  have g4 : DataW.trod enc Tryz.prog W base sp held n 3 [c4] = xs[4]? := by simpa [Value.cells, cellsInt] using hfs 4 _ rfl
  rw [List.getElem?_eq_getElem (by omega)] at g0 g1 g2 g3 g4
  obtain ⟨k, e0, _, w0⟩ := DataW.trod_int Tryz.underlying3 g0
  obtain ⟨b, e1, _, w1⟩ := DataW.trod_int Tryz.underlying3 g1
  obtain ⟨x, e2, _, w2⟩ := DataW.trod_int Tryz.underlying3 g2
  obtain ⟨t, e3, _, w3⟩ := DataW.trod_int Tryz.underlying3 g3
  obtain ⟨l, e4, _, w4⟩ := DataW.trod_int Tryz.underlying3 g4
  simp at e0 e1 e2 e3 e4
  subst e0 e1 e2 e3 e4
  exact ⟨k, b, x, t, l, rfl, int64_of_wf w0, int64_of_wf w1, int64_of_wf w2, int64_of_wf w3, int64_of_wf w4⟩
end Go.Proofs.YtgaoeoijdpdjiabGreatDoor
