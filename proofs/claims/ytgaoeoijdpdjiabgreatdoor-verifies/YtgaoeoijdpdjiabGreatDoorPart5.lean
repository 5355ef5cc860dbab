/-
  Rows of numbers of one kind in memory; worlds that part in one block alone; the plain functions of the digest. sets.ValuesRight, SeedsRight: has each text the length of a value? What stays of a world's cells over a call. A number of 64 bits.
-/
import Derived.Test.YtgaoeoijdpdjiabGreatDoorPartHide
import Derived.Deep.RegionHeld3
import Derived.Deep.DrawnRows
import Derived.BigQuiet
import Derived.Deep.QuietTactic
import Derived.Test.YtgaoeoijdpdjiabGreatDoorRows
import Derived.WalkSpells
import Derived.WalkLawsBesides
import Derived.Handy
import Derived.Test.YtgaoeoijdpdjiabGreatDoorPart1
namespace Go.Proofs.YtgaoeoijdpdjiabGreatDoor
open Go.RowKit

/-- The i-th entry, 0 where there is none. -/
def at0 (l : List Nat) (i : Nat) : Nat := l.getD i 0

theorem at0_set_same (l : List Nat) (i z : Nat) (h : i < l.length) : at0 (l.set i z) i = z := by simp [at0, h]
theorem at0_set_other (l : List Nat) (i j z : Nat) (h : i ≠ j) : at0 (l.set i z) j = at0 l j := by simp [at0, List.getElem?_set_ne h]

/-- Block g is a row of the numbers L of kind k, and may be written. -/
def RowK (w : World) (g : Nat) (k : IntKind) (T : TypeId) (L : List Nat) : Prop := w.heap[g]? = some (.cells (L.map (fun n => Value.int k ((n : Nat) : Int))).toArray T (0, 0))

theorem RowK.cell {w : World} {g : Nat} {k : IntKind} {T : TypeId} {L : List Nat} (h : RowK w g k T L) {i : Nat} (hi : i < L.length) : w.cell? ⟨g, i, none⟩ = some (.int k ((at0 L i : Nat) : Int)) := by
  unfold RowK at h
  simp [World.cell?, h, hi, at0]
theorem RowK.free {w : World} {g : Nat} {k : IntKind} {T : TypeId} {L : List Nat} (h : RowK w g k T L) (i : Nat) : w.frozen? ⟨g, i, none⟩ = false := by
  unfold RowK at h
  simp [World.frozen?, h]
theorem RowK.lt {w : World} {g : Nat} {k : IntKind} {T : TypeId} {L : List Nat} (h : RowK w g k T L) : g < w.heap.size := lt_of_block h
theorem RowK.set {w : World} {g : Nat} {k : IntKind} {T : TypeId} {L : List Nat} (h : RowK w g k T L) (i z : Nat) : RowK (w.setCell ⟨g, i, none⟩ (.int k ((z : Nat) : Int))) g k T (L.set i z) := by
  have hlt := h.lt
  unfold RowK at h ⊢
  have h' : w.heap[g] = .cells (L.map (fun n => Value.int k ((n : Nat) : Int))).toArray T (0, 0) := by simpa [Array.getElem?_eq_getElem hlt] using h
  show (w.heap.modify g _)[g]? = _
  rw [Array.getElem?_eq_getElem (by simpa using hlt), Array.getElem_modify_self, h']
  simp
theorem RowK.below {w w' : World} {g B : Nat} {k : IntKind} {T : TypeId} {L : List Nat} (h : RowK w g k T L) (hb : Below B w w') (hg : g < B) : RowK w' g k T L := by
  unfold RowK at h ⊢
  rw [hb.block g hg]; exact h
theorem RowK.drew {w : World} {g : Nat} {k : IntKind} {T : TypeId} {L : List Nat} (h : RowK w g k T L) : RowK w.drew g k T L := h
theorem RowK.drewN {w : World} {g : Nat} {k : IntKind} {T : TypeId} {L : List Nat} (h : RowK w g k T L) (n : Nat) : RowK (w.drewN n) g k T L := h

/-- The worlds part in block g alone. -/
structure Only (g : Nat) (w w' : World) : Prop where
  os : w'.os = w.os
  tape : w'.tape = w.tape
  output : w'.output = w.output
  size : w'.heap.size = w.heap.size
  block : ∀ k, k ≠ g → w'.heap[k]? = w.heap[k]?

theorem Only.refl (g : Nat) (w : World) : Only g w w := ⟨rfl, rfl, rfl, rfl, fun _ _ => rfl⟩
theorem Only.trans {g : Nat} {a b c : World} (h : Only g a b) (k : Only g b c) : Only g a c :=
  ⟨k.os.trans h.os, k.tape.trans h.tape, k.output.trans h.output, k.size.trans h.size, fun i hi => (k.block i hi).trans (h.block i hi)⟩
theorem Only.setCell {g : Nat} {a w : World} (h : Only g a w) (i : Nat) (u : Value) : Only g a (w.setCell ⟨g, i, none⟩ u) :=
  h.trans ⟨rfl, rfl, rfl, by simp [World.setCell], fun _ hk => Below.heap_setCell _ _ _ _ hk⟩
theorem Only.drew {g : Nat} {a w : World} (h : Only g a w) : Only g a w.drew := ⟨h.os, h.tape, h.output, h.size, h.block⟩
theorem Only.drewN {g : Nat} {a w : World} (h : Only g a w) (n : Nat) : Only g a (w.drewN n) := ⟨h.os, h.tape, h.output, h.size, h.block⟩
theorem Only.below {g B : Nat} {a w w' : World} (h : Below B a w) (k : Only g w w') (hg : B ≤ g) : Below B a w' :=
  h.trans ⟨k.os, k.tape, k.output, by rw [k.size]; exact Nat.le_refl _, fun i hi => k.block i (by omega)⟩
theorem Only.cell {g : Nat} {w w' : World} (h : Only g w w') {p : Addr} (hp : p.block ≠ g) : w'.cell? p = w.cell? p := World.cell?_of_block (w := w) (h.block p.block hp)
theorem Only.row {g q : Nat} {w w' : World} {k : IntKind} {T : TypeId} {L : List Nat} (h : Only g w w') (r : RowK w q k T L) (hk : q ≠ g) : RowK w' q k T L := by
  unfold RowK at r ⊢
  rw [h.block q hk]; exact r

/-- The plain words of b bits: a sum, a word rotated. -/
def addW (b x y : Nat) : Nat := (x + y) % 2 ^ b
def rotW (b x k : Nat) : Nat := (x * 2 ^ k % 2 ^ b) ||| (x / 2 ^ (b - k))
/-- The numbers of bits of the columns. -/
def turnN (i : Nat) : Nat := if i = 0 then 5 else if i = 1 then 11 else if i = 2 then 19 else 26

theorem addW_lt (b x y : Nat) : addW b x y < 2 ^ b := Nat.mod_lt _ (Nat.two_pow_pos b)
theorem rotW_lt (b x k : Nat) (hx : x < 2 ^ b) : rotW b x k < 2 ^ b :=
  Nat.or_lt_two_pow (Nat.mod_lt _ (Nat.two_pow_pos b)) (Nat.lt_of_le_of_lt (Nat.div_le_self _ _) hx)

/-- A list of eight words, one behind the other, as the column i leaves it. -/
def colW (b i j : Nat) (L : List Nat) : List Nat :=
  (L.set i (addW b (at0 L i) (at0 L j))).set j (rotW b (at0 L j) (turnN i) ^^^ addW b (at0 L i) (at0 L j))

theorem colW_length (b i j : Nat) (L : List Nat) : (colW b i j L).length = L.length := by simp [colW]

/-- Every entry is a word. -/
def Words (b : Nat) (L : List Nat) : Prop := ∀ x ∈ L, x < 2 ^ b

theorem Words.at {b : Nat} {L : List Nat} (h : Words b L) (i : Nat) : at0 L i < 2 ^ b := by
  by_cases hi : i < L.length
  · simp only [at0, List.getD_eq_getElem?_getD, List.getElem?_eq_getElem hi, Option.getD_some]
    exact h _ (List.getElem_mem hi)
  · simp only [at0, List.getD_eq_getElem?_getD, List.getElem?_eq_none (by omega : L.length ≤ i), Option.getD_none]
    exact Nat.two_pow_pos b
theorem Words.set {b : Nat} {L : List Nat} (h : Words b L) (i z : Nat) (hz : z < 2 ^ b) : Words b (L.set i z) := by
  intro x hx
  rcases List.mem_or_eq_of_mem_set hx with hx | rfl
  · exact h x hx
  · exact hz
theorem Words.col {b : Nat} {L : List Nat} (h : Words b L) (i j : Nat) : Words b (colW b i j L) :=
  (h.set i _ (addW_lt _ _ _)).set j _ (Nat.xor_lt_two_pow (rotW_lt _ _ _ (h.at j)) (addW_lt _ _ _))

/-- The columns 0 to k - 1, each with the word four places on. -/
def mixTo (b : Nat) (L : List Nat) : Nat → List Nat
  | 0 => L
  | k + 1 => colW b k (k + 4) (mixTo b L k)
theorem mixTo_length (b : Nat) (L : List Nat) (k : Nat) : (mixTo b L k).length = L.length := by
  induction k with
  | zero => rfl
  | succ k ih => simp only [mixTo, colW_length, ih]
theorem mixTo_words (b : Nat) (L : List Nat) (k : Nat) (h : Words b L) : Words b (mixTo b L k) := by
  induction k with
  | zero => exact h
  | succ k ih => exact ih.col _ _
end Go.Proofs.YtgaoeoijdpdjiabGreatDoor

namespace Go.Proofs.YtgaoeoijdpdjiabGreatDoor
open Go.RowKit

/-- Are all texts of this length? -/
def allLen (b : Int) : List ByteArray → Bool
  | [] => true
  | x :: r => decide ((x.size : Int) = b) && allLen b r
theorem allLen_iff (b : Int) (xs : List ByteArray) : allLen b xs = true ↔ ∀ y ∈ xs, (y.size : Int) = b := by
  induction xs with
  | nil => simp [allLen]
  | cons x r ih => simp [allLen, ih]
theorem allLen_take (b : Int) (xs : List ByteArray) (k : Nat) (h : allLen b (xs.take k) = true) (hk : k < xs.length) : allLen b (xs.take (k + 1)) = decide ((xs[k].size : Int) = b) := by
  have e : ∀ l m, allLen b (l ++ m) = (allLen b l && allLen b m) := by
    intro l m
    induction l with
    | nil => simp [allLen]
    | cons x r ih => simp [allLen, ih, Bool.and_assoc]
  rw [List.take_succ_eq_append_getElem hk, e, h]
  simp [allLen]
theorem allLen_no (b : Int) (xs : List ByteArray) (k : Nat) (hk : k < xs.length) (h : (xs[k].size : Int) ≠ b) : allLen b xs = false := by
  rw [Bool.eq_false_iff]
  intro e
  exact h ((allLen_iff b xs).1 e _ (List.getElem_mem hk))

set_option maxHeartbeats 1000000 in
theorem valuesRight_some (k b x t l : Int) (bk o c : Nat) (xs : List ByteArray) (w : World) (hcells : ∀ (j : Nat) y, xs[j]? = some y → w.cell? ⟨bk, o + j, none⟩ = some (.string y)) (hbk : bk < w.heap.size) (hN : xs.length ≤ 9223372036854775807) :
    Calls Tryz.prog 159 #[.agg #[.int .i64 k, .int .i64 b, .int .i64 x, .int .i64 t, .int .i64 l], .slice (some ⟨bk, o, none⟩) xs.length c] w fun e w' => e = .returned (.bool (allLen b xs)) ∧ Below w.heap.size w w' := by
  have HC := hide hcells
  clear hcells
  have HB := hide hbk
  go_enter Tryz.func159, Tryz.ntmps159
  go_wp2
  go_loop [9] (fun i => ∃ j : Nat, j ≤ xs.length ∧ i = .int .i64 j ∧ Hid (allLen b (xs.take j) = true)) (fun i => xs.length - (intOf i).toNat)
  case atStart => exact ⟨0, Nat.zero_le _, rfl, rfl⟩
  case round =>
    obtain ⟨j, hj, rfl, ha⟩ := hrel
    by_cases hlt : j < xs.length
    · have c0 : ∀ o, (w.alloc o).cell? ⟨bk, _, none⟩ = _ := fun o => (World.cell?_alloc_past _ _ _ HB.out).trans (HC.out j xs[j] (List.getElem?_eq_getElem hlt))
      have HT := hide (allLen_take b xs j ha.out hlt)
      have HNO := hide (allLen_no b xs j hlt)
      generalize xs[j] = y at c0 HT HNO
      by_cases hy : (y.size : Int) = b
      · have hys : ((y.size : Int) == b) = true := by simpa using hy
        go_wp2
        go_round
        case rel => exact ⟨j + 1, by omega, by go_num, show allLen b (xs.take (j + 1)) = true by rw [HT.out]; simpa using hy⟩
        case measure => simp [intOf]; omega
      · have hys : ((y.size : Int) == b) = false := by simpa using hy
        have HF := hide (HNO.out hy)
        clear hy HNO
        go_wp2
        go_ret
        exact ⟨congrArg (fun z => Ending.returned (Value.bool z)) HF.out.symm, (Below.refl _ _).alloc (Nat.le_refl _) _⟩
    · obtain rfl : j = xs.length := by omega
      go_wp2
      go_ret
      have hz := ha.out
      rw [List.take_of_length_le (Nat.le_refl _)] at hz
      exact ⟨congrArg (fun z => Ending.returned (Value.bool z)) hz.symm, (Below.refl _ _).alloc (Nat.le_refl _) _⟩

set_option maxHeartbeats 1000000 in
theorem valuesRight_nil (k b x t l : Int) (w : World) :
    Calls Tryz.prog 159 #[.agg #[.int .i64 k, .int .i64 b, .int .i64 x, .int .i64 t, .int .i64 l], .slice none 0 0] w fun e w' => e = .returned (.bool true) ∧ Below w.heap.size w w' := by
  go_enter Tryz.func159, Tryz.ntmps159
  go_wp2
  go_rounds 1
  go_ret
  exact ⟨rfl, (Below.refl _ _).alloc (Nat.le_refl _) _⟩
end Go.Proofs.YtgaoeoijdpdjiabGreatDoor

namespace Go.Proofs.YtgaoeoijdpdjiabGreatDoor
open Go.RowKit

theorem heldB {n : Nat} {w W V : World} (h : Below n w W) (hb : Below W.heap.size W V) (hn : n ≤ w.heap.size) : Below n w V := h.trans (hb.mono (by have := h.size; omega))
theorem heldC {n : Nat} {w W V : World} {a : Addr} {v : Value} (h : Below n w W) (hb : Below W.heap.size W V) (hn : n ≤ w.heap.size) (ha : a.block < n) (hc : W.cell? a = some v) : V.cell? a = some v :=
  (hb.cell (p := a) (by have := h.size; omega)).trans hc
theorem held1 {n : Nat} {w W V : World} {a0 : Addr} {v0 : Value} (h : W.cell? a0 = some v0 ∧ Below n w W) (hb : Below W.heap.size W V) (hn : n ≤ w.heap.size) (h0 : a0.block < n) : V.cell? a0 = some v0 ∧ Below n w V :=
  ⟨heldC h.2 hb hn h0 h.1, heldB h.2 hb hn⟩
theorem held2 {n : Nat} {w W V : World} {a0 a1 : Addr} {v0 v1 : Value} (h : W.cell? a0 = some v0 ∧ W.cell? a1 = some v1 ∧ Below n w W) (hb : Below W.heap.size W V) (hn : n ≤ w.heap.size) (h0 : a0.block < n) (h1 : a1.block < n) : V.cell? a0 = some v0 ∧ V.cell? a1 = some v1 ∧ Below n w V :=
  ⟨heldC h.2.2 hb hn h0 h.1, held1 h.2 hb hn h1⟩
theorem held3 {n : Nat} {w W V : World} {a0 a1 a2 : Addr} {v0 v1 v2 : Value} (h : W.cell? a0 = some v0 ∧ W.cell? a1 = some v1 ∧ W.cell? a2 = some v2 ∧ Below n w W) (hb : Below W.heap.size W V) (hn : n ≤ w.heap.size) (h0 : a0.block < n) (h1 : a1.block < n) (h2 : a2.block < n) : V.cell? a0 = some v0 ∧ V.cell? a1 = some v1 ∧ V.cell? a2 = some v2 ∧ Below n w V :=
  ⟨heldC h.2.2.2 hb hn h0 h.1, held2 h.2 hb hn h1 h2⟩
theorem held0 {n : Nat} {w W V : World} (h : Below n w W) (hb : Below W.heap.size W V) (hn : n ≤ w.heap.size) : Below n w V := heldB h hb hn

/-- Ten cells one behind the other: a struct that holds a set, a text and a place. -/
def TenC (B : Nat) (w : World) (k b x t l : Int) (s : ByteArray) (p0 p1 p2 p3 : Int) : Prop :=
  w.cell? ⟨B, 0, none⟩ = some (.int .i64 k) ∧ w.cell? ⟨B, 1, none⟩ = some (.int .i64 b) ∧ w.cell? ⟨B, 2, none⟩ = some (.int .i64 x) ∧ w.cell? ⟨B, 3, none⟩ = some (.int .i64 t) ∧ w.cell? ⟨B, 4, none⟩ = some (.int .i64 l) ∧ w.cell? ⟨B, 5, none⟩ = some (.string s) ∧ w.cell? ⟨B, 6, none⟩ = some (.int .i64 p0) ∧ w.cell? ⟨B, 7, none⟩ = some (.int .i64 p1) ∧ w.cell? ⟨B, 8, none⟩ = some (.int .i64 p2) ∧ w.cell? ⟨B, 9, none⟩ = some (.int .i64 p3)
theorem TenC.below {B n : Nat} {w w' : World} {k b x t l p0 p1 p2 p3 : Int} {s : ByteArray} (h : TenC B w k b x t l s p0 p1 p2 p3) (hb : Below n w w') (hB : B < n) : TenC B w' k b x t l s p0 p1 p2 p3 := by
  obtain ⟨c0, c1, c2, c3, c4, c5, c6, c7, c8, c9⟩ := h
  exact ⟨(hb.cell (p := ⟨B, 0, none⟩) hB).trans c0, (hb.cell (p := ⟨B, 1, none⟩) hB).trans c1, (hb.cell (p := ⟨B, 2, none⟩) hB).trans c2, (hb.cell (p := ⟨B, 3, none⟩) hB).trans c3, (hb.cell (p := ⟨B, 4, none⟩) hB).trans c4, (hb.cell (p := ⟨B, 5, none⟩) hB).trans c5, (hb.cell (p := ⟨B, 6, none⟩) hB).trans c6, (hb.cell (p := ⟨B, 7, none⟩) hB).trans c7, (hb.cell (p := ⟨B, 8, none⟩) hB).trans c8, (hb.cell (p := ⟨B, 9, none⟩) hB).trans c9⟩
end Go.Proofs.YtgaoeoijdpdjiabGreatDoor

namespace Go.Proofs.YtgaoeoijdpdjiabGreatDoor
/-- A number that an int holds. -/
def Int64 (c : Int) : Prop := -9223372036854775808 ≤ c ∧ c ≤ 9223372036854775807
end Go.Proofs.YtgaoeoijdpdjiabGreatDoor
