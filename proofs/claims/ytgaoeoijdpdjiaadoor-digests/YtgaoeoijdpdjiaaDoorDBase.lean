/-
  Rows of numbers of one kind in memory; worlds that part in one block alone; the plain functions of the digest.
-/
import Derived.Test.YtgaoeoijdpdjiaaDoorHide
import Derived.Deep.RegionHeld3
import Derived.Deep.DrawnRows
import Derived.BigQuiet
import Derived.Deep.QuietTactic
namespace Go.Proofs.YtgaoeoijdpdjiaaDoor
open Go.RowKit

/-- The i-th entry, 0 where there is none. -/
def at0 (l : List Nat) (i : Nat) : Nat := l.getD i 0

theorem at0_set_same (l : List Nat) (i z : Nat) (h : i < l.length) : at0 (l.set i z) i = z := by simp [at0, h]
theorem at0_set_other (l : List Nat) (i j z : Nat) (h : i ≠ j) : at0 (l.set i z) j = at0 l j := by simp [at0, List.getElem?_set_ne h]

/-- Block g is a row of the numbers L of kind k, and may be written. -/
def RowK (w : World) (g : Nat) (k : IntKind) (T : TypeId) (L : List Nat) : Prop := w.heap[g]? = some (.cells (L.map (fun n => Value.int k ((n : Nat) : Int))).toArray T (0, 0))

theorem RowK.cell {w : World} {g : Nat} {k : IntKind} {T : TypeId} {L : List Nat} (h : RowK w g k T L) {i : Nat} (hi : i < L.length) : w.cell? ⟨g, i, none⟩ = some (.int k ((at0 L i : Nat) : Int)) := by
  unfold RowK at h
  simp [World.cell?, h, hi, at0]
theorem RowK.free {w : World} {g : Nat} {k : IntKind} {T : TypeId} {L : List Nat} (h : RowK w g k T L) (i : Nat) : w.frozen? ⟨g, i, none⟩ = false := by
  unfold RowK at h
  simp [World.frozen?, h]
theorem RowK.lt {w : World} {g : Nat} {k : IntKind} {T : TypeId} {L : List Nat} (h : RowK w g k T L) : g < w.heap.size := lt_of_block h
theorem RowK.set {w : World} {g : Nat} {k : IntKind} {T : TypeId} {L : List Nat} (h : RowK w g k T L) (i z : Nat) : RowK (w.setCell ⟨g, i, none⟩ (.int k ((z : Nat) : Int))) g k T (L.set i z) := by
  have hlt := h.lt
  unfold RowK at h ⊢
  have h' : w.heap[g] = .cells (L.map (fun n => Value.int k ((n : Nat) : Int))).toArray T (0, 0) := by simpa [Array.getElem?_eq_getElem hlt] using h
  show (w.heap.modify g _)[g]? = _
  rw [Array.getElem?_eq_getElem (by simpa using hlt), Array.getElem_modify_self, h']
  simp
theorem RowK.below {w w' : World} {g B : Nat} {k : IntKind} {T : TypeId} {L : List Nat} (h : RowK w g k T L) (hb : Below B w w') (hg : g < B) : RowK w' g k T L := by
  unfold RowK at h ⊢
  rw [hb.block g hg]; exact h
theorem RowK.drew {w : World} {g : Nat} {k : IntKind} {T : TypeId} {L : List Nat} (h : RowK w g k T L) : RowK w.drew g k T L := h
theorem RowK.drewN {w : World} {g : Nat} {k : IntKind} {T : TypeId} {L : List Nat} (h : RowK w g k T L) (n : Nat) : RowK (w.drewN n) g k T L := h

/-- The worlds part in block g alone. -/
structure Only (g : Nat) (w w' : World) : Prop where
  os : w'.os = w.os
  tape : w'.tape = w.tape
  output : w'.output = w.output
  size : w'.heap.size = w.heap.size
  block : ∀ k, k ≠ g → w'.heap[k]? = w.heap[k]?

theorem Only.refl (g : Nat) (w : World) : Only g w w := ⟨rfl, rfl, rfl, rfl, fun _ _ => rfl⟩
theorem Only.trans {g : Nat} {a b c : World} (h : Only g a b) (k : Only g b c) : Only g a c :=
  ⟨k.os.trans h.os, k.tape.trans h.tape, k.output.trans h.output, k.size.trans h.size, fun i hi => (k.block i hi).trans (h.block i hi)⟩
theorem Only.setCell {g : Nat} {a w : World} (h : Only g a w) (i : Nat) (u : Value) : Only g a (w.setCell ⟨g, i, none⟩ u) :=
  h.trans ⟨rfl, rfl, rfl, by simp [World.setCell], fun _ hk => Below.heap_setCell _ _ _ _ hk⟩
theorem Only.drew {g : Nat} {a w : World} (h : Only g a w) : Only g a w.drew := ⟨h.os, h.tape, h.output, h.size, h.block⟩
theorem Only.drewN {g : Nat} {a w : World} (h : Only g a w) (n : Nat) : Only g a (w.drewN n) := ⟨h.os, h.tape, h.output, h.size, h.block⟩
theorem Only.below {g B : Nat} {a w w' : World} (h : Below B a w) (k : Only g w w') (hg : B ≤ g) : Below B a w' :=
  h.trans ⟨k.os, k.tape, k.output, by rw [k.size]; exact Nat.le_refl _, fun i hi => k.block i (by omega)⟩
theorem Only.cell {g : Nat} {w w' : World} (h : Only g w w') {p : Addr} (hp : p.block ≠ g) : w'.cell? p = w.cell? p := World.cell?_of_block (w := w) (h.block p.block hp)
theorem Only.row {g q : Nat} {w w' : World} {k : IntKind} {T : TypeId} {L : List Nat} (h : Only g w w') (r : RowK w q k T L) (hk : q ≠ g) : RowK w' q k T L := by
  unfold RowK at r ⊢
  rw [h.block q hk]; exact r

/-- The plain words of b bits: a sum, a word rotated. -/
def addW (b x y : Nat) : Nat := (x + y) % 2 ^ b
def rotW (b x k : Nat) : Nat := (x * 2 ^ k % 2 ^ b) ||| (x / 2 ^ (b - k))
/-- The numbers of bits of the columns. -/
def turnN (i : Nat) : Nat := if i = 0 then 5 else if i = 1 then 11 else if i = 2 then 19 else 26

theorem addW_lt (b x y : Nat) : addW b x y < 2 ^ b := Nat.mod_lt _ (Nat.two_pow_pos b)
theorem rotW_lt (b x k : Nat) (hx : x < 2 ^ b) : rotW b x k < 2 ^ b :=
  Nat.or_lt_two_pow (Nat.mod_lt _ (Nat.two_pow_pos b)) (Nat.lt_of_le_of_lt (Nat.div_le_self _ _) hx)

/-- A list of eight words, one behind the other, as the column i leaves it. -/
def colW (b i j : Nat) (L : List Nat) : List Nat :=
  (L.set i (addW b (at0 L i) (at0 L j))).set j (rotW b (at0 L j) (turnN i) ^^^ addW b (at0 L i) (at0 L j))

theorem colW_length (b i j : Nat) (L : List Nat) : (colW b i j L).length = L.length := by simp [colW]

/-- Every entry is a word. -/
def Words (b : Nat) (L : List Nat) : Prop := ∀ x ∈ L, x < 2 ^ b

theorem Words.at {b : Nat} {L : List Nat} (h : Words b L) (i : Nat) : at0 L i < 2 ^ b := by
  by_cases hi : i < L.length
  · simp only [at0, List.getD_eq_getElem?_getD, List.getElem?_eq_getElem hi, Option.getD_some]
    exact h _ (List.getElem_mem hi)
  · simp only [at0, List.getD_eq_getElem?_getD, List.getElem?_eq_none (by omega : L.length ≤ i), Option.getD_none]
    exact Nat.two_pow_pos b
theorem Words.set {b : Nat} {L : List Nat} (h : Words b L) (i z : Nat) (hz : z < 2 ^ b) : Words b (L.set i z) := by
  intro x hx
  rcases List.mem_or_eq_of_mem_set hx with hx | rfl
  · exact h x hx
  · exact hz
theorem Words.col {b : Nat} {L : List Nat} (h : Words b L) (i j : Nat) : Words b (colW b i j L) :=
  (h.set i _ (addW_lt _ _ _)).set j _ (Nat.xor_lt_two_pow (rotW_lt _ _ _ (h.at j)) (addW_lt _ _ _))

/-- The columns 0 to k - 1, each with the word four places on. -/
def mixTo (b : Nat) (L : List Nat) : Nat → List Nat
  | 0 => L
  | k + 1 => colW b k (k + 4) (mixTo b L k)
theorem mixTo_length (b : Nat) (L : List Nat) (k : Nat) : (mixTo b L k).length = L.length := by
  induction k with
  | zero => rfl
  | succ k ih => simp only [mixTo, colW_length, ih]
theorem mixTo_words (b : Nat) (L : List Nat) (k : Nat) (h : Words b L) : Words b (mixTo b L k) := by
  induction k with
  | zero => exact h
  | succ k ih => exact ih.col _ _
end Go.Proofs.YtgaoeoijdpdjiaaDoor
