/-
  A step through a region that draws its order: an operation that only reads is taken; one whose guard says no is passed by. Rows of numbers of one kind in memory; worlds that part in one block alone; the plain functions of the digest.
-/
import Derived.Test.YtgaoeoijdpdjiaaGreatDoorPart2
import Derived.Deep.RegionHeld3
import Derived.Deep.DrawnRows
import Derived.BigQuiet
import Derived.Deep.QuietTactic
namespace Go.Proofs.YtgaoeoijdpdjiaaGreatDoor
open Go.RowKit
section
variable {P : Program} {ops : Array Oper} {Q : Exit → Act → World → Prop} {md : Region.Mode} {S : World → Prop}
theorem tk (i : Nat) {oi : Oper} {v : Value} {fuel : Nat} {listed : Array Bool} {a b : Act} {w : World} (hS : S w)
    (hi : ops[i]? = some oi := by (simp only [List.getElem?_toArray, List.getElem?_cons_succ, List.getElem?_cons_zero]; rfl))
    (hs : Region.noSelect ops = true := by kernel_rfl) (hf : Region.free md ops listed i = true := by kernel_rfl) (hr : (Region.ready md ops listed).contains i = true := by kernel_rfl)
    (h1 : Region.wanted oi (yielded ops a.tmps) = true := by rfl) (hy : ∀ w, S w → (execOp a.eval oi).run P w = .ok (.value v) w := by intro V hSV; (try dsimp only at hSV); go_simp; (try with_reducible rfl))
    (hQ : ∀ c a w, Q (.panic c) (a.put oi.dst v) w → Q (.panic c) a w := by exact fun _ _ _ h => h)
    (hb : a.put oi.dst v = b := by (first | (simp only [Act.put, List.setIfInBounds_toArray, List.set_cons_zero, List.set_cons_succ]; done) | (simp only [Act.put, List.setIfInBounds_toArray, List.set_cons_zero, List.set_cons_succ]; rfl) | rfl))
    (h : wpAnyH P md ops Q S fuel (listed.setIfInBounds i true) b w) : wpAnyH P md ops Q S (fuel + 1) listed a w :=
  wpAnyH_take hi hs hf hr hQ (.inl ⟨h1, hy⟩) hS (by rw [hb]; exact h)
end
end Go.Proofs.YtgaoeoijdpdjiaaGreatDoor

namespace Go.Proofs.YtgaoeoijdpdjiaaGreatDoor
open Go.RowKit
/-- The i-th entry, 0 where there is none. -/
def at0 (l : List Nat) (i : Nat) : Nat := l.getD i 0
/-- Block g is a row of the numbers L of kind k, and may be written. -/
def RowK (w : World) (g : Nat) (k : IntKind) (T : TypeId) (L : List Nat) : Prop := w.heap[g]? = some (.cells (L.map (fun n => Value.int k ((n : Nat) : Int))).toArray T (0, 0))
theorem RowK.cell {w : World} {g : Nat} {k : IntKind} {T : TypeId} {L : List Nat} (h : RowK w g k T L) {i : Nat} (hi : i < L.length) : w.cell? ⟨g, i, none⟩ = some (.int k ((at0 L i : Nat) : Int)) := by
  unfold RowK at h
  simp [World.cell?, h, hi, at0]
/-- The worlds part in block g alone. -/
structure Only (g : Nat) (w w' : World) : Prop where
  os : w'.os = w.os
  tape : w'.tape = w.tape
  output : w'.output = w.output
  size : w'.heap.size = w.heap.size
  block : ∀ k, k ≠ g → w'.heap[k]? = w.heap[k]?
/-- The plain words of b bits: a sum, a word rotated. -/
def addW (b x y : Nat) : Nat := (x + y) % 2 ^ b
def rotW (b x k : Nat) : Nat := (x * 2 ^ k % 2 ^ b) ||| (x / 2 ^ (b - k))
/-- The numbers of bits of the columns. -/
def turnN (i : Nat) : Nat := if i = 0 then 5 else if i = 1 then 11 else if i = 2 then 19 else 26
/-- A list of eight words, one behind the other, as the column i leaves it. -/
def colW (b i j : Nat) (L : List Nat) : List Nat :=
  (L.set i (addW b (at0 L i) (at0 L j))).set j (rotW b (at0 L j) (turnN i) ^^^ addW b (at0 L i) (at0 L j))
/-- The columns 0 to k - 1, each with the word four places on. -/
def mixTo (b : Nat) (L : List Nat) : Nat → List Nat
  | 0 => L
  | k + 1 => colW b k (k + 4) (mixTo b L k)
end Go.Proofs.YtgaoeoijdpdjiaaGreatDoor
