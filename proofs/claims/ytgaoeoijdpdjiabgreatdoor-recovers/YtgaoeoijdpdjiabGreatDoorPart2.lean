/-
  What stays of a world's cells over a call. Rows of numbers of one kind in memory; worlds that part in one block alone; the plain functions of the digest. Worlds that part in some blocks alone; rows of things of one size. The program's disk in memory: what its blocks hold. A region that draws its order, inside a round of a loop over an iterator: by the law of what is held. The program's words of two kinds: how many bytes; a word rotated. A record that comes in by value, opened.
-/
import Derived.Test.YtgaoeoijdpdjiabGreatDoorPart1
import Derived.Deep.RegionHeld3
import Derived.Deep.DrawnRows
import Derived.BigQuiet
import Derived.Deep.QuietTactic
import Derived.Test.YtgaoeoijdpdjiabGreatDoorRows
import Derived.WalkKit
import Derived.Deep.MidRow
import Derived.Deep.AppendLies
import Derived.WalkSpells
import Derived.WalkLawsBesides
import Derived.Handy
import Derived.Laws.MakeOwn
import Derived.RangeFuncNested
import Derived.OwnWalkIn
import Derived.ProofKit
import Derived.ShutString
namespace Go.Proofs.YtgaoeoijdpdjiabGreatDoor
open Go.RowKit
theorem heldB {n : Nat} {w W V : World} (h : Below n w W) (hb : Below W.heap.size W V) (hn : n ≤ w.heap.size) : Below n w V := h.trans (hb.mono (by have := h.size; omega))
theorem heldC {n : Nat} {w W V : World} {a : Addr} {v : Value} (h : Below n w W) (hb : Below W.heap.size W V) (hn : n ≤ w.heap.size) (ha : a.block < n) (hc : W.cell? a = some v) : V.cell? a = some v :=
  (hb.cell (p := a) (by have := h.size; omega)).trans hc
theorem held1 {n : Nat} {w W V : World} {a0 : Addr} {v0 : Value} (h : W.cell? a0 = some v0 ∧ Below n w W) (hb : Below W.heap.size W V) (hn : n ≤ w.heap.size) (h0 : a0.block < n) : V.cell? a0 = some v0 ∧ Below n w V :=
  ⟨heldC h.2 hb hn h0 h.1, heldB h.2 hb hn⟩
theorem held2 {n : Nat} {w W V : World} {a0 a1 : Addr} {v0 v1 : Value} (h : W.cell? a0 = some v0 ∧ W.cell? a1 = some v1 ∧ Below n w W) (hb : Below W.heap.size W V) (hn : n ≤ w.heap.size) (h0 : a0.block < n) (h1 : a1.block < n) : V.cell? a0 = some v0 ∧ V.cell? a1 = some v1 ∧ Below n w V :=
  ⟨heldC h.2.2 hb hn h0 h.1, held1 h.2 hb hn h1⟩
/-- Ten cells one behind the other: a struct that holds a set, a text and a place. -/
def TenC (B : Nat) (w : World) (k b x t l : Int) (s : ByteArray) (p0 p1 p2 p3 : Int) : Prop :=
  w.cell? ⟨B, 0, none⟩ = some (.int .i64 k) ∧ w.cell? ⟨B, 1, none⟩ = some (.int .i64 b) ∧ w.cell? ⟨B, 2, none⟩ = some (.int .i64 x) ∧ w.cell? ⟨B, 3, none⟩ = some (.int .i64 t) ∧ w.cell? ⟨B, 4, none⟩ = some (.int .i64 l) ∧ w.cell? ⟨B, 5, none⟩ = some (.string s) ∧ w.cell? ⟨B, 6, none⟩ = some (.int .i64 p0) ∧ w.cell? ⟨B, 7, none⟩ = some (.int .i64 p1) ∧ w.cell? ⟨B, 8, none⟩ = some (.int .i64 p2) ∧ w.cell? ⟨B, 9, none⟩ = some (.int .i64 p3)
theorem TenC.below {B n : Nat} {w w' : World} {k b x t l p0 p1 p2 p3 : Int} {s : ByteArray} (h : TenC B w k b x t l s p0 p1 p2 p3) (hb : Below n w w') (hB : B < n) : TenC B w' k b x t l s p0 p1 p2 p3 := by
  obtain ⟨c0, c1, c2, c3, c4, c5, c6, c7, c8, c9⟩ := h
  exact ⟨(hb.cell (p := ⟨B, 0, none⟩) hB).trans c0, (hb.cell (p := ⟨B, 1, none⟩) hB).trans c1, (hb.cell (p := ⟨B, 2, none⟩) hB).trans c2, (hb.cell (p := ⟨B, 3, none⟩) hB).trans c3, (hb.cell (p := ⟨B, 4, none⟩) hB).trans c4, (hb.cell (p := ⟨B, 5, none⟩) hB).trans c5, (hb.cell (p := ⟨B, 6, none⟩) hB).trans c6, (hb.cell (p := ⟨B, 7, none⟩) hB).trans c7, (hb.cell (p := ⟨B, 8, none⟩) hB).trans c8, (hb.cell (p := ⟨B, 9, none⟩) hB).trans c9⟩
end Go.Proofs.YtgaoeoijdpdjiabGreatDoor

namespace Go.Proofs.YtgaoeoijdpdjiabGreatDoor
open Go.RowKit
/-- The i-th entry, 0 where there is none. -/
def at0 (l : List Nat) (i : Nat) : Nat := l.getD i 0
theorem at0_set_same (l : List Nat) (i z : Nat) (h : i < l.length) : at0 (l.set i z) i = z := by simp [at0, h]
theorem at0_set_other (l : List Nat) (i j z : Nat) (h : i ≠ j) : at0 (l.set i z) j = at0 l j := by simp [at0, List.getElem?_set_ne h]
/-- Block g is a row of the numbers L of kind k, and may be written. -/
def RowK (w : World) (g : Nat) (k : IntKind) (T : TypeId) (L : List Nat) : Prop := w.heap[g]? = some (.cells (L.map (fun n => Value.int k ((n : Nat) : Int))).toArray T (0, 0))
theorem RowK.cell {w : World} {g : Nat} {k : IntKind} {T : TypeId} {L : List Nat} (h : RowK w g k T L) {i : Nat} (hi : i < L.length) : w.cell? ⟨g, i, none⟩ = some (.int k ((at0 L i : Nat) : Int)) := by
  unfold RowK at h
  simp [World.cell?, h, hi, at0]
theorem RowK.free {w : World} {g : Nat} {k : IntKind} {T : TypeId} {L : List Nat} (h : RowK w g k T L) (i : Nat) : w.frozen? ⟨g, i, none⟩ = false := by
  unfold RowK at h
  simp [World.frozen?, h]
theorem RowK.lt {w : World} {g : Nat} {k : IntKind} {T : TypeId} {L : List Nat} (h : RowK w g k T L) : g < w.heap.size := lt_of_block h
theorem RowK.set {w : World} {g : Nat} {k : IntKind} {T : TypeId} {L : List Nat} (h : RowK w g k T L) (i z : Nat) : RowK (w.setCell ⟨g, i, none⟩ (.int k ((z : Nat) : Int))) g k T (L.set i z) := by
  have hlt := h.lt
  unfold RowK at h ⊢
  have h' : w.heap[g] = .cells (L.map (fun n => Value.int k ((n : Nat) : Int))).toArray T (0, 0) := by simpa [Array.getElem?_eq_getElem hlt] using h
  show (w.heap.modify g _)[g]? = _
  rw [Array.getElem?_eq_getElem (by simpa using hlt), Array.getElem_modify_self, h']
  simp
theorem RowK.below {w w' : World} {g B : Nat} {k : IntKind} {T : TypeId} {L : List Nat} (h : RowK w g k T L) (hb : Below B w w') (hg : g < B) : RowK w' g k T L := by
  unfold RowK at h ⊢
  rw [hb.block g hg]; exact h
theorem RowK.drewN {w : World} {g : Nat} {k : IntKind} {T : TypeId} {L : List Nat} (h : RowK w g k T L) (n : Nat) : RowK (w.drewN n) g k T L := h
/-- The worlds part in block g alone. -/
structure Only (g : Nat) (w w' : World) : Prop where
  os : w'.os = w.os
  tape : w'.tape = w.tape
  output : w'.output = w.output
  size : w'.heap.size = w.heap.size
  block : ∀ k, k ≠ g → w'.heap[k]? = w.heap[k]?
theorem Only.refl (g : Nat) (w : World) : Only g w w := ⟨rfl, rfl, rfl, rfl, fun _ _ => rfl⟩
theorem Only.trans {g : Nat} {a b c : World} (h : Only g a b) (k : Only g b c) : Only g a c :=
  ⟨k.os.trans h.os, k.tape.trans h.tape, k.output.trans h.output, k.size.trans h.size, fun i hi => (k.block i hi).trans (h.block i hi)⟩
theorem Only.setCell {g : Nat} {a w : World} (h : Only g a w) (i : Nat) (u : Value) : Only g a (w.setCell ⟨g, i, none⟩ u) :=
  h.trans ⟨rfl, rfl, rfl, by simp [World.setCell], fun _ hk => Below.heap_setCell _ _ _ _ hk⟩
theorem Only.drew {g : Nat} {a w : World} (h : Only g a w) : Only g a w.drew := ⟨h.os, h.tape, h.output, h.size, h.block⟩
theorem Only.drewN {g : Nat} {a w : World} (h : Only g a w) (n : Nat) : Only g a (w.drewN n) := ⟨h.os, h.tape, h.output, h.size, h.block⟩
theorem Only.below {g B : Nat} {a w w' : World} (h : Below B a w) (k : Only g w w') (hg : B ≤ g) : Below B a w' :=
  h.trans ⟨k.os, k.tape, k.output, by rw [k.size]; exact Nat.le_refl _, fun i hi => k.block i (by omega)⟩
theorem Only.cell {g : Nat} {w w' : World} (h : Only g w w') {p : Addr} (hp : p.block ≠ g) : w'.cell? p = w.cell? p := World.cell?_of_block (w := w) (h.block p.block hp)
theorem Only.row {g q : Nat} {w w' : World} {k : IntKind} {T : TypeId} {L : List Nat} (h : Only g w w') (r : RowK w q k T L) (hk : q ≠ g) : RowK w' q k T L := by
  unfold RowK at r ⊢
  rw [h.block q hk]; exact r
/-- The plain words of b bits: a sum, a word rotated. -/
def addW (b x y : Nat) : Nat := (x + y) % 2 ^ b
def rotW (b x k : Nat) : Nat := (x * 2 ^ k % 2 ^ b) ||| (x / 2 ^ (b - k))
/-- The numbers of bits of the columns. -/
def turnN (i : Nat) : Nat := if i = 0 then 5 else if i = 1 then 11 else if i = 2 then 19 else 26
theorem addW_lt (b x y : Nat) : addW b x y < 2 ^ b := Nat.mod_lt _ (Nat.two_pow_pos b)
theorem rotW_lt (b x k : Nat) (hx : x < 2 ^ b) : rotW b x k < 2 ^ b :=
  Nat.or_lt_two_pow (Nat.mod_lt _ (Nat.two_pow_pos b)) (Nat.lt_of_le_of_lt (Nat.div_le_self _ _) hx)
/-- A list of eight words, one behind the other, as the column i leaves it. -/
def colW (b i j : Nat) (L : List Nat) : List Nat :=
  (L.set i (addW b (at0 L i) (at0 L j))).set j (rotW b (at0 L j) (turnN i) ^^^ addW b (at0 L i) (at0 L j))
theorem colW_length (b i j : Nat) (L : List Nat) : (colW b i j L).length = L.length := by simp [colW]
/-- Every entry is a word. -/
def Words (b : Nat) (L : List Nat) : Prop := ∀ x ∈ L, x < 2 ^ b
theorem Words.at {b : Nat} {L : List Nat} (h : Words b L) (i : Nat) : at0 L i < 2 ^ b := by
  by_cases hi : i < L.length
  · simp only [at0, List.getD_eq_getElem?_getD, List.getElem?_eq_getElem hi, Option.getD_some]
    exact h _ (List.getElem_mem hi)
  · simp only [at0, List.getD_eq_getElem?_getD, List.getElem?_eq_none (by omega : L.length ≤ i), Option.getD_none]
    exact Nat.two_pow_pos b
theorem Words.set {b : Nat} {L : List Nat} (h : Words b L) (i z : Nat) (hz : z < 2 ^ b) : Words b (L.set i z) := by
  intro x hx
  rcases List.mem_or_eq_of_mem_set hx with hx | rfl
  · exact h x hx
  · exact hz
theorem Words.col {b : Nat} {L : List Nat} (h : Words b L) (i j : Nat) : Words b (colW b i j L) :=
  (h.set i _ (addW_lt _ _ _)).set j _ (Nat.xor_lt_two_pow (rotW_lt _ _ _ (h.at j)) (addW_lt _ _ _))
/-- The columns 0 to k - 1, each with the word four places on. -/
def mixTo (b : Nat) (L : List Nat) : Nat → List Nat
  | 0 => L
  | k + 1 => colW b k (k + 4) (mixTo b L k)
theorem mixTo_length (b : Nat) (L : List Nat) (k : Nat) : (mixTo b L k).length = L.length := by
  induction k with
  | zero => rfl
  | succ k ih => simp only [mixTo, colW_length, ih]
theorem mixTo_words (b : Nat) (L : List Nat) (k : Nat) (h : Words b L) : Words b (mixTo b L k) := by
  induction k with
  | zero => exact h
  | succ k ih => exact ih.col _ _
end Go.Proofs.YtgaoeoijdpdjiabGreatDoor

namespace Go.Proofs.YtgaoeoijdpdjiabGreatDoor
open Go.RowKit
/-- All but the blocks of F, and new ones, is as it was. -/
structure Kept (F : Nat → Prop) (w w' : World) : Prop where
  os : w'.os = w.os
  tape : w'.tape = w.tape
  output : w'.output = w.output
  size : w.heap.size ≤ w'.heap.size
  block : ∀ k, k < w.heap.size → ¬ F k → w'.heap[k]? = w.heap[k]?
theorem Kept.refl (F : Nat → Prop) (w : World) : Kept F w w := ⟨rfl, rfl, rfl, Nat.le_refl _, fun _ _ _ => rfl⟩
theorem Kept.mono {F G : Nat → Prop} {w w' : World} (h : Kept F w w') (hg : ∀ k, k < w.heap.size → F k → G k) : Kept G w w' :=
  ⟨h.os, h.tape, h.output, h.size, fun k hk hn => h.block k hk (fun hf => hn (hg k hk hf))⟩
theorem Kept.trans {F G : Nat → Prop} {a b c : World} (h : Kept F a b) (k : Kept G b c) (hg : ∀ i, G i → F i ∨ a.heap.size ≤ i) : Kept F a c :=
  ⟨k.os.trans h.os, k.tape.trans h.tape, k.output.trans h.output, Nat.le_trans h.size k.size, fun i hi hn => (k.block i (Nat.lt_of_lt_of_le hi h.size) (fun hf => by rcases hg i hf with h1 | h1 <;> first | exact hn h1 | omega)).trans (h.block i hi hn)⟩
theorem Kept.of_below {F : Nat → Prop} {w w' : World} (h : Below w.heap.size w w') : Kept F w w' := ⟨h.os, h.tape, h.output, h.size, fun k hk _ => h.block k hk⟩
theorem Kept.below {F : Nat → Prop} {w w' : World} {B : Nat} (h : Kept F w w') (hF : ∀ k, F k → B ≤ k) (hB : B ≤ w.heap.size) : Below B w w' :=
  ⟨h.os, h.tape, h.output, h.size, fun k hk => h.block k (by omega) (fun hf => by have := hF k hf; omega)⟩
theorem Kept.after {F : Nat → Prop} {a w w' : World} (h : Kept F a w) (hb : Below w.heap.size w w') : Kept F a w' := h.trans (Kept.of_below (F := fun _ => False) hb) (fun _ hf => hf.elim)
theorem Kept.drew {F : Nat → Prop} {a w : World} (h : Kept F a w) : Kept F a w.drew := ⟨h.os, h.tape, h.output, h.size, h.block⟩
theorem Kept.alloc {F : Nat → Prop} {a w : World} (h : Kept F a w) (o : Obj) : Kept F a (w.alloc o) := h.after ((Below.refl _ _).alloc (Nat.le_refl _) _)
theorem kept_set (w : World) (p : Addr) (u : Value) : Kept (fun k => k = p.block) w (w.setCell p u) :=
  ⟨rfl, rfl, rfl, by simp [World.setCell], fun k _ hn => Below.heap_setCell _ _ _ _ hn⟩
theorem Kept.setCell {F : Nat → Prop} {a w : World} (h : Kept F a w) {p : Addr} (hp : F p.block ∨ a.heap.size ≤ p.block) (u : Value) : Kept F a (w.setCell p u) :=
  h.trans (kept_set w p u) (fun i hi => by rw [hi]; exact hp)
theorem kept_sets (b : Nat) : ∀ (vs : List Value) (o : Nat) (w : World), Kept (fun k => k = b) w (w.setCells b o vs)
  | [], _, w => Kept.refl _ w
  | v :: r, o, w => by
    rw [World.setCells]
    exact (kept_set w ⟨b, o, none⟩ v).trans (kept_sets b r (o + 1) _) (fun i hi => .inl hi)
theorem Kept.setCells {F : Nat → Prop} {a w : World} (h : Kept F a w) {b : Nat} (hp : F b ∨ a.heap.size ≤ b) (o : Nat) (vs : List Value) : Kept F a (w.setCells b o vs) :=
  h.trans (kept_sets b vs o w) (fun i hi => by rw [hi]; exact hp)
theorem kept_grown {w w' : World} {row : Option Nat} (hg : w.grownBy w' row) : Kept (fun k => row = some k) w w' :=
  ⟨hg.os, hg.tape, hg.output, hg.size, fun k hk hn => hg.block k hk (fun e => hn e.symm)⟩
theorem Kept.grown {F : Nat → Prop} {a w w' : World} {row : Option Nat} (h : Kept F a w) (hg : w.grownBy w' row) (hr : ∀ k, row = some k → F k ∨ a.heap.size ≤ k) : Kept F a w' :=
  h.trans (kept_grown hg) hr
theorem Kept.cell {F : Nat → Prop} {w w' : World} (h : Kept F w w') {p : Addr} (hp : p.block < w.heap.size) (hn : ¬ F p.block) : w'.cell? p = w.cell? p := World.cell?_of_block (w := w) (h.block p.block hp hn)
theorem owns_kept {F : Nat → Prop} {w w' : World} {base : Nat} {e : TypeId} {size : Nat} {v : Value} {n : Nat} {xs : List Value} (h : w.ownsRow base e size v n xs) (hk : Kept F w w') (hn : ∀ k, v.ownBlock = some k → ¬ F k) : w'.ownsRow base e size v n xs := by
  refine ⟨h.1, ?_⟩
  rcases h.2 with hn0 | ⟨g, cap, cur, rfl, hb, hgg, rest⟩
  · exact .inl hn0
  · refine .inr ⟨g, cap, cur, rfl, hb, ?_, rest⟩
    rw [hk.block g (Array.getElem?_eq_some_iff.1 hgg).1 (hn g rfl)]
    exact hgg
/-! Rows of things of one size -/
theorem flat_length {α : Type} (f : α → List Value) (m : Nat) : ∀ l : List α, (∀ x ∈ l, (f x).length = m) → (l.flatMap f).length = l.length * m
  | [], _ => by simp
  | x :: l, h => by
    rw [List.flatMap_cons, List.length_append, h x (by simp), flat_length f m l (fun y hy => h y (by simp [hy])), List.length_cons, Nat.succ_mul, Nat.add_comm]
theorem flat_get {α : Type} (f : α → List Value) (m : Nat) : ∀ (l : List α) (i : Nat) (x : α) (j : Nat), (∀ x ∈ l, (f x).length = m) → l[i]? = some x → j < m → (l.flatMap f)[i * m + j]? = (f x)[j]?
  | [], i, x, j, _, h, _ => by simp at h
  | y :: l, 0, x, j, hl, h, hj => by
    simp at h
    subst h
    rw [List.flatMap_cons, Nat.zero_mul, Nat.zero_add, List.getElem?_append_left (by rw [hl y (by simp)]; exact hj)]
  | y :: l, i + 1, x, j, hl, h, hj => by
    have hy := hl y (by simp)
    rw [List.flatMap_cons, List.getElem?_append_right (by rw [hy, Nat.succ_mul]; omega), hy, show (i + 1) * m + j - m = i * m + j by rw [Nat.succ_mul]; omega]
    exact flat_get f m l i x j (fun z hz => hl z (by simp [hz])) (by simpa using h) hj
/-- What is laid into a row from a place on. -/
def overlay (L : List Value) : Nat → List Value → List Value
  | _, [] => L
  | o, v :: r => overlay (L.set o v) (o + 1) r
theorem overlay_get : ∀ (vs : List Value) (o : Nat) (L : List Value) (k : Nat), o + vs.length ≤ L.length → (overlay L o vs)[k]? = if o ≤ k ∧ k < o + vs.length then vs[k - o]? else L[k]?
  | [], o, L, k, _ => by
    rw [overlay, if_neg (by simp only [List.length_nil]; omega)]
  | v :: r, o, L, k, h => by
    simp only [List.length_cons] at h
    rw [overlay, overlay_get r (o + 1) (L.set o v) k (by rw [List.length_set]; omega)]
    by_cases h1 : o + 1 ≤ k ∧ k < o + 1 + r.length
    · rw [if_pos h1, if_pos (by simp only [List.length_cons]; omega), show k - o = (k - (o + 1)) + 1 by omega, List.getElem?_cons_succ]
    · rw [if_neg h1]
      by_cases h2 : o = k
      · subst h2
        rw [if_pos (by simp only [List.length_cons]; omega), Nat.sub_self, List.getElem?_cons_zero, List.getElem?_set_self (by omega)]
      · rw [if_neg (by simp only [List.length_cons]; omega), List.getElem?_set_ne h2]
theorem block_setCell {w : World} {b o : Nat} {L : List Value} {t : TypeId} {fr : Nat × Nat} (h : w.heap[b]? = some (.cells L.toArray t fr)) (v : Value) : (w.setCell ⟨b, o, none⟩ v).heap[b]? = some (.cells (L.set o v).toArray t fr) := by
  have hlt : b < w.heap.size := (Array.getElem?_eq_some_iff.1 h).1
  have h' : w.heap[b] = .cells L.toArray t fr := by simpa [Array.getElem?_eq_getElem hlt] using h
  show (w.heap.modify b _)[b]? = _
  rw [Array.getElem?_eq_getElem (by simpa using hlt), Array.getElem_modify_self, h']
  simp
theorem block_setCells (b : Nat) {t : TypeId} {fr : Nat × Nat} : ∀ (vs : List Value) (o : Nat) (L : List Value) (w : World), w.heap[b]? = some (.cells L.toArray t fr) → (w.setCells b o vs).heap[b]? = some (.cells (overlay L o vs).toArray t fr)
  | [], _, _, _, h => h
  | v :: r, o, L, w, h => by
    rw [World.setCells, overlay]
    exact block_setCells b r (o + 1) (L.set o v) _ (block_setCell h v)
/-- One thing of a row, laid anew. -/
theorem overlay_flat {α : Type} (f : α → List Value) (m : Nat) (l : List α) (i : Nat) (x : α) (hl : ∀ x ∈ l, (f x).length = m) (hx : (f x).length = m) (hi : i < l.length) : overlay (l.flatMap f) (i * m) (f x) = (l.set i x).flatMap f := by
  have hl2 : ∀ y ∈ l.set i x, (f y).length = m := fun y hy => by
    rcases List.mem_or_eq_of_mem_set hy with h | h
    · exact hl y h
    · rw [h]; exact hx
  have hlen := flat_length f m l hl
  have hlen2 := flat_length f m (l.set i x) hl2
  rw [List.length_set] at hlen2
  have hbound : i * m + m ≤ l.length * m := by rw [← Nat.succ_mul]; exact Nat.mul_le_mul_right m hi
  apply List.ext_getElem?
  intro k
  rw [overlay_get _ _ _ _ (by rw [hx, hlen]; exact hbound), hx]
  by_cases hk : k < l.length * m
  · have hm : 0 < m := Nat.pos_of_ne_zero (fun e => by subst e; simp at hk)
    have hq : k / m < l.length := Nat.div_lt_of_lt_mul (by rw [Nat.mul_comm]; exact hk)
    have hr : k % m < m := Nat.mod_lt _ hm
    have hkq : k / m * m + k % m = k := by rw [Nat.mul_comm]; exact Nat.div_add_mod k m
    by_cases h : k / m = i
    · have h1 : i * m ≤ k ∧ k < i * m + m := by subst h; omega
      rw [if_pos h1]
      have := flat_get f m (l.set i x) i x (k - i * m) hl2 (by rw [List.getElem?_set_self hi]) (by omega)
      rw [show i * m + (k - i * m) = k by omega] at this
      exact this.symm
    · have h1 : ¬ (i * m ≤ k ∧ k < i * m + m) := by
        rintro ⟨a, b⟩
        apply h
        rw [← Nat.succ_mul] at b
        exact Nat.le_antisymm (Nat.le_of_lt_succ (Nat.div_lt_of_lt_mul (by rw [Nat.mul_comm]; exact b))) ((Nat.le_div_iff_mul_le hm).2 a)
      rw [if_neg h1]
      have e1 := flat_get f m l (k / m) l[k / m] (k % m) hl (List.getElem?_eq_getElem hq) hr
      have e2 := flat_get f m (l.set i x) (k / m) l[k / m] (k % m) hl2 (by rw [List.getElem?_set_ne (fun e => h e.symm), List.getElem?_eq_getElem hq]) hr
      rw [hkq] at e1 e2
      rw [e1, e2]
  · rw [if_neg (by omega), List.getElem?_eq_none (by rw [hlen]; omega), List.getElem?_eq_none (by rw [hlen2]; omega)]
theorem flat_range {α : Type} (f : α → List Value) (m : Nat) (l : List α) (i : Nat) (x : α) (hl : ∀ x ∈ l, (f x).length = m) (h : l[i]? = some x) {w : World} {b : Nat} {C : List Value} {t : TypeId} {fr : Nat × Nat} (hb : w.heap[b]? = some (.cells C.toArray t fr)) (hC : C.take (l.length * m) = l.flatMap f) : w.rangeAt b (i * m) (f x) := by
  intro j v hv
  have hx : (f x).length = m := hl x (List.mem_of_getElem? h)
  have hj : j < m := by rw [← hx]; exact (List.getElem?_eq_some_iff.1 hv).1
  have hi : i < l.length := (List.getElem?_eq_some_iff.1 h).1
  have hbound : i * m + m ≤ l.length * m := by rw [← Nat.succ_mul]; exact Nat.mul_le_mul_right m hi
  rw [cell_of_row w b (i * m + j) C.toArray t fr hb]
  have e := flat_get f m l i x j hl h hj
  rw [← hC, List.getElem?_take_of_lt (by omega)] at e
  rw [List.getElem?_toArray, e, hv]
end Go.Proofs.YtgaoeoijdpdjiabGreatDoor

namespace Go.Proofs.YtgaoeoijdpdjiabGreatDoor
open Go.RowKit
theorem hideK {p : Prop} (h : p) : Hid p := h
/-- What a disk holds. -/
structure DSt where
  n : Nat
  dur : List ByteArray
  pend : List (Nat × ByteArray)
  writes : Int
  syncs : Int
  trouble : Int
  term : Int
structure DOk (s : DSt) : Prop where
  len : s.dur.length = s.n
  sec : ∀ x ∈ s.dur, x.size = 32
  pen : ∀ p ∈ s.pend, p.1 < s.n ∧ p.2.size = 32
  lo : 1 ≤ s.n
  hi : s.n ≤ 8
  most : s.pend.length ≤ 16
  tr : 0 ≤ s.trouble
  tr2 : s.trouble ≤ 9223372036854775807
/-- A text's bytes as cells. -/
def cellsB (s : ByteArray) : List Value := s.data.toList.map (fun u => Value.int .u8 ((u.toNat : Nat) : Int))
theorem cellsB_length (s : ByteArray) : (cellsB s).length = s.size := by simp [cellsB]
theorem cellsB_one (s : ByteArray) : ∀ v ∈ cellsB s, v.oneCell' = true := by
  intro v hv
  obtain ⟨u, _, rfl⟩ := List.mem_map.1 hv
  rfl
def penC (p : Nat × ByteArray) : List Value := .int .i64 ((p.1 : Nat) : Int) :: cellsB p.2
theorem penC_length (p : Nat × ByteArray) : (penC p).length = p.2.size + 1 := by simp [penC, cellsB_length]
theorem penC_one (p : Nat × ByteArray) : ∀ v ∈ penC p, v.oneCell' = true := by
  intro v hv
  rcases List.mem_cons.1 hv with rfl | hv
  · rfl
  · exact cellsB_one _ v hv
def secs (l : List ByteArray) : List Value := l.flatMap cellsB
def pends (l : List (Nat × ByteArray)) : List Value := l.flatMap penC
/-- A disk lies in memory: its struct in block D, its sectors in block E, its pending writes where pv says. -/
structure DAt (lo D E : Nat) (pv : Value) (s : DSt) (w : World) : Prop where
  disk : w.heap[D]? = some (.cells (List.toArray [.slice (some ⟨E, 0, none⟩) s.n s.n, pv, .int .i64 s.writes, .int .i64 s.syncs, .int .i64 s.trouble, .int .i64 s.term]) 182 (0, 0))
  durable : w.heap[E]? = some (.cells (secs s.dur).toArray 239 (0, 0))
  pending : w.ownsRow lo 241 33 pv s.pend.length (pends s.pend)
  ok : DOk s
  de : D ≠ E
  pd : pv.ownBlock ≠ some D
  pe : pv.ownBlock ≠ some E
  loD : lo ≤ D
  loE : lo ≤ E
def DFoot (D E : Nat) (pv : Value) : Nat → Prop := fun k => k = D ∨ k = E ∨ pv.ownBlock = some k
section
variable {lo D E : Nat} {pv : Value} {s : DSt} {w w' : World}
theorem DAt.ltD (h : DAt lo D E pv s w) : D < w.heap.size := (Array.getElem?_eq_some_iff.1 h.disk).1
theorem DAt.ltE (h : DAt lo D E pv s w) : E < w.heap.size := (Array.getElem?_eq_some_iff.1 h.durable).1
theorem DAt.lt (h : DAt lo D E pv s w) : ∀ k, DFoot D E pv k → lo ≤ k ∧ k < w.heap.size := by
  rintro k (rfl | rfl | hk)
  · exact ⟨h.loD, h.ltD⟩
  · exact ⟨h.loE, h.ltE⟩
  · exact h.pending.lt k hk
theorem DAt.kept {F : Nat → Prop} (h : DAt lo D E pv s w) (hk : Kept F w w') (hn : ∀ k, DFoot D E pv k → ¬ F k) : DAt lo D E pv s w' :=
  ⟨by rw [hk.block D h.ltD (hn D (.inl rfl))]; exact h.disk, by rw [hk.block E h.ltE (hn E (.inr (.inl rfl)))]; exact h.durable, owns_kept h.pending hk (fun k e => hn k (.inr (.inr e))), h.ok, h.de, h.pd, h.pe, h.loD, h.loE⟩
theorem DAt.below (h : DAt lo D E pv s w) (hb : Below w.heap.size w w') : DAt lo D E pv s w' := h.kept (Kept.of_below (F := fun _ => False) hb) (fun _ _ hf => hf)
theorem DAt.drew (h : DAt lo D E pv s w) : DAt lo D E pv s w.drew := ⟨h.disk, h.durable, h.pending, h.ok, h.de, h.pd, h.pe, h.loD, h.loE⟩
theorem cellOf {w : World} {b i : Nat} {L : List Value} {t : TypeId} {fr : Nat × Nat} {v : Value} (h : w.heap[b]? = some (.cells L.toArray t fr)) (hv : L[i]? = some v) : w.cell? ⟨b, i, none⟩ = some v := by
  rw [cell_of_row w b i L.toArray t fr h, List.getElem?_toArray, hv]
theorem freeOf {w : World} {b : Nat} {L : List Value} {t : TypeId} (h : w.heap[b]? = some (.cells L.toArray t (0, 0))) (i : Nat) : w.frozen? ⟨b, i, none⟩ = false := by
  simp [World.frozen?, h]
theorem DAt.c0 (h : DAt lo D E pv s w) : w.cell? ⟨D, 0, none⟩ = some (.slice (some ⟨E, 0, none⟩) s.n s.n) := cellOf h.disk rfl
theorem DAt.c1 (h : DAt lo D E pv s w) : w.cell? ⟨D, 1, none⟩ = some pv := cellOf h.disk rfl
theorem DAt.c2 (h : DAt lo D E pv s w) : w.cell? ⟨D, 2, none⟩ = some (.int .i64 s.writes) := cellOf h.disk rfl
theorem DAt.c3 (h : DAt lo D E pv s w) : w.cell? ⟨D, 3, none⟩ = some (.int .i64 s.syncs) := cellOf h.disk rfl
theorem DAt.c4 (h : DAt lo D E pv s w) : w.cell? ⟨D, 4, none⟩ = some (.int .i64 s.trouble) := cellOf h.disk rfl
theorem DAt.c5 (h : DAt lo D E pv s w) : w.cell? ⟨D, 5, none⟩ = some (.int .i64 s.term) := cellOf h.disk rfl
theorem DAt.free (h : DAt lo D E pv s w) (i : Nat) : w.frozen? ⟨D, i, none⟩ = false := freeOf h.disk i
theorem DAt.sets (h : DAt lo D E pv s w) (i : Nat) (v : Value) : (w.setCell ⟨D, i, none⟩ v).heap[E]? = some (.cells (secs s.dur).toArray 239 (0, 0)) ∧ (w.setCell ⟨D, i, none⟩ v).ownsRow lo 241 33 pv s.pend.length (pends s.pend) :=
  ⟨by rw [(kept_set w ⟨D, i, none⟩ v).block E h.ltE (fun e => h.de e.symm)]; exact h.durable, owns_kept h.pending (kept_set w _ v) (fun k e hk => h.pd (by rw [e]; exact congrArg some hk))⟩
theorem DAt.setTrouble (h : DAt lo D E pv s w) (t : Int) (ht : 0 ≤ t) (ht2 : t ≤ 9223372036854775807) : DAt lo D E pv { s with trouble := t } (w.setCell ⟨D, 4, none⟩ (.int .i64 t)) :=
  ⟨block_setCell h.disk _, (h.sets 4 _).1, (h.sets 4 _).2, ⟨h.ok.len, h.ok.sec, h.ok.pen, h.ok.lo, h.ok.hi, h.ok.most, ht, ht2⟩, h.de, h.pd, h.pe, h.loD, h.loE⟩
theorem DAt.setTerm (h : DAt lo D E pv s w) (t : Int) : DAt lo D E pv { s with term := t } (w.setCell ⟨D, 5, none⟩ (.int .i64 t)) :=
  ⟨block_setCell h.disk _, (h.sets 5 _).1, (h.sets 5 _).2, ⟨h.ok.len, h.ok.sec, h.ok.pen, h.ok.lo, h.ok.hi, h.ok.most, h.ok.tr, h.ok.tr2⟩, h.de, h.pd, h.pe, h.loD, h.loE⟩
theorem DAt.setWrites (h : DAt lo D E pv s w) (t : Int) : DAt lo D E pv { s with writes := t } (w.setCell ⟨D, 2, none⟩ (.int .i64 t)) :=
  ⟨block_setCell h.disk _, (h.sets 2 _).1, (h.sets 2 _).2, ⟨h.ok.len, h.ok.sec, h.ok.pen, h.ok.lo, h.ok.hi, h.ok.most, h.ok.tr, h.ok.tr2⟩, h.de, h.pd, h.pe, h.loD, h.loE⟩
theorem DAt.setSyncs (h : DAt lo D E pv s w) (t : Int) : DAt lo D E pv { s with syncs := t } (w.setCell ⟨D, 3, none⟩ (.int .i64 t)) :=
  ⟨block_setCell h.disk _, (h.sets 3 _).1, (h.sets 3 _).2, ⟨h.ok.len, h.ok.sec, h.ok.pen, h.ok.lo, h.ok.hi, h.ok.most, h.ok.tr, h.ok.tr2⟩, h.de, h.pd, h.pe, h.loD, h.loE⟩
theorem DAt.clear (h : DAt lo D E pv s w) : DAt lo D E (.slice none 0 0) { s with pend := [] } (w.setCell ⟨D, 1, none⟩ (.slice none 0 0)) :=
  ⟨block_setCell h.disk _, (h.sets 1 _).1, World.ownsRow_nil _ _ _ _, ⟨h.ok.len, h.ok.sec, fun p hp => by simp at hp, h.ok.lo, h.ok.hi, by simp, h.ok.tr, h.ok.tr2⟩, h.de, by simp [Value.ownBlock], by simp [Value.ownBlock], h.loD, h.loE⟩
end
/-- A turn has gone by. -/
def tick (t : Int) : Int := if t = 0 then 0 else t - 1
theorem dhas_any (lo D E : Nat) (pv : Value) (s : DSt) (i : Int) (w : World) (h : DAt lo D E pv s w) :
    Calls Tryz.prog 174 #[.pointer (some ⟨D, 0, none⟩), .int .i64 i] w fun e w' => e = .returned (.bool (decide (0 ≤ i ∧ i < s.n))) ∧ w' = w := by
  have c0 := h.c0
  have hn := h.ok.hi
  clear h
  by_cases h0 : 0 ≤ i
  · by_cases h1 : i < s.n
    · rw [decide_eq_true (show 0 ≤ i ∧ i < s.n from ⟨h0, h1⟩)]
      go_enter Tryz.func174, Tryz.ntmps174
      go_wp2
      go_ret
      exact ⟨rfl, rfl⟩
    · rw [decide_eq_false (show ¬ (0 ≤ i ∧ i < s.n) from fun h => h1 h.2)]
      go_enter Tryz.func174, Tryz.ntmps174
      go_wp2
      go_ret
      exact ⟨rfl, rfl⟩
  · rw [decide_eq_false (show ¬ (0 ≤ i ∧ i < s.n) from fun h => h0 h.1)]
    go_enter Tryz.func174, Tryz.ntmps174
    go_wp2
    go_ret
    exact ⟨rfl, rfl⟩
theorem fails_any (lo D E : Nat) (pv : Value) (s : DSt) (w : World) (h : DAt lo D E pv s w) :
    Calls Tryz.prog 175 #[.pointer (some ⟨D, 0, none⟩)] w fun e w' => e = .returned (.bool (decide (s.trouble = 1))) ∧ DAt lo D E pv { s with trouble := tick s.trouble } w' ∧ Kept (fun k => k = D) w w' := by
  have c4 := h.c4
  have f4 := h.free 4
  have t0 := h.ok.tr
  have t1 := h.ok.tr2
  have HD := hideK h
  clear h
  by_cases h0 : s.trouble = 0
  · have hb : (s.trouble == 0) = true := by rw [h0]; rfl
    rw [decide_eq_false (show ¬ s.trouble = 1 by omega)]
    have HE : Hid (tick s.trouble = s.trouble) := by show _ = _; rw [tick, if_pos h0, h0]
    clear h0
    go_enter Tryz.func175, Tryz.ntmps175
    go_wp2
    go_ret
    exact ⟨rfl, by rw [HE.out]; exact HD.out, Kept.refl _ _⟩
  · have hb : (s.trouble == 0) = false := by simpa using h0
    have HE : Hid (tick s.trouble = s.trouble - 1) := by show _ = _; rw [tick, if_neg h0]
    have HX := hideK (HD.out.setTrouble (s.trouble - 1) (by omega) (by omega))
    by_cases h1 : s.trouble = 1
    · rw [decide_eq_true h1]
      have hb2 : (s.trouble - 1 == 0) = true := by rw [h1]; rfl
      clear h0 h1
      go_enter Tryz.func175, Tryz.ntmps175
      go_wp2
      go_ret
      exact ⟨rfl, by rw [HE.out]; exact HX.out, kept_set _ ⟨D, 4, none⟩ _⟩
    · rw [decide_eq_false h1]
      have hb2 : (s.trouble - 1 == 0) = false := by rw [beq_eq_false_iff_ne]; omega
      clear h0 h1
      go_enter Tryz.func175, Tryz.ntmps175
      go_wp2
      go_ret
      exact ⟨rfl, by rw [HE.out]; exact HX.out, kept_set _ ⟨D, 4, none⟩ _⟩
theorem trouble_any (lo D E : Nat) (pv : Value) (s : DSt) (k : Int) (w : World) (h : DAt lo D E pv s w) (hk : k ≤ 9223372036854775807) :
    Calls Tryz.prog 113 #[.pointer (some ⟨D, 0, none⟩), .int .i64 k] w fun e w' => e = .returned (.int .i64 (if k < 0 then 2 else 0)) ∧ DAt lo D E pv (if k < 0 then s else { s with trouble := k }) w' ∧ Kept (fun k => k = D) w w' := by
  have c4 := h.c4
  have f4 := h.free 4
  have HD := hideK h
  clear h
  by_cases h0 : k < 0
  · rw [if_pos h0, if_pos h0]
    go_enter Tryz.func113, Tryz.ntmps113
    go_wp2
    go_ret
    exact ⟨rfl, HD.out, Kept.refl _ _⟩
  · rw [if_neg h0, if_neg h0]
    have HX := hideK (HD.out.setTrouble k (by omega) hk)
    go_enter Tryz.func113, Tryz.ntmps113
    go_wp2
    go_ret
    exact ⟨rfl, HX.out, kept_set _ ⟨D, 4, none⟩ _⟩
end Go.Proofs.YtgaoeoijdpdjiabGreatDoor

namespace Go.Proofs.YtgaoeoijdpdjiabGreatDoor
open Go.RowKit
theorem opIn_of_op {l n : Nat} {P : Program} {ops : Array Oper} {Q : Exit → Act → World → Prop} {i : Nat} {K K' : Act → World → Prop} {a : Act} {w : World}
    (hd : ∀ o, ops[i]? = some o → ∀ c, o.op ≠ .defer c) (hQ : ¬ LetsOut Q) (hK : ∀ a w, K a w → K' a w) (h : wpOp P ops Q i K a w) : wpOpIn (Fence.wide.inRound l) n P ops Q i K' a w := by
  unfold wpOp at h
  unfold wpOpIn
  cases ho : ops[i]? with
  | none => rw [ho] at h; exact hK _ _ h
  | some o =>
    rw [ho] at h
    dsimp only at h ⊢
    by_cases hw : Region.wanted o (yielded ops a.tmps) = true
    · rw [if_pos hw] at h ⊢
      rcases h with h | ⟨_, h⟩
      · refine ⟨fun _ _ => trivial, ?_⟩
        rw [Oper.semAt_plain _ _ _ (hd o ho)]
        unfold Oper.wp at h
        generalize (execOp a.eval o).run P w = r at h ⊢
        cases r with
        | ok nx w' =>
          cases nx with
          | value v => exact hK _ _ h
          | skip => exact hK _ _ h
          | defer d => exact hK _ _ h
          | enter f args =>
            refine ⟨fun hh => by simp [Fence.wide] at hh, ?_⟩
            refine CallsIn.inRound l (callsIn_wide.2 ?_)
            refine Calls.mono h ?_
            intro e w'' he
            cases e with
            | returned v => exact hK _ _ he
            | panicked c => exact he
            | outgrown => exact he
          | row rw' args =>
            refine ⟨fun hh => by simp [Fence.wide] at hh, ?_⟩
            intro c cs _
            obtain ⟨v, w'', r, s⟩ := h c cs
            exact ⟨v, w'', hK _ _ r, stepsIn_wide.2 s⟩
          | round _ _ _ _ _ => exact h.elim
          | _ => exact h.elim
        | halt st w' =>
          cases st with
          | panic v => exact h
          | _ => exact h.elim
      · exact absurd h hQ
    · rw [if_neg hw] at h ⊢
      exact ⟨fun _ _ => trivial, hK _ _ h⟩
theorem anyIn_of_any {l n : Nat} {P : Program} {md : Region.Mode} {ops : Array Oper} {Q : Exit → Act → World → Prop} (hd : ∀ (i : Nat) o, ops[i]? = some o → ∀ c, o.op ≠ .defer c) (hQ : ¬ LetsOut Q) :
    ∀ (fuel : Nat) (listed : Array Bool) (a : Act) (w : World), wpAny P md ops Q fuel listed a w → wpAnyIn (Fence.wide.inRound l) n P md ops Q fuel listed a w
  | 0, _, _, _, h => h
  | fuel + 1, _, _, _, h => ⟨h.1, fun i hi => opIn_of_op (hd i) hQ (fun a w hk => anyIn_of_any hd hQ fuel _ a w hk) (h.2 i hi)⟩
theorem regionIn_held {l n id : Nat} {P : Program} {ops : Array Oper} {Q : Exit → Act → World → Prop} {S : World → Prop} {a : Act} {w : World} (hm : P.follows .mixedOrders = true) (hd : ∀ o ∈ ops.toList, ∀ c, o.op ≠ .defer c) (hQ : ¬ LetsOut Q) (hS : S w.drew)
    (h : S w.drew → wpAnyH P .any ops Q S ops.size (Array.replicate ops.size false) a w.drew) : (Code.region id ops true).wpIn (Fence.wide.inRound l) n P Q a w :=
  wpIn_region_any hm (anyIn_of_any (fun i o ho => hd o (by rw [Array.mem_toList_iff]; exact Array.mem_of_getElem? ho)) hQ _ _ _ _ (wpAny_of_held _ _ _ _ (h hS)))
end Go.Proofs.YtgaoeoijdpdjiabGreatDoor

namespace Go.Proofs.YtgaoeoijdpdjiabGreatDoor
open Go.RowKit
set_option maxHeartbeats 1000000 in
set_option maxRecDepth 100000 in
theorem len64_32 (w : World) : Calls Tryz.prog 318 #[.int .u64 4294967295] w fun e w' => e = .returned (.int .i64 32) ∧ w' = w := by
  go_enter Tryz.func318, Tryz.ntmps318
  go_wp2
  go_ret
  exact ⟨by kernel_rfl, rfl⟩
set_option maxHeartbeats 1000000 in
set_option maxRecDepth 100000 in
theorem len64_64 (w : World) : Calls Tryz.prog 318 #[.int .u64 18446744073709551615] w fun e w' => e = .returned (.int .i64 64) ∧ w' = w := by
  go_enter Tryz.func318, Tryz.ntmps318
  go_wp2
  go_ret
  exact ⟨by kernel_rfl, rfl⟩
set_option maxHeartbeats 400000 in
theorem size_32 (w : World) : Calls Tryz.prog 290 #[] w fun e w' => e = .returned (.int .i64 4) ∧ w' = w := by
  go_enter Tryz.func290, Tryz.ntmps290
  go_wp2_with fail
  refine (len64_32 _).mono ?_
  rintro e w1 ⟨rfl, rfl⟩
  go_wp2
  go_ret
  exact ⟨rfl, rfl⟩
theorem rot_32_5 (x : Nat) (hx : x < 4294967296) : bits BinOp.or IntKind.u32 ((x : Int) * 32 % 4294967296) ((x : Int) / 134217728) = ((rotW 32 x 5 : Nat) : Int) := by
  have h := u32_or_nat (x * 32 % 4294967296) (x / 134217728) (Nat.mod_lt _ (by decide)) (by omega)
  rw [Int.natCast_emod, Int.natCast_mul, Int.natCast_ediv] at h
  exact h
theorem rot_32_11 (x : Nat) (hx : x < 4294967296) : bits BinOp.or IntKind.u32 ((x : Int) * 2048 % 4294967296) ((x : Int) / 2097152) = ((rotW 32 x 11 : Nat) : Int) := by
  have h := u32_or_nat (x * 2048 % 4294967296) (x / 2097152) (Nat.mod_lt _ (by decide)) (by omega)
  rw [Int.natCast_emod, Int.natCast_mul, Int.natCast_ediv] at h
  exact h
theorem rot_32_19 (x : Nat) (hx : x < 4294967296) : bits BinOp.or IntKind.u32 ((x : Int) * 524288 % 4294967296) ((x : Int) / 8192) = ((rotW 32 x 19 : Nat) : Int) := by
  have h := u32_or_nat (x * 524288 % 4294967296) (x / 8192) (Nat.mod_lt _ (by decide)) (by omega)
  rw [Int.natCast_emod, Int.natCast_mul, Int.natCast_ediv] at h
  exact h
theorem rot_32_26 (x : Nat) (hx : x < 4294967296) : bits BinOp.or IntKind.u32 ((x : Int) * 67108864 % 4294967296) ((x : Int) / 64) = ((rotW 32 x 26 : Nat) : Int) := by
  have h := u32_or_nat (x * 67108864 % 4294967296) (x / 64) (Nat.mod_lt _ (by decide)) (by omega)
  rw [Int.natCast_emod, Int.natCast_mul, Int.natCast_ediv] at h
  exact h
set_option maxHeartbeats 400000 in
theorem turned_32 (x k : Nat) (w : World) (hx : x < 4294967296) (hk : k = 5 ∨ k = 11 ∨ k = 19 ∨ k = 26) :
    Calls Tryz.prog 327 #[.int .u32 x, .int .i64 k] w fun e w' => e = .returned (.int .u32 ((rotW 32 x k : Nat) : Int)) ∧ ∃ n, w' = w.drewN n := by
  rcases hk with rfl | rfl | rfl | rfl
  · go_enter Tryz.func327, Tryz.ntmps327
    go_wp2
    go_quiet ((go_at_call 290; exact Calls.quiet_of_same (size_32 _)))
    go_wp2
    go_ret
    exact ⟨congrArg (fun z : Int => Ending.returned (.int .u32 z)) (rot_32_5 x hx), _, rfl⟩
  · go_enter Tryz.func327, Tryz.ntmps327
    go_wp2
    go_quiet ((go_at_call 290; exact Calls.quiet_of_same (size_32 _)))
    go_wp2
    go_ret
    exact ⟨congrArg (fun z : Int => Ending.returned (.int .u32 z)) (rot_32_11 x hx), _, rfl⟩
  · go_enter Tryz.func327, Tryz.ntmps327
    go_wp2
    go_quiet ((go_at_call 290; exact Calls.quiet_of_same (size_32 _)))
    go_wp2
    go_ret
    exact ⟨congrArg (fun z : Int => Ending.returned (.int .u32 z)) (rot_32_19 x hx), _, rfl⟩
  · go_enter Tryz.func327, Tryz.ntmps327
    go_wp2
    go_quiet ((go_at_call 290; exact Calls.quiet_of_same (size_32 _)))
    go_wp2
    go_ret
    exact ⟨congrArg (fun z : Int => Ending.returned (.int .u32 z)) (rot_32_26 x hx), _, rfl⟩
set_option maxHeartbeats 400000 in
theorem size_64 (w : World) : Calls Tryz.prog 295 #[] w fun e w' => e = .returned (.int .i64 8) ∧ w' = w := by
  go_enter Tryz.func295, Tryz.ntmps295
  go_wp2_with fail
  refine (len64_64 _).mono ?_
  rintro e w1 ⟨rfl, rfl⟩
  go_wp2
  go_ret
  exact ⟨rfl, rfl⟩
theorem rot_64_5 (x : Nat) (hx : x < 18446744073709551616) : bits BinOp.or IntKind.u64 ((x : Int) * 32 % 18446744073709551616) ((x : Int) / 576460752303423488) = ((rotW 64 x 5 : Nat) : Int) := by
  have h := u64_or_nat (x * 32 % 18446744073709551616) (x / 576460752303423488) (Nat.mod_lt _ (by decide)) (by omega)
  rw [Int.natCast_emod, Int.natCast_mul, Int.natCast_ediv] at h
  exact h
theorem rot_64_11 (x : Nat) (hx : x < 18446744073709551616) : bits BinOp.or IntKind.u64 ((x : Int) * 2048 % 18446744073709551616) ((x : Int) / 9007199254740992) = ((rotW 64 x 11 : Nat) : Int) := by
  have h := u64_or_nat (x * 2048 % 18446744073709551616) (x / 9007199254740992) (Nat.mod_lt _ (by decide)) (by omega)
  rw [Int.natCast_emod, Int.natCast_mul, Int.natCast_ediv] at h
  exact h
theorem rot_64_19 (x : Nat) (hx : x < 18446744073709551616) : bits BinOp.or IntKind.u64 ((x : Int) * 524288 % 18446744073709551616) ((x : Int) / 35184372088832) = ((rotW 64 x 19 : Nat) : Int) := by
  have h := u64_or_nat (x * 524288 % 18446744073709551616) (x / 35184372088832) (Nat.mod_lt _ (by decide)) (by omega)
  rw [Int.natCast_emod, Int.natCast_mul, Int.natCast_ediv] at h
  exact h
theorem rot_64_26 (x : Nat) (hx : x < 18446744073709551616) : bits BinOp.or IntKind.u64 ((x : Int) * 67108864 % 18446744073709551616) ((x : Int) / 274877906944) = ((rotW 64 x 26 : Nat) : Int) := by
  have h := u64_or_nat (x * 67108864 % 18446744073709551616) (x / 274877906944) (Nat.mod_lt _ (by decide)) (by omega)
  rw [Int.natCast_emod, Int.natCast_mul, Int.natCast_ediv] at h
  exact h
set_option maxHeartbeats 400000 in
theorem turned_64 (x k : Nat) (w : World) (hx : x < 18446744073709551616) (hk : k = 5 ∨ k = 11 ∨ k = 19 ∨ k = 26) :
    Calls Tryz.prog 328 #[.int .u64 x, .int .i64 k] w fun e w' => e = .returned (.int .u64 ((rotW 64 x k : Nat) : Int)) ∧ ∃ n, w' = w.drewN n := by
  rcases hk with rfl | rfl | rfl | rfl
  · go_enter Tryz.func328, Tryz.ntmps328
    go_wp2
    go_quiet ((go_at_call 295; exact Calls.quiet_of_same (size_64 _)))
    go_wp2
    go_ret
    exact ⟨congrArg (fun z : Int => Ending.returned (.int .u64 z)) (rot_64_5 x hx), _, rfl⟩
  · go_enter Tryz.func328, Tryz.ntmps328
    go_wp2
    go_quiet ((go_at_call 295; exact Calls.quiet_of_same (size_64 _)))
    go_wp2
    go_ret
    exact ⟨congrArg (fun z : Int => Ending.returned (.int .u64 z)) (rot_64_11 x hx), _, rfl⟩
  · go_enter Tryz.func328, Tryz.ntmps328
    go_wp2
    go_quiet ((go_at_call 295; exact Calls.quiet_of_same (size_64 _)))
    go_wp2
    go_ret
    exact ⟨congrArg (fun z : Int => Ending.returned (.int .u64 z)) (rot_64_19 x hx), _, rfl⟩
  · go_enter Tryz.func328, Tryz.ntmps328
    go_wp2
    go_quiet ((go_at_call 295; exact Calls.quiet_of_same (size_64 _)))
    go_wp2
    go_ret
    exact ⟨congrArg (fun z : Int => Ending.returned (.int .u64 z)) (rot_64_26 x hx), _, rfl⟩
end Go.Proofs.YtgaoeoijdpdjiabGreatDoor

namespace Go.Proofs.YtgaoeoijdpdjiabGreatDoor
open Go.ChangeShapes Go.WideShapes Go.ChangeAt Go.RowKit
open Go.ChangeMaps (open_string shut_string)
theorem cellsIntR : Tryz.prog.cellsOf 3 = 1 := by kernel_rfl
theorem cellsStrR : Tryz.prog.cellsOf 9 = 1 := by kernel_rfl
theorem wf_int64 {x : Int} (h : (Lit.int .i64 x).wf = true) : -9223372036854775808 ≤ x ∧ x ≤ 9223372036854775807 := by
  simp [Lit.wf, IntKind.min, IntKind.max, IntKind.signed, IntKind.bits] at h
  exact ⟨by omega, by omega⟩
end Go.Proofs.YtgaoeoijdpdjiabGreatDoor
