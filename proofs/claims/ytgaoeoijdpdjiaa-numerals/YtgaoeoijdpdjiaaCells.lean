/-
  Rows of integers in memory: what a block holds, behind a store too; worlds that part in one block alone.
-/
import Derived.Test.YtgaoeoijdpdjiaaRows
import Derived.WalkKit
import Derived.WalkSpells
import Derived.WalkLawsBesides
namespace Go.Proofs.Ytgaoeoijdpdjiaa
open Go.RowKit

theorem hideM {p : Prop} (h : p) : Hid p := h

/-- Block g is a row of the integers L, and may be written. -/
def RowZ (w : World) (g : Nat) (L : List Int) : Prop := w.heap[g]? = some (.cells (L.map (Value.int .i64)).toArray 3 (0, 0))

theorem RowZ.cell {w : World} {g : Nat} {L : List Int} (h : RowZ w g L) {i : Nat} (hi : i < L.length) : w.cell? ⟨g, i, none⟩ = some (.int .i64 (L[i]?.getD 0)) := by
  unfold RowZ at h
  simp [World.cell?, h, hi]
theorem RowZ.free {w : World} {g : Nat} {L : List Int} (h : RowZ w g L) (i : Nat) : w.frozen? ⟨g, i, none⟩ = false := by
  unfold RowZ at h
  simp [World.frozen?, h]
theorem RowZ.lt {w : World} {g : Nat} {L : List Int} (h : RowZ w g L) : g < w.heap.size := lt_of_block h
theorem RowZ.set {w : World} {g : Nat} {L : List Int} (h : RowZ w g L) (i : Nat) (z : Int) : RowZ (w.setCell ⟨g, i, none⟩ (.int .i64 z)) g (L.set i z) := by
  have hlt := h.lt
  unfold RowZ at h ⊢
  have h' : w.heap[g] = .cells (L.map (Value.int .i64)).toArray 3 (0, 0) := by simpa [Array.getElem?_eq_getElem hlt] using h
  show (w.heap.modify g _)[g]? = _
  rw [Array.getElem?_eq_getElem (by simpa using hlt), Array.getElem_modify_self, h']
  simp
theorem RowZ.below {w w' : World} {g B : Nat} {L : List Int} (h : RowZ w g L) (hb : Below B w w') (hg : g < B) : RowZ w' g L := by
  unfold RowZ at h ⊢
  rw [hb.block g hg]; exact h
theorem RowZ.alloc {w : World} {g : Nat} {L : List Int} (h : RowZ w g L) (o : Obj) : RowZ (w.alloc o) g L := h.below ((Below.refl w.heap.size w).alloc (Nat.le_refl _) o) h.lt
theorem RowZ.drew {w : World} {g : Nat} {L : List Int} (h : RowZ w g L) : RowZ w.drew g L := h
theorem RowZ.drewN {w : World} {g : Nat} {L : List Int} (h : RowZ w g L) (n : Nat) : RowZ (w.drewN n) g L := h
theorem RowZ.other {w : World} {g : Nat} {L : List Int} (h : RowZ w g L) {a : Addr} (u : Value) (hne : g ≠ a.block) : RowZ (w.setCell a u) g L := by
  unfold RowZ at h ⊢
  rw [Below.heap_setCell _ _ _ _ hne]; exact h

/-- The worlds part in block g alone. -/
structure OnlyM (g : Nat) (w w' : World) : Prop where
  os : w'.os = w.os
  tape : w'.tape = w.tape
  output : w'.output = w.output
  size : w'.heap.size = w.heap.size
  block : ∀ k, k ≠ g → w'.heap[k]? = w.heap[k]?

theorem OnlyM.refl (g : Nat) (w : World) : OnlyM g w w := ⟨rfl, rfl, rfl, rfl, fun _ _ => rfl⟩
theorem OnlyM.trans {g : Nat} {a b c : World} (h : OnlyM g a b) (k : OnlyM g b c) : OnlyM g a c :=
  ⟨k.os.trans h.os, k.tape.trans h.tape, k.output.trans h.output, k.size.trans h.size, fun i hi => (k.block i hi).trans (h.block i hi)⟩
theorem OnlyM.setCell {g : Nat} {a w : World} (h : OnlyM g a w) (i : Nat) (u : Value) : OnlyM g a (w.setCell ⟨g, i, none⟩ u) :=
  h.trans ⟨rfl, rfl, rfl, by simp [World.setCell], fun _ hk => Below.heap_setCell _ _ _ _ hk⟩
theorem OnlyM.drew {g : Nat} {a w : World} (h : OnlyM g a w) : OnlyM g a w.drew := ⟨h.os, h.tape, h.output, h.size, h.block⟩
theorem OnlyM.drewN {g : Nat} {a w : World} (h : OnlyM g a w) (n : Nat) : OnlyM g a (w.drewN n) := ⟨h.os, h.tape, h.output, h.size, h.block⟩
theorem OnlyM.below {g B : Nat} {a w w' : World} (h : Below B a w) (k : OnlyM g w w') (hg : B ≤ g) : Below B a w' :=
  h.trans ⟨k.os, k.tape, k.output, by rw [k.size]; exact Nat.le_refl _, fun i hi => k.block i (by omega)⟩
theorem OnlyM.cell {g : Nat} {w w' : World} (h : OnlyM g w w') {p : Addr} (hp : p.block ≠ g) : w'.cell? p = w.cell? p := World.cell?_of_block (w := w) (h.block p.block hp)
theorem OnlyM.frozen {g : Nat} {w w' : World} (h : OnlyM g w w') {p : Addr} (hp : p.block ≠ g) : w'.frozen? p = w.frozen? p := World.frozen?_of_block (w := w) (h.block p.block hp)
theorem OnlyM.row {g k : Nat} {w w' : World} {L : List Int} (h : OnlyM g w w') (r : RowZ w k L) (hk : k ≠ g) : RowZ w' k L := by
  unfold RowZ at r ⊢
  rw [h.block k hk]; exact r

/-- The variable of a set, in block B; the variable of the sizes. -/
def Five (w : World) (B : Nat) (k b x t l : Int) : Prop := w.cell? ⟨B, 0, none⟩ = some (.int .i64 k) ∧ w.cell? ⟨B, 1, none⟩ = some (.int .i64 b) ∧ w.cell? ⟨B, 2, none⟩ = some (.int .i64 x) ∧ w.cell? ⟨B, 3, none⟩ = some (.int .i64 t) ∧ w.cell? ⟨B, 4, none⟩ = some (.int .i64 l)
def Six (w : World) (B : Nat) (a b c d e f : Int) : Prop := w.cell? ⟨B, 0, none⟩ = some (.int .i64 a) ∧ w.cell? ⟨B, 1, none⟩ = some (.int .i64 b) ∧ w.cell? ⟨B, 2, none⟩ = some (.int .i64 c) ∧ w.cell? ⟨B, 3, none⟩ = some (.int .i64 d) ∧ w.cell? ⟨B, 4, none⟩ = some (.int .i64 e) ∧ w.cell? ⟨B, 5, none⟩ = some (.int .i64 f)

theorem five_below {w w' : World} {B C : Nat} {k b x t l : Int} (h : Five w B k b x t l) (hb : Below C w w') (hB : B < C) : Five w' B k b x t l :=
  ⟨(hb.cell hB).trans h.1, (hb.cell hB).trans h.2.1, (hb.cell hB).trans h.2.2.1, (hb.cell hB).trans h.2.2.2.1, (hb.cell hB).trans h.2.2.2.2⟩
theorem six_below {w w' : World} {B C : Nat} {k b x t l m : Int} (h : Six w B k b x t l m) (hb : Below C w w') (hB : B < C) : Six w' B k b x t l m :=
  ⟨(hb.cell hB).trans h.1, (hb.cell hB).trans h.2.1, (hb.cell hB).trans h.2.2.1, (hb.cell hB).trans h.2.2.2.1, (hb.cell hB).trans h.2.2.2.2.1, (hb.cell hB).trans h.2.2.2.2.2⟩

theorem five_set {w : World} {B : Nat} {k b x t l : Int} (h : Five w B k b x t l) (k' b' x' t' l' : Int) :
    Five (((((w.setCell ⟨B, 0, none⟩ (.int .i64 k')).setCell ⟨B, 1, none⟩ (.int .i64 b')).setCell ⟨B, 2, none⟩ (.int .i64 x')).setCell ⟨B, 3, none⟩ (.int .i64 t')).setCell ⟨B, 4, none⟩ (.int .i64 l')) B k' b' x' t' l' := by
  obtain ⟨h0, h1, h2, h3, h4⟩ := h
  refine ⟨?_, ?_, ?_, ?_, ?_⟩ <;> simp [go_sem, h0, h1, h2, h3, h4]

/-- L, with the digits D from its place off + k on. -/
def laidTo (L : List Int) (off n : Nat) (D : List Nat) (k : Nat) : List Int := L.take (off + k) ++ ((D.drop k).map Int.ofNat) ++ L.drop (off + n)

theorem laidTo_start (L : List Int) (off n : Nat) (D : List Nat) (hD : D.length = n) : laidTo L off n D n = L := by
  simp [laidTo, List.drop_of_length_le (Nat.le_of_eq hD)]
theorem laidTo_length (L : List Int) (off n : Nat) (D : List Nat) (k : Nat) (hD : D.length = n) (hL : off + n ≤ L.length) (hk : k ≤ n) : (laidTo L off n D k).length = L.length := by
  simp [laidTo]; omega
theorem laidTo_step (L : List Int) (off n : Nat) (D : List Nat) (k : Nat) (hD : D.length = n) (hL : off + n ≤ L.length) (hk : k < n) :
    (laidTo L off n D (k + 1)).set (off + k) ((D[k]?.getD 0 : Nat) : Int) = laidTo L off n D k := by
  have hk' : k < D.length := by omega
  have e1 : L.take (off + (k + 1)) = L.take (off + k) ++ [L[off + k]'(by omega)] := by
    rw [show off + (k + 1) = (off + k) + 1 by omega, List.take_succ_eq_append_getElem (by omega)]
  have e2 : D.drop k = D[k] :: D.drop (k + 1) := List.drop_eq_getElem_cons hk'
  unfold laidTo
  rw [e1, e2, List.append_assoc, List.append_assoc, List.set_append_right _ _ (by simp; omega)]
  have e3 : off + k - (L.take (off + k)).length = 0 := by simp; omega
  rw [e3]
  simp only [List.cons_append, List.nil_append, List.set_cons_zero, List.map_cons, List.getElem?_eq_getElem hk', Option.getD_some, List.append_assoc]
  rfl
end Go.Proofs.Ytgaoeoijdpdjiaa
