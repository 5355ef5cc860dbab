/-
  A block of memory and what it holds; the leaf and the nodes, as plain functions.
-/
import Derived.Test.YtgaoeoijdpdjiabGreatDoorPart12
namespace Go.Proofs.YtgaoeoijdpdjiabGreatDoor
open Go.RowKit

/-- Block g holds these values, and may be written. -/
def Blk (w : World) (g : Nat) (vs : List Value) (T : TypeId) : Prop := w.heap[g]? = some (.cells vs.toArray T (0, 0))
theorem Blk.lt {w : World} {g : Nat} {vs : List Value} {T : TypeId} (h : Blk w g vs T) : g < w.heap.size := lt_of_block h
theorem Blk.cell {w : World} {g : Nat} {vs : List Value} {T : TypeId} (h : Blk w g vs T) (i : Nat) : w.cell? ⟨g, i, none⟩ = vs[i]? := by
  unfold Blk at h
  simp [World.cell?, h]
theorem Blk.free {w : World} {g : Nat} {vs : List Value} {T : TypeId} (h : Blk w g vs T) (i : Nat) : w.frozen? ⟨g, i, none⟩ = false := by
  unfold Blk at h
  simp [World.frozen?, h]
theorem Blk.set {w : World} {g : Nat} {vs : List Value} {T : TypeId} (h : Blk w g vs T) (i : Nat) (u : Value) : Blk (w.setCell ⟨g, i, none⟩ u) g (vs.set i u) T := by
  have hlt := h.lt
  unfold Blk at h ⊢
  have h' : w.heap[g] = .cells vs.toArray T (0, 0) := by simpa [Array.getElem?_eq_getElem hlt] using h
  show (w.heap.modify g _)[g]? = _
  rw [Array.getElem?_eq_getElem (by simpa using hlt), Array.getElem_modify_self, h']
  simp
theorem Blk.below {w w' : World} {g B : Nat} {vs : List Value} {T : TypeId} (h : Blk w g vs T) (hb : Below B w w') (hg : g < B) : Blk w' g vs T := by
  unfold Blk at h ⊢
  rw [hb.block g hg]; exact h
theorem Blk.on {w w' : World} {g : Nat} {vs : List Value} {T : TypeId} (h : Blk w g vs T) (hb : Below w.heap.size w w') : Blk w' g vs T := h.below hb h.lt
theorem Blk.other {w : World} {g : Nat} {vs : List Value} {T : TypeId} (h : Blk w g vs T) {a : Addr} (u : Value) (hne : g ≠ a.block) : Blk (w.setCell a u) g vs T := by
  unfold Blk at h ⊢
  rw [Below.heap_setCell _ _ _ _ hne]; exact h
theorem Blk.new (w : World) (vs : List Value) (T : TypeId) : Blk (w.alloc (.cells vs.toArray T)) w.heap.size vs T := World.alloc_heap_new w _
theorem Blk.alloc {w : World} {g : Nat} {vs : List Value} {T : TypeId} (h : Blk w g vs T) (o : Obj) : Blk (w.alloc o) g vs T := h.on ((Below.refl _ _).alloc (Nat.le_refl _) o)

/-- The end of the i-th chain of a leaf. -/
def endS (k b : Int) (wd : Nat) (sec pub : ByteArray) (p0 p1 F : Int) (i : Nat) : ByteArray := chainS k b pub p0 p1 F i 0 wd (startS k b sec p0 p1 F i)
def endsS (k b : Int) (wd : Nat) (sec pub : ByteArray) (p0 p1 F : Int) (n : Nat) : List ByteArray := (List.range n).map (endS k b wd sec pub p0 p1 F)
theorem endsS_succ (k b : Int) (wd : Nat) (sec pub : ByteArray) (p0 p1 F : Int) (n : Nat) : endsS k b wd sec pub p0 p1 F (n + 1) = endsS k b wd sec pub p0 p1 F n ++ [endS k b wd sec pub p0 p1 F n] := by simp [endsS, List.range_succ]
theorem endsS_length (k b : Int) (wd : Nat) (sec pub : ByteArray) (p0 p1 F : Int) (n : Nat) : (endsS k b wd sec pub p0 p1 F n).length = n := by simp [endsS]
theorem endS_size (k b : Int) (wd : Nat) (sec pub : ByteArray) (p0 p1 F : Int) (i : Nat) (hk : k = 1 ∨ k = 2) (h1 : 1 ≤ b) (h2 : b ≤ 16) (hs : sec.size ≤ 16) (hp : pub.size ≤ 16) : ((endS k b wd sec pub p0 p1 F i).size : Int) = b :=
  chainS_size k b pub p0 p1 F i 0 wd _ hk h1 h2 hp (startS_size k b sec p0 p1 F i hk h1 h2 hs)
theorem endsS_size (k b : Int) (wd : Nat) (sec pub : ByteArray) (p0 p1 F : Int) (n : Nat) (hk : k = 1 ∨ k = 2) (h1 : 1 ≤ b) (h2 : b ≤ 16) (hs : sec.size ≤ 16) (hp : pub.size ≤ 16) : ∀ y ∈ endsS k b wd sec pub p0 p1 F n, (y.size : Int) = b := by
  intro y hy
  simp only [endsS, List.mem_map, List.mem_range] at hy
  obtain ⟨i, _, rfl⟩ := hy
  exact endS_size k b wd sec pub p0 p1 F i hk h1 h2 hs hp
/-- A leaf, and the nodes above. -/
def leafS (k b : Int) (wd ch : Nat) (sec pub : ByteArray) (p0 p1 F : Int) : ByteArray := foldS k b pub p0 p1 F 6 0 (endsS k b wd sec pub p0 p1 F ch)
def nodeS (k b : Int) (wd ch : Nat) (sec pub : ByteArray) (p0 p1 : Int) : Nat → Nat → ByteArray
  | 0, j => leafS k b wd ch sec pub p0 p1 j
  | h + 1, j => joinS k b pub p0 p1 (h + 1 : Nat) j (nodeS k b wd ch sec pub p0 p1 h (2 * j)) (nodeS k b wd ch sec pub p0 p1 h (2 * j + 1))

theorem foldS_size (k b : Int) (pub : ByteArray) (p0 p1 p2 : Int) (hk : k = 1 ∨ k = 2) (h1 : 1 ≤ b) (h2 : b ≤ 16) (hp : pub.size ≤ 16) : ∀ (f : Nat) (r : Int) (xs : List ByteArray), 1 ≤ xs.length → (∀ y ∈ xs, (y.size : Int) = b) → ((foldS k b pub p0 p1 p2 f r xs).size : Int) = b := by
  intro f
  induction f with
  | zero =>
    intro r xs hl hx
    obtain ⟨y, ys, rfl⟩ := List.exists_cons_of_length_pos (show 0 < xs.length by omega)
    exact hx y (by simp)
  | succ f ih =>
    intro r xs hl hx
    rw [foldS]
    split
    · obtain ⟨y, ys, rfl⟩ := List.exists_cons_of_length_pos (show 0 < xs.length by omega)
      exact hx y (by simp)
    · exact ih _ _ (by rw [roundS_length]; omega) (roundS_size k b pub p0 p1 p2 r xs hk h1 h2 hp hx)
theorem leafS_size (k b : Int) (wd ch : Nat) (sec pub : ByteArray) (p0 p1 F : Int) (hk : k = 1 ∨ k = 2) (h1 : 1 ≤ b) (h2 : b ≤ 16) (hs : sec.size ≤ 16) (hp : pub.size ≤ 16) (hc : 1 ≤ ch) : ((leafS k b wd ch sec pub p0 p1 F).size : Int) = b :=
  foldS_size k b pub p0 p1 F hk h1 h2 hp 6 0 _ (by rw [endsS_length]; exact hc) (endsS_size k b wd sec pub p0 p1 F ch hk h1 h2 hs hp)
theorem nodeS_size (k b : Int) (wd ch : Nat) (sec pub : ByteArray) (p0 p1 : Int) (hk : k = 1 ∨ k = 2) (h1 : 1 ≤ b) (h2 : b ≤ 16) (hs : sec.size ≤ 16) (hp : pub.size ≤ 16) (hc : 1 ≤ ch) : ∀ h j, ((nodeS k b wd ch sec pub p0 p1 h j).size : Int) = b := by
  intro h
  induction h with
  | zero => intro j; exact leafS_size k b wd ch sec pub p0 p1 j hk h1 h2 hs hp hc
  | succ h ih =>
    intro j
    have e0 := ih (2 * j)
    have e1 := ih (2 * j + 1)
    exact joinS_size k b pub p0 p1 _ _ _ _ hk h1 h2 hp (by omega) (by omega)
end Go.Proofs.YtgaoeoijdpdjiabGreatDoor
