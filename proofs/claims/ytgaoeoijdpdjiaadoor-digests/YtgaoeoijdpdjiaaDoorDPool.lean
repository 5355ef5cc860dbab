/-
  The document's pool in memory: eight words, and how many bits a word has.
-/
import Derived.Test.YtgaoeoijdpdjiaaDoorDRefWord
import Derived.Test.YtgaoeoijdpdjiaaDoorDStirEq
namespace Go.Proofs.YtgaoeoijdpdjiaaDoor
open Go.RowKit

def poolCells (b : Nat) (L : List Nat) : List Value := L.map (fun n => Value.int .u64 ((n : Nat) : Int)) ++ [.int .i64 ((b : Nat) : Int)]

/-- Block g is a pool of words of b bits, and may be written. -/
def PoolAt (w : World) (g b : Nat) (L : List Nat) : Prop := w.heap[g]? = some (.cells (poolCells b L).toArray 81 (0, 0))

theorem PoolAt.cell {w : World} {g b : Nat} {L : List Nat} (h : PoolAt w g b L) {i : Nat} (hi : i < L.length) : w.cell? ⟨g, i, none⟩ = some (.int .u64 ((at0 L i : Nat) : Int)) := by
  unfold PoolAt poolCells at h
  simp [World.cell?, h, at0, List.getElem?_append_left (show i < (L.map (fun n => Value.int .u64 ((n : Nat) : Int))).length by simpa using hi), hi]
theorem PoolAt.bits {w : World} {g b : Nat} {L : List Nat} (h : PoolAt w g b L) (hL : L.length = 8) : w.cell? ⟨g, 8, none⟩ = some (.int .i64 ((b : Nat) : Int)) := by
  unfold PoolAt poolCells at h
  simp [World.cell?, h, hL]
theorem PoolAt.free {w : World} {g b : Nat} {L : List Nat} (h : PoolAt w g b L) (i : Nat) : w.frozen? ⟨g, i, none⟩ = false := by
  unfold PoolAt at h
  simp [World.frozen?, h]
theorem PoolAt.lt {w : World} {g b : Nat} {L : List Nat} (h : PoolAt w g b L) : g < w.heap.size := lt_of_block h
theorem PoolAt.set {w : World} {g b : Nat} {L : List Nat} (h : PoolAt w g b L) (i z : Nat) (hi : i < L.length) : PoolAt (w.setCell ⟨g, i, none⟩ (.int .u64 ((z : Nat) : Int))) g b (L.set i z) := by
  have hlt := h.lt
  unfold PoolAt at h ⊢
  have h' : w.heap[g] = .cells (poolCells b L).toArray 81 (0, 0) := by simpa [Array.getElem?_eq_getElem hlt] using h
  show (w.heap.modify g _)[g]? = _
  rw [Array.getElem?_eq_getElem (by simpa using hlt), Array.getElem_modify_self, h']
  have e : (poolCells b L).set i (.int .u64 ((z : Nat) : Int)) = poolCells b (L.set i z) := by
    unfold poolCells
    rw [List.set_append_left _ _ (by simpa using hi), List.map_set]
  simp [← e]
theorem PoolAt.drew {w : World} {g b : Nat} {L : List Nat} (h : PoolAt w g b L) : PoolAt w.drew g b L := h
theorem PoolAt.drewN {w : World} {g b : Nat} {L : List Nat} (h : PoolAt w g b L) (n : Nat) : PoolAt (w.drewN n) g b L := h
theorem PoolAt.below {w w' : World} {g b B : Nat} {L : List Nat} (h : PoolAt w g b L) (hb : Below B w w') (hg : g < B) : PoolAt w' g b L := by
  unfold PoolAt at h ⊢
  rw [hb.block g hg]; exact h
end Go.Proofs.YtgaoeoijdpdjiaaDoor
