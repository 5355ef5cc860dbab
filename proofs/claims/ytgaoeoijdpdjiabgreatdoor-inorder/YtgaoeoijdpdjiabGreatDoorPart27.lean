/-
  Blocks over an append.
-/
import Derived.Test.YtgaoeoijdpdjiabGreatDoorPart25
namespace Go.Proofs.YtgaoeoijdpdjiabGreatDoor
open Go.RowKit

theorem grownBy_cell (W : World) (g i : Nat) (v : Value) : W.grownBy (W.setCell ⟨g, i, none⟩ v) (some g) :=
  ⟨rfl, rfl, rfl, by simp [World.setCell], fun k _ hk => Below.heap_setCell _ _ _ _ (fun e => hk (by rw [e]))⟩

theorem own_ne {w : World} {base : Nat} {e : TypeId} {s : Nat} {v : Value} {n : Nat} {xs : List Value} (h : w.ownsRow base e s v n xs) {g : Nat} (hg : g < base) : v.ownBlock = none ∨ v.ownBlock ≠ some g := by
  cases hv : v.ownBlock with
  | none => exact .inl rfl
  | some p =>
    refine .inr (fun e => ?_)
    have := (owns_lt h p hv).1
    simp at e
    omega

theorem blk_grown {w w' : World} {g : Nat} {vs : List Value} {T : TypeId} {row : Option Nat} (h : Blk w g vs T) (hg : w.grownBy w' row) (hne : ∀ p, row = some p → g < p) : Blk w' g vs T := by
  have hlt := h.lt
  unfold Blk at h ⊢
  rw [hg.block g hlt (fun e => by have := hne g e.symm; omega)]
  exact h
end Go.Proofs.YtgaoeoijdpdjiabGreatDoor
