/-
  What stays of a world's cells over a call.
-/
import Derived.Test.YtgaoeoijdpdjiaaHide
namespace Go.Proofs.Ytgaoeoijdpdjiaa
open Go.RowKit

theorem heldB {n : Nat} {w W V : World} (h : Below n w W) (hb : Below W.heap.size W V) (hn : n ≤ w.heap.size) : Below n w V := h.trans (hb.mono (by have := h.size; omega))
theorem heldC {n : Nat} {w W V : World} {a : Addr} {v : Value} (h : Below n w W) (hb : Below W.heap.size W V) (hn : n ≤ w.heap.size) (ha : a.block < n) (hc : W.cell? a = some v) : V.cell? a = some v :=
  (hb.cell (p := a) (by have := h.size; omega)).trans hc
theorem held1 {n : Nat} {w W V : World} {a0 : Addr} {v0 : Value} (h : W.cell? a0 = some v0 ∧ Below n w W) (hb : Below W.heap.size W V) (hn : n ≤ w.heap.size) (h0 : a0.block < n) : V.cell? a0 = some v0 ∧ Below n w V :=
  ⟨heldC h.2 hb hn h0 h.1, heldB h.2 hb hn⟩
theorem held2 {n : Nat} {w W V : World} {a0 a1 : Addr} {v0 v1 : Value} (h : W.cell? a0 = some v0 ∧ W.cell? a1 = some v1 ∧ Below n w W) (hb : Below W.heap.size W V) (hn : n ≤ w.heap.size) (h0 : a0.block < n) (h1 : a1.block < n) : V.cell? a0 = some v0 ∧ V.cell? a1 = some v1 ∧ Below n w V :=
  ⟨heldC h.2.2 hb hn h0 h.1, held1 h.2 hb hn h1⟩
theorem held3 {n : Nat} {w W V : World} {a0 a1 a2 : Addr} {v0 v1 v2 : Value} (h : W.cell? a0 = some v0 ∧ W.cell? a1 = some v1 ∧ W.cell? a2 = some v2 ∧ Below n w W) (hb : Below W.heap.size W V) (hn : n ≤ w.heap.size) (h0 : a0.block < n) (h1 : a1.block < n) (h2 : a2.block < n) : V.cell? a0 = some v0 ∧ V.cell? a1 = some v1 ∧ V.cell? a2 = some v2 ∧ Below n w V :=
  ⟨heldC h.2.2.2 hb hn h0 h.1, held2 h.2 hb hn h1 h2⟩
theorem held0 {n : Nat} {w W V : World} (h : Below n w W) (hb : Below W.heap.size W V) (hn : n ≤ w.heap.size) : Below n w V := heldB h hb hn

/-- Ten cells one behind the other: a struct that holds a set, a text and a place. -/
def TenC (B : Nat) (w : World) (k b x t l : Int) (s : ByteArray) (p0 p1 p2 p3 : Int) : Prop :=
  w.cell? ⟨B, 0, none⟩ = some (.int .i64 k) ∧ w.cell? ⟨B, 1, none⟩ = some (.int .i64 b) ∧ w.cell? ⟨B, 2, none⟩ = some (.int .i64 x) ∧ w.cell? ⟨B, 3, none⟩ = some (.int .i64 t) ∧ w.cell? ⟨B, 4, none⟩ = some (.int .i64 l) ∧ w.cell? ⟨B, 5, none⟩ = some (.string s) ∧ w.cell? ⟨B, 6, none⟩ = some (.int .i64 p0) ∧ w.cell? ⟨B, 7, none⟩ = some (.int .i64 p1) ∧ w.cell? ⟨B, 8, none⟩ = some (.int .i64 p2) ∧ w.cell? ⟨B, 9, none⟩ = some (.int .i64 p3)
theorem TenC.below {B n : Nat} {w w' : World} {k b x t l p0 p1 p2 p3 : Int} {s : ByteArray} (h : TenC B w k b x t l s p0 p1 p2 p3) (hb : Below n w w') (hB : B < n) : TenC B w' k b x t l s p0 p1 p2 p3 := by
  obtain ⟨c0, c1, c2, c3, c4, c5, c6, c7, c8, c9⟩ := h
  exact ⟨(hb.cell (p := ⟨B, 0, none⟩) hB).trans c0, (hb.cell (p := ⟨B, 1, none⟩) hB).trans c1, (hb.cell (p := ⟨B, 2, none⟩) hB).trans c2, (hb.cell (p := ⟨B, 3, none⟩) hB).trans c3, (hb.cell (p := ⟨B, 4, none⟩) hB).trans c4, (hb.cell (p := ⟨B, 5, none⟩) hB).trans c5, (hb.cell (p := ⟨B, 6, none⟩) hB).trans c6, (hb.cell (p := ⟨B, 7, none⟩) hB).trans c7, (hb.cell (p := ⟨B, 8, none⟩) hB).trans c8, (hb.cell (p := ⟨B, 9, none⟩) hB).trans c9⟩
end Go.Proofs.Ytgaoeoijdpdjiaa
