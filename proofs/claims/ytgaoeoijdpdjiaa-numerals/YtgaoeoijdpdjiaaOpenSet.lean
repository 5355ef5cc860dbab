/-
  A set that comes in by value, opened: five numbers that an int holds.
-/
import Derived.Test.YtgaoeoijdpdjiaaFit
import Derived.ProofKit
namespace Go.Proofs.Ytgaoeoijdpdjiaa
open Go.ChangeShapes Go.WideShapes Go.ChangeAt Go.RowKit

theorem int64_of_wf {x : Int} (h : (Lit.int .i64 x).wf = true) : Int64 x := by
  simp [Lit.wf, IntKind.min, IntKind.max, IntKind.signed, IntKind.bits] at h
  exact ⟨by omega, by omega⟩

theorem array5 {a : Array Value} (h : a.size = 5) : ∃ c0 c1 c2 c3 c4, a = #[c0, c1, c2, c3, c4] := by
  obtain ⟨l⟩ := a
  match l, h with
  | [c0, c1, c2, c3, c4], _ => exact ⟨c0, c1, c2, c3, c4, rfl⟩

theorem cellsSet : Try.prog.cellsOf 23 = 5 := by kernel_rfl
theorem cellsInt : Try.prog.cellsOf 3 = 1 := by kernel_rfl

set_option maxRecDepth 100000 in
theorem open_set {H : Type} {enc : TypeId × Value → H} {W : World} {base b0 : Nat} {sp : Nat → Bool} {held : Bool} {r : Reach} {v : Value} {d : DataW H} {p : List MemPlace}
    (hv : Value.okWide Try.prog W r b0 23 v) (h : DataW.Trod enc Try.prog W base sp held 23 v d p) :
    ∃ k b x t l : Int, v = .agg #[.int .i64 k, .int .i64 b, .int .i64 x, .int .i64 t, .int .i64 l] ∧ Int64 k ∧ Int64 b ∧ Int64 x ∧ Int64 t ∧ Int64 l := by
  obtain ⟨cs, rfl, hsz⟩ := okWide_struct Try.underlying23 hv
  obtain ⟨c0, c1, c2, c3, c4, rfl⟩ := array5 (hsz.trans cellsSet)
  obtain ⟨fuel, hf⟩ := h
  obtain ⟨xs, n, _, _, _, hlen, hfs⟩ := DataW.trod_struct Try.underlying23 hf
  simp at hlen
  have g0 : DataW.trod enc Try.prog W base sp held n 3 [c0] = xs[0]? := by simpa [Value.cells, cellsInt] using hfs 0 _ rfl
  have g1 : DataW.trod enc Try.prog W base sp held n 3 [c1] = xs[1]? := by simpa [Value.cells, cellsInt] using hfs 1 _ rfl
  have g2 : DataW.trod enc Try.prog W base sp held n 3 [c2] = xs[2]? := by simpa [Value.cells, cellsInt] using hfs 2 _ rfl
  have g3 : DataW.trod enc Try.prog W base sp held n 3 [c3] = xs[3]? := by simpa [Value.cells, cellsInt] using hfs 3 _ rfl
  have g4 : DataW.trod enc Try.prog W base sp held n 3 [c4] = xs[4]? := by simpa [Value.cells, cellsInt] using hfs 4 _ rfl
  rw [List.getElem?_eq_getElem (by omega)] at g0 g1 g2 g3 g4
  obtain ⟨k, e0, _, w0⟩ := DataW.trod_int Try.underlying3 g0
  obtain ⟨b, e1, _, w1⟩ := DataW.trod_int Try.underlying3 g1
  obtain ⟨x, e2, _, w2⟩ := DataW.trod_int Try.underlying3 g2
  obtain ⟨t, e3, _, w3⟩ := DataW.trod_int Try.underlying3 g3
  obtain ⟨l, e4, _, w4⟩ := DataW.trod_int Try.underlying3 g4
  simp at e0 e1 e2 e3 e4
  subst e0 e1 e2 e3 e4
  exact ⟨k, b, x, t, l, rfl, int64_of_wf w0, int64_of_wf w1, int64_of_wf w2, int64_of_wf w3, int64_of_wf w4⟩
end Go.Proofs.Ytgaoeoijdpdjiaa
