/-
  A record that comes in by value, opened.
-/
import Derived.Test.YtgaoeoijdpdjiaaRows
import Derived.WalkKit
import Derived.ProofKit
import Derived.ShutString
namespace Go.Proofs.Ytgaoeoijdpdjiaa
open Go.ChangeShapes Go.WideShapes Go.ChangeAt Go.RowKit
open Go.ChangeMaps (open_string shut_string)

theorem array3R {a : Array Value} (h : a.size = 3) : ∃ c0 c1 c2, a = #[c0, c1, c2] := by
  obtain ⟨l⟩ := a
  match l, h with
  | [c0, c1, c2], _ => exact ⟨c0, c1, c2, rfl⟩
theorem cellsRec : Try.prog.cellsOf 40 = 3 := by kernel_rfl
theorem cellsIntR : Try.prog.cellsOf 3 = 1 := by kernel_rfl
theorem cellsStrR : Try.prog.cellsOf 9 = 1 := by kernel_rfl
theorem wf_int64 {x : Int} (h : (Lit.int .i64 x).wf = true) : -9223372036854775808 ≤ x ∧ x ≤ 9223372036854775807 := by
  simp [Lit.wf, IntKind.min, IntKind.max, IntKind.signed, IntKind.bits] at h
  exact ⟨by omega, by omega⟩

set_option maxRecDepth 100000 in
theorem open_rec {H : Type} {enc : TypeId × Value → H} {W : World} {base b0 : Nat} {sp : Nat → Bool} {held : Bool} {r : Reach} {v : Value} {d : DataW H} {p : List MemPlace}
    (hv : Value.okWide Try.prog W r b0 40 v) (h : DataW.Trod enc Try.prog W base sp held 40 v d p) :
    ∃ (q b : Int) (c : ByteArray), v = .agg #[.int .i64 q, .int .i64 b, .string c] ∧ (-9223372036854775808 ≤ q ∧ q ≤ 9223372036854775807) ∧ (-9223372036854775808 ≤ b ∧ b ≤ 9223372036854775807) ∧ c.size ≤ maxLen := by
  obtain ⟨cs, rfl, hsz⟩ := okWide_struct Try.underlying40 hv
  obtain ⟨c0, c1, c2, rfl⟩ := array3R (hsz.trans cellsRec)
  obtain ⟨fuel, hf⟩ := h
  obtain ⟨xs, n, _, _, _, hlen, hfs⟩ := DataW.trod_struct Try.underlying40 hf
  simp at hlen
  have g0 : DataW.trod enc Try.prog W base sp held n 3 [c0] = xs[0]? := by simpa [Value.cells, cellsIntR] using hfs 0 _ rfl
  have g1 : DataW.trod enc Try.prog W base sp held n 3 [c1] = xs[1]? := by simpa [Value.cells, cellsIntR] using hfs 1 _ rfl
  have g2 : DataW.trod enc Try.prog W base sp held n 9 [c2] = xs[2]? := by simpa [Value.cells, cellsStrR] using hfs 2 _ rfl
  rw [List.getElem?_eq_getElem (by omega)] at g0 g1 g2
  obtain ⟨k, e0, _, w0⟩ := DataW.trod_int Try.underlying3 g0
  obtain ⟨b, e1, _, w1⟩ := DataW.trod_int Try.underlying3 g1
  have k2 := DataW.trod_string Try.underlying9 g2
  obtain ⟨x, e2, hx⟩ := k2
  simp at e0 e1 e2
  subst e0 e1 e2
  exact ⟨k, b, x, rfl, wf_int64 w0, wf_int64 w1, hx.2⟩
end Go.Proofs.Ytgaoeoijdpdjiaa
