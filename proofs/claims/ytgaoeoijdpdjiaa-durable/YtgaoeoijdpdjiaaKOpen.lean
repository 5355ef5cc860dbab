/-
  A script of steps that comes in, opened.
-/
import Derived.Test.YtgaoeoijdpdjiaaKDur1
import Derived.Test.YtgaoeoijdpdjiaaROpen
import Derived.Deep.Grids
namespace Go.Proofs.Ytgaoeoijdpdjiaa
open Go.ChangeShapes Go.WideShapes Go.ChangeAt Go.RowKit Go.Deep
open Go.ChangeMaps (open_string shut_string)

theorem cellsStep : Try.prog.cellsOf 57 = 5 := by kernel_rfl
theorem cellsBools : Try.prog.cellsOf 55 = 1 := by kernel_rfl
theorem cellsBool : Try.prog.cellsOf 4 = 1 := by kernel_rfl

theorem open_keep {H : Type} {enc : TypeId × Value → H} {W : World} {base fuel : Nat} {held : Bool} {c : Value} {x : DataW H × List MemPlace}
    (h : DataW.trod enc Try.prog W base (fun _ => true) held fuel 55 [c] = some x) :
    ∃ K, BoolsAt W c K ∧ K.length ≤ maxLen ∧ ∀ b o l cp, c = .slice (some ⟨b, o, none⟩) l cp → 0 < l → b < W.heap.size := by
  rcases open_bools Try.underlying55 Try.underlying4 cellsBool h with ⟨h0, _⟩ | ⟨a, len, cap, B, hc, _, hl, hm, _, hcell⟩
  · simp at h0
    subst h0
    exact ⟨[], .inl ⟨⟨_, _, rfl⟩, rfl⟩, by simp, fun b o l cp e h0 => by simp at e⟩
  · simp at hc
    subst hc
    by_cases h0 : len = 0
    · subst h0
      exact ⟨[], .inl ⟨⟨_, _, rfl⟩, rfl⟩, by simp, fun b o l cp e h0 => by simp at e; omega⟩
    · have hs : a.spot = none := by
        have := World.cell?_spot (hcell 0 (by omega))
        simpa [Addr.add] using this
      obtain ⟨ab, ao, asp⟩ := a
      simp only at hs
      subst hs
      have hcell' : ∀ i, i < cap → W.cell? ⟨ab, ao + i, none⟩ = some (.bool (B i)) := fun i hi => by
        have := hcell i hi
        rwa [Addr.add_mid] at this
      refine ⟨(List.range len).map B, .inr ⟨ab, ao, cap, by simp, by simpa using hl, fun j y hy => ?_⟩, by simpa using Nat.le_trans hl hm, fun b o l cp e _ => ?_⟩
      · obtain ⟨hj, e⟩ := List.getElem?_eq_some_iff.1 hy
        simp at hj e
        subst e
        exact hcell' j (by omega)
      · simp at e
        obtain ⟨⟨rfl, _⟩, _⟩ := e
        exact World.block_lt_of_cell? W _ (hcell' 0 (by omega))

set_option maxRecDepth 100000 in
theorem open_step {H : Type} {enc : TypeId × Value → H} {W : World} {base fuel : Nat} {held : Bool} {cs : List Value} {x : DataW H × List MemPlace} (hl : cs.length = 5)
    (h : DataW.trod enc Try.prog W base (fun _ => true) held fuel 57 cs = some x) :
    ∃ d : StepD, StepOk W d ∧ cs = [.int .i64 d.kd, .int .i64 d.a, .int .i64 d.b, .string d.t, d.kv] := by
  match cs, hl with
  | [c0, c1, c2, c3, c4], _ =>
    obtain ⟨xs, n, _, _, _, hlen, hfs⟩ := DataW.trod_struct Try.underlying57 h
    simp at hlen
    have g0 : DataW.trod enc Try.prog W base (fun _ => true) held n 3 [c0] = xs[0]? := by simpa [cellsIntR] using hfs 0 _ rfl
    have g1 : DataW.trod enc Try.prog W base (fun _ => true) held n 3 [c1] = xs[1]? := by simpa [cellsIntR] using hfs 1 _ rfl
    have g2 : DataW.trod enc Try.prog W base (fun _ => true) held n 3 [c2] = xs[2]? := by simpa [cellsIntR] using hfs 2 _ rfl
    have g3 : DataW.trod enc Try.prog W base (fun _ => true) held n 9 [c3] = xs[3]? := by simpa [cellsStrR] using hfs 3 _ rfl
    have g4 : DataW.trod enc Try.prog W base (fun _ => true) held n 55 [c4] = xs[4]? := by simpa [cellsBools] using hfs 4 _ rfl
    rw [List.getElem?_eq_getElem (by omega)] at g0 g1 g2 g3 g4
    obtain ⟨k, e0, _, w0⟩ := DataW.trod_int Try.underlying3 g0
    obtain ⟨a, e1, _, w1⟩ := DataW.trod_int Try.underlying3 g1
    obtain ⟨b, e2, _, w2⟩ := DataW.trod_int Try.underlying3 g2
    obtain ⟨t, e3, ht⟩ := DataW.trod_string Try.underlying9 g3
    obtain ⟨K, hK, hKl, hKo⟩ := open_keep g4
    simp at e0 e1 e2 e3
    subst e0 e1 e2 e3
    exact ⟨⟨k, a, b, t, c4, K⟩, ⟨(wf_int64 w0).1, (wf_int64 w0).2, (wf_int64 w1).1, (wf_int64 w1).2, ht.2, hK, hKl, hKo⟩, rfl⟩

set_option maxRecDepth 100000 in
theorem open_script {H : Type} {enc : TypeId × Value → H} {W : World} {base b0 : Nat} {held : Bool} {r : Reach} {v : Value} {d : DataW H} {p : List MemPlace}
    (hv : Value.okWide Try.prog W r b0 44 v) (h : DataW.Trod enc Try.prog W base (fun _ => true) held 44 v d p) :
    ∃ l, ScriptAt W v l ∧ l.length ≤ maxLen := by
  obtain ⟨va, vl, vc, rfl⟩ := okWide_slice Try.underlying44 hv
  obtain ⟨fuel, hf⟩ := h
  rcases open_slice Try.underlying44 hf with ⟨h0, _⟩ | ⟨a, len, cap, m, n, D, Pl, hc, hb, hl, hm, hmm, _, hx⟩
  · simp [Value.cells] at h0
    obtain ⟨rfl, rfl, rfl⟩ := h0
    exact ⟨[], .inl ⟨⟨_, _, rfl⟩, rfl⟩, by simp⟩
  · simp [Value.cells] at hc
    obtain ⟨rfl, rfl, rfl⟩ := hc
    simp only [if_true] at hmm
    subst hmm
    by_cases h0 : vl = 0
    · subst h0
      exact ⟨[], .inl ⟨⟨_, _, rfl⟩, rfl⟩, by simp⟩
    · have each : ∀ i, i < vl → ∃ d : StepD, StepOk W d ∧ W.cell? (a.add (i * 5)) = some (.int .i64 d.kd) ∧ W.cell? (a.add (i * 5 + 1)) = some (.int .i64 d.a) ∧ W.cell? (a.add (i * 5 + 2)) = some (.int .i64 d.b) ∧ W.cell? (a.add (i * 5 + 3)) = some (.string d.t) ∧ W.cell? (a.add (i * 5 + 4)) = some d.kv := by
        intro i hi
        obtain ⟨cs', h1, h2⟩ := hx i (by omega)
        rw [cellsStep] at h1
        obtain ⟨_, hlen, hcell⟩ := World.cells?_some h1
        obtain ⟨d, hd, rfl⟩ := open_step hlen h2
        have e0 := hcell 0 (by simp)
        have e1 := hcell 1 (by simp)
        have e2 := hcell 2 (by simp)
        have e3 := hcell 3 (by simp)
        have e4 := hcell 4 (by simp)
        rw [add_add] at e0 e1 e2 e3 e4
        exact ⟨d, hd, by simpa using e0, by simpa using e1, by simpa using e2, by simpa using e3, by simpa using e4⟩
      have : Inhabited StepD := ⟨⟨0, 0, 0, ⟨#[]⟩, .slice none 0 0, []⟩⟩
      obtain ⟨q, hq⟩ := choose_lt each
      have hs : a.spot = none := by
        have := World.cell?_spot (hq 0 (by omega)).2.1
        simpa [Addr.add] using this
      obtain ⟨ab, ao, asp⟩ := a
      simp only at hs
      subst hs
      simp only [Addr.add_mid] at hq
      refine ⟨(List.range vl).map q, .inr ⟨ab, ao, _, by simp; rfl, by simpa using hl, World.block_lt_of_cell? W _ (hq 0 (by omega)).2.1, fun j d hj => ?_⟩, by simpa using Nat.le_trans hl hm⟩
      obtain ⟨hj1, e⟩ := List.getElem?_eq_some_iff.1 hj
      simp at hj1 e
      subst e
      exact hq j hj1
end Go.Proofs.Ytgaoeoijdpdjiaa
