/-
  A script of calls that comes in, opened.
-/
import Derived.Test.YtgaoeoijdpdjiaaGreatDoorPart33
import Derived.WalkKit
import Derived.ProofKit
import Derived.OpenShut
import Derived.ShutString
import Derived.ChangeOld
import Derived.Deep.Grids
import Derived.Deep.Strs
import Derived.SizedLaws
namespace Go.Proofs.YtgaoeoijdpdjiaaGreatDoor
open Go.ChangeShapes Go.WideShapes Go.ChangeAt Go.RowKit Go.Deep
open Go.ChangeMaps (open_string shut_string)
theorem cellsOpQ : Tryz.prog.cellsOf 77 = 21 := by kernel_rfl
theorem cellsIntQ : Tryz.prog.cellsOf 3 = 1 := by kernel_rfl
theorem cellsStrQ : Tryz.prog.cellsOf 9 = 1 := by kernel_rfl
theorem cellsBoolQ : Tryz.prog.cellsOf 4 = 1 := by kernel_rfl
theorem cellsBoolsQ : Tryz.prog.cellsOf 75 = 1 := by kernel_rfl
theorem cellsStrsQ : Tryz.prog.cellsOf 50 = 1 := by kernel_rfl
theorem cellsSetQ : Tryz.prog.cellsOf 23 = 5 := by kernel_rfl
theorem cellsSeedsQ : Tryz.prog.cellsOf 25 = 3 := by kernel_rfl
theorem cellsPlaceQ : Tryz.prog.cellsOf 27 = 4 := by kernel_rfl
theorem bytesBoolQ : Tryz.prog.bytesOf 4 = 1 := by kernel_rfl
theorem bytesStrQ : Tryz.prog.bytesOf 9 = 16 := by kernel_rfl
theorem i64_wf {x : Int} (h : (Lit.int .i64 x).wf = true) : I64 x := by
  simp [Lit.wf, IntKind.min, IntKind.max, IntKind.signed, IntKind.bits] at h
  exact ⟨by omega, by omega⟩
theorem reach47 : reachBytes ≤ 140737488355328 := by decide
/-- The weights of a thing, each within reach. -/
def Fits {H : Type} (t : TypeId) (d : DataW H) : Prop := ∀ n ∈ d.weights Tryz.prog t, n ≤ reachBytes
section
variable {H : Type} {enc : TypeId × Value → H} {W : World} {base : Nat} {held : Bool}
theorem open_keepQ {fuel : Nat} {c : Value} {x : DataW H × List MemPlace} (h : DataW.trod enc Tryz.prog W base (fun _ => true) held fuel 75 [c] = some x) (hz : Fits 75 x.1) :
    ∃ sp n cp K, c = .slice sp n cp ∧ KeepAt W sp n cp K ∧ K.length ≤ 140737488355328 := by
  have hr := reach47
  rcases open_bools Tryz.underlying75 Tryz.underlying4 cellsBoolQ h with ⟨h0, _⟩ | ⟨a, len, cap, B, hc, _, hl, hm, hx, hcell⟩
  · simp at h0
    exact ⟨none, 0, 0, [], h0, .inl ⟨rfl, rfl, rfl, rfl⟩, by simp⟩
  · simp at hc
    have hw : (len + (cap - len)) * 1 ≤ reachBytes := by
      refine hz _ ?_
      rw [hx]
      simp [boolRow, DataW.weights, Tryz.underlying75, bytesBoolQ]
    by_cases h0 : len = 0
    · subst h0
      exact ⟨some a, 0, cap, [], hc, .inr ⟨a, rfl, rfl, .inl rfl⟩, by simp⟩
    · have hs : a.spot = none := by
        have := World.cell?_spot (hcell 0 (by omega))
        simpa [Addr.add] using this
      obtain ⟨ab, ao, asp⟩ := a
      simp only at hs
      subst hs
      have hcell' : ∀ i, i < cap → W.cell? ⟨ab, ao + i, none⟩ = some (.bool (B i)) := fun i hi => by
        have := hcell i hi
        rwa [Addr.add_mid] at this
      refine ⟨some ⟨ab, ao, none⟩, len, cap, (List.range len).map B, hc, .inr ⟨_, rfl, by simp, .inr ⟨ab, ao, rfl, by simpa using hl, World.block_lt_of_cell? W _ (hcell' 0 (by omega)), fun j y hy => ?_⟩⟩, by simp; omega⟩
      obtain ⟨hj, e⟩ := List.getElem?_eq_some_iff.1 hy
      simp at hj e
      subst e
      exact hcell' j (by omega)
theorem open_textsQ {fuel : Nat} {c : Value} {x : DataW H × List MemPlace} (h : DataW.trod enc Tryz.prog W base (fun _ => true) held fuel 50 [c] = some x) (hz : Fits 50 x.1) :
    ∃ sp n cp xs, c = .slice sp n cp ∧ StrsQ W sp n cp xs ∧ xs.length ≤ 8796093022208 ∧ ∀ y ∈ xs, y.size ≤ maxLen := by
  have hr := reach47
  rcases open_strs Tryz.underlying50 Tryz.underlying9 cellsStrQ h with ⟨h0, _⟩ | ⟨a, len, cap, m, Sx, hc, _, hl, _, hmm, hx, hcell⟩
  · simp at h0
    exact ⟨none, 0, 0, [], h0, .inl ⟨rfl, rfl, rfl, rfl⟩, by simp, by simp⟩
  · simp at hc
    simp only [if_true] at hmm
    subst hmm
    have hw : (len + (m - len)) * 16 ≤ reachBytes := by
      refine hz _ ?_
      rw [hx]
      simp [DataW.weights, Tryz.underlying50, bytesStrQ]
    by_cases h0 : len = 0
    · subst h0
      exact ⟨some a, 0, m, [], hc, .inr (.inl ⟨a, rfl, rfl, rfl⟩), by simp, by simp⟩
    · have hs : a.spot = none := by
        have := World.cell?_spot (hcell 0 (by omega)).1
        simpa [Addr.add] using this
      obtain ⟨ab, ao, asp⟩ := a
      simp only at hs
      subst hs
      have hcell' : ∀ i, i < m → W.cell? ⟨ab, ao + i, none⟩ = some (.string (Sx i)) := fun i hi => by
        have := (hcell i hi).1
        rwa [Addr.add_mid] at this
      refine ⟨some ⟨ab, ao, none⟩, len, m, (List.range len).map Sx, hc, .inr (.inr ⟨ab, ao, rfl, by simp, by simpa using hl, World.block_lt_of_cell? W _ (hcell' 0 (by omega)), fun j y hy => ?_⟩), by simp; omega, fun y hy => ?_⟩
      · obtain ⟨hj, e⟩ := List.getElem?_eq_some_iff.1 hy
        simp at hj e
        subst e
        exact hcell' j (by omega)
      · obtain ⟨i, hi, rfl⟩ := List.mem_map.1 hy
        exact (hcell i (by have := List.mem_range.1 hi; omega)).2
theorem open_intQ {fuel : Nat} {c : Value} {x : DataW H × List MemPlace} (h : DataW.trod enc Tryz.prog W base (fun _ => true) held fuel 3 [c] = some x) : ∃ k, c = .int .i64 k ∧ I64 k := by
  obtain ⟨k, e0, _, w0⟩ := DataW.trod_int Tryz.underlying3 h
  simp at e0
  exact ⟨k, e0, i64_wf w0⟩
theorem open_strQ {fuel : Nat} {c : Value} {x : DataW H × List MemPlace} (h : DataW.trod enc Tryz.prog W base (fun _ => true) held fuel 9 [c] = some x) : ∃ s, c = .string s ∧ s.size ≤ maxLen := by
  obtain ⟨t, e3, ht⟩ := DataW.trod_string Tryz.underlying9 h
  simp at e3
  exact ⟨t, e3, ht.2⟩
set_option maxRecDepth 100000 in
theorem open_setQ {fuel : Nat} {c0 c1 c2 c3 c4 : Value} {x : DataW H × List MemPlace} (h : DataW.trod enc Tryz.prog W base (fun _ => true) held fuel 23 [c0, c1, c2, c3, c4] = some x) : ∃ k0 k1 k2 k3 k4, c0 = .int .i64 k0 ∧ I64 k0 ∧ c1 = .int .i64 k1 ∧ I64 k1 ∧ c2 = .int .i64 k2 ∧ I64 k2 ∧ c3 = .int .i64 k3 ∧ I64 k3 ∧ c4 = .int .i64 k4 ∧ I64 k4 := by
  obtain ⟨xs, n, _, _, _, hlen, hfs⟩ := DataW.trod_struct Tryz.underlying23 h
  simp at hlen
  have g0 : DataW.trod enc Tryz.prog W base (fun _ => true) held n 3 [c0] = xs[0]? := by simpa [cellsIntQ] using hfs 0 _ rfl
  have g1 : DataW.trod enc Tryz.prog W base (fun _ => true) held n 3 [c1] = xs[1]? := by simpa [cellsIntQ] using hfs 1 _ rfl
  have g2 : DataW.trod enc Tryz.prog W base (fun _ => true) held n 3 [c2] = xs[2]? := by simpa [cellsIntQ] using hfs 2 _ rfl
  have g3 : DataW.trod enc Tryz.prog W base (fun _ => true) held n 3 [c3] = xs[3]? := by simpa [cellsIntQ] using hfs 3 _ rfl
  have g4 : DataW.trod enc Tryz.prog W base (fun _ => true) held n 3 [c4] = xs[4]? := by simpa [cellsIntQ] using hfs 4 _ rfl
  rw [List.getElem?_eq_getElem (by omega)] at g0 g1 g2 g3 g4
  obtain ⟨k0, e0, w0⟩ := open_intQ g0
  obtain ⟨k1, e1, w1⟩ := open_intQ g1
  obtain ⟨k2, e2, w2⟩ := open_intQ g2
  obtain ⟨k3, e3, w3⟩ := open_intQ g3
  obtain ⟨k4, e4, w4⟩ := open_intQ g4
  exact ⟨k0, k1, k2, k3, k4, e0, w0, e1, w1, e2, w2, e3, w3, e4, w4⟩
set_option maxRecDepth 100000 in
theorem open_seedsQ {fuel : Nat} {c0 c1 c2 : Value} {x : DataW H × List MemPlace} (h : DataW.trod enc Tryz.prog W base (fun _ => true) held fuel 25 [c0, c1, c2] = some x) : ∃ k0 k1 k2, c0 = .string k0 ∧ k0.size ≤ maxLen ∧ c1 = .string k1 ∧ k1.size ≤ maxLen ∧ c2 = .string k2 ∧ k2.size ≤ maxLen := by
  obtain ⟨xs, n, _, _, _, hlen, hfs⟩ := DataW.trod_struct Tryz.underlying25 h
  simp at hlen
  have g0 : DataW.trod enc Tryz.prog W base (fun _ => true) held n 9 [c0] = xs[0]? := by simpa [cellsStrQ] using hfs 0 _ rfl
  have g1 : DataW.trod enc Tryz.prog W base (fun _ => true) held n 9 [c1] = xs[1]? := by simpa [cellsStrQ] using hfs 1 _ rfl
  have g2 : DataW.trod enc Tryz.prog W base (fun _ => true) held n 9 [c2] = xs[2]? := by simpa [cellsStrQ] using hfs 2 _ rfl
  rw [List.getElem?_eq_getElem (by omega)] at g0 g1 g2
  obtain ⟨k0, e0, w0⟩ := open_strQ g0
  obtain ⟨k1, e1, w1⟩ := open_strQ g1
  obtain ⟨k2, e2, w2⟩ := open_strQ g2
  exact ⟨k0, k1, k2, e0, w0, e1, w1, e2, w2⟩
set_option maxRecDepth 100000 in
theorem open_placeQ {fuel : Nat} {c0 c1 c2 c3 : Value} {x : DataW H × List MemPlace} (h : DataW.trod enc Tryz.prog W base (fun _ => true) held fuel 27 [c0, c1, c2, c3] = some x) : ∃ k0 k1 k2 k3, c0 = .int .i64 k0 ∧ I64 k0 ∧ c1 = .int .i64 k1 ∧ I64 k1 ∧ c2 = .int .i64 k2 ∧ I64 k2 ∧ c3 = .int .i64 k3 ∧ I64 k3 := by
  obtain ⟨xs, n, _, _, _, hlen, hfs⟩ := DataW.trod_struct Tryz.underlying27 h
  simp at hlen
  have g0 : DataW.trod enc Tryz.prog W base (fun _ => true) held n 3 [c0] = xs[0]? := by simpa [cellsIntQ] using hfs 0 _ rfl
  have g1 : DataW.trod enc Tryz.prog W base (fun _ => true) held n 3 [c1] = xs[1]? := by simpa [cellsIntQ] using hfs 1 _ rfl
  have g2 : DataW.trod enc Tryz.prog W base (fun _ => true) held n 3 [c2] = xs[2]? := by simpa [cellsIntQ] using hfs 2 _ rfl
  have g3 : DataW.trod enc Tryz.prog W base (fun _ => true) held n 3 [c3] = xs[3]? := by simpa [cellsIntQ] using hfs 3 _ rfl
  rw [List.getElem?_eq_getElem (by omega)] at g0 g1 g2 g3
  obtain ⟨k0, e0, w0⟩ := open_intQ g0
  obtain ⟨k1, e1, w1⟩ := open_intQ g1
  obtain ⟨k2, e2, w2⟩ := open_intQ g2
  obtain ⟨k3, e3, w3⟩ := open_intQ g3
  exact ⟨k0, k1, k2, k3, e0, w0, e1, w1, e2, w2, e3, w3⟩
theorem list21 {l : List Value} (h : l.length = 21) : ∃ v0 v1 v2 v3 v4 v5 v6 v7 v8 v9 v10 v11 v12 v13 v14 v15 v16 v17 v18 v19 v20, l = [v0, v1, v2, v3, v4, v5, v6, v7, v8, v9, v10, v11, v12, v13, v14, v15, v16, v17, v18, v19, v20] := by
  match l, h with
  | [v0, v1, v2, v3, v4, v5, v6, v7, v8, v9, v10, v11, v12, v13, v14, v15, v16, v17, v18, v19, v20], _ => exact ⟨v0, v1, v2, v3, v4, v5, v6, v7, v8, v9, v10, v11, v12, v13, v14, v15, v16, v17, v18, v19, v20, rfl⟩
set_option maxRecDepth 100000 in
theorem open_opQ {fuel : Nat} {cs : List Value} {x : DataW H × List MemPlace} (hl : cs.length = 21) (h : DataW.trod enc Tryz.prog W base (fun _ => true) held fuel 77 cs = some x) (hz : Fits 77 x.1) : ∃ d : OpD, OpOk W d ∧ cs = opC d := by
  obtain ⟨v0, v1, v2, v3, v4, v5, v6, v7, v8, v9, v10, v11, v12, v13, v14, v15, v16, v17, v18, v19, v20, rfl⟩ := list21 hl
  obtain ⟨xs, n, _, hx, _, hlen, hfs⟩ := DataW.trod_struct Tryz.underlying77 h
  simp at hlen
  have g0 : DataW.trod enc Tryz.prog W base (fun _ => true) held n 3 [v0] = xs[0]? := by simpa [cellsIntQ, cellsStrQ, cellsBoolsQ, cellsStrsQ, cellsSetQ, cellsSeedsQ, cellsPlaceQ] using hfs 0 _ rfl
  have g1 : DataW.trod enc Tryz.prog W base (fun _ => true) held n 3 [v1] = xs[1]? := by simpa [cellsIntQ, cellsStrQ, cellsBoolsQ, cellsStrsQ, cellsSetQ, cellsSeedsQ, cellsPlaceQ] using hfs 1 _ rfl
  have g2 : DataW.trod enc Tryz.prog W base (fun _ => true) held n 3 [v2] = xs[2]? := by simpa [cellsIntQ, cellsStrQ, cellsBoolsQ, cellsStrsQ, cellsSetQ, cellsSeedsQ, cellsPlaceQ] using hfs 2 _ rfl
  have g3 : DataW.trod enc Tryz.prog W base (fun _ => true) held n 3 [v3] = xs[3]? := by simpa [cellsIntQ, cellsStrQ, cellsBoolsQ, cellsStrsQ, cellsSetQ, cellsSeedsQ, cellsPlaceQ] using hfs 3 _ rfl
  have g4 : DataW.trod enc Tryz.prog W base (fun _ => true) held n 9 [v4] = xs[4]? := by simpa [cellsIntQ, cellsStrQ, cellsBoolsQ, cellsStrsQ, cellsSetQ, cellsSeedsQ, cellsPlaceQ] using hfs 4 _ rfl
  have g5 : DataW.trod enc Tryz.prog W base (fun _ => true) held n 9 [v5] = xs[5]? := by simpa [cellsIntQ, cellsStrQ, cellsBoolsQ, cellsStrsQ, cellsSetQ, cellsSeedsQ, cellsPlaceQ] using hfs 5 _ rfl
  have g6 : DataW.trod enc Tryz.prog W base (fun _ => true) held n 9 [v6] = xs[6]? := by simpa [cellsIntQ, cellsStrQ, cellsBoolsQ, cellsStrsQ, cellsSetQ, cellsSeedsQ, cellsPlaceQ] using hfs 6 _ rfl
  have g7 : DataW.trod enc Tryz.prog W base (fun _ => true) held n 50 [v7] = xs[7]? := by simpa [cellsIntQ, cellsStrQ, cellsBoolsQ, cellsStrsQ, cellsSetQ, cellsSeedsQ, cellsPlaceQ] using hfs 7 _ rfl
  have g8 : DataW.trod enc Tryz.prog W base (fun _ => true) held n 75 [v8] = xs[8]? := by simpa [cellsIntQ, cellsStrQ, cellsBoolsQ, cellsStrsQ, cellsSetQ, cellsSeedsQ, cellsPlaceQ] using hfs 8 _ rfl
  have g9 : DataW.trod enc Tryz.prog W base (fun _ => true) held n 23 [v9, v10, v11, v12, v13] = xs[9]? := by simpa [cellsIntQ, cellsStrQ, cellsBoolsQ, cellsStrsQ, cellsSetQ, cellsSeedsQ, cellsPlaceQ] using hfs 9 _ rfl
  have g10 : DataW.trod enc Tryz.prog W base (fun _ => true) held n 25 [v14, v15, v16] = xs[10]? := by simpa [cellsIntQ, cellsStrQ, cellsBoolsQ, cellsStrsQ, cellsSetQ, cellsSeedsQ, cellsPlaceQ] using hfs 10 _ rfl
  have g11 : DataW.trod enc Tryz.prog W base (fun _ => true) held n 27 [v17, v18, v19, v20] = xs[11]? := by simpa [cellsIntQ, cellsStrQ, cellsBoolsQ, cellsStrsQ, cellsSetQ, cellsSeedsQ, cellsPlaceQ] using hfs 11 _ rfl
  have hzz : ∀ (i : Nat) (t : TypeId) (y : DataW H × List MemPlace), ([3, 3, 3, 3, 9, 9, 9, 50, 75, 23, 25, 27] : List TypeId)[i]? = some t → xs[i]? = some y → Fits t y.1 := fun i t y ht hy m hm => by
    refine hz m ?_
    rw [hx]
    have := DataW.weights_mem_each (P := Tryz.prog) (ts := [3, 3, 3, 3, 9, 9, 9, 50, 75, 23, 25, 27]) (ds := xs.map (·.1)) ht (by rw [List.getElem?_map, hy]; rfl) m hm
    simpa [DataW.weights, Tryz.underlying77] using this
  have f7 := hzz 7 50 (xs[7]'(by omega)) rfl (List.getElem?_eq_getElem (by omega))
  have f8 := hzz 8 75 (xs[8]'(by omega)) rfl (List.getElem?_eq_getElem (by omega))
  rw [List.getElem?_eq_getElem (by omega)] at g0 g1 g2 g3 g4 g5 g6 g7 g8 g9 g10 g11
  obtain ⟨k0, e0, w0⟩ := open_intQ g0
  obtain ⟨k1, e1, w1⟩ := open_intQ g1
  obtain ⟨k2, e2, w2⟩ := open_intQ g2
  obtain ⟨k3, e3, w3⟩ := open_intQ g3
  obtain ⟨k4, e4, w4⟩ := open_strQ g4
  obtain ⟨k5, e5, w5⟩ := open_strQ g5
  obtain ⟨k6, e6, w6⟩ := open_strQ g6
  obtain ⟨l1, l2, l3, X, e7, hX, hXl, hXs⟩ := open_textsQ g7 f7
  obtain ⟨s1, s2, s3, K, e8, hK, hKl⟩ := open_keepQ g8 f8
  obtain ⟨q0, q1, q2, q3, q4, a0, b0, a1, b1, a2, b2, a3, b3, a4, b4⟩ := open_setQ g9
  obtain ⟨r0, r1, r2, c0, d0, c1, d1, c2, d2⟩ := open_seedsQ g10
  obtain ⟨p0, p1, p2, p3, x0, y0, x1, y1, x2, y2, x3, y3⟩ := open_placeQ g11
  subst e0 e1 e2 e3 e4 e5 e6 e7 e8 a0 a1 a2 a3 a4 c0 c1 c2 x0 x1 x2 x3
  exact ⟨⟨k0, k1, k2, k3, k4, k5, k6, l1, l2, l3, X, s1, s2, s3, K, q0, q1, q2, q3, q4, r0, r1, r2, p0, p1, p2, p3⟩, ⟨w0, w1, w2, w3, w4, w5, w6, hX, hXl, hXs, hK, hKl, b0, b1, b2, b3, b4, d0, d1, d2, y0, y1, y2, y3⟩, rfl⟩
theorem weights_all {P : Program} {e : TypeId} {n : Nat} : ∀ {l : List (DataW H)} {d : DataW H}, d ∈ l → n ∈ d.weights P e → n ∈ DataW.weightsAll P e l
  | d0 :: l, d, hd, hn => by
    rw [DataW.weightsAll, List.mem_append]
    rcases List.mem_cons.1 hd with rfl | hd
    · exact .inl hn
    · exact .inr (weights_all hd hn)
set_option maxRecDepth 100000 in
theorem open_scriptQ {b0 : Nat} {r : Reach} {v : Value} {d : DataW H} {p : List MemPlace} (hv : Value.okWide Tryz.prog W r b0 32 v) (h : DataW.Trod enc Tryz.prog W base (fun _ => true) held 32 v d p) (hz : Fits 32 d) :
    ∃ l, ScriptQ W v l ∧ l.length ≤ 1099511627776 := by
  have hr := reach47
  have hbo : Tryz.prog.bytesOf 77 = 248 := by kernel_rfl
  obtain ⟨va, vl, vc, rfl⟩ := okWide_slice Tryz.underlying32 hv
  obtain ⟨fuel, hf⟩ := h
  rcases open_slice Tryz.underlying32 hf with ⟨h0, _⟩ | ⟨a, len, cap, m, n, D, Pl, hc, hb, hl, hm, hmm, hxx, hx⟩
  · simp [Value.cells] at h0
    obtain ⟨rfl, rfl, rfl⟩ := h0
    exact ⟨[], .inl ⟨⟨_, _, rfl⟩, rfl⟩, by simp⟩
  · simp [Value.cells] at hc
    obtain ⟨rfl, rfl, rfl⟩ := hc
    simp only [if_true] at hmm
    subst hmm
    have hd : d = .slice ((List.range vl).map D) ((List.range (m - vl)).map fun j => D (vl + j)) := congrArg Prod.fst hxx
    have hw : (vl + (m - vl)) * 248 ≤ reachBytes := by
      refine hz _ ?_
      rw [hd]
      simp [DataW.weights, Tryz.underlying32, hbo]
    by_cases h0 : vl = 0
    · subst h0
      exact ⟨[], .inl ⟨⟨_, _, rfl⟩, rfl⟩, by simp⟩
    · have each : ∀ i, i < vl → ∃ d : OpD, OpOk W d ∧ ∀ (k : Nat) u, (opC d)[k]? = some u → W.cell? (a.add (i * 21 + k)) = some u := by
        intro i hi
        obtain ⟨cs', h1, h2⟩ := hx i (by omega)
        rw [cellsOpQ] at h1
        obtain ⟨_, hlen, hcell⟩ := World.cells?_some h1
        obtain ⟨d, hd2, rfl⟩ := open_opQ hlen h2 (fun q hq => hz q (by
          rw [hd]
          simp only [DataW.weights, Tryz.underlying32, List.mem_cons, List.mem_append]
          exact .inr (.inl (weights_all (List.mem_map.2 ⟨i, List.mem_range.2 hi, rfl⟩) hq))))
        refine ⟨d, hd2, fun k u hu => ?_⟩
        have hk := (List.getElem?_eq_some_iff.1 hu)
        have := hcell k (by rw [← hlen]; exact hk.1)
        rw [add_add] at this
        rw [this, hu]
      have : Inhabited OpD := ⟨⟨0, 0, 0, 0, ⟨#[]⟩, ⟨#[]⟩, ⟨#[]⟩, none, 0, 0, [], none, 0, 0, [], 0, 0, 0, 0, 0, ⟨#[]⟩, ⟨#[]⟩, ⟨#[]⟩, 0, 0, 0, 0⟩⟩
      obtain ⟨q, hq⟩ := choose_lt each
      have hs : a.spot = none := by
        have := World.cell?_spot ((hq 0 (by omega)).2 0 _ rfl)
        simpa [Addr.add] using this
      obtain ⟨ab, ao, asp⟩ := a
      simp only at hs
      subst hs
      simp only [Addr.add_mid] at hq
      refine ⟨(List.range vl).map q, .inr ⟨ab, ao, _, by simp; rfl, by simpa using hl, World.block_lt_of_cell? W _ ((hq 0 (by omega)).2 0 _ rfl), fun j d hj => ?_⟩, by simp; omega⟩
      obtain ⟨hj1, e⟩ := List.getElem?_eq_some_iff.1 hj
      simp at hj1 e
      subst e
      obtain ⟨a1, a2⟩ := hq j hj1
      exact ⟨a1, fun i u h => by rw [Nat.add_assoc]; exact a2 i u h⟩
end
end Go.Proofs.YtgaoeoijdpdjiaaGreatDoor
