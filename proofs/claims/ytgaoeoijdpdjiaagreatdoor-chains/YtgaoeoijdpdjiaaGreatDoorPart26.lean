/-
  The document's own hash, tree, start, join. The fold of a leaf's ends.
-/
import Derived.Test.YtgaoeoijdpdjiaaGreatDoorPart25
import Derived.Test.YtgaoeoijdpdjiaaGreatDoorPart19
import Derived.Test.YtgaoeoijdpdjiaaGreatDoorPart22
import Derived.Test.YtgaoeoijdpdjiaaGreatDoorPart20
namespace Go.Proofs.YtgaoeoijdpdjiaaGreatDoor
open Go.RowKit

theorem refDigested (k : Int) (n : Nat) (s : ByteArray) (w : World) (hk : k = 1 ∨ k = 2) (h1 : 1 ≤ n) (h2 : n ≤ 16) (hs : s.size ≤ 400) :
    Calls Tryz.prog 166 #[.int .i64 k, .int .i64 n, .string s] w fun e w' => e = .returned (.string (hv k n s)) ∧ Below w.heap.size w w' := by
  rcases hk with rfl | rfl
  · refine (digested_32 n s w h1 h2 hs).mono ?_
    rintro e w' ⟨rfl, hb⟩
    refine ⟨?_, hb⟩
    rw [← whole32_cut s n h2]
    unfold hv digAns
    rw [if_pos ⟨by simp, by omega, by omega⟩, if_pos hs, if_pos rfl]
    simp
  · refine (digested_64 n s w h1 h2 hs).mono ?_
    rintro e w' ⟨rfl, hb⟩
    refine ⟨?_, hb⟩
    rw [← whole64_cut s n (by omega)]
    unfold hv digAns
    rw [if_pos ⟨by simp, by omega, by omega⟩, if_pos hs, if_neg (by decide)]
    simp

set_option maxRecDepth 20000 in
set_option maxHeartbeats 2000000 in
theorem rhash_any (k x t l tag : Int) (b : Nat) (s : ByteArray) (w : World) (hk : k = 1 ∨ k = 2) (h1 : 1 ≤ b) (h2 : b ≤ 16) (hs : s.size ≤ 399) (ht : 0 ≤ tag) (ht2 : tag ≤ 100) :
    Calls Tryz.prog 91 #[.agg #[.int .i64 k, .int .i64 b, .int .i64 x, .int .i64 t, .int .i64 l], .int .i64 tag, .string s] w fun e w' => e = .returned (.string (hv k b (numB 1 tag ++ s))) ∧ Below w.heap.size w w' := by
  obtain ⟨W0, hW⟩ : ∃ W0, w.alloc (.cells #[.int .i64 k, .int .i64 b, .int .i64 x, .int .i64 t, .int .i64 l] 23) = W0 := ⟨_, rfl⟩
  have HF := hide (show FiveC w.heap.size W0 k b x t l by subst hW; refine ⟨?_, ?_, ?_, ?_, ?_⟩ <;> simp [go_sem])
  have HB := hide (show Below w.heap.size w W0 by subst hW; exact (Below.refl _ _).alloc (Nat.le_refl _) _)
  have hz : W0.heap.size = w.heap.size + 1 := by subst hW; simp
  have HS := hide (fun (V : World) (h : Below W0.heap.size W0 V) => (by
    obtain ⟨c0, c1, _, _, _⟩ := HF.out.below h (by omega)
    exact ⟨c0, c1, h⟩ : V.cell? ⟨w.heap.size, 0, none⟩ = some (.int .i64 k) ∧ V.cell? ⟨w.heap.size, 1, none⟩ = some (.int .i64 b) ∧ Below W0.heap.size W0 V))
  have HN := hide (fun V : World => refNumber_any 1 tag V (by decide) ht (by omega))
  have HD := hide (fun V : World => refDigested k b (numB 1 tag ++ s) V hk h1 h2 (by rw [ByteArray.size_append, numB_size]; omega))
  have hcc := sadd (numB 1 tag) s (by rw [numB_size]; omega) (by omega)
  go_enter Tryz.func91, Tryz.ntmps91
  go_wp2_with fail
  try rw [hW]
  go_region_held3 (fun V => V.cell? ⟨w.heap.size, 0, none⟩ = some (.int .i64 k) ∧ V.cell? ⟨w.heap.size, 1, none⟩ = some (.int .i64 b) ∧ Below W0.heap.size W0 V) (first | exact HS.out _ hS2 | exact HS.out _ hS1 | exact HS.out _ (Below.refl _ _).drew) (first | (go_at_call 93; refine (HN.out _).mono ?_; rintro e w1 ⟨rfl, hb1⟩; have hS1 := heldB (Below.refl W0.heap.size W0).drew hb1 (Nat.le_refl _)) | (go_at_call 166; refine (HD.out _).mono ?_; rintro e w2 ⟨rfl, hb2⟩; have hS2 := heldB hS1 hb2 (Nat.le_refl _)))
  go_wp2
  go_ret
  exact ⟨rfl, HB.out.trans (hS2.mono (by omega))⟩

set_option maxRecDepth 20000 in
set_option maxHeartbeats 2000000 in
theorem rtree_any (p0 p1 p2 p3 : Int) (w : World) (h0 : 0 ≤ p0) (h0' : p0 ≤ 100000) (h1 : 0 ≤ p1) (h1' : p1 ≤ 100000) :
    Calls Tryz.prog 92 #[.agg #[.int .i64 p0, .int .i64 p1, .int .i64 p2, .int .i64 p3]] w fun e w' => e = .returned (.string (numB 1 p0 ++ numB 4 p1)) ∧ Below w.heap.size w w' := by
  obtain ⟨W0, hW⟩ : ∃ W0, w.alloc (.cells #[.int .i64 p0, .int .i64 p1, .int .i64 p2, .int .i64 p3] 27) = W0 := ⟨_, rfl⟩
  have HF := hide (show FourC w.heap.size W0 p0 p1 p2 p3 by subst hW; refine ⟨?_, ?_, ?_, ?_⟩ <;> simp [go_sem])
  have HB := hide (show Below w.heap.size w W0 by subst hW; exact (Below.refl _ _).alloc (Nat.le_refl _) _)
  have hz : W0.heap.size = w.heap.size + 1 := by subst hW; simp
  have HS := hide (fun (V : World) (h : Below W0.heap.size W0 V) => (by
    obtain ⟨c0, c1, _, _⟩ := HF.out.below h (by omega)
    exact ⟨c0, c1, h⟩ : V.cell? ⟨w.heap.size, 0, none⟩ = some (.int .i64 p0) ∧ V.cell? ⟨w.heap.size, 1, none⟩ = some (.int .i64 p1) ∧ Below W0.heap.size W0 V))
  have HN := hide (fun V : World => refNumber_any 1 p0 V (by decide) h0 (by omega))
  have HN4 := hide (fun V : World => refNumber_any 4 p1 V (by decide) h1 (by omega))
  have hcc := sadd (numB 1 p0) (numB 4 p1) (by rw [numB_size]; omega) (by rw [numB_size]; omega)
  clear h0 h0' h1 h1'
  go_enter Tryz.func92, Tryz.ntmps92
  go_wp2_with fail
  try rw [hW]
  go_region_held3 (fun V => V.cell? ⟨w.heap.size, 0, none⟩ = some (.int .i64 p0) ∧ V.cell? ⟨w.heap.size, 1, none⟩ = some (.int .i64 p1) ∧ Below W0.heap.size W0 V) (first | exact HS.out _ hS2 | exact HS.out _ hS1 | exact HS.out _ (Below.refl _ _).drew) (first | (go_at_call 93; have hx := hS1; clear hx; refine (HN4.out _).mono ?_; rintro e w2 ⟨rfl, hb2⟩; have hS2 := heldB hS1 hb2 (Nat.le_refl _)) | (go_at_call 93; refine (HN.out _).mono ?_; rintro e w1 ⟨rfl, hb1⟩; have hS1 := heldB (Below.refl W0.heap.size W0).drew hb1 (Nat.le_refl _)))
  go_wp2
  go_ret
  exact ⟨rfl, HB.out.trans (hS2.mono (by omega))⟩
end Go.Proofs.YtgaoeoijdpdjiaaGreatDoor

namespace Go.Proofs.YtgaoeoijdpdjiaaGreatDoor
open Go.RowKit

/-- The document's fold, with as many rounds as are allowed. -/
def foldS (k b : Int) (pub : ByteArray) (p0 p1 p2 : Int) : Nat → Int → List ByteArray → ByteArray
  | 0, _, xs => xs.headD ⟨#[]⟩
  | f + 1, r, xs => if xs.length ≤ 1 then xs.headD ⟨#[]⟩ else foldS k b pub p0 p1 p2 f (r + 1) (roundS k b pub p0 p1 p2 r xs)
theorem foldS_stop (k b : Int) (pub : ByteArray) (p0 p1 p2 : Int) (f : Nat) (r : Int) (xs : List ByteArray) (h : xs.length ≤ 1) : foldS k b pub p0 p1 p2 f r xs = xs.headD ⟨#[]⟩ := by
  cases f with
  | zero => rfl
  | succ f => rw [foldS, if_pos h]
theorem roundS_length (k b : Int) (pub : ByteArray) (p0 p1 p2 r : Int) (xs : List ByteArray) : (roundS k b pub p0 p1 p2 r xs).length = (xs.length + 1) / 2 := by simp [roundS]
theorem roundS_size (k b : Int) (pub : ByteArray) (p0 p1 p2 r : Int) (xs : List ByteArray) (hk : k = 1 ∨ k = 2) (h1 : 1 ≤ b) (h2 : b ≤ 16) (hp : pub.size ≤ 16) (hx : ∀ y ∈ xs, (y.size : Int) = b) : ∀ y ∈ roundS k b pub p0 p1 p2 r xs, (y.size : Int) = b := by
  intro y hy
  simp only [roundS, List.mem_map, List.mem_range] at hy
  obtain ⟨q, hq, rfl⟩ := hy
  have hg : ∀ i, i < xs.length → ((xs.getD i ⟨#[]⟩).size : Int) = b := by
    intro i hi
    rw [List.getD_eq_getElem?_getD, List.getElem?_eq_getElem hi]
    exact hx _ (List.getElem_mem hi)
  unfold pv
  split
  · rename_i h
    have e0 := hg (2 * q) (by omega)
    have e1 := hg (2 * q + 1) h
    exact pairS_size k b pub p0 p1 p2 r _ _ _ hk h1 h2 hp (by omega) (by omega)
  · exact hg (2 * q) (by omega)

theorem owns_strs {V : World} {base : Nat} {v : Value} {ys : List ByteArray} (h : V.ownsRow base 9 1 v ys.length (ys.map Value.string)) (hn : 1 ≤ ys.length) :
    ∃ g c, v = .slice (some ⟨g, 0, none⟩) ys.length c ∧ ys.length ≤ c ∧ base ≤ g ∧ g < V.heap.size ∧ ∀ (j : Nat) y, ys[j]? = some y → V.cell? ⟨g, 0 + j, none⟩ = some (.string y) := by
  rcases h.2 with ⟨_, h0⟩ | ⟨g, cap, cur, hv, hg, hh, hc, hm, hs, ht⟩
  · omega
  · refine ⟨g, cap, hv, hc, hg, lt_of_block hh, ?_⟩
    intro j y hj
    have hjl : j < ys.length := (List.getElem?_eq_some_iff.1 hj).1
    have e : (cur.toList.take (ys.length * 1))[j]? = (ys.map Value.string)[j]? := by rw [ht]
    rw [List.getElem?_take_of_lt (by omega), List.getElem?_map, hj] at e
    simp only [World.cell?, hh]
    simpa using e

set_option maxRecDepth 20000 in
set_option maxHeartbeats 4000000 in
theorem sfold_any (k b x t l : Int) (seed : ByteArray) (p0 p1 p2 p3 : Int) (bk o c : Nat) (xs : List ByteArray) (w : World) (hcells : ∀ (j : Nat) y, xs[j]? = some y → w.cell? ⟨bk, o + j, none⟩ = some (.string y)) (hbk : bk < w.heap.size) (hcap : xs.length ≤ c) (hN : xs.length ≤ 64) (hN1 : 1 ≤ xs.length)
    (hk : k = 1 ∨ k = 2) (h1 : 1 ≤ b) (h2 : b ≤ 16) (hs : seed.size ≤ 16) (hxs : ∀ y ∈ xs, (y.size : Int) = b) (hT : Tn w) :
    Calls Tryz.prog 75 #[.agg #[.int .i64 k, .int .i64 b, .int .i64 x, .int .i64 t, .int .i64 l, .string seed, .int .i64 p0, .int .i64 p1, .int .i64 p2, .int .i64 p3], .slice (some ⟨bk, o, none⟩) xs.length c] w fun e w' => e = .returned (.string (foldS k b seed p0 p1 p2 6 0 xs)) ∧ Below w.heap.size w w' := by
  obtain ⟨W0, hW⟩ : ∃ W0, w.alloc (.cells #[.int .i64 k, .int .i64 b, .int .i64 x, .int .i64 t, .int .i64 l, .string seed, .int .i64 p0, .int .i64 p1, .int .i64 p2, .int .i64 p3] 140) = W0 := ⟨_, rfl⟩
  have HF := hide (show TenC w.heap.size W0 k b x t l seed p0 p1 p2 p3 by subst hW; refine ⟨?_, ?_, ?_, ?_, ?_, ?_, ?_, ?_, ?_, ?_⟩ <;> simp [go_sem])
  have HB := hide (show Below w.heap.size w W0 by subst hW; exact (Below.refl _ _).alloc (Nat.le_refl _) _)
  have hz : W0.heap.size = w.heap.size + 1 := by subst hW; simp
  have HT := hide (hT.on HB.out)
  have HS := hide (fun (V : World) (h : Below W0.heap.size W0 V) => (by
    obtain ⟨c0, c1, c2, c3, c4, c5, c6, c7, c8, c9⟩ := HF.out.below h (by omega)
    exact ⟨c0, c1, c2, c3, c4, c5, c6, c7, c8, c9, h⟩ : V.cell? ⟨w.heap.size, 0, none⟩ = some (.int .i64 k) ∧ V.cell? ⟨w.heap.size, 1, none⟩ = some (.int .i64 b) ∧ V.cell? ⟨w.heap.size, 2, none⟩ = some (.int .i64 x) ∧ V.cell? ⟨w.heap.size, 3, none⟩ = some (.int .i64 t) ∧ V.cell? ⟨w.heap.size, 4, none⟩ = some (.int .i64 l) ∧ V.cell? ⟨w.heap.size, 5, none⟩ = some (.string seed) ∧ V.cell? ⟨w.heap.size, 6, none⟩ = some (.int .i64 p0) ∧ V.cell? ⟨w.heap.size, 7, none⟩ = some (.int .i64 p1) ∧ V.cell? ⟨w.heap.size, 8, none⟩ = some (.int .i64 p2) ∧ V.cell? ⟨w.heap.size, 9, none⟩ = some (.int .i64 p3) ∧ Below W0.heap.size W0 V))
  have HP := hide (fun (r : Int) (bk o c : Nat) (ys : List ByteArray) (V : World) (hb : Below W0.heap.size W0 V) (hc : ∀ (j : Nat) y, ys[j]? = some y → V.cell? ⟨bk, o + j, none⟩ = some (.string y)) (hbk : bk < V.heap.size) (hcap : ys.length ≤ c) (hN : ys.length ≤ 64) (hy : ∀ y ∈ ys, (y.size : Int) = b) => paired_any k b x t l seed p0 p1 p2 p3 r bk o c ys V hc hbk hcap (by omega) hk h1 h2 hs (fun y h => by have := hy y h; omega) (HT.out.on hb))
  have HRS := hide (fun (r : Int) (ys : List ByteArray) (hy : ∀ y ∈ ys, (y.size : Int) = b) => roundS_size k b seed p0 p1 p2 r ys hk h1 h2 hs hy)
  have HC0 := hide (fun (j : Nat) (y : ByteArray) (hj : xs[j]? = some y) => (HB.out.cell (p := ⟨bk, o + j, none⟩) hbk).trans (hcells j y hj))
  have HX := hide hxs
  clear hT hcells hxs
  go_enter Tryz.func75, Tryz.ntmps75
  go_wp2_with fail
  try rw [hW]
  clear hW
  go_loopw [5, 6] (fun v i wr => ∃ (j : Nat) (g q c' : Nat) (ys : List ByteArray), j ≤ 6 ∧ i = .int .i64 j ∧ v = .slice (some ⟨g, q, none⟩) ys.length c' ∧ ys.length ≤ c' ∧ 1 ≤ ys.length ∧ ys.length ≤ 64 ∧ g < wr.heap.size ∧ Hid (ys.length ≤ 2 ^ (6 - j) ∧ foldS k b seed p0 p1 p2 6 0 xs = foldS k b seed p0 p1 p2 (6 - j) j ys) ∧ Hid (∀ y ∈ ys, (y.size : Int) = b) ∧ Hid (∀ (m : Nat) y, ys[m]? = some y → wr.cell? ⟨g, q + m, none⟩ = some (.string y)) ∧ Hid (Below W0.heap.size W0 wr)) (fun _ i _ => 7 - (intOf i).toNat)
  case atStart => exact ⟨0, bk, o, c, xs, by omega, rfl, rfl, hcap, hN1, hN, by omega, ⟨by simpa using hN, rfl⟩, HX.out, HC0.out, Below.refl _ _⟩
  case round =>
    obtain ⟨j, g, q, c', ys, hj, rfl, rfl, hc', hy1, hy64, hg, hfo, hys, hce, hb⟩ := hrel
    by_cases hlt : 1 < ys.length
    · have hj6 : j < 6 := by
        rcases Nat.lt_or_ge j 6 with h | h
        · exact h
        · have := hfo.out.1
          rw [show 6 - j = 0 by omega] at this
          simp at this; omega
      have HPJ := hide (HP.out j g q c' ys wr hb.out hce.out hg hc' hy64 hys.out)
      obtain ⟨d0, d1, d2, d3, d4, d5, d6, d7, d8, d9, _⟩ := HS.out wr hb.out
      go_wp2_with fail
      refine HPJ.out.mono ?_
      rintro e w1 ⟨v, rfl, hrow, hb1⟩
      have hl : (roundS k b seed p0 p1 p2 j ys).length = (ys.length + 1) / 2 := roundS_length _ _ _ _ _ _ _ _
      obtain ⟨g', cap', rfl, hcc, hg1, hg2, hce'⟩ := owns_strs hrow (by omega)
      have HB1 := hide (heldB hb.out hb1 (Nat.le_refl _))
      have HCE := hide hce'
      have HYS := hide (HRS.out j ys hys.out)
      have HFO : Hid ((roundS k b seed p0 p1 p2 j ys).length ≤ 2 ^ (6 - (j + 1)) ∧ foldS k b seed p0 p1 p2 6 0 xs = foldS k b seed p0 p1 p2 (6 - (j + 1)) (j + 1) (roundS k b seed p0 p1 p2 j ys)) := by
        refine ⟨?_, ?_⟩
        · have := hfo.out.1
          rw [show 6 - j = (6 - (j + 1)) + 1 by omega, Nat.pow_succ] at this
          omega
        · rw [hfo.out.2, show 6 - j = (6 - (j + 1)) + 1 by omega, foldS, if_neg (by omega)]
      have hl1 : (roundS k b seed p0 p1 p2 j ys).length ≤ 64 := by omega
      have hl2 : 1 ≤ (roundS k b seed p0 p1 p2 j ys).length := by omega
      clear hl hrow hb1 hce' hfo hys hce HPJ d0 d1 d2 d3 d4 d5 d6 d7 d8 d9
      generalize roundS k b seed p0 p1 p2 j ys = zs at HFO HYS HCE hl1 hl2 hcc ⊢
      go_wp2
      go_roundw
      case rel =>
        have R : ∃ (j' : Nat) (g2 q2 c2 : Nat) (ys : List ByteArray), j' ≤ 6 ∧ Value.int .i64 ((j : Int) + 1) = .int .i64 j' ∧ Value.slice (some ⟨g', 0, none⟩) zs.length cap' = .slice (some ⟨g2, q2, none⟩) ys.length c2 ∧ ys.length ≤ c2 ∧ 1 ≤ ys.length ∧ ys.length ≤ 64 ∧ g2 < w1.heap.size ∧ Hid (ys.length ≤ 2 ^ (6 - j') ∧ foldS k b seed p0 p1 p2 6 0 xs = foldS k b seed p0 p1 p2 (6 - j') j' ys) ∧ Hid (∀ y ∈ ys, (y.size : Int) = b) ∧ Hid (∀ (m : Nat) y, ys[m]? = some y → w1.cell? ⟨g2, q2 + m, none⟩ = some (.string y)) ∧ Hid (Below W0.heap.size W0 w1) :=
          ⟨j + 1, g', 0, cap', zs, by omega, by go_num, rfl, hcc, by omega, by omega, hg2, by have h := HFO.out; exact ⟨h.1, by rw [h.2]; rfl⟩, HYS.out, HCE.out, HB1.out⟩
        first | exact R | ((repeat apply Exists.intro); exact ⟨R, rfl⟩)
      case measure => simp [intOf]; omega
    · have hy0 : ys.length = 1 := by omega
      obtain ⟨y, rfl⟩ : ∃ y, ys = [y] := List.length_eq_one_iff.1 hy0
      have c0 := hce.out 0 y rfl
      have HR := hide (foldS_stop k b seed p0 p1 p2 (6 - j) j [y] (by simp))
      simp only [List.length_cons, List.length_nil, Nat.reduceAdd, Nat.add_zero] at c0 ⊢
      go_wp2
      go_ret
      exact ⟨by rw [hfo.out.2, HR.out]; rfl, HB.out.trans (hb.out.mono (by omega))⟩
end Go.Proofs.YtgaoeoijdpdjiaaGreatDoor
