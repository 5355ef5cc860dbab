/-
  The fold of a leaf's ends. A block of memory and what it holds; the leaf and the nodes, as plain functions. A whole number in so many bytes: the document's own Number. The program's digest and the document's are one: the padded row and the padded text read alike, and the first n bytes of the whole are the n bytes.
-/
import Derived.Test.YtcaojimmdcdpiaaDoorPart11
import Derived.Test.YtcaojimmdcdpiaaDoorPart3
import Derived.Test.YtcaojimmdcdpiaaDoorPart8
namespace Go.Proofs.YtcaojimmdcdpiaaDoor
open Go.RowKit

/-- The document's fold, with as many rounds as are allowed. -/
def foldS (k b : Int) (pub : ByteArray) (p0 p1 p2 : Int) : Nat → Int → List ByteArray → ByteArray
  | 0, _, xs => xs.headD ⟨#[]⟩
  | f + 1, r, xs => if xs.length ≤ 1 then xs.headD ⟨#[]⟩ else foldS k b pub p0 p1 p2 f (r + 1) (roundS k b pub p0 p1 p2 r xs)
theorem foldS_stop (k b : Int) (pub : ByteArray) (p0 p1 p2 : Int) (f : Nat) (r : Int) (xs : List ByteArray) (h : xs.length ≤ 1) : foldS k b pub p0 p1 p2 f r xs = xs.headD ⟨#[]⟩ := by
  cases f with
  | zero => rfl
  | succ f => rw [foldS, if_pos h]
theorem roundS_length (k b : Int) (pub : ByteArray) (p0 p1 p2 r : Int) (xs : List ByteArray) : (roundS k b pub p0 p1 p2 r xs).length = (xs.length + 1) / 2 := by simp [roundS]
theorem roundS_size (k b : Int) (pub : ByteArray) (p0 p1 p2 r : Int) (xs : List ByteArray) (hk : k = 1 ∨ k = 2) (h1 : 1 ≤ b) (h2 : b ≤ 16) (hp : pub.size ≤ 16) (hx : ∀ y ∈ xs, (y.size : Int) = b) : ∀ y ∈ roundS k b pub p0 p1 p2 r xs, (y.size : Int) = b := by
  intro y hy
  simp only [roundS, List.mem_map, List.mem_range] at hy
  obtain ⟨q, hq, rfl⟩ := hy
  have hg : ∀ i, i < xs.length → ((xs.getD i ⟨#[]⟩).size : Int) = b := by
    intro i hi
    rw [List.getD_eq_getElem?_getD, List.getElem?_eq_getElem hi]
    exact hx _ (List.getElem_mem hi)
  unfold pv
  split
  · rename_i h
    have e0 := hg (2 * q) (by omega)
    have e1 := hg (2 * q + 1) h
    exact pairS_size k b pub p0 p1 p2 r _ _ _ hk h1 h2 hp (by omega) (by omega)
  · exact hg (2 * q) (by omega)

theorem owns_strs {V : World} {base : Nat} {v : Value} {ys : List ByteArray} (h : V.ownsRow base 9 1 v ys.length (ys.map Value.string)) (hn : 1 ≤ ys.length) :
    ∃ g c, v = .slice (some ⟨g, 0, none⟩) ys.length c ∧ ys.length ≤ c ∧ base ≤ g ∧ g < V.heap.size ∧ ∀ (j : Nat) y, ys[j]? = some y → V.cell? ⟨g, 0 + j, none⟩ = some (.string y) := by
  rcases h.2 with ⟨_, h0⟩ | ⟨g, cap, cur, hv, hg, hh, hc, hm, hs, ht⟩
  · omega
  · refine ⟨g, cap, hv, hc, hg, lt_of_block hh, ?_⟩
    intro j y hj
    have hjl : j < ys.length := (List.getElem?_eq_some_iff.1 hj).1
    have e : (cur.toList.take (ys.length * 1))[j]? = (ys.map Value.string)[j]? := by rw [ht]
    rw [List.getElem?_take_of_lt (by omega), List.getElem?_map, hj] at e
    simp only [World.cell?, hh]
    simpa using e

set_option maxRecDepth 20000 in
set_option maxHeartbeats 4000000 in
theorem sfold_any (k b x t l : Int) (seed : ByteArray) (p0 p1 p2 p3 : Int) (bk o c : Nat) (xs : List ByteArray) (w : World) (hcells : ∀ (j : Nat) y, xs[j]? = some y → w.cell? ⟨bk, o + j, none⟩ = some (.string y)) (hbk : bk < w.heap.size) (hcap : xs.length ≤ c) (hN : xs.length ≤ 64) (hN1 : 1 ≤ xs.length)
    (hk : k = 1 ∨ k = 2) (h1 : 1 ≤ b) (h2 : b ≤ 16) (hs : seed.size ≤ 16) (hxs : ∀ y ∈ xs, (y.size : Int) = b) (hT : Tn w) :
    Calls Tryd.prog 87 #[.agg #[.int .i64 k, .int .i64 b, .int .i64 x, .int .i64 t, .int .i64 l, .string seed, .int .i64 p0, .int .i64 p1, .int .i64 p2, .int .i64 p3], .slice (some ⟨bk, o, none⟩) xs.length c] w fun e w' => e = .returned (.string (foldS k b seed p0 p1 p2 6 0 xs)) ∧ Below w.heap.size w w' := by
  obtain ⟨W0, hW⟩ : ∃ W0, w.alloc (.cells #[.int .i64 k, .int .i64 b, .int .i64 x, .int .i64 t, .int .i64 l, .string seed, .int .i64 p0, .int .i64 p1, .int .i64 p2, .int .i64 p3] 121) = W0 := ⟨_, rfl⟩
  have HF := hide (show TenC w.heap.size W0 k b x t l seed p0 p1 p2 p3 by subst hW; refine ⟨?_, ?_, ?_, ?_, ?_, ?_, ?_, ?_, ?_, ?_⟩ <;> simp [go_sem])
  have HB := hide (show Below w.heap.size w W0 by subst hW; exact (Below.refl _ _).alloc (Nat.le_refl _) _)
  have hz : W0.heap.size = w.heap.size + 1 := by subst hW; simp
  have HT := hide (hT.on HB.out)
  have HS := hide (fun (V : World) (h : Below W0.heap.size W0 V) => (by
    obtain ⟨c0, c1, c2, c3, c4, c5, c6, c7, c8, c9⟩ := HF.out.below h (by omega)
    exact ⟨c0, c1, c2, c3, c4, c5, c6, c7, c8, c9, h⟩ : V.cell? ⟨w.heap.size, 0, none⟩ = some (.int .i64 k) ∧ V.cell? ⟨w.heap.size, 1, none⟩ = some (.int .i64 b) ∧ V.cell? ⟨w.heap.size, 2, none⟩ = some (.int .i64 x) ∧ V.cell? ⟨w.heap.size, 3, none⟩ = some (.int .i64 t) ∧ V.cell? ⟨w.heap.size, 4, none⟩ = some (.int .i64 l) ∧ V.cell? ⟨w.heap.size, 5, none⟩ = some (.string seed) ∧ V.cell? ⟨w.heap.size, 6, none⟩ = some (.int .i64 p0) ∧ V.cell? ⟨w.heap.size, 7, none⟩ = some (.int .i64 p1) ∧ V.cell? ⟨w.heap.size, 8, none⟩ = some (.int .i64 p2) ∧ V.cell? ⟨w.heap.size, 9, none⟩ = some (.int .i64 p3) ∧ Below W0.heap.size W0 V))
  have HP := hide (fun (r : Int) (bk o c : Nat) (ys : List ByteArray) (V : World) (hb : Below W0.heap.size W0 V) (hc : ∀ (j : Nat) y, ys[j]? = some y → V.cell? ⟨bk, o + j, none⟩ = some (.string y)) (hbk : bk < V.heap.size) (hcap : ys.length ≤ c) (hN : ys.length ≤ 64) (hy : ∀ y ∈ ys, (y.size : Int) = b) => paired_any k b x t l seed p0 p1 p2 p3 r bk o c ys V hc hbk hcap (by omega) hk h1 h2 hs (fun y h => by have := hy y h; omega) (HT.out.on hb))
  have HRS := hide (fun (r : Int) (ys : List ByteArray) (hy : ∀ y ∈ ys, (y.size : Int) = b) => roundS_size k b seed p0 p1 p2 r ys hk h1 h2 hs hy)
  have HC0 := hide (fun (j : Nat) (y : ByteArray) (hj : xs[j]? = some y) => (HB.out.cell (p := ⟨bk, o + j, none⟩) hbk).trans (hcells j y hj))
  have HX := hide hxs
  clear hT hcells hxs
  go_enter Tryd.func87, Tryd.ntmps87
  go_wp2_with fail
  try rw [hW]
  clear hW
  go_loopw [5, 6] (fun v i wr => ∃ (j : Nat) (g q c' : Nat) (ys : List ByteArray), j ≤ 6 ∧ i = .int .i64 j ∧ v = .slice (some ⟨g, q, none⟩) ys.length c' ∧ ys.length ≤ c' ∧ 1 ≤ ys.length ∧ ys.length ≤ 64 ∧ g < wr.heap.size ∧ Hid (ys.length ≤ 2 ^ (6 - j) ∧ foldS k b seed p0 p1 p2 6 0 xs = foldS k b seed p0 p1 p2 (6 - j) j ys) ∧ Hid (∀ y ∈ ys, (y.size : Int) = b) ∧ Hid (∀ (m : Nat) y, ys[m]? = some y → wr.cell? ⟨g, q + m, none⟩ = some (.string y)) ∧ Hid (Below W0.heap.size W0 wr)) (fun _ i _ => 7 - (intOf i).toNat)
  case atStart => exact ⟨0, bk, o, c, xs, by omega, rfl, rfl, hcap, hN1, hN, by omega, ⟨by simpa using hN, rfl⟩, HX.out, HC0.out, Below.refl _ _⟩
  case round =>
    obtain ⟨j, g, q, c', ys, hj, rfl, rfl, hc', hy1, hy64, hg, hfo, hys, hce, hb⟩ := hrel
    by_cases hlt : 1 < ys.length
    · have hj6 : j < 6 := by
        rcases Nat.lt_or_ge j 6 with h | h
        · exact h
        · have := hfo.out.1
          rw [show 6 - j = 0 by omega] at this
          simp at this; omega
      have HPJ := hide (HP.out j g q c' ys wr hb.out hce.out hg hc' hy64 hys.out)
      obtain ⟨d0, d1, d2, d3, d4, d5, d6, d7, d8, d9, _⟩ := HS.out wr hb.out
      go_wp2_with fail
      refine HPJ.out.mono ?_
      rintro e w1 ⟨v, rfl, hrow, hb1⟩
      have hl : (roundS k b seed p0 p1 p2 j ys).length = (ys.length + 1) / 2 := roundS_length _ _ _ _ _ _ _ _
      obtain ⟨g', cap', rfl, hcc, hg1, hg2, hce'⟩ := owns_strs hrow (by omega)
      have HB1 := hide (heldB hb.out hb1 (Nat.le_refl _))
      have HCE := hide hce'
      have HYS := hide (HRS.out j ys hys.out)
      have HFO : Hid ((roundS k b seed p0 p1 p2 j ys).length ≤ 2 ^ (6 - (j + 1)) ∧ foldS k b seed p0 p1 p2 6 0 xs = foldS k b seed p0 p1 p2 (6 - (j + 1)) (j + 1) (roundS k b seed p0 p1 p2 j ys)) := by
        refine ⟨?_, ?_⟩
        · have := hfo.out.1
          rw [show 6 - j = (6 - (j + 1)) + 1 by omega, Nat.pow_succ] at this
          omega
        · rw [hfo.out.2, show 6 - j = (6 - (j + 1)) + 1 by omega, foldS, if_neg (by omega)]
      have hl1 : (roundS k b seed p0 p1 p2 j ys).length ≤ 64 := by omega
      have hl2 : 1 ≤ (roundS k b seed p0 p1 p2 j ys).length := by omega
      clear hl hrow hb1 hce' hfo hys hce HPJ d0 d1 d2 d3 d4 d5 d6 d7 d8 d9
      generalize roundS k b seed p0 p1 p2 j ys = zs at HFO HYS HCE hl1 hl2 hcc ⊢
      go_wp2
      go_roundw
      case rel =>
        have R : ∃ (j' : Nat) (g2 q2 c2 : Nat) (ys : List ByteArray), j' ≤ 6 ∧ Value.int .i64 ((j : Int) + 1) = .int .i64 j' ∧ Value.slice (some ⟨g', 0, none⟩) zs.length cap' = .slice (some ⟨g2, q2, none⟩) ys.length c2 ∧ ys.length ≤ c2 ∧ 1 ≤ ys.length ∧ ys.length ≤ 64 ∧ g2 < w1.heap.size ∧ Hid (ys.length ≤ 2 ^ (6 - j') ∧ foldS k b seed p0 p1 p2 6 0 xs = foldS k b seed p0 p1 p2 (6 - j') j' ys) ∧ Hid (∀ y ∈ ys, (y.size : Int) = b) ∧ Hid (∀ (m : Nat) y, ys[m]? = some y → w1.cell? ⟨g2, q2 + m, none⟩ = some (.string y)) ∧ Hid (Below W0.heap.size W0 w1) :=
          ⟨j + 1, g', 0, cap', zs, by omega, by go_num, rfl, hcc, by omega, by omega, hg2, by have h := HFO.out; exact ⟨h.1, by rw [h.2]; rfl⟩, HYS.out, HCE.out, HB1.out⟩
        first | exact R | ((repeat apply Exists.intro); exact ⟨R, rfl⟩)
      case measure => simp [intOf]; omega
    · have hy0 : ys.length = 1 := by omega
      obtain ⟨y, rfl⟩ : ∃ y, ys = [y] := List.length_eq_one_iff.1 hy0
      have c0 := hce.out 0 y rfl
      have HR := hide (foldS_stop k b seed p0 p1 p2 (6 - j) j [y] (by simp))
      simp only [List.length_cons, List.length_nil, Nat.reduceAdd, Nat.add_zero] at c0 ⊢
      go_wp2
      go_ret
      exact ⟨by rw [hfo.out.2, HR.out]; rfl, HB.out.trans (hb.out.mono (by omega))⟩
end Go.Proofs.YtcaojimmdcdpiaaDoor

namespace Go.Proofs.YtcaojimmdcdpiaaDoor
open Go.RowKit

/-- Block g holds these values, and may be written. -/
def Blk (w : World) (g : Nat) (vs : List Value) (T : TypeId) : Prop := w.heap[g]? = some (.cells vs.toArray T (0, 0))
theorem Blk.lt {w : World} {g : Nat} {vs : List Value} {T : TypeId} (h : Blk w g vs T) : g < w.heap.size := lt_of_block h
theorem Blk.cell {w : World} {g : Nat} {vs : List Value} {T : TypeId} (h : Blk w g vs T) (i : Nat) : w.cell? ⟨g, i, none⟩ = vs[i]? := by
  unfold Blk at h
  simp [World.cell?, h]
theorem Blk.free {w : World} {g : Nat} {vs : List Value} {T : TypeId} (h : Blk w g vs T) (i : Nat) : w.frozen? ⟨g, i, none⟩ = false := by
  unfold Blk at h
  simp [World.frozen?, h]
theorem Blk.set {w : World} {g : Nat} {vs : List Value} {T : TypeId} (h : Blk w g vs T) (i : Nat) (u : Value) : Blk (w.setCell ⟨g, i, none⟩ u) g (vs.set i u) T := by
  have hlt := h.lt
  unfold Blk at h ⊢
  have h' : w.heap[g] = .cells vs.toArray T (0, 0) := by simpa [Array.getElem?_eq_getElem hlt] using h
  show (w.heap.modify g _)[g]? = _
  rw [Array.getElem?_eq_getElem (by simpa using hlt), Array.getElem_modify_self, h']
  simp
theorem Blk.below {w w' : World} {g B : Nat} {vs : List Value} {T : TypeId} (h : Blk w g vs T) (hb : Below B w w') (hg : g < B) : Blk w' g vs T := by
  unfold Blk at h ⊢
  rw [hb.block g hg]; exact h
theorem Blk.on {w w' : World} {g : Nat} {vs : List Value} {T : TypeId} (h : Blk w g vs T) (hb : Below w.heap.size w w') : Blk w' g vs T := h.below hb h.lt
theorem Blk.other {w : World} {g : Nat} {vs : List Value} {T : TypeId} (h : Blk w g vs T) {a : Addr} (u : Value) (hne : g ≠ a.block) : Blk (w.setCell a u) g vs T := by
  unfold Blk at h ⊢
  rw [Below.heap_setCell _ _ _ _ hne]; exact h
theorem Blk.new (w : World) (vs : List Value) (T : TypeId) : Blk (w.alloc (.cells vs.toArray T)) w.heap.size vs T := World.alloc_heap_new w _
theorem Blk.alloc {w : World} {g : Nat} {vs : List Value} {T : TypeId} (h : Blk w g vs T) (o : Obj) : Blk (w.alloc o) g vs T := h.on ((Below.refl _ _).alloc (Nat.le_refl _) o)

/-- The end of the i-th chain of a leaf. -/
def endS (k b : Int) (wd : Nat) (sec pub : ByteArray) (p0 p1 F : Int) (i : Nat) : ByteArray := chainS k b pub p0 p1 F i 0 wd (startS k b sec p0 p1 F i)
def endsS (k b : Int) (wd : Nat) (sec pub : ByteArray) (p0 p1 F : Int) (n : Nat) : List ByteArray := (List.range n).map (endS k b wd sec pub p0 p1 F)
theorem endsS_succ (k b : Int) (wd : Nat) (sec pub : ByteArray) (p0 p1 F : Int) (n : Nat) : endsS k b wd sec pub p0 p1 F (n + 1) = endsS k b wd sec pub p0 p1 F n ++ [endS k b wd sec pub p0 p1 F n] := by simp [endsS, List.range_succ]
theorem endsS_length (k b : Int) (wd : Nat) (sec pub : ByteArray) (p0 p1 F : Int) (n : Nat) : (endsS k b wd sec pub p0 p1 F n).length = n := by simp [endsS]
theorem endS_size (k b : Int) (wd : Nat) (sec pub : ByteArray) (p0 p1 F : Int) (i : Nat) (hk : k = 1 ∨ k = 2) (h1 : 1 ≤ b) (h2 : b ≤ 16) (hs : sec.size ≤ 16) (hp : pub.size ≤ 16) : ((endS k b wd sec pub p0 p1 F i).size : Int) = b :=
  chainS_size k b pub p0 p1 F i 0 wd _ hk h1 h2 hp (startS_size k b sec p0 p1 F i hk h1 h2 hs)
theorem endsS_size (k b : Int) (wd : Nat) (sec pub : ByteArray) (p0 p1 F : Int) (n : Nat) (hk : k = 1 ∨ k = 2) (h1 : 1 ≤ b) (h2 : b ≤ 16) (hs : sec.size ≤ 16) (hp : pub.size ≤ 16) : ∀ y ∈ endsS k b wd sec pub p0 p1 F n, (y.size : Int) = b := by
  intro y hy
  simp only [endsS, List.mem_map, List.mem_range] at hy
  obtain ⟨i, _, rfl⟩ := hy
  exact endS_size k b wd sec pub p0 p1 F i hk h1 h2 hs hp
/-- A leaf, and the nodes above. -/
def leafS (k b : Int) (wd ch : Nat) (sec pub : ByteArray) (p0 p1 F : Int) : ByteArray := foldS k b pub p0 p1 F 6 0 (endsS k b wd sec pub p0 p1 F ch)
def nodeS (k b : Int) (wd ch : Nat) (sec pub : ByteArray) (p0 p1 : Int) : Nat → Nat → ByteArray
  | 0, j => leafS k b wd ch sec pub p0 p1 j
  | h + 1, j => joinS k b pub p0 p1 (h + 1 : Nat) j (nodeS k b wd ch sec pub p0 p1 h (2 * j)) (nodeS k b wd ch sec pub p0 p1 h (2 * j + 1))

theorem foldS_size (k b : Int) (pub : ByteArray) (p0 p1 p2 : Int) (hk : k = 1 ∨ k = 2) (h1 : 1 ≤ b) (h2 : b ≤ 16) (hp : pub.size ≤ 16) : ∀ (f : Nat) (r : Int) (xs : List ByteArray), 1 ≤ xs.length → (∀ y ∈ xs, (y.size : Int) = b) → ((foldS k b pub p0 p1 p2 f r xs).size : Int) = b := by
  intro f
  induction f with
  | zero =>
    intro r xs hl hx
    obtain ⟨y, ys, rfl⟩ := List.exists_cons_of_length_pos (show 0 < xs.length by omega)
    exact hx y (by simp)
  | succ f ih =>
    intro r xs hl hx
    rw [foldS]
    split
    · obtain ⟨y, ys, rfl⟩ := List.exists_cons_of_length_pos (show 0 < xs.length by omega)
      exact hx y (by simp)
    · exact ih _ _ (by rw [roundS_length]; omega) (roundS_size k b pub p0 p1 p2 r xs hk h1 h2 hp hx)
theorem leafS_size (k b : Int) (wd ch : Nat) (sec pub : ByteArray) (p0 p1 F : Int) (hk : k = 1 ∨ k = 2) (h1 : 1 ≤ b) (h2 : b ≤ 16) (hs : sec.size ≤ 16) (hp : pub.size ≤ 16) (hc : 1 ≤ ch) : ((leafS k b wd ch sec pub p0 p1 F).size : Int) = b :=
  foldS_size k b pub p0 p1 F hk h1 h2 hp 6 0 _ (by rw [endsS_length]; exact hc) (endsS_size k b wd sec pub p0 p1 F ch hk h1 h2 hs hp)
theorem nodeS_size (k b : Int) (wd ch : Nat) (sec pub : ByteArray) (p0 p1 : Int) (hk : k = 1 ∨ k = 2) (h1 : 1 ≤ b) (h2 : b ≤ 16) (hs : sec.size ≤ 16) (hp : pub.size ≤ 16) (hc : 1 ≤ ch) : ∀ h j, ((nodeS k b wd ch sec pub p0 p1 h j).size : Int) = b := by
  intro h
  induction h with
  | zero => intro j; exact leafS_size k b wd ch sec pub p0 p1 j hk h1 h2 hs hp hc
  | succ h ih =>
    intro j
    have e0 := ih (2 * j)
    have e1 := ih (2 * j + 1)
    exact joinS_size k b pub p0 p1 _ _ _ _ hk h1 h2 hp (by omega) (by omega)
end Go.Proofs.YtcaojimmdcdpiaaDoor

namespace Go.Proofs.YtcaojimmdcdpiaaDoor
open Go.RowKit

theorem numB_succ (j : Nat) (v : Int) : numB (j + 1) v = ⟨#[UInt8.ofNat (v / 256 ^ j % 256).toNat]⟩ ++ numB j v := by
  apply ByteArray.ext
  simp [numB, numL]

set_option maxHeartbeats 1000000 in
theorem refNumber_any (k : Nat) (v : Int) (w : World) (hk : k ≤ 8) (hv : 0 ≤ v) (hv2 : v ≤ 9223372036854775807) :
    Calls Tryd.prog 106 #[.int .i64 v, .int .i64 k] w fun e w' => e = .returned (.string (numB k v)) ∧ Below w.heap.size w w' := by
  have HV := hide hv
  have HV2 := hide hv2
  clear hv hv2
  go_enter Tryd.func106, Tryd.ntmps106
  go_wp2
  go_loopw [0, 5, 6] (fun t s i wr => ∃ j : Nat, j ≤ k ∧ i = .int .i64 j ∧ t = .int .i64 (v / 256 ^ j) ∧ s = .string (numB j v) ∧ Hid (Below w.heap.size w wr)) (fun _ _ i _ => k - (intOf i).toNat)
  case atStart => exact ⟨0, Nat.zero_le _, rfl, by simp, rfl, Below.refl _ _⟩
  case round =>
    obtain ⟨j, hj, rfl, rfl, rfl, hb⟩ := hrel
    by_cases hlt : j < k
    · have HQ : Hid (0 ≤ v / 256 ^ j) := Int.ediv_nonneg HV.out (Int.le_of_lt (Int.pow_pos (by decide)))
      have HQ2 : Hid (v / 256 ^ j ≤ 9223372036854775807) := by
        refine Int.le_trans ?_ HV2.out
        exact Int.ediv_le_self _ HV.out
      have HD : Hid (v / 256 ^ j / 256 = v / 256 ^ (j + 1)) := by
        show v / 256 ^ j / 256 = v / 256 ^ (j + 1)
        rw [Int.ediv_ediv_of_nonneg (Int.le_of_lt (Int.pow_pos (by decide))), Int.pow_succ]
      have HS := hide (numB_succ j v)
      have hz : (numB j v).size ≤ 8 := by rw [numB_size]; omega
      generalize v / 256 ^ j = q at HQ HQ2 HD HS ⊢
      generalize numB j v = s at HS hz ⊢
      have hT := textRow (wr.alloc (.cells #[.int .u8 (q % 256)] 5)) wr.heap.size 1 [(q % 256).toNat] (by intro d hd; simp at hd; subst hd; omega) (by unfold RowK; rw [heap_alloc_new]; simp [Int.toNat_of_nonneg (Int.emod_nonneg q (show (256 : Int) ≠ 0 by decide))]) rfl
      have hdiv : (q.tdiv 256) = q / 256 := Int.tdiv_eq_ediv_of_nonneg HQ.out
      have hwr : wrap64 (q / 256) = q / 256 := by
        have := HQ.out
        have := HQ2.out
        unfold wrap64; omega
      go_wp2
      go_roundw
      case rel =>
        rw [hwr]
        exact ⟨j + 1, by omega, by go_num, by rw [HD.out], by rw [HS.out], hb.out.alloc hb.out.size _⟩
      case measure => simp [intOf]; omega
    · obtain rfl : j = k := by omega
      go_wp2
      go_ret
      exact ⟨rfl, hb.out⟩
end Go.Proofs.YtcaojimmdcdpiaaDoor

namespace Go.Proofs.YtcaojimmdcdpiaaDoor
open Go.RowKit

theorem beN_congr (A B : List Nat) (h : ∀ i, at0 A i = at0 B i) (o k : Nat) : beN A o k = beN B o k := by
  induction k with
  | zero => rfl
  | succ k ih => rw [beN, beN, ih, h]
theorem take32_congr (A B : List Nat) (h : ∀ i, at0 A i = at0 B i) (o : Nat) (L : List Nat) (j : Nat) : take32 A o L j = take32 B o L j := by
  induction j with
  | zero => rfl
  | succ j ih => rw [take32, take32, ih, beN_congr A B h]
theorem take64_congr (A B : List Nat) (h : ∀ i, at0 A i = at0 B i) (o : Nat) (L : List Nat) (j : Nat) : take64 A o L j = take64 B o L j := by
  induction j with
  | zero => rfl
  | succ j ih => rw [take64, take64, ih, beN_congr A B h]
theorem soak32_congr (A B : List Nat) (h : ∀ i, at0 A i = at0 B i) (m : Nat) : soak32 A m = soak32 B m := by
  induction m with
  | zero => rfl
  | succ m ih => rw [soak32_succ, soak32_succ, ih, take32_congr A B h]
theorem soak64_congr (A B : List Nat) (h : ∀ i, at0 A i = at0 B i) (m : Nat) : soak64 A m = soak64 B m := by
  induction m with
  | zero => rfl
  | succ m ih => rw [soak64_succ, soak64_succ, ih, take64_congr A B h]

theorem outs_take (n : Nat) (L : List Nat) (m k : Nat) (h : k ≤ m) : (outs n L m).take k = outs n L k := by
  unfold outs
  rw [← List.map_take, List.take_range, Nat.min_eq_left h]
theorem textOf_cut (D : List Nat) (k : Nat) : (textOf D).extract 0 k = textOf (D.take k) := by
  apply ByteArray.ext
  simp [textOf, ByteArray.extract, ByteArray.copySlice, List.map_take]

theorem whole32_cut (s : ByteArray) (k : Nat) (h : k ≤ 16) : (whole32 s).extract 0 k = textOf (outs 4 (soak32 (padL s) (s.size / 16 + 1)) k) := by
  unfold whole32
  rw [textOf_cut, outs_take _ _ _ _ h, soak32_congr _ _ (padRow_at s _)]
theorem whole64_cut (s : ByteArray) (k : Nat) (h : k ≤ 32) : (whole64 s).extract 0 k = textOf (outs 8 (soak64 (padL s) (s.size / 32 + 1)) k) := by
  unfold whole64
  rw [textOf_cut, outs_take _ _ _ _ h, soak64_congr _ _ (padRow_at s _)]
end Go.Proofs.YtcaojimmdcdpiaaDoor
