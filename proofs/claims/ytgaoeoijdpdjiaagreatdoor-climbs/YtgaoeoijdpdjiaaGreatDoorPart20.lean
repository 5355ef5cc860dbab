/-
  The fold of a leaf's ends. A block of memory and what it holds; the leaf and the nodes, as plain functions. A walk's stack: are its last two nodes twins?
-/
import Derived.Test.YtgaoeoijdpdjiaaGreatDoorPart19
import Derived.Test.YtgaoeoijdpdjiaaGreatDoorPart1
import Derived.Deep.QuietTactic
import Derived.BigQuiet
import Derived.WalkSmall
namespace Go.Proofs.YtgaoeoijdpdjiaaGreatDoor
open Go.RowKit
/-- The document's fold, with as many rounds as are allowed. -/
def foldS (k b : Int) (pub : ByteArray) (p0 p1 p2 : Int) : Nat → Int → List ByteArray → ByteArray
  | 0, _, xs => xs.headD ⟨#[]⟩
  | f + 1, r, xs => if xs.length ≤ 1 then xs.headD ⟨#[]⟩ else foldS k b pub p0 p1 p2 f (r + 1) (roundS k b pub p0 p1 p2 r xs)
theorem foldS_stop (k b : Int) (pub : ByteArray) (p0 p1 p2 : Int) (f : Nat) (r : Int) (xs : List ByteArray) (h : xs.length ≤ 1) : foldS k b pub p0 p1 p2 f r xs = xs.headD ⟨#[]⟩ := by
  cases f with
  | zero => rfl
  | succ f => rw [foldS, if_pos h]
theorem roundS_length (k b : Int) (pub : ByteArray) (p0 p1 p2 r : Int) (xs : List ByteArray) : (roundS k b pub p0 p1 p2 r xs).length = (xs.length + 1) / 2 := by simp [roundS]
theorem roundS_size (k b : Int) (pub : ByteArray) (p0 p1 p2 r : Int) (xs : List ByteArray) (hk : k = 1 ∨ k = 2) (h1 : 1 ≤ b) (h2 : b ≤ 16) (hp : pub.size ≤ 16) (hx : ∀ y ∈ xs, (y.size : Int) = b) : ∀ y ∈ roundS k b pub p0 p1 p2 r xs, (y.size : Int) = b := by
  intro y hy
  simp only [roundS, List.mem_map, List.mem_range] at hy
  obtain ⟨q, hq, rfl⟩ := hy
  have hg : ∀ i, i < xs.length → ((xs.getD i ⟨#[]⟩).size : Int) = b := by
    intro i hi
    rw [List.getD_eq_getElem?_getD, List.getElem?_eq_getElem hi]
    exact hx _ (List.getElem_mem hi)
  unfold pv
  split
  · rename_i h
    have e0 := hg (2 * q) (by omega)
    have e1 := hg (2 * q + 1) h
    exact pairS_size k b pub p0 p1 p2 r _ _ _ hk h1 h2 hp (by omega) (by omega)
  · exact hg (2 * q) (by omega)
theorem owns_strs {V : World} {base : Nat} {v : Value} {ys : List ByteArray} (h : V.ownsRow base 9 1 v ys.length (ys.map Value.string)) (hn : 1 ≤ ys.length) :
    ∃ g c, v = .slice (some ⟨g, 0, none⟩) ys.length c ∧ ys.length ≤ c ∧ base ≤ g ∧ g < V.heap.size ∧ ∀ (j : Nat) y, ys[j]? = some y → V.cell? ⟨g, 0 + j, none⟩ = some (.string y) := by
  rcases h.2 with ⟨_, h0⟩ | ⟨g, cap, cur, hv, hg, hh, hc, hm, hs, ht⟩
  · omega
  · refine ⟨g, cap, hv, hc, hg, lt_of_block hh, ?_⟩
    intro j y hj
    have hjl : j < ys.length := (List.getElem?_eq_some_iff.1 hj).1
    have e : (cur.toList.take (ys.length * 1))[j]? = (ys.map Value.string)[j]? := by rw [ht]
    rw [List.getElem?_take_of_lt (by omega), List.getElem?_map, hj] at e
    simp only [World.cell?, hh]
    simpa using e
set_option maxRecDepth 20000 in
set_option maxHeartbeats 4000000 in
theorem sfold_any (k b x t l : Int) (seed : ByteArray) (p0 p1 p2 p3 : Int) (bk o c : Nat) (xs : List ByteArray) (w : World) (hcells : ∀ (j : Nat) y, xs[j]? = some y → w.cell? ⟨bk, o + j, none⟩ = some (.string y)) (hbk : bk < w.heap.size) (hcap : xs.length ≤ c) (hN : xs.length ≤ 64) (hN1 : 1 ≤ xs.length)
    (hk : k = 1 ∨ k = 2) (h1 : 1 ≤ b) (h2 : b ≤ 16) (hs : seed.size ≤ 16) (hxs : ∀ y ∈ xs, (y.size : Int) = b) (hT : Tn w) :
    Calls Tryz.prog 75 #[.agg #[.int .i64 k, .int .i64 b, .int .i64 x, .int .i64 t, .int .i64 l, .string seed, .int .i64 p0, .int .i64 p1, .int .i64 p2, .int .i64 p3], .slice (some ⟨bk, o, none⟩) xs.length c] w fun e w' => e = .returned (.string (foldS k b seed p0 p1 p2 6 0 xs)) ∧ Below w.heap.size w w' := by
  obtain ⟨W0, hW⟩ : ∃ W0, w.alloc (.cells #[.int .i64 k, .int .i64 b, .int .i64 x, .int .i64 t, .int .i64 l, .string seed, .int .i64 p0, .int .i64 p1, .int .i64 p2, .int .i64 p3] 140) = W0 := ⟨_, rfl⟩
  have HF := hide (show TenC w.heap.size W0 k b x t l seed p0 p1 p2 p3 by subst hW; refine ⟨?_, ?_, ?_, ?_, ?_, ?_, ?_, ?_, ?_, ?_⟩ <;> simp [go_sem])
  have HB := hide (show Below w.heap.size w W0 by subst hW; exact (Below.refl _ _).alloc (Nat.le_refl _) _)
  have hz : W0.heap.size = w.heap.size + 1 := by subst hW; simp
  have HT := hide (hT.on HB.out)
  have HS := hide (fun (V : World) (h : Below W0.heap.size W0 V) => (by
    obtain ⟨c0, c1, c2, c3, c4, c5, c6, c7, c8, c9⟩ := HF.out.below h (by omega)
    exact ⟨c0, c1, c2, c3, c4, c5, c6, c7, c8, c9, h⟩ : V.cell? ⟨w.heap.size, 0, none⟩ = some (.int .i64 k) ∧ V.cell? ⟨w.heap.size, 1, none⟩ = some (.int .i64 b) ∧ V.cell? ⟨w.heap.size, 2, none⟩ = some (.int .i64 x) ∧ V.cell? ⟨w.heap.size, 3, none⟩ = some (.int .i64 t) ∧ V.cell? ⟨w.heap.size, 4, none⟩ = some (.int .i64 l) ∧ V.cell? ⟨w.heap.size, 5, none⟩ = some (.string seed) ∧ V.cell? ⟨w.heap.size, 6, none⟩ = some (.int .i64 p0) ∧ V.cell? ⟨w.heap.size, 7, none⟩ = some (.int .i64 p1) ∧ V.cell? ⟨w.heap.size, 8, none⟩ = some (.int .i64 p2) ∧ V.cell? ⟨w.heap.size, 9, none⟩ = some (.int .i64 p3) ∧ Below W0.heap.size W0 V))
  have HP := hide (fun (r : Int) (bk o c : Nat) (ys : List ByteArray) (V : World) (hb : Below W0.heap.size W0 V) (hc : ∀ (j : Nat) y, ys[j]? = some y → V.cell? ⟨bk, o + j, none⟩ = some (.string y)) (hbk : bk < V.heap.size) (hcap : ys.length ≤ c) (hN : ys.length ≤ 64) (hy : ∀ y ∈ ys, (y.size : Int) = b) => paired_any k b x t l seed p0 p1 p2 p3 r bk o c ys V hc hbk hcap (by omega) hk h1 h2 hs (fun y h => by have := hy y h; omega) (HT.out.on hb))
  have HRS := hide (fun (r : Int) (ys : List ByteArray) (hy : ∀ y ∈ ys, (y.size : Int) = b) => roundS_size k b seed p0 p1 p2 r ys hk h1 h2 hs hy)
  have HC0 := hide (fun (j : Nat) (y : ByteArray) (hj : xs[j]? = some y) => (HB.out.cell (p := ⟨bk, o + j, none⟩) hbk).trans (hcells j y hj))
  have HX := hide hxs
  clear hT hcells hxs
  go_enter Tryz.func75, Tryz.ntmps75
  go_wp2_with fail
  try rw [hW]
  clear hW
  go_loopw [5, 6] (fun v i wr => ∃ (j : Nat) (g q c' : Nat) (ys : List ByteArray), j ≤ 6 ∧ i = .int .i64 j ∧ v = .slice (some ⟨g, q, none⟩) ys.length c' ∧ ys.length ≤ c' ∧ 1 ≤ ys.length ∧ ys.length ≤ 64 ∧ g < wr.heap.size ∧ Hid (ys.length ≤ 2 ^ (6 - j) ∧ foldS k b seed p0 p1 p2 6 0 xs = foldS k b seed p0 p1 p2 (6 - j) j ys) ∧ Hid (∀ y ∈ ys, (y.size : Int) = b) ∧ Hid (∀ (m : Nat) y, ys[m]? = some y → wr.cell? ⟨g, q + m, none⟩ = some (.string y)) ∧ Hid (Below W0.heap.size W0 wr)) (fun _ i _ => 7 - (intOf i).toNat)
  case atStart => exact ⟨0, bk, o, c, xs, by omega, rfl, rfl, hcap, hN1, hN, by omega, ⟨by simpa using hN, rfl⟩, HX.out, HC0.out, Below.refl _ _⟩
  case round =>
    obtain ⟨j, g, q, c', ys, hj, rfl, rfl, hc', hy1, hy64, hg, hfo, hys, hce, hb⟩ := hrel
    by_cases hlt : 1 < ys.length
    · have hj6 : j < 6 := by
        rcases Nat.lt_or_ge j 6 with h | h
        · exact h
        · have := hfo.out.1
          rw [show 6 - j = 0 by omega] at this
          simp at this; omega
      have HPJ := hide (HP.out j g q c' ys wr hb.out hce.out hg hc' hy64 hys.out)
      obtain ⟨d0, d1, d2, d3, d4, d5, d6, d7, d8, d9, _⟩ := HS.out wr hb.out
      go_wp2_with fail
      refine HPJ.out.mono ?_
      rintro e w1 ⟨v, rfl, hrow, hb1⟩
      have hl : (roundS k b seed p0 p1 p2 j ys).length = (ys.length + 1) / 2 := roundS_length _ _ _ _ _ _ _ _
      obtain ⟨g', cap', rfl, hcc, hg1, hg2, hce'⟩ := owns_strs hrow (by omega)
      have HB1 := hide (heldB hb.out hb1 (Nat.le_refl _))
      have HCE := hide hce'
      have HYS := hide (HRS.out j ys hys.out)
      have HFO : Hid ((roundS k b seed p0 p1 p2 j ys).length ≤ 2 ^ (6 - (j + 1)) ∧ foldS k b seed p0 p1 p2 6 0 xs = foldS k b seed p0 p1 p2 (6 - (j + 1)) (j + 1) (roundS k b seed p0 p1 p2 j ys)) := by
        refine ⟨?_, ?_⟩
        · have := hfo.out.1
          rw [show 6 - j = (6 - (j + 1)) + 1 by omega, Nat.pow_succ] at this
          omega
        · rw [hfo.out.2, show 6 - j = (6 - (j + 1)) + 1 by omega, foldS, if_neg (by omega)]
      have hl1 : (roundS k b seed p0 p1 p2 j ys).length ≤ 64 := by omega
      have hl2 : 1 ≤ (roundS k b seed p0 p1 p2 j ys).length := by omega
      clear hl hrow hb1 hce' hfo hys hce HPJ d0 d1 d2 d3 d4 d5 d6 d7 d8 d9
      generalize roundS k b seed p0 p1 p2 j ys = zs at HFO HYS HCE hl1 hl2 hcc ⊢
      go_wp2
      go_roundw
      case rel =>
        have R : ∃ (j' : Nat) (g2 q2 c2 : Nat) (ys : List ByteArray), j' ≤ 6 ∧ Value.int .i64 ((j : Int) + 1) = .int .i64 j' ∧ Value.slice (some ⟨g', 0, none⟩) zs.length cap' = .slice (some ⟨g2, q2, none⟩) ys.length c2 ∧ ys.length ≤ c2 ∧ 1 ≤ ys.length ∧ ys.length ≤ 64 ∧ g2 < w1.heap.size ∧ Hid (ys.length ≤ 2 ^ (6 - j') ∧ foldS k b seed p0 p1 p2 6 0 xs = foldS k b seed p0 p1 p2 (6 - j') j' ys) ∧ Hid (∀ y ∈ ys, (y.size : Int) = b) ∧ Hid (∀ (m : Nat) y, ys[m]? = some y → w1.cell? ⟨g2, q2 + m, none⟩ = some (.string y)) ∧ Hid (Below W0.heap.size W0 w1) :=
          ⟨j + 1, g', 0, cap', zs, by omega, by go_num, rfl, hcc, by omega, by omega, hg2, by have h := HFO.out; exact ⟨h.1, by rw [h.2]; rfl⟩, HYS.out, HCE.out, HB1.out⟩
        first | exact R | ((repeat apply Exists.intro); exact ⟨R, rfl⟩)
      case measure => simp [intOf]; omega
    · have hy0 : ys.length = 1 := by omega
      obtain ⟨y, rfl⟩ : ∃ y, ys = [y] := List.length_eq_one_iff.1 hy0
      have c0 := hce.out 0 y rfl
      have HR := hide (foldS_stop k b seed p0 p1 p2 (6 - j) j [y] (by simp))
      simp only [List.length_cons, List.length_nil, Nat.reduceAdd, Nat.add_zero] at c0 ⊢
      go_wp2
      go_ret
      exact ⟨by rw [hfo.out.2, HR.out]; rfl, HB.out.trans (hb.out.mono (by omega))⟩
end Go.Proofs.YtgaoeoijdpdjiaaGreatDoor

namespace Go.Proofs.YtgaoeoijdpdjiaaGreatDoor
open Go.RowKit
/-- Block g holds these values, and may be written. -/
def Blk (w : World) (g : Nat) (vs : List Value) (T : TypeId) : Prop := w.heap[g]? = some (.cells vs.toArray T (0, 0))
theorem Blk.lt {w : World} {g : Nat} {vs : List Value} {T : TypeId} (h : Blk w g vs T) : g < w.heap.size := lt_of_block h
theorem Blk.cell {w : World} {g : Nat} {vs : List Value} {T : TypeId} (h : Blk w g vs T) (i : Nat) : w.cell? ⟨g, i, none⟩ = vs[i]? := by
  unfold Blk at h
  simp [World.cell?, h]
theorem Blk.free {w : World} {g : Nat} {vs : List Value} {T : TypeId} (h : Blk w g vs T) (i : Nat) : w.frozen? ⟨g, i, none⟩ = false := by
  unfold Blk at h
  simp [World.frozen?, h]
theorem Blk.set {w : World} {g : Nat} {vs : List Value} {T : TypeId} (h : Blk w g vs T) (i : Nat) (u : Value) : Blk (w.setCell ⟨g, i, none⟩ u) g (vs.set i u) T := by
  have hlt := h.lt
  unfold Blk at h ⊢
  have h' : w.heap[g] = .cells vs.toArray T (0, 0) := by simpa [Array.getElem?_eq_getElem hlt] using h
  show (w.heap.modify g _)[g]? = _
  rw [Array.getElem?_eq_getElem (by simpa using hlt), Array.getElem_modify_self, h']
  simp
theorem Blk.below {w w' : World} {g B : Nat} {vs : List Value} {T : TypeId} (h : Blk w g vs T) (hb : Below B w w') (hg : g < B) : Blk w' g vs T := by
  unfold Blk at h ⊢
  rw [hb.block g hg]; exact h
theorem Blk.on {w w' : World} {g : Nat} {vs : List Value} {T : TypeId} (h : Blk w g vs T) (hb : Below w.heap.size w w') : Blk w' g vs T := h.below hb h.lt
theorem Blk.other {w : World} {g : Nat} {vs : List Value} {T : TypeId} (h : Blk w g vs T) {a : Addr} (u : Value) (hne : g ≠ a.block) : Blk (w.setCell a u) g vs T := by
  unfold Blk at h ⊢
  rw [Below.heap_setCell _ _ _ _ hne]; exact h
theorem Blk.new (w : World) (vs : List Value) (T : TypeId) : Blk (w.alloc (.cells vs.toArray T)) w.heap.size vs T := World.alloc_heap_new w _
theorem Blk.alloc {w : World} {g : Nat} {vs : List Value} {T : TypeId} (h : Blk w g vs T) (o : Obj) : Blk (w.alloc o) g vs T := h.on ((Below.refl _ _).alloc (Nat.le_refl _) o)
/-- The end of the i-th chain of a leaf. -/
def endS (k b : Int) (wd : Nat) (sec pub : ByteArray) (p0 p1 F : Int) (i : Nat) : ByteArray := chainS k b pub p0 p1 F i 0 wd (startS k b sec p0 p1 F i)
def endsS (k b : Int) (wd : Nat) (sec pub : ByteArray) (p0 p1 F : Int) (n : Nat) : List ByteArray := (List.range n).map (endS k b wd sec pub p0 p1 F)
theorem endsS_length (k b : Int) (wd : Nat) (sec pub : ByteArray) (p0 p1 F : Int) (n : Nat) : (endsS k b wd sec pub p0 p1 F n).length = n := by simp [endsS]
theorem endS_size (k b : Int) (wd : Nat) (sec pub : ByteArray) (p0 p1 F : Int) (i : Nat) (hk : k = 1 ∨ k = 2) (h1 : 1 ≤ b) (h2 : b ≤ 16) (hs : sec.size ≤ 16) (hp : pub.size ≤ 16) : ((endS k b wd sec pub p0 p1 F i).size : Int) = b :=
  chainS_size k b pub p0 p1 F i 0 wd _ hk h1 h2 hp (startS_size k b sec p0 p1 F i hk h1 h2 hs)
theorem endsS_size (k b : Int) (wd : Nat) (sec pub : ByteArray) (p0 p1 F : Int) (n : Nat) (hk : k = 1 ∨ k = 2) (h1 : 1 ≤ b) (h2 : b ≤ 16) (hs : sec.size ≤ 16) (hp : pub.size ≤ 16) : ∀ y ∈ endsS k b wd sec pub p0 p1 F n, (y.size : Int) = b := by
  intro y hy
  simp only [endsS, List.mem_map, List.mem_range] at hy
  obtain ⟨i, _, rfl⟩ := hy
  exact endS_size k b wd sec pub p0 p1 F i hk h1 h2 hs hp
/-- A leaf, and the nodes above. -/
def leafS (k b : Int) (wd ch : Nat) (sec pub : ByteArray) (p0 p1 F : Int) : ByteArray := foldS k b pub p0 p1 F 6 0 (endsS k b wd sec pub p0 p1 F ch)
def nodeS (k b : Int) (wd ch : Nat) (sec pub : ByteArray) (p0 p1 : Int) : Nat → Nat → ByteArray
  | 0, j => leafS k b wd ch sec pub p0 p1 j
  | h + 1, j => joinS k b pub p0 p1 (h + 1 : Nat) j (nodeS k b wd ch sec pub p0 p1 h (2 * j)) (nodeS k b wd ch sec pub p0 p1 h (2 * j + 1))
theorem foldS_size (k b : Int) (pub : ByteArray) (p0 p1 p2 : Int) (hk : k = 1 ∨ k = 2) (h1 : 1 ≤ b) (h2 : b ≤ 16) (hp : pub.size ≤ 16) : ∀ (f : Nat) (r : Int) (xs : List ByteArray), 1 ≤ xs.length → (∀ y ∈ xs, (y.size : Int) = b) → ((foldS k b pub p0 p1 p2 f r xs).size : Int) = b := by
  intro f
  induction f with
  | zero =>
    intro r xs hl hx
    obtain ⟨y, ys, rfl⟩ := List.exists_cons_of_length_pos (show 0 < xs.length by omega)
    exact hx y (by simp)
  | succ f ih =>
    intro r xs hl hx
    rw [foldS]
    split
    · obtain ⟨y, ys, rfl⟩ := List.exists_cons_of_length_pos (show 0 < xs.length by omega)
      exact hx y (by simp)
    · exact ih _ _ (by rw [roundS_length]; omega) (roundS_size k b pub p0 p1 p2 r xs hk h1 h2 hp hx)
theorem leafS_size (k b : Int) (wd ch : Nat) (sec pub : ByteArray) (p0 p1 F : Int) (hk : k = 1 ∨ k = 2) (h1 : 1 ≤ b) (h2 : b ≤ 16) (hs : sec.size ≤ 16) (hp : pub.size ≤ 16) (hc : 1 ≤ ch) : ((leafS k b wd ch sec pub p0 p1 F).size : Int) = b :=
  foldS_size k b pub p0 p1 F hk h1 h2 hp 6 0 _ (by rw [endsS_length]; exact hc) (endsS_size k b wd sec pub p0 p1 F ch hk h1 h2 hs hp)
theorem nodeS_size (k b : Int) (wd ch : Nat) (sec pub : ByteArray) (p0 p1 : Int) (hk : k = 1 ∨ k = 2) (h1 : 1 ≤ b) (h2 : b ≤ 16) (hs : sec.size ≤ 16) (hp : pub.size ≤ 16) (hc : 1 ≤ ch) : ∀ h j, ((nodeS k b wd ch sec pub p0 p1 h j).size : Int) = b := by
  intro h
  induction h with
  | zero => intro j; exact leafS_size k b wd ch sec pub p0 p1 j hk h1 h2 hs hp hc
  | succ h ih =>
    intro j
    have e0 := ih (2 * j)
    have e1 := ih (2 * j + 1)
    exact joinS_size k b pub p0 p1 _ _ _ _ hk h1 h2 hp (by omega) (by omega)
end Go.Proofs.YtgaoeoijdpdjiaaGreatDoor

namespace Go.Proofs.YtgaoeoijdpdjiaaGreatDoor
open Go.RowKit
abbrev Nd : Type := Nat × Nat × ByteArray
def nodV (p : Nd) : List Value := [.int .i64 (p.1 : Int), .int .i64 (p.2.1 : Int), .string p.2.2]
def nodC (ns : List Nd) : List Value := ns.flatMap nodV
theorem nodC_length (ns : List Nd) : (nodC ns).length = ns.length * 3 := flat_length nodV 3 ns (fun _ _ => rfl)
theorem nodC_get {ns : List Nd} {j : Nat} {p : Nd} (h : ns[j]? = some p) (i : Nat) (hi : i < 3) : (nodC ns)[j * 3 + i]? = (nodV p)[i]? := flat_get nodV 3 ns j p i (fun _ _ => rfl) h hi
theorem nodC_snoc (ns : List Nd) (p : Nd) : nodC (ns ++ [p]) = nodC ns ++ [.int .i64 (p.1 : Int), .int .i64 (p.2.1 : Int), .string p.2.2] := by simp [nodC, nodV]
theorem twins_less (S o n : Nat) (cs : List Value) (na : Option Addr) (nc : Nat) (w : World) (hS : Blk w S cs 137) (ho : cs[o]? = some (.slice na n nc)) (hn : n ≤ 1) :
    Calls Tryz.prog 160 #[.pointer (some ⟨S, o, none⟩)] w fun e w' => e = .returned (.bool false) ∧ Below w.heap.size w w' := by
  have c0 : w.cell? ⟨S, o, none⟩ = some (.slice na n nc) := (hS.cell o).trans ho
  have h1 : ¬ (1 : Int) < (n : Int) := by omega
  have h2 : decide ((1 : Int) < (n : Int)) = false := decide_eq_false h1
  clear hS ho
  go_enter Tryz.func160, Tryz.ntmps160
  go_wp2_with fail
  go_quiet (fail)
  go_wp2
  go_ret
  exact ⟨rfl, below_drewN (Below.refl _ _) _⟩
theorem twins_two (lo S o : Nat) (cs : List Value) (na : Option Addr) (nc : Nat) (pre : List Nd) (a b : Nd) (w : World) (hS : Blk w S cs 137) (ho : cs[o]? = some (.slice na (pre.length + 2) nc)) (hr : w.ownsRow lo 100 3 (.slice na (pre.length + 2) nc) (pre.length + 2) (nodC (pre ++ [a, b]))) (hn : pre.length ≤ 100) :
    Calls Tryz.prog 160 #[.pointer (some ⟨S, o, none⟩)] w fun e w' => e = .returned (.bool (a.1 == b.1)) ∧ Below w.heap.size w w' := by
  have c0 : w.cell? ⟨S, o, none⟩ = some (.slice na (pre.length + 2) nc) := (hS.cell o).trans ho
  obtain ⟨g, cap, hgv, hg1, hg2⟩ := hr.form (by omega)
  simp only [Value.slice.injEq] at hgv
  obtain ⟨rfl, _, rfl⟩ := hgv
  have ha : (pre ++ [a, b])[pre.length]? = some a := by simp
  have hb : (pre ++ [a, b])[pre.length + 1]? = some b := by simp
  have y0 : w.cell? ⟨g, pre.length * 3, none⟩ = some (.int .i64 (a.1 : Int)) := by
    rw [hr.cellAt (pre.length * 3) (by omega)]
    exact nodC_get ha 0 (by decide)
  have y1 : w.cell? ⟨g, (pre.length + 1) * 3, none⟩ = some (.int .i64 (b.1 : Int)) := by
    rw [hr.cellAt ((pre.length + 1) * 3) (by omega)]
    exact nodC_get hb 0 (by decide)
  generalize hm : pre.length = m at *
  have h1 : (1 : Int) < (m : Int) + 2 := by omega
  have h2 : decide ((1 : Int) < (m : Int) + 2) = true := decide_eq_true h1
  have w1 : IntKind.i64.wrap ((m : Int) + 2 - 2) = (m : Int) := by rw [IntKind.wrap_i64] <;> omega
  have w2 : IntKind.i64.wrap ((m : Int) + 2 - 1) = (m : Int) + 1 := by rw [IntKind.wrap_i64] <;> omega
  have w3 : IntKind.i64.wrap (m : Int) = (m : Int) := by rw [IntKind.wrap_i64] <;> omega
  have w4 : IntKind.i64.wrap ((m : Int) + 1) = (m : Int) + 1 := by rw [IntKind.wrap_i64] <;> omega
  have hl1 : (m : Int) < (m : Int) + 2 := by omega
  have hl2 : (m : Int) + 1 < (m : Int) + 2 := by omega
  have he : ((a.1 : Int) == (b.1 : Int)) = (a.1 == b.1) := Bool.eq_iff_iff.2 (by simp only [beq_iff_eq]; omega)
  have HE := hide he
  clear hS ho hr ha hb hm he hg1 hg2
  go_enter Tryz.func160, Tryz.ntmps160
  go_wp2_with fail
  go_quiet (fail)
  go_wp2
  go_ret
  exact ⟨congrArg (fun q => Ending.returned (Value.bool q)) HE.out, below_drewN (Below.refl _ _) _⟩
end Go.Proofs.YtgaoeoijdpdjiaaGreatDoor
