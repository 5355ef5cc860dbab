/-
  One round of a fold: paired. The program's mixed: what layer 0 signs instead of the message. The document's Digits at a right set; the statement's own sameInts and markInt. The statement's book of lists that came out: what it holds in memory. Texts laid together; the cells of a set and of a place.
-/
import Derived.Test.YtgaoeoijdpdjiabGreatDoorPartTChunk
import Derived.Test.YtgaoeoijdpdjiabGreatDoorPart4
import Derived.Test.YtgaoeoijdpdjiabGreatDoorPart25
import Derived.Test.YtgaoeoijdpdjiabGreatDoorPart23
import Derived.BigQuiet
import Derived.Deep.QuietTactic
namespace Go.Proofs.YtgaoeoijdpdjiabGreatDoor
open Go.RowKit Go.Shelf

attribute [local go_sem] Oper.semAt_some

/-- The value that the q-th pair becomes, as the j-th of the round. -/
def pv (k b : Int) (pub : ByteArray) (p0 p1 p2 r : Int) (xs : List ByteArray) (j q : Nat) : ByteArray :=
  if 2 * q + 1 < xs.length then pairS k b pub p0 p1 p2 r j (xs.getD (2 * q) ⟨#[]⟩) (xs.getD (2 * q + 1) ⟨#[]⟩) else xs.getD (2 * q) ⟨#[]⟩
def vals (k b : Int) (pub : ByteArray) (p0 p1 p2 r : Int) (xs : List ByteArray) (pre : List (Pr xs.length)) : List Value := pre.mapIdx (fun j q => Value.string (pv k b pub p0 p1 p2 r xs j q.1))
theorem vals_snoc (k b : Int) (pub : ByteArray) (p0 p1 p2 r : Int) (xs : List ByteArray) (pre : List (Pr xs.length)) (q : Pr xs.length) : vals k b pub p0 p1 p2 r xs (pre ++ [q]) = vals k b pub p0 p1 p2 r xs pre ++ [.string (pv k b pub p0 p1 p2 r xs pre.length q.1)] := by
  unfold vals; rw [List.mapIdx_concat]
/-- A round of a fold. -/
def roundS (k b : Int) (pub : ByteArray) (p0 p1 p2 r : Int) (xs : List ByteArray) : List ByteArray := (List.range ((xs.length + 1) / 2)).map (fun q => pv k b pub p0 p1 p2 r xs q q)
theorem vals_all (k b : Int) (pub : ByteArray) (p0 p1 p2 r : Int) (xs : List ByteArray) (pre : List (Pr xs.length)) (h : pre.map (·.1) = List.range ((xs.length + 1) / 2)) : vals k b pub p0 p1 p2 r xs pre = (roundS k b pub p0 p1 p2 r xs).map Value.string := by
  have hl : pre.length = (xs.length + 1) / 2 := by simpa using congrArg List.length h
  unfold vals roundS
  apply List.ext_getElem
  · simp [hl]
  · intro i h1 h2
    have hi : i < pre.length := by simpa using h1
    have e : (pre.map (·.1))[i]'(by simpa using hi) = (List.range ((xs.length + 1) / 2))[i]'(by simp; omega) := by congr 1
    simp at e
    simp [e]

theorem infoStr : (Tryz.prog.info? 9).map (fun i => (i.zero, i.size, i.bytes)) = some (some (.string ⟨#[]⟩), 1, 16) := by kernel_rfl
theorem owns_mono {w : World} {base base' : Nat} {e : TypeId} {size : Nat} {v : Value} {n : Nat} {xs : List Value} (h : w.ownsRow base e size v n xs) (hb : base' ≤ base) : w.ownsRow base' e size v n xs :=
  ⟨h.1, h.2.imp id (fun ⟨g, cap, cur, h1, h2, h3⟩ => ⟨g, cap, cur, h1, Nat.le_trans hb h2, h3⟩)⟩
theorem grown_of_below {W V : World} (h : Below W.heap.size W V) : W.grownBy V none := ⟨h.os, h.tape, h.output, h.size, fun k hk _ => h.block k hk⟩
theorem boxed_kp {Bs Bn : Nat} {W V : World} {t t' : TypeId} {v v' : Value} (h1 : Boxed W Bs t v) (h2 : Boxed W Bn t' v') (h3 : Boxed V Bs t v) (h4 : Boxed V Bn t' v') : KpC Bs Bn W V :=
  ⟨fun i => World.cell?_of_block (w := W) (w' := V) (a := ⟨Bs, i, none⟩) (by show V.heap[Bs]? = W.heap[Bs]?; rw [show V.heap[Bs]? = _ from h3, show W.heap[Bs]? = _ from h1]), fun i => World.cell?_of_block (w := W) (w' := V) (a := ⟨Bn, i, none⟩) (by show V.heap[Bn]? = W.heap[Bn]?; rw [show V.heap[Bn]? = _ from h4, show W.heap[Bn]? = _ from h2])⟩

set_option maxRecDepth 100000 in
set_option maxHeartbeats 8000000 in
theorem paired_any (k b x t l : Int) (seed : ByteArray) (p0 p1 p2 p3 r : Int) (bk o c : Nat) (xs : List ByteArray) (w : World) (hcells : ∀ (j : Nat) y, xs[j]? = some y → w.cell? ⟨bk, o + j, none⟩ = some (.string y)) (hbk : bk < w.heap.size) (hcap : xs.length ≤ c) (hN : xs.length ≤ 100)
    (hk : k = 1 ∨ k = 2) (h1 : 1 ≤ b) (h2 : b ≤ 16) (hs : seed.size ≤ 16) (hxs : ∀ y ∈ xs, y.size ≤ 16) (hT : Tn w) :
    Calls Tryz.prog 310 #[.agg #[.int .i64 k, .int .i64 b, .int .i64 x, .int .i64 t, .int .i64 l, .string seed, .int .i64 p0, .int .i64 p1, .int .i64 p2, .int .i64 p3], .int .i64 r, .slice (some ⟨bk, o, none⟩) xs.length c] w fun e w' => ∃ v, e = .returned v ∧ w'.ownsRow w.heap.size 9 1 v (roundS k b seed p0 p1 p2 r xs).length ((roundS k b seed p0 p1 p2 r xs).map Value.string) ∧ Below w.heap.size w w' := by
  obtain ⟨i0, hi, hz0, hz1, hz2⟩ := info_parts infoStr
  have HC := hide hcells
  have HT := hide hT
  have HX := hide hxs
  have HO1 := hide (fun V : World => one_any r V)
  have HOL := hide (fun (u : ByteArray) (m : Nat) (y0 y1 : ByteArray) (hu : y0.size ≤ 16 ∧ y1.size ≤ 16) (V : World) (hV : Tn V) => ofLeaf_any k b x t l 3 seed p0 p1 p2 p3 V.heap.size 0 4 [u, numB 1 m, y0, y1] (V.alloc (.cells #[.string u, .string (numB 1 m), .string y0, .string y1] 9)) (by
    intro j y hj
    match j, hj with
    | 0, hj => simp at hj; subst hj; simp [go_sem]
    | 1, hj => simp at hj; subst hj; simp [go_sem]
    | 2, hj => simp at hj; subst hj; simp [go_sem]
    | 3, hj => simp at hj; subst hj; simp [go_sem]) (by simp) (by simp) (by simp) hk h1 h2)
  clear hcells hT hxs
  refine (callsIn_wide (n := 6)).1 ?_
  refine callsIn_of_wp_marks Tryz.func310 rfl trivial ?_ rfl
  simp only [Tryz.ntmps310, List.size_toArray, List.length_cons, List.length_nil, Nat.reduceAdd, Nat.reduceSub, Array.replicate_succ, Array.replicate_zero, List.push_toArray, List.append_toArray, List.nil_append, List.cons_append]
  gi_wp2_with (refine ⟨trivial, ?_⟩; gi_at_call 326; refine (callsIn_wide.2 (chunk_any _ _ _ _)).mono ?_; rintro e w' ⟨rfl, rfl⟩)
  generalize hW2 : (w.alloc (.cells #[.int .i64 k, .int .i64 b, .int .i64 x, .int .i64 t, .int .i64 l, .string seed, .int .i64 p0, .int .i64 p1, .int .i64 p2, .int .i64 p3] 344)).alloc (.cells #[.int .i64 r] 3) = W2
  have hz : W2.heap.size = w.heap.size + 1 + 1 := by subst hW2; simp
  have HF := hide (show TenC w.heap.size W2 k b x t l seed p0 p1 p2 p3 by subst hW2; refine ⟨?_, ?_, ?_, ?_, ?_, ?_, ?_, ?_, ?_, ?_⟩ <;> simp [go_sem])
  have HR := hide (show W2.cell? ⟨w.heap.size + 1, 0, none⟩ = some (.int .i64 r) by subst hW2; simp [go_sem])
  have HB2 := hide (show Below w.heap.size w W2 by subst hW2; exact ((Below.refl _ _).alloc (Nat.le_refl _) _).alloc (by simp) _)
  clear hW2
  have bF0 := Boxed.new W2 27 (.slice none 0 0)
  have bS0 := Boxed.new (W2.alloc (.cells #[.slice none 0 0] 27)) 27 (.slice (some ⟨bk, o, none⟩) xs.length c)
  have bN0 := Boxed.new ((W2.alloc (.cells #[.slice none 0 0] 27)).alloc (.cells #[.slice (some ⟨bk, o, none⟩) xs.length c] 27)) 3 (.int .i64 2)
  simp only [World.size_alloc, hz] at bF0 bS0 bN0
  have hB5 : Below (w.heap.size + 1 + 1) W2 (((W2.alloc (.cells #[.slice none 0 0] 27)).alloc (.cells #[.slice (some ⟨bk, o, none⟩) xs.length c] 27)).alloc (.cells #[.int .i64 2] 3)) := ((((Below.refl _ _).alloc (by omega) _).alloc (by simp; omega) _).alloc (by simp; omega) _)
  have hz5 : (((W2.alloc (.cells #[.slice none 0 0] 27)).alloc (.cells #[.slice (some ⟨bk, o, none⟩) xs.length c] 27)).alloc (.cells #[.int .i64 2] 3)).heap.size = w.heap.size + 5 := by simp [hz]
  generalize hW5 : ((W2.alloc (.cells #[.slice none 0 0] 27)).alloc (.cells #[.slice (some ⟨bk, o, none⟩) xs.length c] 27)).alloc (.cells #[.int .i64 2] 3) = W5 at bN0 hB5 hz5 ⊢
  have bF : Boxed W5 (w.heap.size + 1 + 1) 27 (.slice none 0 0) := by rw [← hW5]; exact (bF0.alloc _).alloc _
  have bS : Boxed W5 (w.heap.size + 1 + 1 + 1) 27 (.slice (some ⟨bk, o, none⟩) xs.length c) := by rw [← hW5]; exact bS0.alloc _
  clear hW5 bF0 bS0
  refine wpIn_rangeFunc_ownG rfl (by omega) (gf := 330) (lb := #[.pointer (some ⟨w.heap.size + 1 + 1 + 1, 0, none⟩), .pointer (some ⟨w.heap.size + 1 + 1 + 1 + 1, 0, none⟩)]) rfl trivial (enters_of Tryz.func330 (by kernel_rfl) rfl)
    (chunk_stops (6 - 1) (by omega) (w.heap.size + 1 + 1 + 1) (w.heap.size + 1 + 1 + 1 + 1) bk o xs.length c (by omega) hcap W5 (by omega) (by omega) bS.cell bN0.cell)
    KpC.trans (fun V lv ov ov' hl h h' h'' => KpC.of_below (belowK_b (w := W5) (Nat.le_refl _) V lv ov ov' hl h h' h'') (by omega) (by omega)) (Below.refl _ _) (fun _ => rfl)
    (fun pre W => (∃ v, Boxed W (w.heap.size + 1 + 1) 27 v ∧ W.ownsRow (w.heap.size + 1 + 1) 9 1 v pre.length (vals k b seed p0 p1 p2 r xs pre) ∧ True) ∧ (Boxed W (w.heap.size + 1 + 1 + 1) 27 (.slice (some ⟨bk, o, none⟩) xs.length c) ∧ Boxed W (w.heap.size + 1 + 1 + 1 + 1) 3 (.int .i64 2)) ∧ Below (w.heap.size + 1 + 1) W2 W)
    (fun _ _ _ => False)
    (OwnFrom.and (Own.from (holdsRow_own (w.heap.size + 1 + 1) (w.heap.size + 1 + 1) 27 9 1 (fun pre => pre.length) (fun pre => vals k b seed p0 p1 p2 r xs pre) (fun _ _ => True)) _) (OwnFrom.and (OwnFrom.and (Own.from (boxed_own _ _ _) _) (Own.from (boxed_own _ _ _) _)) (ownFrom_below (by omega) (by omega))))
    (fun _ _ _ _ _ hs _ _ => hs)
    ⟨⟨_, bF, World.ownsRow_nil _ _ _ _, trivial⟩, ⟨bS, bN0⟩, hB5⟩
    (fun q => { tmps := #[.agg #[.int .i64 k, .int .i64 b, .int .i64 x, .int .i64 t, .int .i64 l, .string seed, .int .i64 p0, .int .i64 p1, .int .i64 p2, .int .i64 p3], .int .i64 r, .slice (some ⟨bk, o, none⟩) xs.length c, .pointer (some ⟨w.heap.size, 0, none⟩), .pointer (some ⟨w.heap.size + 1, 0, none⟩), undef, .slice none 0 0, .pointer (some ⟨w.heap.size + 1 + 1, 0, none⟩), pairV bk o xs.length q.1, undef, .slice (some ⟨bk, o, none⟩) xs.length c, .func (.func 330) #[] #[.pointer (some ⟨w.heap.size + 1 + 1 + 1, 0, none⟩), .pointer (some ⟨w.heap.size + 1 + 1 + 1 + 1, 0, none⟩)], pairV bk o xs.length q.1, undef, undef, undef, undef, undef, undef, undef, undef, undef, undef, undef, undef, undef, undef, undef, undef, undef, undef, undef, undef, undef, undef, undef, undef, undef], defers := [] }) ?assign ?body ?done ?stop
  case assign =>
    intro l x W K hK
    gi_wp2
    exact hK
  case body =>
    rintro lp pre ⟨q, hq⟩ W ⟨⟨v, hv, hrow, _⟩, ⟨hsb, hnb⟩, hB⟩ hlt
    obtain ⟨a, cap, rfl⟩ : ∃ a cap, v = .slice a pre.length cap := by
      rcases hrow.2 with ⟨rfl, h0⟩ | ⟨g, cap, cur, rfl, _⟩
      · exact ⟨none, 0, by rw [h0]⟩
      · exact ⟨_, cap, rfl⟩
    have hWz : w.heap.size + 1 + 1 ≤ W.heap.size := by have := hB.size; omega
    have HTW := hide ((HT.out.on HB2.out).below hB (by omega))
    obtain ⟨y0, hy0⟩ : ∃ y, xs[2 * q]? = some y := ⟨_, List.getElem?_eq_getElem hq⟩
    have g0 : xs.getD (2 * q) ⟨#[]⟩ = y0 := by simp [List.getD_eq_getElem?_getD, hy0]
    have z0 := HX.out y0 (List.mem_of_getElem? hy0)
    have c0 : W.cell? ⟨bk, o + 2 * q, none⟩ = some (.string y0) := (hB.cell (p := ⟨bk, o + 2 * q, none⟩) (by show bk < _; omega)).trans ((HB2.out.cell (p := ⟨bk, o + 2 * q, none⟩) hbk).trans (HC.out _ _ hy0))
    by_cases h2q : 2 * q + 1 < xs.length
    · obtain ⟨y1, hy1⟩ : ∃ y, xs[2 * q + 1]? = some y := ⟨_, List.getElem?_eq_getElem h2q⟩
      have g1 : xs.getD (2 * q + 1) ⟨#[]⟩ = y1 := by simp [List.getD_eq_getElem?_getD, hy1]
      have z1 := HX.out y1 (List.mem_of_getElem? hy1)
      have c1 : W.cell? ⟨bk, o + 2 * q + 1, none⟩ = some (.string y1) := (hB.cell (p := ⟨bk, o + 2 * q + 1, none⟩) (by show bk < _; omega)).trans ((HB2.out.cell (p := ⟨bk, o + 2 * q + 1, none⟩) hbk).trans (HC.out _ _ hy1))
      have HP := hide (show pv k b seed p0 p1 p2 r xs pre.length q = pairS k b seed p0 p1 p2 r pre.length y0 y1 by unfold pv; rw [if_pos h2q, g0, g1])
      have hpv : pairV bk o xs.length q = .slice (some ⟨bk, o + 2 * q, none⟩) 2 2 := by
        have : pl xs.length q = 2 := by unfold pl; omega
        unfold pairV; rw [this]
      have HO2 := hide (fun V : World => one_any (pre.length : Nat) V)
      have HS := hide (fun (V : World) (h : Below W.heap.size W V) => (by
        obtain ⟨d0, d1, d2, d3, d4, d5, d6, d7, d8, d9⟩ := (HF.out.below hB (by omega)).below h (by omega)
        exact ⟨d0, d1, d2, d3, d4, d5, d6, d7, d8, d9, (h.cell (p := ⟨w.heap.size + 1, 0, none⟩) (by show w.heap.size + 1 < _; omega)).trans ((hB.cell (p := ⟨w.heap.size + 1, 0, none⟩) (by show w.heap.size + 1 < _; omega)).trans HR.out), (h.cell (p := ⟨w.heap.size + 1 + 1, 0, none⟩) hv.lt).trans hv.cell, (h.cell (p := ⟨bk, o + 2 * q, none⟩) (by show bk < _; omega)).trans c0, (h.cell (p := ⟨bk, o + 2 * q + 1, none⟩) (by show bk < _; omega)).trans c1, h⟩ : (fun V => V.cell? ⟨w.heap.size, 0, none⟩ = some (.int .i64 k) ∧ V.cell? ⟨w.heap.size, 1, none⟩ = some (.int .i64 b) ∧ V.cell? ⟨w.heap.size, 2, none⟩ = some (.int .i64 x) ∧ V.cell? ⟨w.heap.size, 3, none⟩ = some (.int .i64 t) ∧ V.cell? ⟨w.heap.size, 4, none⟩ = some (.int .i64 l) ∧ V.cell? ⟨w.heap.size, 5, none⟩ = some (.string seed) ∧ V.cell? ⟨w.heap.size, 6, none⟩ = some (.int .i64 p0) ∧ V.cell? ⟨w.heap.size, 7, none⟩ = some (.int .i64 p1) ∧ V.cell? ⟨w.heap.size, 8, none⟩ = some (.int .i64 p2) ∧ V.cell? ⟨w.heap.size, 9, none⟩ = some (.int .i64 p3) ∧ V.cell? ⟨w.heap.size + 1, 0, none⟩ = some (.int .i64 r) ∧ V.cell? ⟨w.heap.size + 1 + 1, 0, none⟩ = some (.slice a pre.length cap) ∧ V.cell? ⟨bk, o + 2 * q, none⟩ = some (.string y0) ∧ V.cell? ⟨bk, o + 2 * q + 1, none⟩ = some (.string y1) ∧ Below W.heap.size W V) V))
      have HV := hide (fun (V : World) (h : Below W.heap.size W V) => HOL.out (numB 1 r) pre.length y0 y1 ⟨z0, z1⟩ V (HTW.out.on h) (by rw [cat_size]; simp [numB_size]; omega) ((HTW.out.on h).alloc _))
      simp only [cat, append_empty, List.length_cons, List.length_nil, Nat.reduceAdd] at HV
      dsimp only at HS
      rw [hpv]
      gi_wp2
      refine regionIn_held (S := fun V => V.cell? ⟨w.heap.size, 0, none⟩ = some (.int .i64 k) ∧ V.cell? ⟨w.heap.size, 1, none⟩ = some (.int .i64 b) ∧ V.cell? ⟨w.heap.size, 2, none⟩ = some (.int .i64 x) ∧ V.cell? ⟨w.heap.size, 3, none⟩ = some (.int .i64 t) ∧ V.cell? ⟨w.heap.size, 4, none⟩ = some (.int .i64 l) ∧ V.cell? ⟨w.heap.size, 5, none⟩ = some (.string seed) ∧ V.cell? ⟨w.heap.size, 6, none⟩ = some (.int .i64 p0) ∧ V.cell? ⟨w.heap.size, 7, none⟩ = some (.int .i64 p1) ∧ V.cell? ⟨w.heap.size, 8, none⟩ = some (.int .i64 p2) ∧ V.cell? ⟨w.heap.size, 9, none⟩ = some (.int .i64 p3) ∧ V.cell? ⟨w.heap.size + 1, 0, none⟩ = some (.int .i64 r) ∧ V.cell? ⟨w.heap.size + 1 + 1, 0, none⟩ = some (.slice a pre.length cap) ∧ V.cell? ⟨bk, o + 2 * q, none⟩ = some (.string y0) ∧ V.cell? ⟨bk, o + 2 * q + 1, none⟩ = some (.string y1) ∧ Below W.heap.size W V) (by kernel_rfl) (by simp) (by rintro ⟨_, _, h⟩; exact h) (HS.out _ (Below.refl _ _).drew) (fun hHeld => ?_)
      refine wpAnyH_take (i := 0) (oi := ?oi0) (v := ?v0) ?hi0 (by kernel_rfl) (by kernel_rfl) (by kernel_rfl) ?hQ0 (Or.inl ⟨?h10, ?hy0⟩) hHeld ?rest0
      case hi0 => (simp only [List.getElem?_toArray, List.getElem?_cons_zero]; rfl)
      case hQ0 => exact fun _ _ _ h => h
      case h10 => rfl
      case hy0 => intro V hSV; (try dsimp only at hSV); go_simp; (try with_reducible rfl)
      try simp only [Act.put, List.setIfInBounds_toArray, List.set_cons_zero, List.set_cons_succ]
      refine wpAnyH_take (i := 1) (oi := ?oi1) (v := ?v1) ?hi1 (by kernel_rfl) (by kernel_rfl) (by kernel_rfl) ?hQ1 (Or.inl ⟨?h11, ?hy1⟩) hHeld ?rest1
      case hi1 => (simp only [List.getElem?_toArray, List.getElem?_cons_succ, List.getElem?_cons_zero]; rfl)
      case hQ1 => exact fun _ _ _ h => h
      case h11 => rfl
      case hy1 => intro V hSV; (try dsimp only at hSV); go_simp; (try with_reducible rfl)
      try simp only [Act.put, List.setIfInBounds_toArray, List.set_cons_zero, List.set_cons_succ]
      refine wpAnyH_take (i := 3) (oi := ?oi3) (v := ?v3) ?hi3 (by kernel_rfl) (by kernel_rfl) (by kernel_rfl) ?hQ3 (Or.inl ⟨?h13, ?hy3⟩) hHeld ?rest3
      case hi3 => (simp only [List.getElem?_toArray, List.getElem?_cons_succ, List.getElem?_cons_zero]; rfl)
      case hQ3 => exact fun _ _ _ h => h
      case h13 => rfl
      case hy3 => intro V hSV; (try dsimp only at hSV); go_simp; (try with_reducible rfl)
      try simp only [Act.put, List.setIfInBounds_toArray, List.set_cons_zero, List.set_cons_succ]
      refine wpAnyH_take (i := 4) (oi := ?oi4) (v := ?v4) ?hi4 (by kernel_rfl) (by kernel_rfl) (by kernel_rfl) ?hQ4 (Or.inl ⟨?h14, ?hy4⟩) hHeld ?rest4
      case hi4 => (simp only [List.getElem?_toArray, List.getElem?_cons_succ, List.getElem?_cons_zero]; rfl)
      case hQ4 => exact fun _ _ _ h => h
      case h14 => rfl
      case hy4 => intro V hSV; (try dsimp only at hSV); go_simp; (try with_reducible rfl)
      try simp only [Act.put, List.setIfInBounds_toArray, List.set_cons_zero, List.set_cons_succ]
      refine wpAnyH_take (i := 6) (oi := ?oi6) (v := ?v6) ?hi6 (by kernel_rfl) (by kernel_rfl) (by kernel_rfl) ?hQ6 (Or.inl ⟨?h16, ?hy6⟩) hHeld ?rest6
      case hi6 => (simp only [List.getElem?_toArray, List.getElem?_cons_succ, List.getElem?_cons_zero]; rfl)
      case hQ6 => exact fun _ _ _ h => h
      case h16 => rfl
      case hy6 => intro V hSV; (try dsimp only at hSV); go_simp; (try with_reducible rfl)
      try simp only [Act.put, List.setIfInBounds_toArray, List.set_cons_zero, List.set_cons_succ]
      refine wpAnyH_take (i := 7) (oi := ?oi7) (v := ?v7) ?hi7 (by kernel_rfl) (by kernel_rfl) (by kernel_rfl) ?hQ7 (Or.inl ⟨?h17, ?hy7⟩) hHeld ?rest7
      case hi7 => (simp only [List.getElem?_toArray, List.getElem?_cons_succ, List.getElem?_cons_zero]; rfl)
      case hQ7 => exact fun _ _ _ h => h
      case h17 => rfl
      case hy7 => intro V hSV; (try dsimp only at hSV); go_simp; (try with_reducible rfl)
      try simp only [Act.put, List.setIfInBounds_toArray, List.set_cons_zero, List.set_cons_succ]
      refine wpAnyH_take (i := 8) (oi := ?oi8) (v := ?v8) ?hi8 (by kernel_rfl) (by kernel_rfl) (by kernel_rfl) ?hQ8 (Or.inl ⟨?h18, ?hy8⟩) hHeld ?rest8
      case hi8 => (simp only [List.getElem?_toArray, List.getElem?_cons_succ, List.getElem?_cons_zero]; rfl)
      case hQ8 => exact fun _ _ _ h => h
      case h18 => rfl
      case hy8 => intro V hSV; (try dsimp only at hSV); go_simp; (try with_reducible rfl)
      try simp only [Act.put, List.setIfInBounds_toArray, List.set_cons_zero, List.set_cons_succ]
      refine wpAnyH_take (i := 9) (oi := ?oi9) (v := ?v9) ?hi9 (by kernel_rfl) (by kernel_rfl) (by kernel_rfl) ?hQ9 (Or.inl ⟨?h19, ?hy9⟩) hHeld ?rest9
      case hi9 => (simp only [List.getElem?_toArray, List.getElem?_cons_succ, List.getElem?_cons_zero]; rfl)
      case hQ9 => exact fun _ _ _ h => h
      case h19 => rfl
      case hy9 => intro V hSV; (try dsimp only at hSV); go_simp; (try with_reducible rfl)
      try simp only [Act.put, List.setIfInBounds_toArray, List.set_cons_zero, List.set_cons_succ]
      refine wpAnyH_take (i := 10) (oi := ?oi10) (v := ?v10) ?hi10 (by kernel_rfl) (by kernel_rfl) (by kernel_rfl) ?hQ10 (Or.inl ⟨?h110, ?hy10⟩) hHeld ?rest10
      case hi10 => (simp only [List.getElem?_toArray, List.getElem?_cons_succ, List.getElem?_cons_zero]; rfl)
      case hQ10 => exact fun _ _ _ h => h
      case h110 => rfl
      case hy10 => intro V hSV; (try dsimp only at hSV); go_simp; (try with_reducible rfl)
      try simp only [Act.put, List.setIfInBounds_toArray, List.set_cons_zero, List.set_cons_succ]
      refine wpAnyH_take (i := 11) (oi := ?oi11) (v := ?v11) ?hi11 (by kernel_rfl) (by kernel_rfl) (by kernel_rfl) ?hQ11 (Or.inl ⟨?h111, ?hy11⟩) hHeld ?rest11
      case hi11 => (simp only [List.getElem?_toArray, List.getElem?_cons_succ, List.getElem?_cons_zero]; rfl)
      case hQ11 => exact fun _ _ _ h => h
      case h111 => rfl
      case hy11 => intro V hSV; (try dsimp only at hSV); go_simp; (try with_reducible rfl)
      try simp only [Act.put, List.setIfInBounds_toArray, List.set_cons_zero, List.set_cons_succ]
      refine wpAnyH_ready (rs := [2]) (by kernel_rfl) (by simp) ?_
      refine AllReadyH.cons (o := ?o2) ?ho2 (fun K hK => ?hs2) AllReadyH.nil
      case ho2 => (simp only [List.getElem?_toArray, List.getElem?_cons_succ, List.getElem?_cons_zero]; rfl)
      go_simp
      refine (HO1.out _).mono ?_
      rintro e w1 ⟨rfl, hb1⟩
      have hS1 := heldB (Below.refl W.heap.size W).drew hb1 (Nat.le_refl _)
      try go_wp2_with fail
      refine hK.out _ _ (HS.out _ (hS1)) (fun hHeld => ?_)
      clear hK K
      try simp only [Act.put, List.setIfInBounds_toArray, List.set_cons_zero, List.set_cons_succ]
      refine wpAnyH_ready (rs := [5]) (by kernel_rfl) (by simp) ?_
      refine AllReadyH.cons (o := ?o5) ?ho5 (fun K hK => ?hs5) AllReadyH.nil
      case ho5 => (simp only [List.getElem?_toArray, List.getElem?_cons_succ, List.getElem?_cons_zero]; rfl)
      go_simp
      refine (HO2.out _).mono ?_
      rintro e w2 ⟨rfl, hb2⟩
      have hS2 := heldB hS1 hb2 (Nat.le_refl _)
      try go_wp2_with fail
      refine hK.out _ _ (HS.out _ (hS2)) (fun hHeld => ?_)
      clear hK K
      try simp only [Act.put, List.setIfInBounds_toArray, List.set_cons_zero, List.set_cons_succ]
      refine wpAnyH_ready (rs := [12]) (by kernel_rfl) (by simp) ?_
      refine AllReadyH.cons (o := ?o12) ?ho12 (fun K hK => ?hs12) AllReadyH.nil
      case ho12 => (simp only [List.getElem?_toArray, List.getElem?_cons_succ, List.getElem?_cons_zero]; rfl)
      go_simp
      refine hK.out _ _ (HS.out _ (hS2.alloc hS2.size _)) (fun hHeld => ?_)
      clear hK K
      try simp only [Act.put, List.setIfInBounds_toArray, List.set_cons_zero, List.set_cons_succ]
      refine wpAnyH_ready (rs := [13]) (by kernel_rfl) (by simp) ?_
      refine AllReadyH.cons (o := ?o13) ?ho13 (fun K hK => ?hs13) AllReadyH.nil
      case ho13 => (simp only [List.getElem?_toArray, List.getElem?_cons_succ, List.getElem?_cons_zero]; rfl)
      go_simp
      refine (HV.out _ hS2).mono ?_
      rintro e w4 ⟨rfl, hb4⟩
      have hS4 := heldB (hS2.alloc hS2.size _) hb4 (Nat.le_refl _)
      try go_wp2_with fail
      refine hK.out _ _ (HS.out _ (hS4)) (fun hHeld => ?_)
      clear hK K
      try simp only [Act.put, List.setIfInBounds_toArray, List.set_cons_zero, List.set_cons_succ]
      refine wpAnyH_take (i := 14) (oi := ?oi14) (v := ?v14) ?hi14 (by kernel_rfl) (by kernel_rfl) (by kernel_rfl) ?hQ14 (Or.inl ⟨?h114, ?hy14⟩) hHeld ?rest14
      case hi14 => (simp only [List.getElem?_toArray, List.getElem?_cons_succ, List.getElem?_cons_zero]; rfl)
      case hQ14 => exact fun _ _ _ h => h
      case h114 => rfl
      case hy14 => intro V hSV; (try dsimp only at hSV); go_simp; (try with_reducible rfl)
      try simp only [Act.put, List.setIfInBounds_toArray, List.set_cons_zero, List.set_cons_succ]
      refine wpAnyH_done (by kernel_rfl) ?_ _
      have hg4 := grown_of_below hS4
      have hB4 : Below (w.heap.size + 1 + 1) W2 w4 := hB.trans (hS4.mono hWz)
      have hv4 := hv.kept hg4 (by simp)
      have hrow4 := hrow.kept hg4 (by cases Value.ownBlock _ with | none => exact .inl rfl | some _ => exact .inr (by simp))
      have hsb4 := hsb.kept hg4 (by simp)
      have hnb4 := hnb.kept hg4 (by simp)
      have hko4 : KeepsOthers W w4 := KeepsOthers.of_grownBy hg4 (fun j o e _ => by cases e)
      have hc4 := hv4.cell
      have hz4 : w.heap.size + 1 + 1 ≤ w4.heap.size := by have := (hg4).size; omega
      gi_wp2_with (gi_at_builtin; refine wpListIn_append_own _ rfl _ _ 27 rfl (w.heap.size + 1 + 1) 9 i0 (.string ⟨#[]⟩) 1 16 Tryz.underlying27 hi hz0 hz1 hz2 rfl (by decide) _ _ _ rfl (hrow4.alloc _) ⟨w4.heap.size, 0, none⟩ 1 1 [.string (pairS k b seed p0 p1 p2 r pre.length y0 y1)] rfl rfl (cell_one_new _ _ _) (by simp [Value.oneCell']) (by unfold maxLen; omega) (by omega) (by simp; omega) ?_; intro v' w5 hown' hgrow _; obtain ⟨g', cap', rfl⟩ := ownsRow_succ hown'; obtain ⟨hv1, hv2, hr2, hk2, hb2⟩ := hv4.appended (by decide) hrow4 hz4 (Nat.le_refl _) hown' hgrow; have hs5 := (hsb4.alloc _).kept hgrow (hsb4.not_row (by decide) hrow4); have hn5 := (hnb4.alloc _).kept hgrow (hnb4.not_row (by decide) hrow4); have hc1 := hv1.cell; have hf1 := hv1.frozen)
      have hs6 := hs5.kept (grownBy_setCell' w5 (w.heap.size + 1 + 1) (.slice (some ⟨g', 0, none⟩) (pre.length + 1) cap')) (by simp)
      have hn6 := hn5.kept (grownBy_setCell' w5 (w.heap.size + 1 + 1) (.slice (some ⟨g', 0, none⟩) (pre.length + 1) cap')) (by simp; omega)
      exact ⟨(hko4.trans hk2).from _, boxed_kp hsb hnb hs6 hn6, ⟨_, hv2, by rw [vals_snoc, HP.out]; simpa using hr2, trivial⟩, ⟨hs6, hn6⟩, hB4.trans hb2⟩
    · have HP := hide (show pv k b seed p0 p1 p2 r xs pre.length q = y0 by unfold pv; rw [if_neg h2q, g0])
      have hpv : pairV bk o xs.length q = .slice (some ⟨bk, o + 2 * q, none⟩) 1 1 := by
        have : pl xs.length q = 1 := by unfold pl; omega
        unfold pairV; rw [this]
      have hg4 : W.grownBy W none := grown_of_below (Below.refl _ _)
      have hB4 := hB
      rw [hpv]
      have hv4 := hv.kept hg4 (by simp)
      have hrow4 := hrow.kept hg4 (by cases Value.ownBlock _ with | none => exact .inl rfl | some _ => exact .inr (by simp))
      have hsb4 := hsb.kept hg4 (by simp)
      have hnb4 := hnb.kept hg4 (by simp)
      have hko4 : KeepsOthers W W := KeepsOthers.of_grownBy hg4 (fun j o e _ => by cases e)
      have hc4 := hv4.cell
      have hz4 : w.heap.size + 1 + 1 ≤ W.heap.size := by have := (hg4).size; omega
      gi_wp2_with (gi_at_builtin; refine wpListIn_append_own _ rfl _ _ 27 rfl (w.heap.size + 1 + 1) 9 i0 (.string ⟨#[]⟩) 1 16 Tryz.underlying27 hi hz0 hz1 hz2 rfl (by decide) _ _ _ rfl (hrow4.alloc _) ⟨W.heap.size, 0, none⟩ 1 1 [.string y0] rfl rfl (cell_one_new _ _ _) (by simp [Value.oneCell']) (by unfold maxLen; omega) (by omega) (by simp; omega) ?_; intro v' w5 hown' hgrow _; obtain ⟨g', cap', rfl⟩ := ownsRow_succ hown'; obtain ⟨hv1, hv2, hr2, hk2, hb2⟩ := hv4.appended (by decide) hrow4 hz4 (Nat.le_refl _) hown' hgrow; have hs5 := (hsb4.alloc _).kept hgrow (hsb4.not_row (by decide) hrow4); have hn5 := (hnb4.alloc _).kept hgrow (hnb4.not_row (by decide) hrow4); have hc1 := hv1.cell; have hf1 := hv1.frozen)
      have hs6 := hs5.kept (grownBy_setCell' w5 (w.heap.size + 1 + 1) (.slice (some ⟨g', 0, none⟩) (pre.length + 1) cap')) (by simp)
      have hn6 := hn5.kept (grownBy_setCell' w5 (w.heap.size + 1 + 1) (.slice (some ⟨g', 0, none⟩) (pre.length + 1) cap')) (by simp; omega)
      exact ⟨(hko4.trans hk2).from _, boxed_kp hsb hnb hs6 hn6, ⟨_, hv2, by rw [vals_snoc, HP.out]; simpa using hr2, trivial⟩, ⟨hs6, hn6⟩, hB4.trans hb2⟩
  case done =>
    rintro D ys W hD hys ⟨⟨v, hv, hrow, _⟩, _, hB⟩ hK
    have hc := hv.cell
    gi_wp2
    refine ⟨by simp, .inl ⟨_, _, rfl, run_takeDeferred hK, ?_⟩⟩
    refine ⟨_, results_tmp rfl _ _ _, v, rfl, ?_, ?_⟩
    · have h := owns_mono (ownsRow_putObj hrow (.deferred none) hK rfl) (show w.heap.size ≤ w.heap.size + 1 + 1 by omega)
      rw [vals_all _ _ _ _ _ _ _ _ _ hys, show ys.length = (roundS k b seed p0 p1 p2 r xs).length by have := congrArg List.length hys; simp at this; simp [roundS, this]] at h
      exact h
    · exact HB2.out.trans ((hB.mono (by omega)).trans (belowK_b (w := w) (Nat.le_refl _) W D _ _ (by omega) hK rfl rfl))
  case stop =>
    rintro D c pre W _ _ h _
    exact h.elim
end Go.Proofs.YtgaoeoijdpdjiabGreatDoor

namespace Go.Proofs.YtgaoeoijdpdjiabGreatDoor
open Go.RowKit

/-- What layer 0 signs. -/
def mixS (k b : Int) (rnd root pub : ByteArray) (idx : Int) (msg : ByteArray) : ByteArray := hv k b (numB 1 6 ++ (rnd ++ (root ++ (pub ++ (numB 4 idx ++ msg)))))
theorem mixS_size (k b : Int) (rnd root pub : ByteArray) (idx : Int) (msg : ByteArray) (hk : k = 1 ∨ k = 2) (h1 : 1 ≤ b) (h2 : b ≤ 16) (a1 : rnd.size ≤ 16) (a2 : root.size ≤ 16) (a3 : pub.size ≤ 16) (a4 : msg.size ≤ 200) : ((mixS k b rnd root pub idx msg).size : Int) = b :=
  hv_size k b _ hk h1 h2 (by simp only [ByteArray.size_append, numB_size]; omega)

set_option maxRecDepth 20000 in
set_option maxHeartbeats 4000000 in
theorem mixed_any (k b x t l idx : Int) (root pub rnd msg : ByteArray) (sl : Value) (w : World) (hk : k = 1 ∨ k = 2) (h1 : 1 ≤ b) (h2 : b ≤ 16) (a1 : rnd.size ≤ 16) (a2 : root.size ≤ 16) (a3 : pub.size ≤ 16) (a4 : msg.size ≤ 200) (hT : Tn w) :
    Calls Tryz.prog 239 #[.agg #[.int .i64 k, .int .i64 b, .int .i64 x, .int .i64 t, .int .i64 l, .string root, .string pub], .agg #[.int .i64 idx, .string rnd, sl], .string msg] w fun e w' => e = .returned (.string (mixS k b rnd root pub idx msg)) ∧ Below w.heap.size w w' := by
  obtain ⟨W0, hW⟩ : ∃ W0, (w.alloc (.cells #[.int .i64 k, .int .i64 b, .int .i64 x, .int .i64 t, .int .i64 l, .string root, .string pub] 184)).alloc (.cells #[.int .i64 idx, .string rnd, sl] 29) = W0 := ⟨_, rfl⟩
  have HC := hide (show W0.cell? ⟨w.heap.size, 0, none⟩ = some (.int .i64 k) ∧ W0.cell? ⟨w.heap.size, 1, none⟩ = some (.int .i64 b) ∧ W0.cell? ⟨w.heap.size, 2, none⟩ = some (.int .i64 x) ∧ W0.cell? ⟨w.heap.size, 3, none⟩ = some (.int .i64 t) ∧ W0.cell? ⟨w.heap.size, 4, none⟩ = some (.int .i64 l) ∧ W0.cell? ⟨w.heap.size, 5, none⟩ = some (.string root) ∧ W0.cell? ⟨w.heap.size, 6, none⟩ = some (.string pub) ∧ W0.cell? ⟨w.heap.size + 1, 0, none⟩ = some (.int .i64 idx) ∧ W0.cell? ⟨w.heap.size + 1, 1, none⟩ = some (.string rnd) by subst hW; refine ⟨?_, ?_, ?_, ?_, ?_, ?_, ?_, ?_, ?_⟩ <;> simp [go_sem])
  have HB := hide (show Below w.heap.size w W0 by subst hW; exact ((Below.refl _ _).alloc (Nat.le_refl _) _).alloc (by simp) _)
  have hz : W0.heap.size ≤ w.heap.size + 2 := by subst hW; simp
  have hz' : w.heap.size + 2 ≤ W0.heap.size := by subst hW; simp
  have HT := hide (hT.on HB.out)
  have HS := hide (fun (V : World) (h : Below W0.heap.size W0 V) => (by
    obtain ⟨c0, c1, c2, c3, c4, c5, c6, d0, d1⟩ := HC.out
    have e0 : ∀ i, V.cell? ⟨w.heap.size, i, none⟩ = W0.cell? ⟨w.heap.size, i, none⟩ := fun i => h.cell (p := ⟨w.heap.size, i, none⟩) (by show w.heap.size < _; omega)
    have e1 : ∀ i, V.cell? ⟨w.heap.size + 1, i, none⟩ = W0.cell? ⟨w.heap.size + 1, i, none⟩ := fun i => h.cell (p := ⟨w.heap.size + 1, i, none⟩) (by show w.heap.size + 1 < _; omega)
    exact ⟨(e0 0).trans c0, (e0 1).trans c1, (e0 2).trans c2, (e0 3).trans c3, (e0 4).trans c4, (e0 5).trans c5, (e0 6).trans c6, (e1 0).trans d0, (e1 1).trans d1⟩ : V.cell? ⟨w.heap.size, 0, none⟩ = some (.int .i64 k) ∧ V.cell? ⟨w.heap.size, 1, none⟩ = some (.int .i64 b) ∧ V.cell? ⟨w.heap.size, 2, none⟩ = some (.int .i64 x) ∧ V.cell? ⟨w.heap.size, 3, none⟩ = some (.int .i64 t) ∧ V.cell? ⟨w.heap.size, 4, none⟩ = some (.int .i64 l) ∧ V.cell? ⟨w.heap.size, 5, none⟩ = some (.string root) ∧ V.cell? ⟨w.heap.size, 6, none⟩ = some (.string pub) ∧ V.cell? ⟨w.heap.size + 1, 0, none⟩ = some (.int .i64 idx) ∧ V.cell? ⟨w.heap.size + 1, 1, none⟩ = some (.string rnd)))
  have HN := hide (fun V : World => number_any 4 idx V (by decide))
  have HV := hide (fun (V : World) (h : Below W0.heap.size W0 V) => (by
    have q := value_any k b x t l 6 V.heap.size 0 5 [rnd, root, pub, numB 4 idx, msg] (V.alloc (.cells #[.string rnd, .string root, .string pub, .string (numB 4 idx), .string msg] 9)) (by
      intro j y hj
      match j, hj with
      | 0, hj => simp at hj; subst hj; simp [go_sem]
      | 1, hj => simp at hj; subst hj; simp [go_sem]
      | 2, hj => simp at hj; subst hj; simp [go_sem]
      | 3, hj => simp at hj; subst hj; simp [go_sem]
      | 4, hj => simp at hj; subst hj; simp [go_sem]) (by simp) (by simp) (by simp) hk h1 h2 (by rw [cat_size]; simp [numB_size]; omega) ((HT.out.on h).alloc _)
    simp only [cat, append_empty, List.length_cons, List.length_nil, Nat.reduceAdd] at q
    exact q : Calls Tryz.prog 248 #[.agg #[.int .i64 k, .int .i64 b, .int .i64 x, .int .i64 t, .int .i64 l], .int .i64 6, .slice (some ⟨V.heap.size, 0, none⟩) 5 5] (V.alloc (.cells #[.string rnd, .string root, .string pub, .string (numB 4 idx), .string msg] 9)) fun e w' => e = .returned (.string (mixS k b rnd root pub idx msg)) ∧ Below (V.alloc (.cells #[.string rnd, .string root, .string pub, .string (numB 4 idx), .string msg] 9)).heap.size (V.alloc (.cells #[.string rnd, .string root, .string pub, .string (numB 4 idx), .string msg] 9)) w'))
  generalize mixS k b rnd root pub idx msg = mm at HV ⊢
  clear hT
  go_enter Tryz.func239, Tryz.ntmps239
  go_wp2_with fail
  try rw [hW]
  clear hW
  go_region_held3 (fun V => V.cell? ⟨w.heap.size, 0, none⟩ = some (.int .i64 k) ∧ V.cell? ⟨w.heap.size, 1, none⟩ = some (.int .i64 b) ∧ V.cell? ⟨w.heap.size, 2, none⟩ = some (.int .i64 x) ∧ V.cell? ⟨w.heap.size, 3, none⟩ = some (.int .i64 t) ∧ V.cell? ⟨w.heap.size, 4, none⟩ = some (.int .i64 l) ∧ V.cell? ⟨w.heap.size, 5, none⟩ = some (.string root) ∧ V.cell? ⟨w.heap.size, 6, none⟩ = some (.string pub) ∧ V.cell? ⟨w.heap.size + 1, 0, none⟩ = some (.int .i64 idx) ∧ V.cell? ⟨w.heap.size + 1, 1, none⟩ = some (.string rnd)) (first | exact HS.out _ hS4 | exact HS.out _ (hS1.alloc hS1.size _) | exact HS.out _ hS1 | exact HS.out _ (Below.refl W0.heap.size W0).drew) (first | (go_at_call 160; refine (HN.out _).mono ?_; rintro e w1 ⟨rfl, hb1⟩; have hS1 := heldB (Below.refl W0.heap.size W0).drew hb1 (Nat.le_refl _)) | (go_at_call 248; refine (HV.out _ hS1).mono ?_; rintro e w4 ⟨rfl, hb4⟩; have hS4 := heldB (hS1.alloc hS1.size _) hb4 (Nat.le_refl _)))
  have HB4 := hide hS4
  clear hS1 hS4 hb1 hb4
  go_wp2
  go_ret
  exact ⟨rfl, HB.out.trans (HB4.out.mono (by omega))⟩
end Go.Proofs.YtgaoeoijdpdjiabGreatDoor

namespace Go.Proofs.YtgaoeoijdpdjiabGreatDoor
open Go.RowKit

set_option maxHeartbeats 400000 in
theorem refDigits_ok (b x e f : Nat) (hp : Pair b x e f) (k : Int) (t l : Nat) (m : ByteArray) (w : World) (hr : rightB k b x t l = true) (h1 : 1 ≤ t) (h2 : t ≤ 4) (h3 : 1 ≤ l) (h4 : l ≤ 3) (hm : m.size = b) :
    Calls Tryz.prog 191 #[.agg #[.int .i64 k, .int .i64 b, .int .i64 x, .int .i64 t, .int .i64 l], .string m] w fun r w' =>
      ∃ v, r = .returned (.tuple #[v, .int .i64 0]) ∧ w'.ownsRow w.heap.size 3 1 v (b * e + f) (cellsN (digitsN x e f (bytesN m))) ∧ Below w.heap.size w w' := by
  have HM := hideM (fun w' : World => refCheck_any k b x t l w')
  rw [hr] at HM
  have HD := hideM (fun w' : World => refDigits_list b x e f hp k t l m w' h1 h2 h3 h4 hm)
  have hne : ((m.size : Int) != (b : Int)) = false := by simp [hm]
  generalize digitsN x e f (bytesN m) = D at HD ⊢
  generalize b * e + f = n at HD ⊢
  clear hr hm hp
  go_enter Tryz.func191, Tryz.ntmps191
  go_wp2_with fail
  refine (HM.out _).mono ?_
  rintro r w1 ⟨rfl, hb⟩
  have B1 := hideM (((Below.refl _ _).alloc (Nat.le_refl _) _).trans (hb.mono (by simp)) : Below w.heap.size w w1)
  obtain ⟨c0, c1, c2, c3, c4⟩ := five_below (show Five (w.alloc (.cells #[.int .i64 k, .int .i64 b, .int .i64 x, .int .i64 t, .int .i64 l] 26)) w.heap.size k b x t l by refine ⟨?_, ?_, ?_, ?_, ?_⟩ <;> simp [go_sem]) hb (by simp)
  clear hb
  go_wp2_with fail
  refine (HD.out _).mono ?_
  rintro r w2 ⟨v, rfl, ho, hb⟩
  have HO := hideM ho
  have B2 := hideM (B1.out.trans (hb.mono B1.out.size))
  clear ho hb c0 c1 c2 c3 c4
  go_wp2
  go_ret2
  exact ⟨v, rfl, ⟨HO.out.1, HO.out.2.elim Or.inl (fun ⟨g, cap, cur, hv, hg, r⟩ => Or.inr ⟨g, cap, cur, hv, Nat.le_trans B1.out.size hg, r⟩)⟩, B2.out⟩

set_option maxHeartbeats 400000 in
theorem same_nil (w : World) : Calls Tryz.prog 192 #[.slice none 0 0, .slice none 0 0] w fun r w' => r = .returned (.bool true) ∧ Below w.heap.size w w' := by
  go_enter Tryz.func192, Tryz.ntmps192
  go_wp2
  refine wp_loop_rounds 1 ?_
  rw [rounds_succ]
  go_wp2
  go_ret
  exact ⟨rfl, Below.refl _ _⟩

set_option maxHeartbeats 400000 in
theorem same_some (g1 g2 n c1 c2 : Nat) (D : List Nat) (w : World) (hn : n ≤ 1000) (h1 : ∀ j, j < n → w.cell? ⟨g1, j, none⟩ = some (.int .i64 ((at0M D j : Nat) : Int))) (h2 : ∀ j, j < n → w.cell? ⟨g2, j, none⟩ = some (.int .i64 ((at0M D j : Nat) : Int))) :
    Calls Tryz.prog 192 #[.slice (some ⟨g1, 0, none⟩) n c1, .slice (some ⟨g2, 0, none⟩) n c2] w fun r w' => r = .returned (.bool true) ∧ Below w.heap.size w w' := by
  have H1 := hideM h1
  have H2 := hideM h2
  clear h1 h2
  go_enter Tryz.func192, Tryz.ntmps192
  go_wp2
  go_loopw [5] (fun i wr => ∃ j q : Nat, j ≤ n ∧ i = .int .i64 j ∧ Hid (wr = w.drewN q)) (fun i _ => n - (intOf i).toNat)
  case atStart => exact ⟨0, 0, by omega, rfl, rfl⟩
  case round =>
    obtain ⟨j, q, hj, rfl, hw⟩ := hrel
    by_cases hlt : j < n
    · have d1 : wr.cell? ⟨g1, j, none⟩ = some (.int .i64 ((at0M D j : Nat) : Int)) := by rw [hw.out]; exact H1.out j hlt
      have d2 : wr.cell? ⟨g2, j, none⟩ = some (.int .i64 ((at0M D j : Nat) : Int)) := by rw [hw.out]; exact H2.out j hlt
      generalize at0M D j = d at d1 d2
      go_wp2
      go_quiet (fail)
      go_wp2
      go_roundw
      case rel => exact ⟨j + 1, q + _, by omega, by go_num, by show World.drewN wr _ = w.drewN _; rw [hw.out, World.drewN_drewN]⟩
      case measure => simp [intOf]; omega
    · go_wp2
      go_ret
      exact ⟨rfl, by rw [hw.out]; exact below_drewN (Below.refl _ _) _⟩

set_option maxHeartbeats 400000 in
theorem mark_any (n : Int) (w : World) (h0 : 0 ≤ n) (h1 : n ≤ 1000000) : Calls Tryz.prog 46 #[.int .i64 n] w fun r w' => r = .returned (.int .i64 (-1000 - n)) ∧ w' = w := by
  go_enter Tryz.func46, Tryz.ntmps46
  go_wp2
  go_ret
  exact ⟨rfl, rfl⟩
end Go.Proofs.YtgaoeoijdpdjiabGreatDoor

namespace Go.Proofs.YtgaoeoijdpdjiabGreatDoor
open Go.RowKit

/-- A list of marks. -/
def Marked (w : World) (s : Value) (z : Int) : Prop := ∃ n, n ≤ 100 ∧ w.ownsRow 0 3 1 s n (List.replicate n (.int .i64 z))

/-- The book in block bk; its lists S, in a row from block B on. -/
structure BookAt (w : World) (B bk : Nat) (v : Value) (S : List Value) : Prop where
  blk : w.heap[bk]? = some (.cells #[v, .slice none 0 0, .slice none 0 0] 35 (0, 0))
  row : w.ownsRow B 56 1 v S.length S
  lists : ∀ i s, S[i]? = some s → Marked w s (-1000 - ((i / 4 * 4 : Nat) : Int))
  len : S.length ≤ 100

theorem marked_keep {w w' : World} {s : Value} {z : Int} (h : Marked w s z) (hk : ∀ (q : Nat) (c : Array Value), w.heap[q]? = some (.cells c 3 (0, 0)) → w'.heap[q]? = w.heap[q]?) : Marked w' s z := by
  obtain ⟨n, hn, h1, h2⟩ := h
  refine ⟨n, hn, h1, ?_⟩
  rcases h2 with h2 | ⟨g, cap, cur, hv, hg, hh, r⟩
  · exact Or.inl h2
  · exact Or.inr ⟨g, cap, cur, hv, hg, by rw [hk g cur hh]; exact hh, r⟩

theorem BookAt.below {w w' : World} {B bk : Nat} {v : Value} {S : List Value} (h : BookAt w B bk v S) (hb : Below w.heap.size w w') : BookAt w' B bk v S :=
  ⟨by rw [hb.block bk (lt_of_block h.blk)]; exact h.blk, owns_below h.row hb, fun i s hs => marked_keep (h.lists i s hs) (fun q _ hq => hb.block q (lt_of_block hq)), h.len⟩

theorem owns_form {w : World} {base : Nat} {e : TypeId} {s : Nat} {v : Value} {n : Nat} {xs : List Value} (h : w.ownsRow base e s v n xs) : ∃ ao cap, v = .slice ao n cap ∧ (ao = none → n = 0 ∧ cap = 0) := by
  rcases h.2 with ⟨rfl, rfl⟩ | ⟨g, cap, cur, rfl, _⟩
  · exact ⟨none, 0, rfl, fun _ => ⟨rfl, rfl⟩⟩
  · exact ⟨_, cap, rfl, fun h => by cases h⟩

theorem owns_someM {w : World} {base : Nat} {e : TypeId} {s : Nat} {v : Value} {n : Nat} {xs : List Value} (h : w.ownsRow base e s v n xs) (hn : 0 < n) : ∃ g cap, v = .slice (some ⟨g, 0, none⟩) n cap := by
  rcases h.2 with ⟨rfl, rfl⟩ | ⟨g, cap, cur, rfl, _⟩
  · omega
  · exact ⟨g, cap, rfl⟩

theorem list_new (w : World) (c : Array Value) (t : TypeId) : ∀ j u, c.toList[j]? = some u → (w.alloc (.cells c t)).cell? ((Addr.mk w.heap.size 0 none).add j) = some u := by
  intro j u hj
  have : (Addr.mk w.heap.size 0 none).add j = ⟨w.heap.size, j, none⟩ := by unfold Addr.add; split <;> simp_all
  rw [this]
  simp only [World.cell?_alloc_new]
  simpa using hj

theorem marked_row {w : World} {g n : Nat} {z : Int} (h : RowZ w g (List.replicate n z)) (hn : n ≤ 100) (h0 : 0 < n) : Marked w (.slice (some ⟨g, 0, none⟩) n n) z := by
  refine ⟨n, hn, by simp, Or.inr ⟨g, n, _, rfl, Nat.zero_le _, h, Nat.le_refl _, by unfold maxLen; omega, by simp, ?_⟩⟩
  rw [List.take_of_length_le (by simp)]
  simp

theorem marked_owns {w : World} {base : Nat} {v : Value} {n : Nat} {z : Int} (h : w.ownsRow base 3 1 v n (List.replicate n (.int .i64 z))) (hn : n ≤ 100) : Marked w v z :=
  ⟨n, hn, h.1, h.2.elim Or.inl (fun ⟨g, cap, cur, hv, _, r⟩ => Or.inr ⟨g, cap, cur, hv, Nat.zero_le _, r⟩)⟩

theorem marked_nil (w : World) (z : Int) : Marked w (.slice none 0 0) z := ⟨0, by omega, rfl, Or.inl ⟨rfl, rfl⟩⟩

/-- Four lists more, behind the last store. -/
theorem BookAt.more {w4 w5 : World} {B bk : Nat} {v v' : Value} {S : List Value} {a b c d : Value} (h : BookAt w4 B bk v S) (h4 : S.length % 4 = 0)
    (ma : Marked w4 a (-1000 - (S.length : Int))) (mb : Marked w4 b (-1000 - (S.length : Int))) (mc : Marked w4 c (-1000 - (S.length : Int))) (md : Marked w4 d (-1000 - (S.length : Int)))
    (o : Obj) (ho : w5.ownsRow B 56 1 v' (S.length + 4) (S ++ [a, b, c, d])) (hg : (w4.alloc o).grownBy w5 v.ownBlock) (hl : S.length + 4 ≤ 100) :
    BookAt (w5.setCell ⟨bk, 0, none⟩ v') B bk v' (S ++ [a, b, c, d]) := by
  have hbk4 := lt_of_block h.blk
  have same : ∀ q, q < w4.heap.size → v.ownBlock ≠ some q → w5.heap[q]? = w4.heap[q]? := fun q hq hne => by
    rw [hg.block q (by simp; omega) (fun e => hne e.symm)]
    exact Below.heap_alloc _ _ _ hq
  have hvt : ∀ q, v.ownBlock = some q → ∃ cur, w4.heap[q]? = some (.cells cur 56 (0, 0)) := fun q hq => by
    rcases h.row.2 with ⟨rfl, _⟩ | ⟨g, cap, cur, rfl, _, hh, _⟩
    · simp [Value.ownBlock] at hq
    · simp only [Value.ownBlock, Option.some.injEq] at hq
      subst hq
      exact ⟨cur, hh⟩
  have hbk5 : w5.heap[bk]? = some (.cells #[v, .slice none 0 0, .slice none 0 0] 35 (0, 0)) := by
    rw [same bk hbk4 (fun e => by obtain ⟨cur, hc⟩ := hvt bk e; rw [h.blk] at hc; simp at hc)]
    exact h.blk
  have keep3 : ∀ (q : Nat) (c : Array Value), w4.heap[q]? = some (.cells c 3 (0, 0)) → (w5.setCell ⟨bk, 0, none⟩ v').heap[q]? = w4.heap[q]? := fun q c hq => by
    rw [Below.heap_setCell _ _ _ _ (fun e => by dsimp only at e; subst e; rw [h.blk] at hq; simp at hq)]
    exact same q (lt_of_block hq) (fun e => by obtain ⟨cur, hc⟩ := hvt q e; rw [hq] at hc; simp at hc)
  have mk : ∀ s z, Marked w4 s z → Marked (w5.setCell ⟨bk, 0, none⟩ v') s z := fun s z hm => marked_keep hm keep3
  refine ⟨?_, ?_, ?_, by simp; omega⟩
  · have hlt := lt_of_block hbk5
    have h' : w5.heap[bk] = .cells #[v, .slice none 0 0, .slice none 0 0] 35 (0, 0) := by simpa [Array.getElem?_eq_getElem hlt] using hbk5
    show (w5.heap.modify bk _)[bk]? = _
    rw [Array.getElem?_eq_getElem (by simpa using hlt), Array.getElem_modify_self, h']
    rfl
  · have hne : v'.ownBlock ≠ some bk := fun e => by
      rcases ho.2 with ⟨rfl, _⟩ | ⟨g, cap, cur, rfl, _, hh, _⟩
      · simp [Value.ownBlock] at e
      · simp only [Value.ownBlock, Option.some.injEq] at e
        subst e
        rw [hbk5] at hh
        simp at hh
    have := ownsRow_setCell_other (a := ⟨bk, 0, none⟩) ho hne v'
    simpa using this
  · intro i s hs
    by_cases hi : i < S.length
    · rw [List.getElem?_append_left hi] at hs
      exact mk _ _ (h.lists i s hs)
    · obtain ⟨j, rfl⟩ : ∃ j, i = S.length + j := ⟨i - S.length, by omega⟩
      rw [List.getElem?_append_right (by omega), Nat.add_sub_cancel_left] at hs
      have hj : j < 4 := by have := (List.getElem?_eq_some_iff.1 hs).1; simpa using this
      rw [show (S.length + j) / 4 * 4 = S.length by omega]
      match j, hs with
      | 0, hs => simp at hs; subst hs; exact mk _ _ ma
      | 1, hs => simp at hs; subst hs; exact mk _ _ mb
      | 2, hs => simp at hs; subst hs; exact mk _ _ mc
      | 3, hs => simp at hs; subst hs; exact mk _ _ md
end Go.Proofs.YtgaoeoijdpdjiabGreatDoor

namespace Go.Proofs.YtgaoeoijdpdjiabGreatDoor
open Go.RowKit

theorem sadd (y z : ByteArray) (hy : y.size ≤ 1000) (hz : z.size ≤ 1000) (w : World) : (Op.stringOp .add y z).run Tryz.prog w = .ok (.string (y ++ z)) w := run_string_add w _ _ (by omega) (by omega)

/-- A set in memory: five cells. -/
def FiveC (B : Nat) (w : World) (k b x t l : Int) : Prop :=
  w.cell? ⟨B, 0, none⟩ = some (.int .i64 k) ∧ w.cell? ⟨B, 1, none⟩ = some (.int .i64 b) ∧ w.cell? ⟨B, 2, none⟩ = some (.int .i64 x) ∧ w.cell? ⟨B, 3, none⟩ = some (.int .i64 t) ∧ w.cell? ⟨B, 4, none⟩ = some (.int .i64 l)

theorem FiveC.below {B n : Nat} {w w' : World} {k b x t l : Int} (h : FiveC B w k b x t l) (hb : Below n w w') (hB : B < n) : FiveC B w' k b x t l := by
  obtain ⟨c0, c1, c2, c3, c4⟩ := h
  exact ⟨(hb.cell (p := ⟨B, 0, none⟩) hB).trans c0, (hb.cell (p := ⟨B, 1, none⟩) hB).trans c1, (hb.cell (p := ⟨B, 2, none⟩) hB).trans c2, (hb.cell (p := ⟨B, 3, none⟩) hB).trans c3, (hb.cell (p := ⟨B, 4, none⟩) hB).trans c4⟩

/-- A place in memory: four cells. -/
def FourC (B : Nat) (w : World) (p0 p1 p2 p3 : Int) : Prop :=
  w.cell? ⟨B, 0, none⟩ = some (.int .i64 p0) ∧ w.cell? ⟨B, 1, none⟩ = some (.int .i64 p1) ∧ w.cell? ⟨B, 2, none⟩ = some (.int .i64 p2) ∧ w.cell? ⟨B, 3, none⟩ = some (.int .i64 p3)

theorem FourC.below {B n : Nat} {w w' : World} {p0 p1 p2 p3 : Int} (h : FourC B w p0 p1 p2 p3) (hb : Below n w w') (hB : B < n) : FourC B w' p0 p1 p2 p3 := by
  obtain ⟨c0, c1, c2, c3⟩ := h
  exact ⟨(hb.cell (p := ⟨B, 0, none⟩) hB).trans c0, (hb.cell (p := ⟨B, 1, none⟩) hB).trans c1, (hb.cell (p := ⟨B, 2, none⟩) hB).trans c2, (hb.cell (p := ⟨B, 3, none⟩) hB).trans c3⟩
end Go.Proofs.YtgaoeoijdpdjiabGreatDoor
