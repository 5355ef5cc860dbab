/-
  One round of a fold: paired. The fold of a leaf's ends. A block of memory and what it holds; the leaf and the nodes, as plain functions. A walk's stack: are its last two nodes twins?
-/
import Derived.Test.YtgaoeoijdpdjiaaGreatDoorPart4
import Derived.Test.YtgaoeoijdpdjiaaGreatDoorPart17
import Derived.Test.YtgaoeoijdpdjiaaGreatDoorPart3
import Derived.Test.YtgaoeoijdpdjiaaGreatDoorPart14
import Derived.Deep.QuietTactic
import Derived.BigQuiet
import Derived.WalkSmall
namespace Go.Proofs.YtgaoeoijdpdjiaaGreatDoor
open Go.RowKit Go.Shelf
attribute [local go_sem] Oper.semAt_some
/-- The value that the q-th pair becomes, as the j-th of the round. -/
def pv (k b : Int) (pub : ByteArray) (p0 p1 p2 r : Int) (xs : List ByteArray) (j q : Nat) : ByteArray :=
  if 2 * q + 1 < xs.length then pairS k b pub p0 p1 p2 r j (xs.getD (2 * q) ⟨#[]⟩) (xs.getD (2 * q + 1) ⟨#[]⟩) else xs.getD (2 * q) ⟨#[]⟩
def vals (k b : Int) (pub : ByteArray) (p0 p1 p2 r : Int) (xs : List ByteArray) (pre : List (Pr xs.length)) : List Value := pre.mapIdx (fun j q => Value.string (pv k b pub p0 p1 p2 r xs j q.1))
theorem vals_snoc (k b : Int) (pub : ByteArray) (p0 p1 p2 r : Int) (xs : List ByteArray) (pre : List (Pr xs.length)) (q : Pr xs.length) : vals k b pub p0 p1 p2 r xs (pre ++ [q]) = vals k b pub p0 p1 p2 r xs pre ++ [.string (pv k b pub p0 p1 p2 r xs pre.length q.1)] := by
  unfold vals; rw [List.mapIdx_concat]
/-- A round of a fold. -/
def roundS (k b : Int) (pub : ByteArray) (p0 p1 p2 r : Int) (xs : List ByteArray) : List ByteArray := (List.range ((xs.length + 1) / 2)).map (fun q => pv k b pub p0 p1 p2 r xs q q)
theorem vals_all (k b : Int) (pub : ByteArray) (p0 p1 p2 r : Int) (xs : List ByteArray) (pre : List (Pr xs.length)) (h : pre.map (·.1) = List.range ((xs.length + 1) / 2)) : vals k b pub p0 p1 p2 r xs pre = (roundS k b pub p0 p1 p2 r xs).map Value.string := by
  have hl : pre.length = (xs.length + 1) / 2 := by simpa using congrArg List.length h
  unfold vals roundS
  apply List.ext_getElem
  · simp [hl]
  · intro i h1 h2
    have hi : i < pre.length := by simpa using h1
    have e : (pre.map (·.1))[i]'(by simpa using hi) = (List.range ((xs.length + 1) / 2))[i]'(by simp; omega) := by congr 1
    simp at e
    simp [e]
theorem infoStr : (Tryz.prog.info? 9).map (fun i => (i.zero, i.size, i.bytes)) = some (some (.string ⟨#[]⟩), 1, 16) := by kernel_rfl
theorem owns_mono {w : World} {base base' : Nat} {e : TypeId} {size : Nat} {v : Value} {n : Nat} {xs : List Value} (h : w.ownsRow base e size v n xs) (hb : base' ≤ base) : w.ownsRow base' e size v n xs :=
  ⟨h.1, h.2.imp id (fun ⟨g, cap, cur, h1, h2, h3⟩ => ⟨g, cap, cur, h1, Nat.le_trans hb h2, h3⟩)⟩
theorem grown_of_below {W V : World} (h : Below W.heap.size W V) : W.grownBy V none := ⟨h.os, h.tape, h.output, h.size, fun k hk _ => h.block k hk⟩
theorem boxed_kp {Bs Bn : Nat} {W V : World} {t t' : TypeId} {v v' : Value} (h1 : Boxed W Bs t v) (h2 : Boxed W Bn t' v') (h3 : Boxed V Bs t v) (h4 : Boxed V Bn t' v') : KpC Bs Bn W V :=
  ⟨fun i => World.cell?_of_block (w := W) (w' := V) (a := ⟨Bs, i, none⟩) (by show V.heap[Bs]? = W.heap[Bs]?; rw [show V.heap[Bs]? = _ from h3, show W.heap[Bs]? = _ from h1]), fun i => World.cell?_of_block (w := W) (w' := V) (a := ⟨Bn, i, none⟩) (by show V.heap[Bn]? = W.heap[Bn]?; rw [show V.heap[Bn]? = _ from h4, show W.heap[Bn]? = _ from h2])⟩
set_option maxRecDepth 100000 in
set_option maxHeartbeats 8000000 in
theorem paired_any (k b x t l : Int) (seed : ByteArray) (p0 p1 p2 p3 r : Int) (bk o c : Nat) (xs : List ByteArray) (w : World) (hcells : ∀ (j : Nat) y, xs[j]? = some y → w.cell? ⟨bk, o + j, none⟩ = some (.string y)) (hbk : bk < w.heap.size) (hcap : xs.length ≤ c) (hN : xs.length ≤ 100)
    (hk : k = 1 ∨ k = 2) (h1 : 1 ≤ b) (h2 : b ≤ 16) (hs : seed.size ≤ 16) (hxs : ∀ y ∈ xs, y.size ≤ 16) (hT : Tn w) :
    Calls Tryz.prog 153 #[.agg #[.int .i64 k, .int .i64 b, .int .i64 x, .int .i64 t, .int .i64 l, .string seed, .int .i64 p0, .int .i64 p1, .int .i64 p2, .int .i64 p3], .int .i64 r, .slice (some ⟨bk, o, none⟩) xs.length c] w fun e w' => ∃ v, e = .returned v ∧ w'.ownsRow w.heap.size 9 1 v (roundS k b seed p0 p1 p2 r xs).length ((roundS k b seed p0 p1 p2 r xs).map Value.string) ∧ Below w.heap.size w w' := by
  obtain ⟨i0, hi, hz0, hz1, hz2⟩ := info_parts infoStr
  have HC := hide hcells
  have HT := hide hT
  have HX := hide hxs
  have HO1 := hide (fun V : World => one_any r V)
  have HOL := hide (fun (u : ByteArray) (m : Nat) (y0 y1 : ByteArray) (hu : y0.size ≤ 16 ∧ y1.size ≤ 16) (V : World) (hV : Tn V) => ofLeaf_any k b x t l 3 seed p0 p1 p2 p3 V.heap.size 0 4 [u, numB 1 m, y0, y1] (V.alloc (.cells #[.string u, .string (numB 1 m), .string y0, .string y1] 9)) (by
    intro j y hj
    match j, hj with
    | 0, hj => simp at hj; subst hj; simp [go_sem]
    | 1, hj => simp at hj; subst hj; simp [go_sem]
    | 2, hj => simp at hj; subst hj; simp [go_sem]
    | 3, hj => simp at hj; subst hj; simp [go_sem]) (by simp) (by simp) (by simp) hk h1 h2)
  clear hcells hT hxs
  refine (callsIn_wide (n := 6)).1 ?_
  refine callsIn_of_wp_marks Tryz.func153 rfl trivial ?_ rfl
  simp only [Tryz.ntmps153, List.size_toArray, List.length_cons, List.length_nil, Nat.reduceAdd, Nat.reduceSub, Array.replicate_succ, Array.replicate_zero, List.push_toArray, List.append_toArray, List.nil_append, List.cons_append]
  gi_wp2_with (refine ⟨trivial, ?_⟩; gi_at_call 232; refine (callsIn_wide.2 (chunk_any _ _ _ _)).mono ?_; rintro e w' ⟨rfl, rfl⟩)
  generalize hW2 : (w.alloc (.cells #[.int .i64 k, .int .i64 b, .int .i64 x, .int .i64 t, .int .i64 l, .string seed, .int .i64 p0, .int .i64 p1, .int .i64 p2, .int .i64 p3] 140)).alloc (.cells #[.int .i64 r] 3) = W2
  have hz : W2.heap.size = w.heap.size + 1 + 1 := by subst hW2; simp
  have HF := hide (show TenC w.heap.size W2 k b x t l seed p0 p1 p2 p3 by subst hW2; refine ⟨?_, ?_, ?_, ?_, ?_, ?_, ?_, ?_, ?_, ?_⟩ <;> simp [go_sem])
  have HR := hide (show W2.cell? ⟨w.heap.size + 1, 0, none⟩ = some (.int .i64 r) by subst hW2; simp [go_sem])
  have HB2 := hide (show Below w.heap.size w W2 by subst hW2; exact ((Below.refl _ _).alloc (Nat.le_refl _) _).alloc (by simp) _)
  clear hW2
  have bF0 := Boxed.new W2 50 (.slice none 0 0)
  have bS0 := Boxed.new (W2.alloc (.cells #[.slice none 0 0] 50)) 50 (.slice (some ⟨bk, o, none⟩) xs.length c)
  have bN0 := Boxed.new ((W2.alloc (.cells #[.slice none 0 0] 50)).alloc (.cells #[.slice (some ⟨bk, o, none⟩) xs.length c] 50)) 3 (.int .i64 2)
  simp only [World.size_alloc, hz] at bF0 bS0 bN0
  have hB5 : Below (w.heap.size + 1 + 1) W2 (((W2.alloc (.cells #[.slice none 0 0] 50)).alloc (.cells #[.slice (some ⟨bk, o, none⟩) xs.length c] 50)).alloc (.cells #[.int .i64 2] 3)) := ((((Below.refl _ _).alloc (by omega) _).alloc (by simp; omega) _).alloc (by simp; omega) _)
  have hz5 : (((W2.alloc (.cells #[.slice none 0 0] 50)).alloc (.cells #[.slice (some ⟨bk, o, none⟩) xs.length c] 50)).alloc (.cells #[.int .i64 2] 3)).heap.size = w.heap.size + 5 := by simp [hz]
  generalize hW5 : ((W2.alloc (.cells #[.slice none 0 0] 50)).alloc (.cells #[.slice (some ⟨bk, o, none⟩) xs.length c] 50)).alloc (.cells #[.int .i64 2] 3) = W5 at bN0 hB5 hz5 ⊢
  have bF : Boxed W5 (w.heap.size + 1 + 1) 50 (.slice none 0 0) := by rw [← hW5]; exact (bF0.alloc _).alloc _
  have bS : Boxed W5 (w.heap.size + 1 + 1 + 1) 50 (.slice (some ⟨bk, o, none⟩) xs.length c) := by rw [← hW5]; exact bS0.alloc _
  clear hW5 bF0 bS0
  refine wpIn_rangeFunc_ownG rfl (by omega) (gf := 275) (lb := #[.pointer (some ⟨w.heap.size + 1 + 1 + 1, 0, none⟩), .pointer (some ⟨w.heap.size + 1 + 1 + 1 + 1, 0, none⟩)]) rfl trivial (enters_of Tryz.func275 (by kernel_rfl) rfl)
    (chunk_stops (6 - 1) (by omega) (w.heap.size + 1 + 1 + 1) (w.heap.size + 1 + 1 + 1 + 1) bk o xs.length c (by omega) hcap W5 (by omega) (by omega) bS.cell bN0.cell)
    KpC.trans (fun V lv ov ov' hl h h' h'' => KpC.of_below (belowK_b (w := W5) (Nat.le_refl _) V lv ov ov' hl h h' h'') (by omega) (by omega)) (Below.refl _ _) (fun _ => rfl)
    (fun pre W => (∃ v, Boxed W (w.heap.size + 1 + 1) 50 v ∧ W.ownsRow (w.heap.size + 1 + 1) 9 1 v pre.length (vals k b seed p0 p1 p2 r xs pre) ∧ True) ∧ (Boxed W (w.heap.size + 1 + 1 + 1) 50 (.slice (some ⟨bk, o, none⟩) xs.length c) ∧ Boxed W (w.heap.size + 1 + 1 + 1 + 1) 3 (.int .i64 2)) ∧ Below (w.heap.size + 1 + 1) W2 W)
    (fun _ _ _ => False)
    (OwnFrom.and (Own.from (holdsRow_own (w.heap.size + 1 + 1) (w.heap.size + 1 + 1) 50 9 1 (fun pre => pre.length) (fun pre => vals k b seed p0 p1 p2 r xs pre) (fun _ _ => True)) _) (OwnFrom.and (OwnFrom.and (Own.from (boxed_own _ _ _) _) (Own.from (boxed_own _ _ _) _)) (ownFrom_below (by omega) (by omega))))
    (fun _ _ _ _ _ hs _ _ => hs)
    ⟨⟨_, bF, World.ownsRow_nil _ _ _ _, trivial⟩, ⟨bS, bN0⟩, hB5⟩
    (fun q => { tmps := #[.agg #[.int .i64 k, .int .i64 b, .int .i64 x, .int .i64 t, .int .i64 l, .string seed, .int .i64 p0, .int .i64 p1, .int .i64 p2, .int .i64 p3], .int .i64 r, .slice (some ⟨bk, o, none⟩) xs.length c, .pointer (some ⟨w.heap.size, 0, none⟩), .pointer (some ⟨w.heap.size + 1, 0, none⟩), undef, .slice none 0 0, .pointer (some ⟨w.heap.size + 1 + 1, 0, none⟩), pairV bk o xs.length q.1, undef, .slice (some ⟨bk, o, none⟩) xs.length c, .func (.func 275) #[] #[.pointer (some ⟨w.heap.size + 1 + 1 + 1, 0, none⟩), .pointer (some ⟨w.heap.size + 1 + 1 + 1 + 1, 0, none⟩)], pairV bk o xs.length q.1, undef, undef, undef, undef, undef, undef, undef, undef, undef, undef, undef, undef, undef, undef, undef, undef, undef, undef, undef, undef, undef, undef, undef, undef, undef], defers := [] }) ?assign ?body ?done ?stop
  case assign =>
    intro l x W K hK
    gi_wp2
    exact hK
  case body =>
    rintro lp pre ⟨q, hq⟩ W ⟨⟨v, hv, hrow, _⟩, ⟨hsb, hnb⟩, hB⟩ hlt
    obtain ⟨a, cap, rfl⟩ : ∃ a cap, v = .slice a pre.length cap := by
      rcases hrow.2 with ⟨rfl, h0⟩ | ⟨g, cap, cur, rfl, _⟩
      · exact ⟨none, 0, by rw [h0]⟩
      · exact ⟨_, cap, rfl⟩
    have hWz : w.heap.size + 1 + 1 ≤ W.heap.size := by have := hB.size; omega
    have HTW := hide ((HT.out.on HB2.out).below hB (by omega))
    obtain ⟨y0, hy0⟩ : ∃ y, xs[2 * q]? = some y := ⟨_, List.getElem?_eq_getElem hq⟩
    have g0 : xs.getD (2 * q) ⟨#[]⟩ = y0 := by simp [List.getD_eq_getElem?_getD, hy0]
    have z0 := HX.out y0 (List.mem_of_getElem? hy0)
    have c0 : W.cell? ⟨bk, o + 2 * q, none⟩ = some (.string y0) := (hB.cell (p := ⟨bk, o + 2 * q, none⟩) (by show bk < _; omega)).trans ((HB2.out.cell (p := ⟨bk, o + 2 * q, none⟩) hbk).trans (HC.out _ _ hy0))
    by_cases h2q : 2 * q + 1 < xs.length
    · obtain ⟨y1, hy1⟩ : ∃ y, xs[2 * q + 1]? = some y := ⟨_, List.getElem?_eq_getElem h2q⟩
      have g1 : xs.getD (2 * q + 1) ⟨#[]⟩ = y1 := by simp [List.getD_eq_getElem?_getD, hy1]
      have z1 := HX.out y1 (List.mem_of_getElem? hy1)
      have c1 : W.cell? ⟨bk, o + 2 * q + 1, none⟩ = some (.string y1) := (hB.cell (p := ⟨bk, o + 2 * q + 1, none⟩) (by show bk < _; omega)).trans ((HB2.out.cell (p := ⟨bk, o + 2 * q + 1, none⟩) hbk).trans (HC.out _ _ hy1))
      have HP := hide (show pv k b seed p0 p1 p2 r xs pre.length q = pairS k b seed p0 p1 p2 r pre.length y0 y1 by unfold pv; rw [if_pos h2q, g0, g1])
      have hpv : pairV bk o xs.length q = .slice (some ⟨bk, o + 2 * q, none⟩) 2 2 := by
        have : pl xs.length q = 2 := by unfold pl; omega
        unfold pairV; rw [this]
      have HO2 := hide (fun V : World => one_any (pre.length : Nat) V)
      have HS := hide (fun (V : World) (h : Below W.heap.size W V) => (by
        obtain ⟨d0, d1, d2, d3, d4, d5, d6, d7, d8, d9⟩ := (HF.out.below hB (by omega)).below h (by omega)
        exact ⟨d0, d1, d2, d3, d4, d5, d6, d7, d8, d9, (h.cell (p := ⟨w.heap.size + 1, 0, none⟩) (by show w.heap.size + 1 < _; omega)).trans ((hB.cell (p := ⟨w.heap.size + 1, 0, none⟩) (by show w.heap.size + 1 < _; omega)).trans HR.out), (h.cell (p := ⟨w.heap.size + 1 + 1, 0, none⟩) hv.lt).trans hv.cell, (h.cell (p := ⟨bk, o + 2 * q, none⟩) (by show bk < _; omega)).trans c0, (h.cell (p := ⟨bk, o + 2 * q + 1, none⟩) (by show bk < _; omega)).trans c1, h⟩ : (fun V => V.cell? ⟨w.heap.size, 0, none⟩ = some (.int .i64 k) ∧ V.cell? ⟨w.heap.size, 1, none⟩ = some (.int .i64 b) ∧ V.cell? ⟨w.heap.size, 2, none⟩ = some (.int .i64 x) ∧ V.cell? ⟨w.heap.size, 3, none⟩ = some (.int .i64 t) ∧ V.cell? ⟨w.heap.size, 4, none⟩ = some (.int .i64 l) ∧ V.cell? ⟨w.heap.size, 5, none⟩ = some (.string seed) ∧ V.cell? ⟨w.heap.size, 6, none⟩ = some (.int .i64 p0) ∧ V.cell? ⟨w.heap.size, 7, none⟩ = some (.int .i64 p1) ∧ V.cell? ⟨w.heap.size, 8, none⟩ = some (.int .i64 p2) ∧ V.cell? ⟨w.heap.size, 9, none⟩ = some (.int .i64 p3) ∧ V.cell? ⟨w.heap.size + 1, 0, none⟩ = some (.int .i64 r) ∧ V.cell? ⟨w.heap.size + 1 + 1, 0, none⟩ = some (.slice a pre.length cap) ∧ V.cell? ⟨bk, o + 2 * q, none⟩ = some (.string y0) ∧ V.cell? ⟨bk, o + 2 * q + 1, none⟩ = some (.string y1) ∧ Below W.heap.size W V) V))
      have HV := hide (fun (V : World) (h : Below W.heap.size W V) => HOL.out (numB 1 r) pre.length y0 y1 ⟨z0, z1⟩ V (HTW.out.on h) (by rw [cat_size]; simp [numB_size]; omega) ((HTW.out.on h).alloc _))
      simp only [cat, append_empty, List.length_cons, List.length_nil, Nat.reduceAdd] at HV
      dsimp only at HS
      rw [hpv]
      gi_wp2
      refine regionIn_held (S := fun V => V.cell? ⟨w.heap.size, 0, none⟩ = some (.int .i64 k) ∧ V.cell? ⟨w.heap.size, 1, none⟩ = some (.int .i64 b) ∧ V.cell? ⟨w.heap.size, 2, none⟩ = some (.int .i64 x) ∧ V.cell? ⟨w.heap.size, 3, none⟩ = some (.int .i64 t) ∧ V.cell? ⟨w.heap.size, 4, none⟩ = some (.int .i64 l) ∧ V.cell? ⟨w.heap.size, 5, none⟩ = some (.string seed) ∧ V.cell? ⟨w.heap.size, 6, none⟩ = some (.int .i64 p0) ∧ V.cell? ⟨w.heap.size, 7, none⟩ = some (.int .i64 p1) ∧ V.cell? ⟨w.heap.size, 8, none⟩ = some (.int .i64 p2) ∧ V.cell? ⟨w.heap.size, 9, none⟩ = some (.int .i64 p3) ∧ V.cell? ⟨w.heap.size + 1, 0, none⟩ = some (.int .i64 r) ∧ V.cell? ⟨w.heap.size + 1 + 1, 0, none⟩ = some (.slice a pre.length cap) ∧ V.cell? ⟨bk, o + 2 * q, none⟩ = some (.string y0) ∧ V.cell? ⟨bk, o + 2 * q + 1, none⟩ = some (.string y1) ∧ Below W.heap.size W V) (by kernel_rfl) (by simp) (by rintro ⟨_, _, h⟩; exact h) (HS.out _ (Below.refl _ _).drew) (fun hHeld => ?_)
      refine tk 0 hHeld (h := ?_)
      refine tk 1 hHeld (h := ?_)
      refine tk 3 hHeld (h := ?_)
      refine tk 4 hHeld (h := ?_)
      refine tk 6 hHeld (h := ?_)
      refine tk 7 hHeld (h := ?_)
      refine tk 8 hHeld (h := ?_)
      refine tk 9 hHeld (h := ?_)
      refine tk 10 hHeld (h := ?_)
      refine tk 11 hHeld (h := ?_)
      refine wpAnyH_ready (rs := [2]) (by kernel_rfl) (by simp) ?_
      refine AllReadyH.cons (o := ?o2) ?ho2 (fun K hK => ?hs2) AllReadyH.nil
      case ho2 => (simp only [List.getElem?_toArray, List.getElem?_cons_succ, List.getElem?_cons_zero]; rfl)
      go_simp
      refine (HO1.out _).mono ?_
      rintro e w1 ⟨rfl, hb1⟩
      have hS1 := heldB (Below.refl W.heap.size W).drew hb1 (Nat.le_refl _)
      try go_wp2_with fail
      refine hK.out _ _ (HS.out _ (hS1)) (fun hHeld => ?_)
      clear hK K
      try simp only [Act.put, List.setIfInBounds_toArray, List.set_cons_zero, List.set_cons_succ]
      refine wpAnyH_ready (rs := [5]) (by kernel_rfl) (by simp) ?_
      refine AllReadyH.cons (o := ?o5) ?ho5 (fun K hK => ?hs5) AllReadyH.nil
      case ho5 => (simp only [List.getElem?_toArray, List.getElem?_cons_succ, List.getElem?_cons_zero]; rfl)
      go_simp
      refine (HO2.out _).mono ?_
      rintro e w2 ⟨rfl, hb2⟩
      have hS2 := heldB hS1 hb2 (Nat.le_refl _)
      try go_wp2_with fail
      refine hK.out _ _ (HS.out _ (hS2)) (fun hHeld => ?_)
      clear hK K
      try simp only [Act.put, List.setIfInBounds_toArray, List.set_cons_zero, List.set_cons_succ]
      refine wpAnyH_ready (rs := [12]) (by kernel_rfl) (by simp) ?_
      refine AllReadyH.cons (o := ?o12) ?ho12 (fun K hK => ?hs12) AllReadyH.nil
      case ho12 => (simp only [List.getElem?_toArray, List.getElem?_cons_succ, List.getElem?_cons_zero]; rfl)
      go_simp
      refine hK.out _ _ (HS.out _ (hS2.alloc hS2.size _)) (fun hHeld => ?_)
      clear hK K
      try simp only [Act.put, List.setIfInBounds_toArray, List.set_cons_zero, List.set_cons_succ]
      refine wpAnyH_ready (rs := [13]) (by kernel_rfl) (by simp) ?_
      refine AllReadyH.cons (o := ?o13) ?ho13 (fun K hK => ?hs13) AllReadyH.nil
      case ho13 => (simp only [List.getElem?_toArray, List.getElem?_cons_succ, List.getElem?_cons_zero]; rfl)
      go_simp
      refine (HV.out _ hS2).mono ?_
      rintro e w4 ⟨rfl, hb4⟩
      have hS4 := heldB (hS2.alloc hS2.size _) hb4 (Nat.le_refl _)
      try go_wp2_with fail
      refine hK.out _ _ (HS.out _ (hS4)) (fun hHeld => ?_)
      clear hK K
      try simp only [Act.put, List.setIfInBounds_toArray, List.set_cons_zero, List.set_cons_succ]
      refine tk 14 hHeld (h := ?_)
      refine wpAnyH_done (by kernel_rfl) ?_ _
      have hg4 := grown_of_below hS4
      have hB4 : Below (w.heap.size + 1 + 1) W2 w4 := hB.trans (hS4.mono hWz)
      have hv4 := hv.kept hg4 (by simp)
      have hrow4 := hrow.kept hg4 (by cases Value.ownBlock _ with | none => exact .inl rfl | some _ => exact .inr (by simp))
      have hsb4 := hsb.kept hg4 (by simp)
      have hnb4 := hnb.kept hg4 (by simp)
      have hko4 : KeepsOthers W w4 := KeepsOthers.of_grownBy hg4 (fun j o e _ => by cases e)
      have hc4 := hv4.cell
      have hz4 : w.heap.size + 1 + 1 ≤ w4.heap.size := by have := (hg4).size; omega
      gi_wp2_with (gi_at_builtin; refine wpListIn_append_own _ rfl _ _ 50 rfl (w.heap.size + 1 + 1) 9 i0 (.string ⟨#[]⟩) 1 16 Tryz.underlying50 hi hz0 hz1 hz2 rfl (by decide) _ _ _ rfl (hrow4.alloc _) ⟨w4.heap.size, 0, none⟩ 1 1 [.string (pairS k b seed p0 p1 p2 r pre.length y0 y1)] rfl rfl (cell_one_new _ _ _) (by simp [Value.oneCell']) (by unfold maxLen; omega) (by omega) (by simp; omega) ?_; intro v' w5 hown' hgrow _; obtain ⟨g', cap', rfl⟩ := ownsRow_succ hown'; obtain ⟨hv1, hv2, hr2, hk2, hb2⟩ := hv4.appended (by decide) hrow4 hz4 (Nat.le_refl _) hown' hgrow; have hs5 := (hsb4.alloc _).kept hgrow (hsb4.not_row (by decide) hrow4); have hn5 := (hnb4.alloc _).kept hgrow (hnb4.not_row (by decide) hrow4); have hc1 := hv1.cell; have hf1 := hv1.frozen)
      have hs6 := hs5.kept (grownBy_setCell' w5 (w.heap.size + 1 + 1) (.slice (some ⟨g', 0, none⟩) (pre.length + 1) cap')) (by simp)
      have hn6 := hn5.kept (grownBy_setCell' w5 (w.heap.size + 1 + 1) (.slice (some ⟨g', 0, none⟩) (pre.length + 1) cap')) (by simp; omega)
      exact ⟨(hko4.trans hk2).from _, boxed_kp hsb hnb hs6 hn6, ⟨_, hv2, by rw [vals_snoc, HP.out]; simpa using hr2, trivial⟩, ⟨hs6, hn6⟩, hB4.trans hb2⟩
    · have HP := hide (show pv k b seed p0 p1 p2 r xs pre.length q = y0 by unfold pv; rw [if_neg h2q, g0])
      have hpv : pairV bk o xs.length q = .slice (some ⟨bk, o + 2 * q, none⟩) 1 1 := by
        have : pl xs.length q = 1 := by unfold pl; omega
        unfold pairV; rw [this]
      have hg4 : W.grownBy W none := grown_of_below (Below.refl _ _)
      have hB4 := hB
      rw [hpv]
      have hv4 := hv.kept hg4 (by simp)
      have hrow4 := hrow.kept hg4 (by cases Value.ownBlock _ with | none => exact .inl rfl | some _ => exact .inr (by simp))
      have hsb4 := hsb.kept hg4 (by simp)
      have hnb4 := hnb.kept hg4 (by simp)
      have hko4 : KeepsOthers W W := KeepsOthers.of_grownBy hg4 (fun j o e _ => by cases e)
      have hc4 := hv4.cell
      have hz4 : w.heap.size + 1 + 1 ≤ W.heap.size := by have := (hg4).size; omega
      gi_wp2_with (gi_at_builtin; refine wpListIn_append_own _ rfl _ _ 50 rfl (w.heap.size + 1 + 1) 9 i0 (.string ⟨#[]⟩) 1 16 Tryz.underlying50 hi hz0 hz1 hz2 rfl (by decide) _ _ _ rfl (hrow4.alloc _) ⟨W.heap.size, 0, none⟩ 1 1 [.string y0] rfl rfl (cell_one_new _ _ _) (by simp [Value.oneCell']) (by unfold maxLen; omega) (by omega) (by simp; omega) ?_; intro v' w5 hown' hgrow _; obtain ⟨g', cap', rfl⟩ := ownsRow_succ hown'; obtain ⟨hv1, hv2, hr2, hk2, hb2⟩ := hv4.appended (by decide) hrow4 hz4 (Nat.le_refl _) hown' hgrow; have hs5 := (hsb4.alloc _).kept hgrow (hsb4.not_row (by decide) hrow4); have hn5 := (hnb4.alloc _).kept hgrow (hnb4.not_row (by decide) hrow4); have hc1 := hv1.cell; have hf1 := hv1.frozen)
      have hs6 := hs5.kept (grownBy_setCell' w5 (w.heap.size + 1 + 1) (.slice (some ⟨g', 0, none⟩) (pre.length + 1) cap')) (by simp)
      have hn6 := hn5.kept (grownBy_setCell' w5 (w.heap.size + 1 + 1) (.slice (some ⟨g', 0, none⟩) (pre.length + 1) cap')) (by simp; omega)
      exact ⟨(hko4.trans hk2).from _, boxed_kp hsb hnb hs6 hn6, ⟨_, hv2, by rw [vals_snoc, HP.out]; simpa using hr2, trivial⟩, ⟨hs6, hn6⟩, hB4.trans hb2⟩
  case done =>
    rintro D ys W hD hys ⟨⟨v, hv, hrow, _⟩, _, hB⟩ hK
    have hc := hv.cell
    gi_wp2
    refine ⟨by simp, .inl ⟨_, _, rfl, run_takeDeferred hK, ?_⟩⟩
    refine ⟨_, results_tmp rfl _ _ _, v, rfl, ?_, ?_⟩
    · have h := owns_mono (ownsRow_putObj hrow (.deferred none) hK rfl) (show w.heap.size ≤ w.heap.size + 1 + 1 by omega)
      rw [vals_all _ _ _ _ _ _ _ _ _ hys, show ys.length = (roundS k b seed p0 p1 p2 r xs).length by have := congrArg List.length hys; simp at this; simp [roundS, this]] at h
      exact h
    · exact HB2.out.trans ((hB.mono (by omega)).trans (belowK_b (w := w) (Nat.le_refl _) W D _ _ (by omega) hK rfl rfl))
  case stop =>
    rintro D c pre W _ _ h _
    exact h.elim
end Go.Proofs.YtgaoeoijdpdjiaaGreatDoor

namespace Go.Proofs.YtgaoeoijdpdjiaaGreatDoor
open Go.RowKit
/-- The document's fold, with as many rounds as are allowed. -/
def foldS (k b : Int) (pub : ByteArray) (p0 p1 p2 : Int) : Nat → Int → List ByteArray → ByteArray
  | 0, _, xs => xs.headD ⟨#[]⟩
  | f + 1, r, xs => if xs.length ≤ 1 then xs.headD ⟨#[]⟩ else foldS k b pub p0 p1 p2 f (r + 1) (roundS k b pub p0 p1 p2 r xs)
theorem foldS_stop (k b : Int) (pub : ByteArray) (p0 p1 p2 : Int) (f : Nat) (r : Int) (xs : List ByteArray) (h : xs.length ≤ 1) : foldS k b pub p0 p1 p2 f r xs = xs.headD ⟨#[]⟩ := by
  cases f with
  | zero => rfl
  | succ f => rw [foldS, if_pos h]
theorem roundS_length (k b : Int) (pub : ByteArray) (p0 p1 p2 r : Int) (xs : List ByteArray) : (roundS k b pub p0 p1 p2 r xs).length = (xs.length + 1) / 2 := by simp [roundS]
theorem roundS_size (k b : Int) (pub : ByteArray) (p0 p1 p2 r : Int) (xs : List ByteArray) (hk : k = 1 ∨ k = 2) (h1 : 1 ≤ b) (h2 : b ≤ 16) (hp : pub.size ≤ 16) (hx : ∀ y ∈ xs, (y.size : Int) = b) : ∀ y ∈ roundS k b pub p0 p1 p2 r xs, (y.size : Int) = b := by
  intro y hy
  simp only [roundS, List.mem_map, List.mem_range] at hy
  obtain ⟨q, hq, rfl⟩ := hy
  have hg : ∀ i, i < xs.length → ((xs.getD i ⟨#[]⟩).size : Int) = b := by
    intro i hi
    rw [List.getD_eq_getElem?_getD, List.getElem?_eq_getElem hi]
    exact hx _ (List.getElem_mem hi)
  unfold pv
  split
  · rename_i h
    have e0 := hg (2 * q) (by omega)
    have e1 := hg (2 * q + 1) h
    exact pairS_size k b pub p0 p1 p2 r _ _ _ hk h1 h2 hp (by omega) (by omega)
  · exact hg (2 * q) (by omega)
theorem owns_strs {V : World} {base : Nat} {v : Value} {ys : List ByteArray} (h : V.ownsRow base 9 1 v ys.length (ys.map Value.string)) (hn : 1 ≤ ys.length) :
    ∃ g c, v = .slice (some ⟨g, 0, none⟩) ys.length c ∧ ys.length ≤ c ∧ base ≤ g ∧ g < V.heap.size ∧ ∀ (j : Nat) y, ys[j]? = some y → V.cell? ⟨g, 0 + j, none⟩ = some (.string y) := by
  rcases h.2 with ⟨_, h0⟩ | ⟨g, cap, cur, hv, hg, hh, hc, hm, hs, ht⟩
  · omega
  · refine ⟨g, cap, hv, hc, hg, lt_of_block hh, ?_⟩
    intro j y hj
    have hjl : j < ys.length := (List.getElem?_eq_some_iff.1 hj).1
    have e : (cur.toList.take (ys.length * 1))[j]? = (ys.map Value.string)[j]? := by rw [ht]
    rw [List.getElem?_take_of_lt (by omega), List.getElem?_map, hj] at e
    simp only [World.cell?, hh]
    simpa using e
set_option maxRecDepth 20000 in
set_option maxHeartbeats 4000000 in
theorem sfold_any (k b x t l : Int) (seed : ByteArray) (p0 p1 p2 p3 : Int) (bk o c : Nat) (xs : List ByteArray) (w : World) (hcells : ∀ (j : Nat) y, xs[j]? = some y → w.cell? ⟨bk, o + j, none⟩ = some (.string y)) (hbk : bk < w.heap.size) (hcap : xs.length ≤ c) (hN : xs.length ≤ 64) (hN1 : 1 ≤ xs.length)
    (hk : k = 1 ∨ k = 2) (h1 : 1 ≤ b) (h2 : b ≤ 16) (hs : seed.size ≤ 16) (hxs : ∀ y ∈ xs, (y.size : Int) = b) (hT : Tn w) :
    Calls Tryz.prog 75 #[.agg #[.int .i64 k, .int .i64 b, .int .i64 x, .int .i64 t, .int .i64 l, .string seed, .int .i64 p0, .int .i64 p1, .int .i64 p2, .int .i64 p3], .slice (some ⟨bk, o, none⟩) xs.length c] w fun e w' => e = .returned (.string (foldS k b seed p0 p1 p2 6 0 xs)) ∧ Below w.heap.size w w' := by
  obtain ⟨W0, hW⟩ : ∃ W0, w.alloc (.cells #[.int .i64 k, .int .i64 b, .int .i64 x, .int .i64 t, .int .i64 l, .string seed, .int .i64 p0, .int .i64 p1, .int .i64 p2, .int .i64 p3] 140) = W0 := ⟨_, rfl⟩
  have HF := hide (show TenC w.heap.size W0 k b x t l seed p0 p1 p2 p3 by subst hW; refine ⟨?_, ?_, ?_, ?_, ?_, ?_, ?_, ?_, ?_, ?_⟩ <;> simp [go_sem])
  have HB := hide (show Below w.heap.size w W0 by subst hW; exact (Below.refl _ _).alloc (Nat.le_refl _) _)
  have hz : W0.heap.size = w.heap.size + 1 := by subst hW; simp
  have HT := hide (hT.on HB.out)
  have HS := hide (fun (V : World) (h : Below W0.heap.size W0 V) => (by
    obtain ⟨c0, c1, c2, c3, c4, c5, c6, c7, c8, c9⟩ := HF.out.below h (by omega)
    exact ⟨c0, c1, c2, c3, c4, c5, c6, c7, c8, c9, h⟩ : V.cell? ⟨w.heap.size, 0, none⟩ = some (.int .i64 k) ∧ V.cell? ⟨w.heap.size, 1, none⟩ = some (.int .i64 b) ∧ V.cell? ⟨w.heap.size, 2, none⟩ = some (.int .i64 x) ∧ V.cell? ⟨w.heap.size, 3, none⟩ = some (.int .i64 t) ∧ V.cell? ⟨w.heap.size, 4, none⟩ = some (.int .i64 l) ∧ V.cell? ⟨w.heap.size, 5, none⟩ = some (.string seed) ∧ V.cell? ⟨w.heap.size, 6, none⟩ = some (.int .i64 p0) ∧ V.cell? ⟨w.heap.size, 7, none⟩ = some (.int .i64 p1) ∧ V.cell? ⟨w.heap.size, 8, none⟩ = some (.int .i64 p2) ∧ V.cell? ⟨w.heap.size, 9, none⟩ = some (.int .i64 p3) ∧ Below W0.heap.size W0 V))
  have HP := hide (fun (r : Int) (bk o c : Nat) (ys : List ByteArray) (V : World) (hb : Below W0.heap.size W0 V) (hc : ∀ (j : Nat) y, ys[j]? = some y → V.cell? ⟨bk, o + j, none⟩ = some (.string y)) (hbk : bk < V.heap.size) (hcap : ys.length ≤ c) (hN : ys.length ≤ 64) (hy : ∀ y ∈ ys, (y.size : Int) = b) => paired_any k b x t l seed p0 p1 p2 p3 r bk o c ys V hc hbk hcap (by omega) hk h1 h2 hs (fun y h => by have := hy y h; omega) (HT.out.on hb))
  have HRS := hide (fun (r : Int) (ys : List ByteArray) (hy : ∀ y ∈ ys, (y.size : Int) = b) => roundS_size k b seed p0 p1 p2 r ys hk h1 h2 hs hy)
  have HC0 := hide (fun (j : Nat) (y : ByteArray) (hj : xs[j]? = some y) => (HB.out.cell (p := ⟨bk, o + j, none⟩) hbk).trans (hcells j y hj))
  have HX := hide hxs
  clear hT hcells hxs
  go_enter Tryz.func75, Tryz.ntmps75
  go_wp2_with fail
  try rw [hW]
  clear hW
  go_loopw [5, 6] (fun v i wr => ∃ (j : Nat) (g q c' : Nat) (ys : List ByteArray), j ≤ 6 ∧ i = .int .i64 j ∧ v = .slice (some ⟨g, q, none⟩) ys.length c' ∧ ys.length ≤ c' ∧ 1 ≤ ys.length ∧ ys.length ≤ 64 ∧ g < wr.heap.size ∧ Hid (ys.length ≤ 2 ^ (6 - j) ∧ foldS k b seed p0 p1 p2 6 0 xs = foldS k b seed p0 p1 p2 (6 - j) j ys) ∧ Hid (∀ y ∈ ys, (y.size : Int) = b) ∧ Hid (∀ (m : Nat) y, ys[m]? = some y → wr.cell? ⟨g, q + m, none⟩ = some (.string y)) ∧ Hid (Below W0.heap.size W0 wr)) (fun _ i _ => 7 - (intOf i).toNat)
  case atStart => exact ⟨0, bk, o, c, xs, by omega, rfl, rfl, hcap, hN1, hN, by omega, ⟨by simpa using hN, rfl⟩, HX.out, HC0.out, Below.refl _ _⟩
  case round =>
    obtain ⟨j, g, q, c', ys, hj, rfl, rfl, hc', hy1, hy64, hg, hfo, hys, hce, hb⟩ := hrel
    by_cases hlt : 1 < ys.length
    · have hj6 : j < 6 := by
        rcases Nat.lt_or_ge j 6 with h | h
        · exact h
        · have := hfo.out.1
          rw [show 6 - j = 0 by omega] at this
          simp at this; omega
      have HPJ := hide (HP.out j g q c' ys wr hb.out hce.out hg hc' hy64 hys.out)
      obtain ⟨d0, d1, d2, d3, d4, d5, d6, d7, d8, d9, _⟩ := HS.out wr hb.out
      go_wp2_with fail
      refine HPJ.out.mono ?_
      rintro e w1 ⟨v, rfl, hrow, hb1⟩
      have hl : (roundS k b seed p0 p1 p2 j ys).length = (ys.length + 1) / 2 := roundS_length _ _ _ _ _ _ _ _
      obtain ⟨g', cap', rfl, hcc, hg1, hg2, hce'⟩ := owns_strs hrow (by omega)
      have HB1 := hide (heldB hb.out hb1 (Nat.le_refl _))
      have HCE := hide hce'
      have HYS := hide (HRS.out j ys hys.out)
      have HFO : Hid ((roundS k b seed p0 p1 p2 j ys).length ≤ 2 ^ (6 - (j + 1)) ∧ foldS k b seed p0 p1 p2 6 0 xs = foldS k b seed p0 p1 p2 (6 - (j + 1)) (j + 1) (roundS k b seed p0 p1 p2 j ys)) := by
        refine ⟨?_, ?_⟩
        · have := hfo.out.1
          rw [show 6 - j = (6 - (j + 1)) + 1 by omega, Nat.pow_succ] at this
          omega
        · rw [hfo.out.2, show 6 - j = (6 - (j + 1)) + 1 by omega, foldS, if_neg (by omega)]
      have hl1 : (roundS k b seed p0 p1 p2 j ys).length ≤ 64 := by omega
      have hl2 : 1 ≤ (roundS k b seed p0 p1 p2 j ys).length := by omega
      clear hl hrow hb1 hce' hfo hys hce HPJ d0 d1 d2 d3 d4 d5 d6 d7 d8 d9
      generalize roundS k b seed p0 p1 p2 j ys = zs at HFO HYS HCE hl1 hl2 hcc ⊢
      go_wp2
      go_roundw
      case rel =>
        have R : ∃ (j' : Nat) (g2 q2 c2 : Nat) (ys : List ByteArray), j' ≤ 6 ∧ Value.int .i64 ((j : Int) + 1) = .int .i64 j' ∧ Value.slice (some ⟨g', 0, none⟩) zs.length cap' = .slice (some ⟨g2, q2, none⟩) ys.length c2 ∧ ys.length ≤ c2 ∧ 1 ≤ ys.length ∧ ys.length ≤ 64 ∧ g2 < w1.heap.size ∧ Hid (ys.length ≤ 2 ^ (6 - j') ∧ foldS k b seed p0 p1 p2 6 0 xs = foldS k b seed p0 p1 p2 (6 - j') j' ys) ∧ Hid (∀ y ∈ ys, (y.size : Int) = b) ∧ Hid (∀ (m : Nat) y, ys[m]? = some y → w1.cell? ⟨g2, q2 + m, none⟩ = some (.string y)) ∧ Hid (Below W0.heap.size W0 w1) :=
          ⟨j + 1, g', 0, cap', zs, by omega, by go_num, rfl, hcc, by omega, by omega, hg2, by have h := HFO.out; exact ⟨h.1, by rw [h.2]; rfl⟩, HYS.out, HCE.out, HB1.out⟩
        first | exact R | ((repeat apply Exists.intro); exact ⟨R, rfl⟩)
      case measure => simp [intOf]; omega
    · have hy0 : ys.length = 1 := by omega
      obtain ⟨y, rfl⟩ : ∃ y, ys = [y] := List.length_eq_one_iff.1 hy0
      have c0 := hce.out 0 y rfl
      have HR := hide (foldS_stop k b seed p0 p1 p2 (6 - j) j [y] (by simp))
      simp only [List.length_cons, List.length_nil, Nat.reduceAdd, Nat.add_zero] at c0 ⊢
      go_wp2
      go_ret
      exact ⟨by rw [hfo.out.2, HR.out]; rfl, HB.out.trans (hb.out.mono (by omega))⟩
end Go.Proofs.YtgaoeoijdpdjiaaGreatDoor

namespace Go.Proofs.YtgaoeoijdpdjiaaGreatDoor
open Go.RowKit
/-- Block g holds these values, and may be written. -/
def Blk (w : World) (g : Nat) (vs : List Value) (T : TypeId) : Prop := w.heap[g]? = some (.cells vs.toArray T (0, 0))
theorem Blk.lt {w : World} {g : Nat} {vs : List Value} {T : TypeId} (h : Blk w g vs T) : g < w.heap.size := lt_of_block h
theorem Blk.cell {w : World} {g : Nat} {vs : List Value} {T : TypeId} (h : Blk w g vs T) (i : Nat) : w.cell? ⟨g, i, none⟩ = vs[i]? := by
  unfold Blk at h
  simp [World.cell?, h]
theorem Blk.free {w : World} {g : Nat} {vs : List Value} {T : TypeId} (h : Blk w g vs T) (i : Nat) : w.frozen? ⟨g, i, none⟩ = false := by
  unfold Blk at h
  simp [World.frozen?, h]
theorem Blk.set {w : World} {g : Nat} {vs : List Value} {T : TypeId} (h : Blk w g vs T) (i : Nat) (u : Value) : Blk (w.setCell ⟨g, i, none⟩ u) g (vs.set i u) T := by
  have hlt := h.lt
  unfold Blk at h ⊢
  have h' : w.heap[g] = .cells vs.toArray T (0, 0) := by simpa [Array.getElem?_eq_getElem hlt] using h
  show (w.heap.modify g _)[g]? = _
  rw [Array.getElem?_eq_getElem (by simpa using hlt), Array.getElem_modify_self, h']
  simp
theorem Blk.below {w w' : World} {g B : Nat} {vs : List Value} {T : TypeId} (h : Blk w g vs T) (hb : Below B w w') (hg : g < B) : Blk w' g vs T := by
  unfold Blk at h ⊢
  rw [hb.block g hg]; exact h
theorem Blk.on {w w' : World} {g : Nat} {vs : List Value} {T : TypeId} (h : Blk w g vs T) (hb : Below w.heap.size w w') : Blk w' g vs T := h.below hb h.lt
theorem Blk.other {w : World} {g : Nat} {vs : List Value} {T : TypeId} (h : Blk w g vs T) {a : Addr} (u : Value) (hne : g ≠ a.block) : Blk (w.setCell a u) g vs T := by
  unfold Blk at h ⊢
  rw [Below.heap_setCell _ _ _ _ hne]; exact h
theorem Blk.new (w : World) (vs : List Value) (T : TypeId) : Blk (w.alloc (.cells vs.toArray T)) w.heap.size vs T := World.alloc_heap_new w _
theorem Blk.alloc {w : World} {g : Nat} {vs : List Value} {T : TypeId} (h : Blk w g vs T) (o : Obj) : Blk (w.alloc o) g vs T := h.on ((Below.refl _ _).alloc (Nat.le_refl _) o)
/-- The end of the i-th chain of a leaf. -/
def endS (k b : Int) (wd : Nat) (sec pub : ByteArray) (p0 p1 F : Int) (i : Nat) : ByteArray := chainS k b pub p0 p1 F i 0 wd (startS k b sec p0 p1 F i)
def endsS (k b : Int) (wd : Nat) (sec pub : ByteArray) (p0 p1 F : Int) (n : Nat) : List ByteArray := (List.range n).map (endS k b wd sec pub p0 p1 F)
theorem endsS_succ (k b : Int) (wd : Nat) (sec pub : ByteArray) (p0 p1 F : Int) (n : Nat) : endsS k b wd sec pub p0 p1 F (n + 1) = endsS k b wd sec pub p0 p1 F n ++ [endS k b wd sec pub p0 p1 F n] := by simp [endsS, List.range_succ]
theorem endsS_length (k b : Int) (wd : Nat) (sec pub : ByteArray) (p0 p1 F : Int) (n : Nat) : (endsS k b wd sec pub p0 p1 F n).length = n := by simp [endsS]
theorem endS_size (k b : Int) (wd : Nat) (sec pub : ByteArray) (p0 p1 F : Int) (i : Nat) (hk : k = 1 ∨ k = 2) (h1 : 1 ≤ b) (h2 : b ≤ 16) (hs : sec.size ≤ 16) (hp : pub.size ≤ 16) : ((endS k b wd sec pub p0 p1 F i).size : Int) = b :=
  chainS_size k b pub p0 p1 F i 0 wd _ hk h1 h2 hp (startS_size k b sec p0 p1 F i hk h1 h2 hs)
theorem endsS_size (k b : Int) (wd : Nat) (sec pub : ByteArray) (p0 p1 F : Int) (n : Nat) (hk : k = 1 ∨ k = 2) (h1 : 1 ≤ b) (h2 : b ≤ 16) (hs : sec.size ≤ 16) (hp : pub.size ≤ 16) : ∀ y ∈ endsS k b wd sec pub p0 p1 F n, (y.size : Int) = b := by
  intro y hy
  simp only [endsS, List.mem_map, List.mem_range] at hy
  obtain ⟨i, _, rfl⟩ := hy
  exact endS_size k b wd sec pub p0 p1 F i hk h1 h2 hs hp
/-- A leaf, and the nodes above. -/
def leafS (k b : Int) (wd ch : Nat) (sec pub : ByteArray) (p0 p1 F : Int) : ByteArray := foldS k b pub p0 p1 F 6 0 (endsS k b wd sec pub p0 p1 F ch)
def nodeS (k b : Int) (wd ch : Nat) (sec pub : ByteArray) (p0 p1 : Int) : Nat → Nat → ByteArray
  | 0, j => leafS k b wd ch sec pub p0 p1 j
  | h + 1, j => joinS k b pub p0 p1 (h + 1 : Nat) j (nodeS k b wd ch sec pub p0 p1 h (2 * j)) (nodeS k b wd ch sec pub p0 p1 h (2 * j + 1))
theorem foldS_size (k b : Int) (pub : ByteArray) (p0 p1 p2 : Int) (hk : k = 1 ∨ k = 2) (h1 : 1 ≤ b) (h2 : b ≤ 16) (hp : pub.size ≤ 16) : ∀ (f : Nat) (r : Int) (xs : List ByteArray), 1 ≤ xs.length → (∀ y ∈ xs, (y.size : Int) = b) → ((foldS k b pub p0 p1 p2 f r xs).size : Int) = b := by
  intro f
  induction f with
  | zero =>
    intro r xs hl hx
    obtain ⟨y, ys, rfl⟩ := List.exists_cons_of_length_pos (show 0 < xs.length by omega)
    exact hx y (by simp)
  | succ f ih =>
    intro r xs hl hx
    rw [foldS]
    split
    · obtain ⟨y, ys, rfl⟩ := List.exists_cons_of_length_pos (show 0 < xs.length by omega)
      exact hx y (by simp)
    · exact ih _ _ (by rw [roundS_length]; omega) (roundS_size k b pub p0 p1 p2 r xs hk h1 h2 hp hx)
theorem leafS_size (k b : Int) (wd ch : Nat) (sec pub : ByteArray) (p0 p1 F : Int) (hk : k = 1 ∨ k = 2) (h1 : 1 ≤ b) (h2 : b ≤ 16) (hs : sec.size ≤ 16) (hp : pub.size ≤ 16) (hc : 1 ≤ ch) : ((leafS k b wd ch sec pub p0 p1 F).size : Int) = b :=
  foldS_size k b pub p0 p1 F hk h1 h2 hp 6 0 _ (by rw [endsS_length]; exact hc) (endsS_size k b wd sec pub p0 p1 F ch hk h1 h2 hs hp)
theorem nodeS_size (k b : Int) (wd ch : Nat) (sec pub : ByteArray) (p0 p1 : Int) (hk : k = 1 ∨ k = 2) (h1 : 1 ≤ b) (h2 : b ≤ 16) (hs : sec.size ≤ 16) (hp : pub.size ≤ 16) (hc : 1 ≤ ch) : ∀ h j, ((nodeS k b wd ch sec pub p0 p1 h j).size : Int) = b := by
  intro h
  induction h with
  | zero => intro j; exact leafS_size k b wd ch sec pub p0 p1 j hk h1 h2 hs hp hc
  | succ h ih =>
    intro j
    have e0 := ih (2 * j)
    have e1 := ih (2 * j + 1)
    exact joinS_size k b pub p0 p1 _ _ _ _ hk h1 h2 hp (by omega) (by omega)
end Go.Proofs.YtgaoeoijdpdjiaaGreatDoor

namespace Go.Proofs.YtgaoeoijdpdjiaaGreatDoor
open Go.RowKit
abbrev Nd : Type := Nat × Nat × ByteArray
def nodV (p : Nd) : List Value := [.int .i64 (p.1 : Int), .int .i64 (p.2.1 : Int), .string p.2.2]
def nodC (ns : List Nd) : List Value := ns.flatMap nodV
theorem nodC_length (ns : List Nd) : (nodC ns).length = ns.length * 3 := flat_length nodV 3 ns (fun _ _ => rfl)
theorem nodC_get {ns : List Nd} {j : Nat} {p : Nd} (h : ns[j]? = some p) (i : Nat) (hi : i < 3) : (nodC ns)[j * 3 + i]? = (nodV p)[i]? := flat_get nodV 3 ns j p i (fun _ _ => rfl) h hi
theorem nodC_snoc (ns : List Nd) (p : Nd) : nodC (ns ++ [p]) = nodC ns ++ [.int .i64 (p.1 : Int), .int .i64 (p.2.1 : Int), .string p.2.2] := by simp [nodC, nodV]
theorem twins_less (S o n : Nat) (cs : List Value) (na : Option Addr) (nc : Nat) (w : World) (hS : Blk w S cs 137) (ho : cs[o]? = some (.slice na n nc)) (hn : n ≤ 1) :
    Calls Tryz.prog 160 #[.pointer (some ⟨S, o, none⟩)] w fun e w' => e = .returned (.bool false) ∧ Below w.heap.size w w' := by
  have c0 : w.cell? ⟨S, o, none⟩ = some (.slice na n nc) := (hS.cell o).trans ho
  have h1 : ¬ (1 : Int) < (n : Int) := by omega
  have h2 : decide ((1 : Int) < (n : Int)) = false := decide_eq_false h1
  clear hS ho
  go_enter Tryz.func160, Tryz.ntmps160
  go_wp2_with fail
  go_quiet (fail)
  go_wp2
  go_ret
  exact ⟨rfl, below_drewN (Below.refl _ _) _⟩
theorem twins_two (lo S o : Nat) (cs : List Value) (na : Option Addr) (nc : Nat) (pre : List Nd) (a b : Nd) (w : World) (hS : Blk w S cs 137) (ho : cs[o]? = some (.slice na (pre.length + 2) nc)) (hr : w.ownsRow lo 100 3 (.slice na (pre.length + 2) nc) (pre.length + 2) (nodC (pre ++ [a, b]))) (hn : pre.length ≤ 100) :
    Calls Tryz.prog 160 #[.pointer (some ⟨S, o, none⟩)] w fun e w' => e = .returned (.bool (a.1 == b.1)) ∧ Below w.heap.size w w' := by
  have c0 : w.cell? ⟨S, o, none⟩ = some (.slice na (pre.length + 2) nc) := (hS.cell o).trans ho
  obtain ⟨g, cap, hgv, hg1, hg2⟩ := hr.form (by omega)
  simp only [Value.slice.injEq] at hgv
  obtain ⟨rfl, _, rfl⟩ := hgv
  have ha : (pre ++ [a, b])[pre.length]? = some a := by simp
  have hb : (pre ++ [a, b])[pre.length + 1]? = some b := by simp
  have y0 : w.cell? ⟨g, pre.length * 3, none⟩ = some (.int .i64 (a.1 : Int)) := by
    rw [hr.cellAt (pre.length * 3) (by omega)]
    exact nodC_get ha 0 (by decide)
  have y1 : w.cell? ⟨g, (pre.length + 1) * 3, none⟩ = some (.int .i64 (b.1 : Int)) := by
    rw [hr.cellAt ((pre.length + 1) * 3) (by omega)]
    exact nodC_get hb 0 (by decide)
  generalize hm : pre.length = m at *
  have h1 : (1 : Int) < (m : Int) + 2 := by omega
  have h2 : decide ((1 : Int) < (m : Int) + 2) = true := decide_eq_true h1
  have w1 : IntKind.i64.wrap ((m : Int) + 2 - 2) = (m : Int) := by rw [IntKind.wrap_i64] <;> omega
  have w2 : IntKind.i64.wrap ((m : Int) + 2 - 1) = (m : Int) + 1 := by rw [IntKind.wrap_i64] <;> omega
  have w3 : IntKind.i64.wrap (m : Int) = (m : Int) := by rw [IntKind.wrap_i64] <;> omega
  have w4 : IntKind.i64.wrap ((m : Int) + 1) = (m : Int) + 1 := by rw [IntKind.wrap_i64] <;> omega
  have hl1 : (m : Int) < (m : Int) + 2 := by omega
  have hl2 : (m : Int) + 1 < (m : Int) + 2 := by omega
  have he : ((a.1 : Int) == (b.1 : Int)) = (a.1 == b.1) := Bool.eq_iff_iff.2 (by simp only [beq_iff_eq]; omega)
  have HE := hide he
  clear hS ho hr ha hb hm he hg1 hg2
  go_enter Tryz.func160, Tryz.ntmps160
  go_wp2_with fail
  go_quiet (fail)
  go_wp2
  go_ret
  exact ⟨congrArg (fun q => Ending.returned (Value.bool q)) HE.out, below_drewN (Below.refl _ _) _⟩
end Go.Proofs.YtgaoeoijdpdjiaaGreatDoor
