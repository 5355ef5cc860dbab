/-
  One round of a fold: paired. The program's mixed: what layer 0 signs instead of the message. The disk's Read; the disk as package signet hands it out. The program's start. Texts laid together; the cells of a set and of a place.
-/
import Derived.Test.YtgaoeoijdpdjiabGreatDoorPart3
import Derived.Test.YtgaoeoijdpdjiabGreatDoorPartTChunk
import Derived.Test.YtgaoeoijdpdjiabGreatDoorPart2
import Derived.Test.YtgaoeoijdpdjiabGreatDoorPart10
namespace Go.Proofs.YtgaoeoijdpdjiabGreatDoor
open Go.RowKit Go.Shelf

attribute [local go_sem] Oper.semAt_some

/-- The value that the q-th pair becomes, as the j-th of the round. -/
def pv (k b : Int) (pub : ByteArray) (p0 p1 p2 r : Int) (xs : List ByteArray) (j q : Nat) : ByteArray :=
  if 2 * q + 1 < xs.length then pairS k b pub p0 p1 p2 r j (xs.getD (2 * q) ⟨#[]⟩) (xs.getD (2 * q + 1) ⟨#[]⟩) else xs.getD (2 * q) ⟨#[]⟩
def vals (k b : Int) (pub : ByteArray) (p0 p1 p2 r : Int) (xs : List ByteArray) (pre : List (Pr xs.length)) : List Value := pre.mapIdx (fun j q => Value.string (pv k b pub p0 p1 p2 r xs j q.1))
theorem vals_snoc (k b : Int) (pub : ByteArray) (p0 p1 p2 r : Int) (xs : List ByteArray) (pre : List (Pr xs.length)) (q : Pr xs.length) : vals k b pub p0 p1 p2 r xs (pre ++ [q]) = vals k b pub p0 p1 p2 r xs pre ++ [.string (pv k b pub p0 p1 p2 r xs pre.length q.1)] := by
  unfold vals; rw [List.mapIdx_concat]
/-- A round of a fold. -/
def roundS (k b : Int) (pub : ByteArray) (p0 p1 p2 r : Int) (xs : List ByteArray) : List ByteArray := (List.range ((xs.length + 1) / 2)).map (fun q => pv k b pub p0 p1 p2 r xs q q)
theorem vals_all (k b : Int) (pub : ByteArray) (p0 p1 p2 r : Int) (xs : List ByteArray) (pre : List (Pr xs.length)) (h : pre.map (·.1) = List.range ((xs.length + 1) / 2)) : vals k b pub p0 p1 p2 r xs pre = (roundS k b pub p0 p1 p2 r xs).map Value.string := by
  have hl : pre.length = (xs.length + 1) / 2 := by simpa using congrArg List.length h
  unfold vals roundS
  apply List.ext_getElem
  · simp [hl]
  · intro i h1 h2
    have hi : i < pre.length := by simpa using h1
    have e : (pre.map (·.1))[i]'(by simpa using hi) = (List.range ((xs.length + 1) / 2))[i]'(by simp; omega) := by congr 1
    simp at e
    simp [e]

theorem infoStr : (Tryz.prog.info? 9).map (fun i => (i.zero, i.size, i.bytes)) = some (some (.string ⟨#[]⟩), 1, 16) := by kernel_rfl
theorem owns_mono {w : World} {base base' : Nat} {e : TypeId} {size : Nat} {v : Value} {n : Nat} {xs : List Value} (h : w.ownsRow base e size v n xs) (hb : base' ≤ base) : w.ownsRow base' e size v n xs :=
  ⟨h.1, h.2.imp id (fun ⟨g, cap, cur, h1, h2, h3⟩ => ⟨g, cap, cur, h1, Nat.le_trans hb h2, h3⟩)⟩
theorem grown_of_below {W V : World} (h : Below W.heap.size W V) : W.grownBy V none := ⟨h.os, h.tape, h.output, h.size, fun k hk _ => h.block k hk⟩
theorem boxed_kp {Bs Bn : Nat} {W V : World} {t t' : TypeId} {v v' : Value} (h1 : Boxed W Bs t v) (h2 : Boxed W Bn t' v') (h3 : Boxed V Bs t v) (h4 : Boxed V Bn t' v') : KpC Bs Bn W V :=
  ⟨fun i => World.cell?_of_block (w := W) (w' := V) (a := ⟨Bs, i, none⟩) (by show V.heap[Bs]? = W.heap[Bs]?; rw [show V.heap[Bs]? = _ from h3, show W.heap[Bs]? = _ from h1]), fun i => World.cell?_of_block (w := W) (w' := V) (a := ⟨Bn, i, none⟩) (by show V.heap[Bn]? = W.heap[Bn]?; rw [show V.heap[Bn]? = _ from h4, show W.heap[Bn]? = _ from h2])⟩

set_option maxRecDepth 100000 in
set_option maxHeartbeats 8000000 in
theorem paired_any (k b x t l : Int) (seed : ByteArray) (p0 p1 p2 p3 r : Int) (bk o c : Nat) (xs : List ByteArray) (w : World) (hcells : ∀ (j : Nat) y, xs[j]? = some y → w.cell? ⟨bk, o + j, none⟩ = some (.string y)) (hbk : bk < w.heap.size) (hcap : xs.length ≤ c) (hN : xs.length ≤ 100)
    (hk : k = 1 ∨ k = 2) (h1 : 1 ≤ b) (h2 : b ≤ 16) (hs : seed.size ≤ 16) (hxs : ∀ y ∈ xs, y.size ≤ 16) (hT : Tn w) :
    Calls Tryz.prog 310 #[.agg #[.int .i64 k, .int .i64 b, .int .i64 x, .int .i64 t, .int .i64 l, .string seed, .int .i64 p0, .int .i64 p1, .int .i64 p2, .int .i64 p3], .int .i64 r, .slice (some ⟨bk, o, none⟩) xs.length c] w fun e w' => ∃ v, e = .returned v ∧ w'.ownsRow w.heap.size 9 1 v (roundS k b seed p0 p1 p2 r xs).length ((roundS k b seed p0 p1 p2 r xs).map Value.string) ∧ Below w.heap.size w w' := by
  obtain ⟨i0, hi, hz0, hz1, hz2⟩ := info_parts infoStr
  have HC := hide hcells
  have HT := hide hT
  have HX := hide hxs
  have HO1 := hide (fun V : World => one_any r V)
  have HOL := hide (fun (u : ByteArray) (m : Nat) (y0 y1 : ByteArray) (hu : y0.size ≤ 16 ∧ y1.size ≤ 16) (V : World) (hV : Tn V) => ofLeaf_any k b x t l 3 seed p0 p1 p2 p3 V.heap.size 0 4 [u, numB 1 m, y0, y1] (V.alloc (.cells #[.string u, .string (numB 1 m), .string y0, .string y1] 9)) (by
    intro j y hj
    match j, hj with
    | 0, hj => simp at hj; subst hj; simp [go_sem]
    | 1, hj => simp at hj; subst hj; simp [go_sem]
    | 2, hj => simp at hj; subst hj; simp [go_sem]
    | 3, hj => simp at hj; subst hj; simp [go_sem]) (by simp) (by simp) (by simp) hk h1 h2)
  clear hcells hT hxs
  refine (callsIn_wide (n := 6)).1 ?_
  refine callsIn_of_wp_marks Tryz.func310 rfl trivial ?_ rfl
  simp only [Tryz.ntmps310, List.size_toArray, List.length_cons, List.length_nil, Nat.reduceAdd, Nat.reduceSub, Array.replicate_succ, Array.replicate_zero, List.push_toArray, List.append_toArray, List.nil_append, List.cons_append]
  gi_wp2_with (refine ⟨trivial, ?_⟩; gi_at_call 326; refine (callsIn_wide.2 (chunk_any _ _ _ _)).mono ?_; rintro e w' ⟨rfl, rfl⟩)
  generalize hW2 : (w.alloc (.cells #[.int .i64 k, .int .i64 b, .int .i64 x, .int .i64 t, .int .i64 l, .string seed, .int .i64 p0, .int .i64 p1, .int .i64 p2, .int .i64 p3] 344)).alloc (.cells #[.int .i64 r] 3) = W2
  have hz : W2.heap.size = w.heap.size + 1 + 1 := by subst hW2; simp
  have HF := hide (show TenC w.heap.size W2 k b x t l seed p0 p1 p2 p3 by subst hW2; refine ⟨?_, ?_, ?_, ?_, ?_, ?_, ?_, ?_, ?_, ?_⟩ <;> simp [go_sem])
  have HR := hide (show W2.cell? ⟨w.heap.size + 1, 0, none⟩ = some (.int .i64 r) by subst hW2; simp [go_sem])
  have HB2 := hide (show Below w.heap.size w W2 by subst hW2; exact ((Below.refl _ _).alloc (Nat.le_refl _) _).alloc (by simp) _)
  clear hW2
  have bF0 := Boxed.new W2 27 (.slice none 0 0)
  have bS0 := Boxed.new (W2.alloc (.cells #[.slice none 0 0] 27)) 27 (.slice (some ⟨bk, o, none⟩) xs.length c)
  have bN0 := Boxed.new ((W2.alloc (.cells #[.slice none 0 0] 27)).alloc (.cells #[.slice (some ⟨bk, o, none⟩) xs.length c] 27)) 3 (.int .i64 2)
  simp only [World.size_alloc, hz] at bF0 bS0 bN0
  have hB5 : Below (w.heap.size + 1 + 1) W2 (((W2.alloc (.cells #[.slice none 0 0] 27)).alloc (.cells #[.slice (some ⟨bk, o, none⟩) xs.length c] 27)).alloc (.cells #[.int .i64 2] 3)) := ((((Below.refl _ _).alloc (by omega) _).alloc (by simp; omega) _).alloc (by simp; omega) _)
  have hz5 : (((W2.alloc (.cells #[.slice none 0 0] 27)).alloc (.cells #[.slice (some ⟨bk, o, none⟩) xs.length c] 27)).alloc (.cells #[.int .i64 2] 3)).heap.size = w.heap.size + 5 := by simp [hz]
  generalize hW5 : ((W2.alloc (.cells #[.slice none 0 0] 27)).alloc (.cells #[.slice (some ⟨bk, o, none⟩) xs.length c] 27)).alloc (.cells #[.int .i64 2] 3) = W5 at bN0 hB5 hz5 ⊢
  have bF : Boxed W5 (w.heap.size + 1 + 1) 27 (.slice none 0 0) := by rw [← hW5]; exact (bF0.alloc _).alloc _
  have bS : Boxed W5 (w.heap.size + 1 + 1 + 1) 27 (.slice (some ⟨bk, o, none⟩) xs.length c) := by rw [← hW5]; exact bS0.alloc _
  clear hW5 bF0 bS0
  refine wpIn_rangeFunc_ownG rfl (by omega) (gf := 330) (lb := #[.pointer (some ⟨w.heap.size + 1 + 1 + 1, 0, none⟩), .pointer (some ⟨w.heap.size + 1 + 1 + 1 + 1, 0, none⟩)]) rfl trivial (enters_of Tryz.func330 (by kernel_rfl) rfl)
    (chunk_stops (6 - 1) (by omega) (w.heap.size + 1 + 1 + 1) (w.heap.size + 1 + 1 + 1 + 1) bk o xs.length c (by omega) hcap W5 (by omega) (by omega) bS.cell bN0.cell)
    KpC.trans (fun V lv ov ov' hl h h' h'' => KpC.of_below (belowK_b (w := W5) (Nat.le_refl _) V lv ov ov' hl h h' h'') (by omega) (by omega)) (Below.refl _ _) (fun _ => rfl)
    (fun pre W => (∃ v, Boxed W (w.heap.size + 1 + 1) 27 v ∧ W.ownsRow (w.heap.size + 1 + 1) 9 1 v pre.length (vals k b seed p0 p1 p2 r xs pre) ∧ True) ∧ (Boxed W (w.heap.size + 1 + 1 + 1) 27 (.slice (some ⟨bk, o, none⟩) xs.length c) ∧ Boxed W (w.heap.size + 1 + 1 + 1 + 1) 3 (.int .i64 2)) ∧ Below (w.heap.size + 1 + 1) W2 W)
    (fun _ _ _ => False)
    (OwnFrom.and (Own.from (holdsRow_own (w.heap.size + 1 + 1) (w.heap.size + 1 + 1) 27 9 1 (fun pre => pre.length) (fun pre => vals k b seed p0 p1 p2 r xs pre) (fun _ _ => True)) _) (OwnFrom.and (OwnFrom.and (Own.from (boxed_own _ _ _) _) (Own.from (boxed_own _ _ _) _)) (ownFrom_below (by omega) (by omega))))
    (fun _ _ _ _ _ hs _ _ => hs)
    ⟨⟨_, bF, World.ownsRow_nil _ _ _ _, trivial⟩, ⟨bS, bN0⟩, hB5⟩
    (fun q => { tmps := #[.agg #[.int .i64 k, .int .i64 b, .int .i64 x, .int .i64 t, .int .i64 l, .string seed, .int .i64 p0, .int .i64 p1, .int .i64 p2, .int .i64 p3], .int .i64 r, .slice (some ⟨bk, o, none⟩) xs.length c, .pointer (some ⟨w.heap.size, 0, none⟩), .pointer (some ⟨w.heap.size + 1, 0, none⟩), undef, .slice none 0 0, .pointer (some ⟨w.heap.size + 1 + 1, 0, none⟩), pairV bk o xs.length q.1, undef, .slice (some ⟨bk, o, none⟩) xs.length c, .func (.func 330) #[] #[.pointer (some ⟨w.heap.size + 1 + 1 + 1, 0, none⟩), .pointer (some ⟨w.heap.size + 1 + 1 + 1 + 1, 0, none⟩)], pairV bk o xs.length q.1, undef, undef, undef, undef, undef, undef, undef, undef, undef, undef, undef, undef, undef, undef, undef, undef, undef, undef, undef, undef, undef, undef, undef, undef, undef], defers := [] }) ?assign ?body ?done ?stop
  case assign =>
    intro l x W K hK
    gi_wp2
    exact hK
  case body =>
    rintro lp pre ⟨q, hq⟩ W ⟨⟨v, hv, hrow, _⟩, ⟨hsb, hnb⟩, hB⟩ hlt
    obtain ⟨a, cap, rfl⟩ : ∃ a cap, v = .slice a pre.length cap := by
      rcases hrow.2 with ⟨rfl, h0⟩ | ⟨g, cap, cur, rfl, _⟩
      · exact ⟨none, 0, by rw [h0]⟩
      · exact ⟨_, cap, rfl⟩
    have hWz : w.heap.size + 1 + 1 ≤ W.heap.size := by have := hB.size; omega
    have HTW := hide ((HT.out.on HB2.out).below hB (by omega))
    obtain ⟨y0, hy0⟩ : ∃ y, xs[2 * q]? = some y := ⟨_, List.getElem?_eq_getElem hq⟩
    have g0 : xs.getD (2 * q) ⟨#[]⟩ = y0 := by simp [List.getD_eq_getElem?_getD, hy0]
    have z0 := HX.out y0 (List.mem_of_getElem? hy0)
    have c0 : W.cell? ⟨bk, o + 2 * q, none⟩ = some (.string y0) := (hB.cell (p := ⟨bk, o + 2 * q, none⟩) (by show bk < _; omega)).trans ((HB2.out.cell (p := ⟨bk, o + 2 * q, none⟩) hbk).trans (HC.out _ _ hy0))
    by_cases h2q : 2 * q + 1 < xs.length
    · obtain ⟨y1, hy1⟩ : ∃ y, xs[2 * q + 1]? = some y := ⟨_, List.getElem?_eq_getElem h2q⟩
      have g1 : xs.getD (2 * q + 1) ⟨#[]⟩ = y1 := by simp [List.getD_eq_getElem?_getD, hy1]
      have z1 := HX.out y1 (List.mem_of_getElem? hy1)
      have c1 : W.cell? ⟨bk, o + 2 * q + 1, none⟩ = some (.string y1) := (hB.cell (p := ⟨bk, o + 2 * q + 1, none⟩) (by show bk < _; omega)).trans ((HB2.out.cell (p := ⟨bk, o + 2 * q + 1, none⟩) hbk).trans (HC.out _ _ hy1))
      have HP := hide (show pv k b seed p0 p1 p2 r xs pre.length q = pairS k b seed p0 p1 p2 r pre.length y0 y1 by unfold pv; rw [if_pos h2q, g0, g1])
      have hpv : pairV bk o xs.length q = .slice (some ⟨bk, o + 2 * q, none⟩) 2 2 := by
        have : pl xs.length q = 2 := by unfold pl; omega
        unfold pairV; rw [this]
      have HO2 := hide (fun V : World => one_any (pre.length : Nat) V)
      have HS := hide (fun (V : World) (h : Below W.heap.size W V) => (by
        obtain ⟨d0, d1, d2, d3, d4, d5, d6, d7, d8, d9⟩ := (HF.out.below hB (by omega)).below h (by omega)
        exact ⟨d0, d1, d2, d3, d4, d5, d6, d7, d8, d9, (h.cell (p := ⟨w.heap.size + 1, 0, none⟩) (by show w.heap.size + 1 < _; omega)).trans ((hB.cell (p := ⟨w.heap.size + 1, 0, none⟩) (by show w.heap.size + 1 < _; omega)).trans HR.out), (h.cell (p := ⟨w.heap.size + 1 + 1, 0, none⟩) hv.lt).trans hv.cell, (h.cell (p := ⟨bk, o + 2 * q, none⟩) (by show bk < _; omega)).trans c0, (h.cell (p := ⟨bk, o + 2 * q + 1, none⟩) (by show bk < _; omega)).trans c1, h⟩ : (fun V => V.cell? ⟨w.heap.size, 0, none⟩ = some (.int .i64 k) ∧ V.cell? ⟨w.heap.size, 1, none⟩ = some (.int .i64 b) ∧ V.cell? ⟨w.heap.size, 2, none⟩ = some (.int .i64 x) ∧ V.cell? ⟨w.heap.size, 3, none⟩ = some (.int .i64 t) ∧ V.cell? ⟨w.heap.size, 4, none⟩ = some (.int .i64 l) ∧ V.cell? ⟨w.heap.size, 5, none⟩ = some (.string seed) ∧ V.cell? ⟨w.heap.size, 6, none⟩ = some (.int .i64 p0) ∧ V.cell? ⟨w.heap.size, 7, none⟩ = some (.int .i64 p1) ∧ V.cell? ⟨w.heap.size, 8, none⟩ = some (.int .i64 p2) ∧ V.cell? ⟨w.heap.size, 9, none⟩ = some (.int .i64 p3) ∧ V.cell? ⟨w.heap.size + 1, 0, none⟩ = some (.int .i64 r) ∧ V.cell? ⟨w.heap.size + 1 + 1, 0, none⟩ = some (.slice a pre.length cap) ∧ V.cell? ⟨bk, o + 2 * q, none⟩ = some (.string y0) ∧ V.cell? ⟨bk, o + 2 * q + 1, none⟩ = some (.string y1) ∧ Below W.heap.size W V) V))
      have HV := hide (fun (V : World) (h : Below W.heap.size W V) => HOL.out (numB 1 r) pre.length y0 y1 ⟨z0, z1⟩ V (HTW.out.on h) (by rw [cat_size]; simp [numB_size]; omega) ((HTW.out.on h).alloc _))
      simp only [cat, append_empty, List.length_cons, List.length_nil, Nat.reduceAdd] at HV
      dsimp only at HS
      rw [hpv]
      gi_wp2
      refine regionIn_held (S := fun V => V.cell? ⟨w.heap.size, 0, none⟩ = some (.int .i64 k) ∧ V.cell? ⟨w.heap.size, 1, none⟩ = some (.int .i64 b) ∧ V.cell? ⟨w.heap.size, 2, none⟩ = some (.int .i64 x) ∧ V.cell? ⟨w.heap.size, 3, none⟩ = some (.int .i64 t) ∧ V.cell? ⟨w.heap.size, 4, none⟩ = some (.int .i64 l) ∧ V.cell? ⟨w.heap.size, 5, none⟩ = some (.string seed) ∧ V.cell? ⟨w.heap.size, 6, none⟩ = some (.int .i64 p0) ∧ V.cell? ⟨w.heap.size, 7, none⟩ = some (.int .i64 p1) ∧ V.cell? ⟨w.heap.size, 8, none⟩ = some (.int .i64 p2) ∧ V.cell? ⟨w.heap.size, 9, none⟩ = some (.int .i64 p3) ∧ V.cell? ⟨w.heap.size + 1, 0, none⟩ = some (.int .i64 r) ∧ V.cell? ⟨w.heap.size + 1 + 1, 0, none⟩ = some (.slice a pre.length cap) ∧ V.cell? ⟨bk, o + 2 * q, none⟩ = some (.string y0) ∧ V.cell? ⟨bk, o + 2 * q + 1, none⟩ = some (.string y1) ∧ Below W.heap.size W V) (by kernel_rfl) (by simp) (by rintro ⟨_, _, h⟩; exact h) (HS.out _ (Below.refl _ _).drew) (fun hHeld => ?_)
      refine tk 0 hHeld (h := ?_)
      refine tk 1 hHeld (h := ?_)
      refine tk 3 hHeld (h := ?_)
      refine tk 4 hHeld (h := ?_)
      refine tk 6 hHeld (h := ?_)
      refine tk 7 hHeld (h := ?_)
      refine tk 8 hHeld (h := ?_)
      refine tk 9 hHeld (h := ?_)
      refine tk 10 hHeld (h := ?_)
      refine tk 11 hHeld (h := ?_)
      refine wpAnyH_ready (rs := [2]) (by kernel_rfl) (by simp) ?_
      refine AllReadyH.cons (o := ?o2) ?ho2 (fun K hK => ?hs2) AllReadyH.nil
      case ho2 => (simp only [List.getElem?_toArray, List.getElem?_cons_succ, List.getElem?_cons_zero]; rfl)
      go_simp
      refine (HO1.out _).mono ?_
      rintro e w1 ⟨rfl, hb1⟩
      have hS1 := heldB (Below.refl W.heap.size W).drew hb1 (Nat.le_refl _)
      try go_wp2_with fail
      refine hK.out _ _ (HS.out _ (hS1)) (fun hHeld => ?_)
      clear hK K
      try simp only [Act.put, List.setIfInBounds_toArray, List.set_cons_zero, List.set_cons_succ]
      refine wpAnyH_ready (rs := [5]) (by kernel_rfl) (by simp) ?_
      refine AllReadyH.cons (o := ?o5) ?ho5 (fun K hK => ?hs5) AllReadyH.nil
      case ho5 => (simp only [List.getElem?_toArray, List.getElem?_cons_succ, List.getElem?_cons_zero]; rfl)
      go_simp
      refine (HO2.out _).mono ?_
      rintro e w2 ⟨rfl, hb2⟩
      have hS2 := heldB hS1 hb2 (Nat.le_refl _)
      try go_wp2_with fail
      refine hK.out _ _ (HS.out _ (hS2)) (fun hHeld => ?_)
      clear hK K
      try simp only [Act.put, List.setIfInBounds_toArray, List.set_cons_zero, List.set_cons_succ]
      refine wpAnyH_ready (rs := [12]) (by kernel_rfl) (by simp) ?_
      refine AllReadyH.cons (o := ?o12) ?ho12 (fun K hK => ?hs12) AllReadyH.nil
      case ho12 => (simp only [List.getElem?_toArray, List.getElem?_cons_succ, List.getElem?_cons_zero]; rfl)
      go_simp
      refine hK.out _ _ (HS.out _ (hS2.alloc hS2.size _)) (fun hHeld => ?_)
      clear hK K
      try simp only [Act.put, List.setIfInBounds_toArray, List.set_cons_zero, List.set_cons_succ]
      refine wpAnyH_ready (rs := [13]) (by kernel_rfl) (by simp) ?_
      refine AllReadyH.cons (o := ?o13) ?ho13 (fun K hK => ?hs13) AllReadyH.nil
      case ho13 => (simp only [List.getElem?_toArray, List.getElem?_cons_succ, List.getElem?_cons_zero]; rfl)
      go_simp
      refine (HV.out _ hS2).mono ?_
      rintro e w4 ⟨rfl, hb4⟩
      have hS4 := heldB (hS2.alloc hS2.size _) hb4 (Nat.le_refl _)
      try go_wp2_with fail
      refine hK.out _ _ (HS.out _ (hS4)) (fun hHeld => ?_)
      clear hK K
      try simp only [Act.put, List.setIfInBounds_toArray, List.set_cons_zero, List.set_cons_succ]
      refine tk 14 hHeld (h := ?_)
      refine wpAnyH_done (by kernel_rfl) ?_ _
      have hg4 := grown_of_below hS4
      have hB4 : Below (w.heap.size + 1 + 1) W2 w4 := hB.trans (hS4.mono hWz)
      have hv4 := hv.kept hg4 (by simp)
      have hrow4 := hrow.kept hg4 (by cases Value.ownBlock _ with | none => exact .inl rfl | some _ => exact .inr (by simp))
      have hsb4 := hsb.kept hg4 (by simp)
      have hnb4 := hnb.kept hg4 (by simp)
      have hko4 : KeepsOthers W w4 := KeepsOthers.of_grownBy hg4 (fun j o e _ => by cases e)
      have hc4 := hv4.cell
      have hz4 : w.heap.size + 1 + 1 ≤ w4.heap.size := by have := (hg4).size; omega
      gi_wp2_with (gi_at_builtin; refine wpListIn_append_own _ rfl _ _ 27 rfl (w.heap.size + 1 + 1) 9 i0 (.string ⟨#[]⟩) 1 16 Tryz.underlying27 hi hz0 hz1 hz2 rfl (by decide) _ _ _ rfl (hrow4.alloc _) ⟨w4.heap.size, 0, none⟩ 1 1 [.string (pairS k b seed p0 p1 p2 r pre.length y0 y1)] rfl rfl (cell_one_new _ _ _) (by simp [Value.oneCell']) (by unfold maxLen; omega) (by omega) (by simp; omega) ?_; intro v' w5 hown' hgrow _; obtain ⟨g', cap', rfl⟩ := ownsRow_succ hown'; obtain ⟨hv1, hv2, hr2, hk2, hb2⟩ := hv4.appended (by decide) hrow4 hz4 (Nat.le_refl _) hown' hgrow; have hs5 := (hsb4.alloc _).kept hgrow (hsb4.not_row (by decide) hrow4); have hn5 := (hnb4.alloc _).kept hgrow (hnb4.not_row (by decide) hrow4); have hc1 := hv1.cell; have hf1 := hv1.frozen)
      have hs6 := hs5.kept (grownBy_setCell' w5 (w.heap.size + 1 + 1) (.slice (some ⟨g', 0, none⟩) (pre.length + 1) cap')) (by simp)
      have hn6 := hn5.kept (grownBy_setCell' w5 (w.heap.size + 1 + 1) (.slice (some ⟨g', 0, none⟩) (pre.length + 1) cap')) (by simp; omega)
      exact ⟨(hko4.trans hk2).from _, boxed_kp hsb hnb hs6 hn6, ⟨_, hv2, by rw [vals_snoc, HP.out]; simpa using hr2, trivial⟩, ⟨hs6, hn6⟩, hB4.trans hb2⟩
    · have HP := hide (show pv k b seed p0 p1 p2 r xs pre.length q = y0 by unfold pv; rw [if_neg h2q, g0])
      have hpv : pairV bk o xs.length q = .slice (some ⟨bk, o + 2 * q, none⟩) 1 1 := by
        have : pl xs.length q = 1 := by unfold pl; omega
        unfold pairV; rw [this]
      have hg4 : W.grownBy W none := grown_of_below (Below.refl _ _)
      have hB4 := hB
      rw [hpv]
      have hv4 := hv.kept hg4 (by simp)
      have hrow4 := hrow.kept hg4 (by cases Value.ownBlock _ with | none => exact .inl rfl | some _ => exact .inr (by simp))
      have hsb4 := hsb.kept hg4 (by simp)
      have hnb4 := hnb.kept hg4 (by simp)
      have hko4 : KeepsOthers W W := KeepsOthers.of_grownBy hg4 (fun j o e _ => by cases e)
      have hc4 := hv4.cell
      have hz4 : w.heap.size + 1 + 1 ≤ W.heap.size := by have := (hg4).size; omega
      gi_wp2_with (gi_at_builtin; refine wpListIn_append_own _ rfl _ _ 27 rfl (w.heap.size + 1 + 1) 9 i0 (.string ⟨#[]⟩) 1 16 Tryz.underlying27 hi hz0 hz1 hz2 rfl (by decide) _ _ _ rfl (hrow4.alloc _) ⟨W.heap.size, 0, none⟩ 1 1 [.string y0] rfl rfl (cell_one_new _ _ _) (by simp [Value.oneCell']) (by unfold maxLen; omega) (by omega) (by simp; omega) ?_; intro v' w5 hown' hgrow _; obtain ⟨g', cap', rfl⟩ := ownsRow_succ hown'; obtain ⟨hv1, hv2, hr2, hk2, hb2⟩ := hv4.appended (by decide) hrow4 hz4 (Nat.le_refl _) hown' hgrow; have hs5 := (hsb4.alloc _).kept hgrow (hsb4.not_row (by decide) hrow4); have hn5 := (hnb4.alloc _).kept hgrow (hnb4.not_row (by decide) hrow4); have hc1 := hv1.cell; have hf1 := hv1.frozen)
      have hs6 := hs5.kept (grownBy_setCell' w5 (w.heap.size + 1 + 1) (.slice (some ⟨g', 0, none⟩) (pre.length + 1) cap')) (by simp)
      have hn6 := hn5.kept (grownBy_setCell' w5 (w.heap.size + 1 + 1) (.slice (some ⟨g', 0, none⟩) (pre.length + 1) cap')) (by simp; omega)
      exact ⟨(hko4.trans hk2).from _, boxed_kp hsb hnb hs6 hn6, ⟨_, hv2, by rw [vals_snoc, HP.out]; simpa using hr2, trivial⟩, ⟨hs6, hn6⟩, hB4.trans hb2⟩
  case done =>
    rintro D ys W hD hys ⟨⟨v, hv, hrow, _⟩, _, hB⟩ hK
    have hc := hv.cell
    gi_wp2
    refine ⟨by simp, .inl ⟨_, _, rfl, run_takeDeferred hK, ?_⟩⟩
    refine ⟨_, results_tmp rfl _ _ _, v, rfl, ?_, ?_⟩
    · have h := owns_mono (ownsRow_putObj hrow (.deferred none) hK rfl) (show w.heap.size ≤ w.heap.size + 1 + 1 by omega)
      rw [vals_all _ _ _ _ _ _ _ _ _ hys, show ys.length = (roundS k b seed p0 p1 p2 r xs).length by have := congrArg List.length hys; simp at this; simp [roundS, this]] at h
      exact h
    · exact HB2.out.trans ((hB.mono (by omega)).trans (belowK_b (w := w) (Nat.le_refl _) W D _ _ (by omega) hK rfl rfl))
  case stop =>
    rintro D c pre W _ _ h _
    exact h.elim
end Go.Proofs.YtgaoeoijdpdjiabGreatDoor

namespace Go.Proofs.YtgaoeoijdpdjiabGreatDoor
open Go.RowKit

/-- What layer 0 signs. -/
def mixS (k b : Int) (rnd root pub : ByteArray) (idx : Int) (msg : ByteArray) : ByteArray := hv k b (numB 1 6 ++ (rnd ++ (root ++ (pub ++ (numB 4 idx ++ msg)))))
theorem mixS_size (k b : Int) (rnd root pub : ByteArray) (idx : Int) (msg : ByteArray) (hk : k = 1 ∨ k = 2) (h1 : 1 ≤ b) (h2 : b ≤ 16) (a1 : rnd.size ≤ 16) (a2 : root.size ≤ 16) (a3 : pub.size ≤ 16) (a4 : msg.size ≤ 200) : ((mixS k b rnd root pub idx msg).size : Int) = b :=
  hv_size k b _ hk h1 h2 (by simp only [ByteArray.size_append, numB_size]; omega)

set_option maxRecDepth 20000 in
set_option maxHeartbeats 4000000 in
theorem mixed_any (k b x t l idx : Int) (root pub rnd msg : ByteArray) (sl : Value) (w : World) (hk : k = 1 ∨ k = 2) (h1 : 1 ≤ b) (h2 : b ≤ 16) (a1 : rnd.size ≤ 16) (a2 : root.size ≤ 16) (a3 : pub.size ≤ 16) (a4 : msg.size ≤ 200) (hT : Tn w) :
    Calls Tryz.prog 239 #[.agg #[.int .i64 k, .int .i64 b, .int .i64 x, .int .i64 t, .int .i64 l, .string root, .string pub], .agg #[.int .i64 idx, .string rnd, sl], .string msg] w fun e w' => e = .returned (.string (mixS k b rnd root pub idx msg)) ∧ Below w.heap.size w w' := by
  obtain ⟨W0, hW⟩ : ∃ W0, (w.alloc (.cells #[.int .i64 k, .int .i64 b, .int .i64 x, .int .i64 t, .int .i64 l, .string root, .string pub] 184)).alloc (.cells #[.int .i64 idx, .string rnd, sl] 29) = W0 := ⟨_, rfl⟩
  have HC := hide (show W0.cell? ⟨w.heap.size, 0, none⟩ = some (.int .i64 k) ∧ W0.cell? ⟨w.heap.size, 1, none⟩ = some (.int .i64 b) ∧ W0.cell? ⟨w.heap.size, 2, none⟩ = some (.int .i64 x) ∧ W0.cell? ⟨w.heap.size, 3, none⟩ = some (.int .i64 t) ∧ W0.cell? ⟨w.heap.size, 4, none⟩ = some (.int .i64 l) ∧ W0.cell? ⟨w.heap.size, 5, none⟩ = some (.string root) ∧ W0.cell? ⟨w.heap.size, 6, none⟩ = some (.string pub) ∧ W0.cell? ⟨w.heap.size + 1, 0, none⟩ = some (.int .i64 idx) ∧ W0.cell? ⟨w.heap.size + 1, 1, none⟩ = some (.string rnd) by subst hW; refine ⟨?_, ?_, ?_, ?_, ?_, ?_, ?_, ?_, ?_⟩ <;> simp [go_sem])
  have HB := hide (show Below w.heap.size w W0 by subst hW; exact ((Below.refl _ _).alloc (Nat.le_refl _) _).alloc (by simp) _)
  have hz : W0.heap.size ≤ w.heap.size + 2 := by subst hW; simp
  have hz' : w.heap.size + 2 ≤ W0.heap.size := by subst hW; simp
  have HT := hide (hT.on HB.out)
  have HS := hide (fun (V : World) (h : Below W0.heap.size W0 V) => (by
    obtain ⟨c0, c1, c2, c3, c4, c5, c6, d0, d1⟩ := HC.out
    have e0 : ∀ i, V.cell? ⟨w.heap.size, i, none⟩ = W0.cell? ⟨w.heap.size, i, none⟩ := fun i => h.cell (p := ⟨w.heap.size, i, none⟩) (by show w.heap.size < _; omega)
    have e1 : ∀ i, V.cell? ⟨w.heap.size + 1, i, none⟩ = W0.cell? ⟨w.heap.size + 1, i, none⟩ := fun i => h.cell (p := ⟨w.heap.size + 1, i, none⟩) (by show w.heap.size + 1 < _; omega)
    exact ⟨(e0 0).trans c0, (e0 1).trans c1, (e0 2).trans c2, (e0 3).trans c3, (e0 4).trans c4, (e0 5).trans c5, (e0 6).trans c6, (e1 0).trans d0, (e1 1).trans d1⟩ : V.cell? ⟨w.heap.size, 0, none⟩ = some (.int .i64 k) ∧ V.cell? ⟨w.heap.size, 1, none⟩ = some (.int .i64 b) ∧ V.cell? ⟨w.heap.size, 2, none⟩ = some (.int .i64 x) ∧ V.cell? ⟨w.heap.size, 3, none⟩ = some (.int .i64 t) ∧ V.cell? ⟨w.heap.size, 4, none⟩ = some (.int .i64 l) ∧ V.cell? ⟨w.heap.size, 5, none⟩ = some (.string root) ∧ V.cell? ⟨w.heap.size, 6, none⟩ = some (.string pub) ∧ V.cell? ⟨w.heap.size + 1, 0, none⟩ = some (.int .i64 idx) ∧ V.cell? ⟨w.heap.size + 1, 1, none⟩ = some (.string rnd)))
  have HN := hide (fun V : World => number_any 4 idx V (by decide))
  have HV := hide (fun (V : World) (h : Below W0.heap.size W0 V) => (by
    have q := value_any k b x t l 6 V.heap.size 0 5 [rnd, root, pub, numB 4 idx, msg] (V.alloc (.cells #[.string rnd, .string root, .string pub, .string (numB 4 idx), .string msg] 9)) (by
      intro j y hj
      match j, hj with
      | 0, hj => simp at hj; subst hj; simp [go_sem]
      | 1, hj => simp at hj; subst hj; simp [go_sem]
      | 2, hj => simp at hj; subst hj; simp [go_sem]
      | 3, hj => simp at hj; subst hj; simp [go_sem]
      | 4, hj => simp at hj; subst hj; simp [go_sem]) (by simp) (by simp) (by simp) hk h1 h2 (by rw [cat_size]; simp [numB_size]; omega) ((HT.out.on h).alloc _)
    simp only [cat, append_empty, List.length_cons, List.length_nil, Nat.reduceAdd] at q
    exact q : Calls Tryz.prog 248 #[.agg #[.int .i64 k, .int .i64 b, .int .i64 x, .int .i64 t, .int .i64 l], .int .i64 6, .slice (some ⟨V.heap.size, 0, none⟩) 5 5] (V.alloc (.cells #[.string rnd, .string root, .string pub, .string (numB 4 idx), .string msg] 9)) fun e w' => e = .returned (.string (mixS k b rnd root pub idx msg)) ∧ Below (V.alloc (.cells #[.string rnd, .string root, .string pub, .string (numB 4 idx), .string msg] 9)).heap.size (V.alloc (.cells #[.string rnd, .string root, .string pub, .string (numB 4 idx), .string msg] 9)) w'))
  generalize mixS k b rnd root pub idx msg = mm at HV ⊢
  clear hT
  go_enter Tryz.func239, Tryz.ntmps239
  go_wp2_with fail
  try rw [hW]
  clear hW
  go_region_held3 (fun V => V.cell? ⟨w.heap.size, 0, none⟩ = some (.int .i64 k) ∧ V.cell? ⟨w.heap.size, 1, none⟩ = some (.int .i64 b) ∧ V.cell? ⟨w.heap.size, 2, none⟩ = some (.int .i64 x) ∧ V.cell? ⟨w.heap.size, 3, none⟩ = some (.int .i64 t) ∧ V.cell? ⟨w.heap.size, 4, none⟩ = some (.int .i64 l) ∧ V.cell? ⟨w.heap.size, 5, none⟩ = some (.string root) ∧ V.cell? ⟨w.heap.size, 6, none⟩ = some (.string pub) ∧ V.cell? ⟨w.heap.size + 1, 0, none⟩ = some (.int .i64 idx) ∧ V.cell? ⟨w.heap.size + 1, 1, none⟩ = some (.string rnd)) (first | exact HS.out _ hS4 | exact HS.out _ (hS1.alloc hS1.size _) | exact HS.out _ hS1 | exact HS.out _ (Below.refl W0.heap.size W0).drew) (first | (go_at_call 160; refine (HN.out _).mono ?_; rintro e w1 ⟨rfl, hb1⟩; have hS1 := heldB (Below.refl W0.heap.size W0).drew hb1 (Nat.le_refl _)) | (go_at_call 248; refine (HV.out _ hS1).mono ?_; rintro e w4 ⟨rfl, hb4⟩; have hS4 := heldB (hS1.alloc hS1.size _) hb4 (Nat.le_refl _)))
  have HB4 := hide hS4
  clear hS1 hS4 hb1 hb4
  go_wp2
  go_ret
  exact ⟨rfl, HB.out.trans (HB4.out.mono (by omega))⟩
end Go.Proofs.YtgaoeoijdpdjiabGreatDoor

namespace Go.Proofs.YtgaoeoijdpdjiabGreatDoor
open Go.RowKit

attribute [local go_sem ↓] wp_pre_sec wp_pre_store_sec Go.wp_at_zero Go.wp_at_succ
attribute [local go_sem] ptrCells_at storeW_at

theorem strOf (w : World) (g cap : Nat) (x : ByteArray) (hr : w.rangeAt g 0 (cellsB x)) : (convert 170 9 (.slice (some ⟨g, 0, none⟩) x.size cap)).run Tryz.prog w = .ok (.string x) w := by
  have := run_convert_bytes_back (P := Tryz.prog) w 170 9 5 ⟨g, 0, none⟩ cap x.data.toList Tryz.underlying170 Tryz.underlying5 Tryz.underlying9 (by
    intro j hj
    rw [Addr.add_mid]
    refine hr j _ ?_
    rw [cellsB, List.getElem?_map, List.getElem?_eq_getElem hj]
    rfl)
  simpa using this

theorem latest_size {lo D E : Nat} {pv : Value} {s : DSt} {w : World} (h : DAt lo D E pv s w) (i : Nat) (hi : i < s.n) : (latestB s i).size = 32 := by
  have hb : ∀ m, m ≤ s.pend.length → ∀ x, back s.pend i m = some x → x.size = 32 := by
    intro m
    induction m with
    | zero => intro _ x hx; simp [back] at hx
    | succ m ih =>
      intro hm x hx
      rw [back] at hx
      by_cases he : (s.pend.getD m (0, ⟨#[]⟩)).1 = i
      · rw [if_pos he] at hx
        cases hx
        have hp : s.pend[m]? = some (s.pend.getD m (0, ⟨#[]⟩)) := by rw [List.getD_eq_getElem?_getD, List.getElem?_eq_getElem (by omega)]; rfl
        exact (h.ok.pen _ (List.mem_of_getElem? hp)).2
      · rw [if_neg he] at hx
        exact ih (by omega) x hx
  unfold latestB
  cases hx : back s.pend i s.pend.length with
  | some x => exact hb _ (Nat.le_refl _) x hx
  | none =>
    have hl : i < s.dur.length := by rw [h.ok.len]; exact hi
    show (s.dur.getD i ⟨#[]⟩).size = 32
    rw [List.getD_eq_getElem?_getD, List.getElem?_eq_getElem hl]
    exact h.ok.sec _ (List.getElem_mem hl)

/-- What a read answers. -/
def rdAns (s : DSt) (i : Int) : ByteArray × Int := if ¬ (0 ≤ i ∧ i < s.n) then (⟨#[]⟩, 4) else if s.trouble = 1 then (⟨#[]⟩, 5) else (latestB s i.toNat, 0)
def rdSt (s : DSt) (i : Int) : DSt := if ¬ (0 ≤ i ∧ i < s.n) then s else { s with trouble := tick s.trouble }

set_option maxRecDepth 20000 in
set_option maxHeartbeats 2000000 in
theorem read_any (lo D E : Nat) (pv : Value) (s : DSt) (i : Int) (w : World) (h : DAt lo D E pv s w) :
    Calls Tryz.prog 103 #[.pointer (some ⟨D, 0, none⟩), .int .i64 i] w fun e w' => e = .returned (.tuple #[.string (rdAns s i).1, .int .i64 (rdAns s i).2]) ∧ DAt lo D E pv (rdSt s i) w' ∧ Kept (fun k => k = D) w w' := by
  have HH := hideK (dhas_any lo D E pv s i w h)
  have HD := hideK h
  by_cases hi : 0 ≤ i ∧ i < s.n
  · have HF := hideK (fails_any lo D E pv s w h)
    rw [decide_eq_true hi] at HH
    by_cases h1 : s.trouble = 1
    · rw [show rdAns s i = (⟨#[]⟩, 5) by rw [rdAns, if_neg (fun hn => hn hi), if_pos h1], show rdSt s i = { s with trouble := tick s.trouble } by rw [rdSt, if_neg (fun hn => hn hi)]]
      rw [decide_eq_true h1] at HF
      clear h hi h1
      go_enter Tryz.func103, Tryz.ntmps103
      go_wp2_with fail
      refine HH.out.mono ?_
      rintro e w1 ⟨rfl, rfl⟩
      go_wp2_with fail
      refine HF.out.mono ?_
      rintro e w2 ⟨rfl, hd2, hk2⟩
      have HD2 := hideK hd2
      have HK2 := hideK hk2
      clear hd2 hk2
      go_wp2
      go_ret2
      exact ⟨rfl, HD2.out, HK2.out⟩
    · rw [show rdAns s i = (latestB s i.toNat, 0) by rw [rdAns, if_neg (fun hn => hn hi), if_neg h1], show rdSt s i = { s with trouble := tick s.trouble } by rw [rdSt, if_neg (fun hn => hn hi)]]
      rw [decide_eq_false h1] at HF
      obtain ⟨k, rfl⟩ := Int.eq_ofNat_of_zero_le hi.1
      have hk : k < s.n := by omega
      have HLS := hideK (latest_size h k hk)
      have HLA := hideK (fun (V : World) (hV : DAt lo D E pv { s with trouble := tick s.trouble } V) => latest_any lo D E pv { s with trouble := tick s.trouble } k V hV hk)
      have HEQ : Hid (latestB { s with trouble := tick s.trouble } k = latestB s k) := rfl
      rw [HEQ.out] at HLA
      simp only [Int.toNat_natCast]
      clear h hi h1 hk HEQ
      generalize latestB s k = x at *
      go_enter Tryz.func103, Tryz.ntmps103
      go_wp2_with fail
      refine HH.out.mono ?_
      rintro e w1 ⟨rfl, rfl⟩
      go_wp2_with fail
      refine HF.out.mono ?_
      rintro e w2 ⟨rfl, hd2, hk2⟩
      have HD2 := hideK hd2
      have HK2 := hideK hk2
      clear hd2 hk2 HF HH
      go_wp2_with fail
      refine (HLA.out _ HD2.out).mono ?_
      rintro e w3 ⟨rfl, hb3⟩
      have HD3 := hideK (HD2.out.below hb3)
      have HK3 := hideK (HK2.out.after hb3)
      have hag : ∀ cc : Array Value, cc.size = 32 → StoreOk (w3.alloc (.cells cc 239)) 32 (.pointer (some ⟨w3.heap.size, 0, none⟩)) (.agg (cellsB x).toArray) := fun cc hcc => ⟨_, _, _, rfl, rfl, cells32 HLS.out, cellsB_one x, there_new w3 cc _ 32 hcc⟩
      have hsn : ∀ cc : Array Value, cc.size = 32 → (w3.alloc (.cells cc 239)).setCells w3.heap.size 0 (cellsB x) = w3.alloc (.cells (cellsB x).toArray 239) := fun cc hcc => setCells_new w3 cc _ _ (by rw [hcc, cells32 HLS.out])
      have hcv := strOf (w3.alloc (.cells (cellsB x).toArray 239)) w3.heap.size 32 x (fun j v hv => by rw [Nat.zero_add]; exact cellOf (heap_alloc_new w3 _) hv)
      rw [HLS.out] at hcv
      clear hb3 HD2 HK2
      go_wp2
      go_ret2
      exact ⟨rfl, HD3.out.below ((Below.refl _ _).alloc (Nat.le_refl _) _), HK3.out.alloc _⟩
  · rw [rdAns, rdSt, if_pos hi, if_pos hi]
    rw [decide_eq_false hi] at HH
    clear h hi
    go_enter Tryz.func103, Tryz.ntmps103
    go_wp2_with fail
    refine HH.out.mono ?_
    rintro e w1 ⟨rfl, rfl⟩
    go_wp2
    go_ret2
    exact ⟨rfl, HD.out, Kept.refl _ _⟩
end Go.Proofs.YtgaoeoijdpdjiabGreatDoor

namespace Go.Proofs.YtgaoeoijdpdjiabGreatDoor
open Go.RowKit

set_option maxRecDepth 20000 in
set_option maxHeartbeats 4000000 in
theorem start_any (k b x t l : Int) (seed : ByteArray) (p0 p1 p2 p3 : Int) (w : World) (hk : k = 1 ∨ k = 2) (h1 : 1 ≤ b) (h2 : b ≤ 16) (hs : seed.size ≤ 16) (hT : Tn w) :
    Calls Tryz.prog 299 #[.agg #[.int .i64 k, .int .i64 b, .int .i64 x, .int .i64 t, .int .i64 l, .string seed, .int .i64 p0, .int .i64 p1, .int .i64 p2, .int .i64 p3]] w fun e w' => e = .returned (.string (startS k b seed p0 p1 p2 p3)) ∧ Below w.heap.size w w' := by
  obtain ⟨W0, hW⟩ : ∃ W0, w.alloc (.cells #[.int .i64 k, .int .i64 b, .int .i64 x, .int .i64 t, .int .i64 l, .string seed, .int .i64 p0, .int .i64 p1, .int .i64 p2, .int .i64 p3] 344) = W0 := ⟨_, rfl⟩
  have HF := hide (show TenC w.heap.size W0 k b x t l seed p0 p1 p2 p3 by subst hW; refine ⟨?_, ?_, ?_, ?_, ?_, ?_, ?_, ?_, ?_, ?_⟩ <;> simp [go_sem])
  have HB := hide (show Below w.heap.size w W0 by subst hW; exact (Below.refl _ _).alloc (Nat.le_refl _) _)
  have hz : W0.heap.size = w.heap.size + 1 := by subst hW; simp
  have HT := hide (hT.on HB.out)
  have HS := hide (fun (V : World) (h : Below W0.heap.size W0 V) => (by
    obtain ⟨c0, c1, c2, c3, c4, c5, c6, c7, c8, c9⟩ := HF.out.below h (by omega)
    exact ⟨c0, c1, c2, c3, c4, c5, c6, c7, c8, c9, h⟩ : V.cell? ⟨w.heap.size, 0, none⟩ = some (.int .i64 k) ∧ V.cell? ⟨w.heap.size, 1, none⟩ = some (.int .i64 b) ∧ V.cell? ⟨w.heap.size, 2, none⟩ = some (.int .i64 x) ∧ V.cell? ⟨w.heap.size, 3, none⟩ = some (.int .i64 t) ∧ V.cell? ⟨w.heap.size, 4, none⟩ = some (.int .i64 l) ∧ V.cell? ⟨w.heap.size, 5, none⟩ = some (.string seed) ∧ V.cell? ⟨w.heap.size, 6, none⟩ = some (.int .i64 p0) ∧ V.cell? ⟨w.heap.size, 7, none⟩ = some (.int .i64 p1) ∧ V.cell? ⟨w.heap.size, 8, none⟩ = some (.int .i64 p2) ∧ V.cell? ⟨w.heap.size, 9, none⟩ = some (.int .i64 p3) ∧ Below W0.heap.size W0 V))
  have HO1 := hide (fun V : World => one_any p3 V)
  have HV := hide (fun (V : World) (h : Below W0.heap.size W0 V) => ofLeaf_any k b x t l 1 seed p0 p1 p2 p3 V.heap.size 0 1 [numB 1 p3] (V.alloc (.cells #[.string (numB 1 p3)] 9)) (by
    intro j y hj
    match j, hj with
    | 0, hj => simp at hj; subst hj; simp [go_sem]) (by simp) (by simp) (by simp) hk h1 h2 (by rw [cat_size]; simp [numB_size]; omega) ((HT.out.on h).alloc _))
  simp only [cat, append_empty, List.length_cons, List.length_nil, Nat.reduceAdd] at HV
  clear hT
  go_enter Tryz.func299, Tryz.ntmps299
  go_wp2_with fail
  try rw [hW]
  go_region_held3 (fun V => V.cell? ⟨w.heap.size, 0, none⟩ = some (.int .i64 k) ∧ V.cell? ⟨w.heap.size, 1, none⟩ = some (.int .i64 b) ∧ V.cell? ⟨w.heap.size, 2, none⟩ = some (.int .i64 x) ∧ V.cell? ⟨w.heap.size, 3, none⟩ = some (.int .i64 t) ∧ V.cell? ⟨w.heap.size, 4, none⟩ = some (.int .i64 l) ∧ V.cell? ⟨w.heap.size, 5, none⟩ = some (.string seed) ∧ V.cell? ⟨w.heap.size, 6, none⟩ = some (.int .i64 p0) ∧ V.cell? ⟨w.heap.size, 7, none⟩ = some (.int .i64 p1) ∧ V.cell? ⟨w.heap.size, 8, none⟩ = some (.int .i64 p2) ∧ V.cell? ⟨w.heap.size, 9, none⟩ = some (.int .i64 p3) ∧ Below W0.heap.size W0 V) (first | exact HS.out _ hS4 | exact HS.out _ (hS1.alloc hS1.size _) | exact HS.out _ hS1 | exact HS.out _ (Below.refl _ _).drew) (first | (go_at_call 312; refine (HO1.out _).mono ?_; rintro e w1 ⟨rfl, hb1⟩; have hS1 := heldB (Below.refl W0.heap.size W0).drew hb1 (Nat.le_refl _)) | (go_at_call 317; refine (HV.out _ hS1).mono ?_; rintro e w4 ⟨rfl, hb4⟩; have hS4 := heldB (hS1.alloc hS1.size _) hb4 (Nat.le_refl _)))
  go_wp2
  go_ret
  exact ⟨rfl, HB.out.trans (hS4.mono (by omega))⟩
end Go.Proofs.YtgaoeoijdpdjiabGreatDoor

namespace Go.Proofs.YtgaoeoijdpdjiabGreatDoor
open Go.RowKit

theorem sadd (y z : ByteArray) (hy : y.size ≤ 1000) (hz : z.size ≤ 1000) (w : World) : (Op.stringOp .add y z).run Tryz.prog w = .ok (.string (y ++ z)) w := run_string_add w _ _ (by omega) (by omega)

/-- A set in memory: five cells. -/
def FiveC (B : Nat) (w : World) (k b x t l : Int) : Prop :=
  w.cell? ⟨B, 0, none⟩ = some (.int .i64 k) ∧ w.cell? ⟨B, 1, none⟩ = some (.int .i64 b) ∧ w.cell? ⟨B, 2, none⟩ = some (.int .i64 x) ∧ w.cell? ⟨B, 3, none⟩ = some (.int .i64 t) ∧ w.cell? ⟨B, 4, none⟩ = some (.int .i64 l)

theorem FiveC.below {B n : Nat} {w w' : World} {k b x t l : Int} (h : FiveC B w k b x t l) (hb : Below n w w') (hB : B < n) : FiveC B w' k b x t l := by
  obtain ⟨c0, c1, c2, c3, c4⟩ := h
  exact ⟨(hb.cell (p := ⟨B, 0, none⟩) hB).trans c0, (hb.cell (p := ⟨B, 1, none⟩) hB).trans c1, (hb.cell (p := ⟨B, 2, none⟩) hB).trans c2, (hb.cell (p := ⟨B, 3, none⟩) hB).trans c3, (hb.cell (p := ⟨B, 4, none⟩) hB).trans c4⟩

/-- A place in memory: four cells. -/
def FourC (B : Nat) (w : World) (p0 p1 p2 p3 : Int) : Prop :=
  w.cell? ⟨B, 0, none⟩ = some (.int .i64 p0) ∧ w.cell? ⟨B, 1, none⟩ = some (.int .i64 p1) ∧ w.cell? ⟨B, 2, none⟩ = some (.int .i64 p2) ∧ w.cell? ⟨B, 3, none⟩ = some (.int .i64 p3)

theorem FourC.below {B n : Nat} {w w' : World} {p0 p1 p2 p3 : Int} (h : FourC B w p0 p1 p2 p3) (hb : Below n w w') (hB : B < n) : FourC B w' p0 p1 p2 p3 := by
  obtain ⟨c0, c1, c2, c3⟩ := h
  exact ⟨(hb.cell (p := ⟨B, 0, none⟩) hB).trans c0, (hb.cell (p := ⟨B, 1, none⟩) hB).trans c1, (hb.cell (p := ⟨B, 2, none⟩) hB).trans c2, (hb.cell (p := ⟨B, 3, none⟩) hB).trans c3⟩
end Go.Proofs.YtgaoeoijdpdjiabGreatDoor
