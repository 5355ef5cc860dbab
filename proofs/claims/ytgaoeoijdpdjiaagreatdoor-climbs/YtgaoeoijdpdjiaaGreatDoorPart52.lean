/-
  The statement Climbs answers true.
-/
import Derived.Test.YtgaoeoijdpdjiaaGreatDoorPart49
import Derived.Test.YtgaoeoijdpdjiaaGreatDoorPart50
import Derived.Test.YtgaoeoijdpdjiaaGreatDoorPart51
import Derived.Test.YtgaoeoijdpdjiaaGreatDoorPart33
import Derived.Test.YtgaoeoijdpdjiaaGreatDoorPart29
import Derived.Test.YtgaoeoijdpdjiaaGreatDoorPart43
import Derived.Test.YtgaoeoijdpdjiaaGreatDoorPart44
import Derived.Test.YtgaoeoijdpdjiaaGreatDoorPart5
import Derived.Test.YtgaoeoijdpdjiaaGreatDoorPart30
namespace Go.Proofs.YtgaoeoijdpdjiaaGreatDoor
open Go.RowKit
theorem took_any (T i lo X lo' m : Nat) (q : Wk) (tr : Value) (tv : Nat → Nat → ByteArray) (v : Value) (V : World) (h : Wl lo X q tr tv T i V) (hm : m ≤ T) (hr : V.ownsRow lo' 9 1 v m (((List.range m).map (fun j => tv j (pnum i j))).map .string)) :
    Calls Tryz.prog 24 #[.pointer (some ⟨X, 0, none⟩), v] V fun e w' => e = .returned (.bool true) ∧ Below V.heap.size V w' := by
  have hT := h.T4
  rcases Nat.eq_zero_or_pos m with h0 | h0
  · subst h0
    have hP : Calls Tryz.prog 42 #[.pointer (some ⟨X, 0, none⟩)] V fun e w' => ∃ g c, e = .returned (.slice (some ⟨g, 0, none⟩) T c) ∧ Below V.heap.size V w' := (wl_pathS h).mono (by
      rintro e w' ⟨g, c, rfl, -, -, -, hb⟩
      exact ⟨g, c, rfl, hb⟩)
    rcases hr.2 with ⟨rfl, -⟩ | ⟨g, cap, cur, rfl, -⟩
    · exact took_zero X T 0 none V hP
    · exact took_zero X T cap (some ⟨g, 0, none⟩) V hP
  · obtain ⟨g, cap, rfl, -, hg⟩ := hr.form h0
    refine took_some X T m cap g (wlP tv T i) V hm (by omega) (wlP_length _ _ _) hg (fun j y hj hy => ?_) ((wl_pathS h).mono (by
      rintro e w' ⟨g, c, rfl, -, -, hc, hb⟩
      exact ⟨g, c, rfl, hc, hb⟩))
    rw [wlP_get tv (show j < T by omega)] at hy
    cases hy
    rw [hr.cellAt j (by omega)]
    simp [List.getElem?_range hj]
theorem climbs_true (k0 b0 x0 t0 l0 a0 a1 a2 a3 pi : Int) (u0 u1 u2 : ByteArray) (w : World) (hT : Tn w) (i0 : Int64 k0) (i1 : Int64 b0) (i2 : Int64 x0) (i3 : Int64 t0) (i4 : Int64 l0) (j0 : Int64 a0) (j1 : Int64 a1) (j2 : Int64 a2) (j3 : Int64 a3) (n0 : Int64 pi) (m0 : u0.size ≤ maxLen) (m1 : u1.size ≤ maxLen) (m2 : u2.size ≤ maxLen) :
    Calls Tryz.prog 5 #[.agg #[.int .i64 k0, .int .i64 b0, .int .i64 x0, .int .i64 t0, .int .i64 l0], .agg #[.string u0, .string u1, .string u2], .agg #[.int .i64 a0, .int .i64 a1, .int .i64 a2, .int .i64 a3], .int .i64 pi] w fun e w' => e = .returned (.bool true) ∧ Below w.heap.size w w' := by
  obtain ⟨k, b, x, e, f, t, l, R, ek, eb, ex, et, el⟩ := fit_set k0 b0 x0 t0 l0
  obtain ⟨g1, g2, g3, g4, g5, g6⟩ := pair_small R.pr
  obtain ⟨hb, hx⟩ := pairB R.pr
  have r1 := R.t1
  have r2 := R.t2
  have r3 := R.l1
  have r4 := R.l2
  have bq := pickZ_bd a0 l (by omega)
  obtain ⟨q, hq⟩ : ∃ q : Nat, pickZ a0 l = (q : Int) := ⟨(pickZ a0 l).toNat, by omega⟩
  have hql : q < l := by omega
  obtain ⟨d, hd⟩ : ∃ d, d = t * (l - 1 - q) := ⟨_, rfl⟩
  have hdl : d ≤ 8 := by rw [hd]; exact Nat.le_trans (Nat.mul_le_mul r2 (show l - 1 - q ≤ 2 by omega)) (by decide)
  obtain ⟨M, hM⟩ : ∃ M : Nat, 2 ^ d = M := ⟨_, rfl⟩
  obtain ⟨L, hL⟩ : ∃ L : Nat, 2 ^ t = L := ⟨_, rfl⟩
  have hM1 : 1 ≤ M := by rw [← hM]; exact Nat.one_le_two_pow
  have hM2 : M ≤ 256 := by rw [← hM]; exact Nat.le_trans (Nat.pow_le_pow_right (by decide) hdl) (by decide)
  have hL1 : 1 ≤ L := by rw [← hL]; exact Nat.one_le_two_pow
  have hL2 : L ≤ 16 := by rw [← hL]; exact Nat.le_trans (Nat.pow_le_pow_right (by decide) r2) (by decide)
  have b1 := pickZ_bd a1 M (by omega)
  have hlB : ∀ lf : Nat, lf < L → leafB t l q (pickZ a1 M) lf = true := fun lf hlf => by
    unfold leafB
    rw [Int.toNat_natCast, ← hd, hM, hL]
    simp only [Bool.and_eq_true, decide_eq_true_eq]
    omega
  have sz : ∀ s : ByteArray, (someB s b).size = b := fun s => someB_size s b
  have szi : ∀ s : ByteArray, ((someB s b).size : Int) = b := fun s => by rw [someB_size]
  have hO := trOk k b x e f t l R (someB u0 b) (someB u1 b) (someB u2 b) q (pickZ a1 M) (sz u0) (sz u2)
  have nsz := nodeS_size k b (x - 1) (b * e + f) (someB u0 b) (someB u2 b) q (pickZ a1 M) R.kk (by omega) (by omega) (by rw [sz]; omega) (by rw [sz]; omega) g3
  have hNode := fun (h j : Nat) (hh : h ≤ t) (hj : j < 2 ^ (t - h)) (V : World) (hV : Tn V) => sigNode_yes k b x e f t l R (someB u0 b) (someB u1 b) (someB u2 b) q (pickZ a1 M) h j (hlB 0 (by omega)) (szi u0) (szi u1) (szi u2) hh hj V hV
  have psz : ∀ i, ∀ y ∈ wlP (nodeS k b (x - 1) (b * e + f) (someB u0 b) (someB u2 b) q (pickZ a1 M)) t i, (y.size : Int) = b := fun i y hy => by
    obtain ⟨j, -, rfl⟩ := List.mem_map.1 hy
    exact nsz _ _
  have hTB := hT.2.2
  refine climbs_on k0 b0 x0 t0 l0 a0 a1 a2 a3 pi u0 u1 u2 k b x l q (pickZ a1 M) (pickZ a2 L) (pickZ a3 ((b * e + f : Nat) : Int)) (pickZ pi L) t L (someB u0 b) (someB u1 b) (someB u2 b) (nodeS k b (x - 1) (b * e + f) (someB u0 b) (someB u2 b) q (pickZ a1 M) t 0) (trV k b x t l (b * e + f) (someB u0 b) (someB u1 b) (someB u2 b) q (pickZ a1 M)) (nodeS k b (x - 1) (b * e + f) (someB u0 b) (someB u2 b) q (pickZ a1 M)) w hT hL hL1 hL2 (nsz _ _) ?_ ?_ ?_ (fun V => bare_any _ _ _ _ V) ?_ ?_ (fun V hV => knows_any V hV) ?_ ?_ ?_ ?_ ?_ ?_ ?_ ?_
  · intro V
    have h := fit_any k0 b0 x0 t0 l0 V i0 i1 i2 i3 i4
    rw [ek, eb, ex, et, el] at h
    exact h
  · intro V
    exact sown_any k x t l b u0 u1 u2 V (by omega) m0 m1 m2
  · intro V
    have h := place_on k b x t l q d (b * e + f) a0 a1 a2 a3 V r2 r3 r4 hq hql hd g3 g4 j0 j1 j2 j3 (fun V => keepLeaves_any k b x l t V r1 r2) (fun V => by
      have h := keepChains_any b x k t l V hb hx
      rw [chains_pair R.pr] at h
      exact h)
    rw [hM, hL] at h
    exact h
  · intro V
    have h := keepLeaves_any k b x l t V r1 r2
    rw [hL] at h
    exact h
  · intro V
    exact pick_any pi L V (by omega) (by omega) n0.1 n0.2
  · intro V hV
    refine (wl_new k b x e f t l R (someB u0 b) (someB u1 b) (someB u2 b) (sz u0) (sz u1) (sz u2) q (pickZ a1 M) (hlB 0 (by omega)) V.heap.size V hV (Nat.le_refl _)).mono ?_
    rintro e' w' ⟨X, z, rfl, h1, -, -, h2⟩
    exact ⟨X, z, rfl, h1, h2⟩
  · intro V hV
    exact hNode t 0 (Nat.le_refl _) (by rw [Nat.sub_self]; decide) V hV
  · intro i lo X z V hi hV h
    refine climbed_on k b x l q (pickZ a1 M) t i (someB u0 b) (someB u1 b) (someB u2 b) X (wlP (nodeS k b (x - 1) (b * e + f) (someB u0 b) (someB u2 b) q (pickZ a1 M)) t i) (nodeS k b (x - 1) (b * e + f) (someB u0 b) (someB u2 b) q (pickZ a1 M) 0 i) _ V hV (nsz _ _) ?_ ?_ ?_ ?_ ?_
    · intro V' hb'
      refine (wl_pathS (h.on hb')).mono ?_
      rintro e w' ⟨g, c, rfl, -, hg, hc, hb2⟩
      exact ⟨g, c, rfl, hg, hc, hb2⟩
    · intro V' hb'
      exact wl_at (h.on hb')
    · intro V' g c hg hc
      exact sizedX_any k b x t l g 0 t c _ V' (wlP_length _ _ _) (by omega) (psz i) hg (fun j y hy => by rw [Nat.zero_add]; exact hc j y hy)
    · intro V' hV'
      exact hNode 0 i (Nat.zero_le _) (by rw [Nat.sub_zero, hL]; exact hi) V' hV'
    · intro V' g c hV' hg hc
      have h := sigClimb_yes k b x e f t l R (someB u2 b) (nodeS k b (x - 1) (b * e + f) (someB u0 b) (someB u2 b) q (pickZ a1 M) 0 i) q (pickZ a1 M) i g 0 c (wlP (nodeS k b (x - 1) (b * e + f) (someB u0 b) (someB u2 b) q (pickZ a1 M)) t i) (hlB i hi) (szi u2) (nsz _ _) (wlP_length _ _ _) (psz i) (by omega) V' hg (fun j y hy => by rw [Nat.zero_add]; exact hc j y hy) hV'
      rw [wlP_length, climb_root k b (x - 1) (b * e + f) (someB u0 b) (someB u2 b) q (pickZ a1 M) i t (by rw [hL]; exact hi)] at h
      exact h
  · intro i lo X z V hi hV h
    have hi' : i < 2 ^ t := by rw [hL]; exact hi
    refine stacked_on k b x l q (pickZ a1 M) t i (someB u0 b) (someB u1 b) (someB u2 b) X (fun j => (skAt (2 ^ t) i j).1) (nodeS k b (x - 1) (b * e + f) (someB u0 b) (someB u2 b) q (pickZ a1 M)) V hV r2 ?_ ?_ ?_ ?_ ?_ hNode
    · intro j hj
      exact sk_len r2 hi' hj
    · intro e0 j hj
      subst e0
      exact sk_first r2 hj
    · intro j hj
      exact sk_node r2 hi' hj
    · intro j hj m y z hy hz
      have h4 := sk_len r2 hi' hj
      have h5 := (List.getElem?_eq_some_iff.1 hy).1
      exact sk_beside r2 hi' hj (by omega) hy hz
    · intro j V' hj hb'
      exact wl_stack (h.on hb') hj
  · intro i lo X z V hi h
    have hi' : i + 1 < 2 ^ t := by rw [hL]; exact hi
    refine (due_on k b x l t i X (fun j => nodeS k b (x - 1) (b * e + f) (someB u0 b) (someB u2 b) q (pickZ a1 M) j (pnum (i + 1) j)) V r2 (by omega) ?_).mono ?_
    · intro j V' hj hm hb'
      refine (wl_stack (h.on hb') hj).mono ?_
      rintro e w' ⟨v, rfl, hr, hb2⟩
      rw [sk_path r2 hi' hj hm] at hr
      obtain ⟨g, c, rfl, -, -⟩ := hr.form (by simp)
      refine ⟨g, c, rfl, ?_, ?_, hb2⟩
      · rw [hr.cellAt 0 (by simp)]
        rfl
      · rw [hr.cellAt 2 (by simp)]
        rfl
    · rintro e w' ⟨m, v, rfl, hm, hr, hb2⟩
      exact ⟨m, v, rfl, hm, hr, hb2⟩
  · intro i lo X z V hi hV hlo hlo2 h
    refine (wl_next h hO (by rw [hL]; exact hi) hV (by omega) hlo2).mono ?_
    rintro e w' ⟨rfl, z', h1, h2, -⟩
    exact ⟨rfl, z', h1, h2⟩
  · intro i lo X z V hi h
    exact wl_spent h (by rw [hL]; exact hi)
  · intro i lo X lo' m z v V h hm hr
    exact took_any t i lo X lo' m z _ _ v V h hm hr
end Go.Proofs.YtgaoeoijdpdjiaaGreatDoor
