/-
  The statement Grown answers true.
-/
import Derived.Test.YtgaoeoijdpdjiaaDoorPart37
import Derived.Test.YtgaoeoijdpdjiaaDoorPart50
import Derived.Test.YtgaoeoijdpdjiaaDoorPart41
import Derived.Test.YtgaoeoijdpdjiaaDoorPart27
import Derived.Test.YtgaoeoijdpdjiaaDoorPart40
import Derived.Test.YtgaoeoijdpdjiaaDoorPart38
import Derived.Test.YtgaoeoijdpdjiaaDoorPart4
namespace Go.Proofs.YtgaoeoijdpdjiaaDoor
open Go.RowKit

/-- A set that fit makes, as its pair of numbers. -/
theorem fit_set (k0 b0 x0 t0 l0 : Int) : ∃ (k : Int) (b x e f t l : Nat), RSet k b x e f t l ∧ pickZ k0 2 + 1 = k ∧ 4 + 4 * pickZ b0 2 = (b : Int) ∧ 4 + 12 * pickZ x0 2 = (x : Int) ∧ pickZ t0 4 + 1 = (t : Int) ∧ pickZ l0 3 + 1 = (l : Int) := by
  have p1 := pickZ_bd k0 2 (by omega)
  have p2 := pickZ_bd b0 2 (by omega)
  have p3 := pickZ_bd x0 2 (by omega)
  have p4 := pickZ_bd t0 4 (by omega)
  have p5 := pickZ_bd l0 3 (by omega)
  obtain ⟨t, ht⟩ : ∃ t : Nat, pickZ t0 4 + 1 = (t : Int) := ⟨(pickZ t0 4 + 1).toNat, by omega⟩
  obtain ⟨l, hl⟩ : ∃ l : Nat, pickZ l0 3 + 1 = (l : Int) := ⟨(pickZ l0 3 + 1).toNat, by omega⟩
  have q1 : pickZ k0 2 + 1 = 1 ∨ pickZ k0 2 + 1 = 2 := by omega
  have q2 : pickZ b0 2 = 0 ∨ pickZ b0 2 = 1 := by omega
  have q3 : pickZ x0 2 = 0 ∨ pickZ x0 2 = 1 := by omega
  have H : ∀ b x e f : Nat, Pair b x e f → (b = 4 ∨ b = 8) → (x = 4 ∨ x = 16) → RSet (pickZ k0 2 + 1) b x e f t l := fun b x e f hp hb hx => ⟨hp, q1, by omega, by omega, by omega, by omega, by unfold rightB; rw [decide_eq_true_eq]; omega⟩
  rcases q2 with q2 | q2 <;> rcases q3 with q3 | q3
  · exact ⟨_, 4, 4, 4, 3, t, l, H _ _ _ _ (by unfold Pair; omega) (by omega) (by omega), rfl, by omega, by omega, ht, hl⟩
  · exact ⟨_, 4, 16, 2, 2, t, l, H _ _ _ _ (by unfold Pair; omega) (by omega) (by omega), rfl, by omega, by omega, ht, hl⟩
  · exact ⟨_, 8, 4, 4, 4, t, l, H _ _ _ _ (by unfold Pair; omega) (by omega) (by omega), rfl, by omega, by omega, ht, hl⟩
  · exact ⟨_, 8, 16, 2, 2, t, l, H _ _ _ _ (by unfold Pair; omega) (by omega) (by omega), rfl, by omega, by omega, ht, hl⟩

theorem pairB {b x e f : Nat} (h : Pair b x e f) : (b = 4 ∨ b = 8) ∧ (x = 4 ∨ x = 16) := by
  unfold Pair at h
  omega

theorem chains_pair {b x e f : Nat} (h : Pair b x e f) : chainsK b x = b * e + f := by
  unfold Pair at h
  rcases h with ⟨rfl, rfl, rfl, rfl⟩ | ⟨rfl, rfl, rfl, rfl⟩ | ⟨rfl, rfl, rfl, rfl⟩ | ⟨rfl, rfl, rfl, rfl⟩ <;> rfl

/-- The statement's leaf at a place that is right. -/
theorem keepLeaf_yes (k : Int) (b x e f t l : Nat) (R : RSet k b x e f t l) (sec rnd pub : ByteArray) (p0 p1 p2 : Int) (hl : leafB t l p0 p1 p2 = true) (s1 : (sec.size : Int) = b) (s2 : (rnd.size : Int) = b) (s3 : (pub.size : Int) = b) (w : World) (hT : Tn w) :
    Calls Tryd.prog 35 #[.agg #[.int .i64 k, .int .i64 b, .int .i64 x, .int .i64 t, .int .i64 l], .agg #[.string sec, .string rnd, .string pub], .agg #[.int .i64 p0, .int .i64 p1, .int .i64 p2, .int .i64 0]] w fun r w' => r = .returned (.string (leafS k b (x - 1) (b * e + f) sec pub p0 p1 p2)) ∧ Below w.heap.size w w' := by
  obtain ⟨g1, g2, g3, g4, g5, g6⟩ := pair_small R.pr
  obtain ⟨hb, hx⟩ := pairB R.pr
  have hc : ∀ m : Nat, m < b * e + f → chainB t l (b * e + f) p0 p1 p2 m = true := fun m hm => by
    unfold chainB
    rw [hl, Bool.true_and, decide_eq_true_eq]
    omega
  refine keepLeaf_on k b x t l p0 p1 p2 0 sec rnd pub _ (fun m => startS k b sec p0 p1 p2 m) (fun m => endS k b (x - 1) sec pub p0 p1 p2 m) (b * e + f) w g3 g4 (by omega) (by omega) hT (fun m => startS_size k b sec p0 p1 p2 m R.kk (by omega) (by omega) (by omega)) (fun m => endS_size k b (x - 1) sec pub p0 p1 p2 m R.kk (by omega) (by omega) (by omega) (by omega)) (leafS_size k b (x - 1) (b * e + f) sec pub p0 p1 p2 R.kk (by omega) (by omega) (by omega) (by omega) g3) ?_ ?_ ?_ ?_
  · intro V
    have h := keepChains_any b x k t l V hb hx
    rw [chains_pair R.pr] at h
    exact h
  · intro m hm V hV
    exact sigStart_yes k b x e f t l R sec rnd pub p0 p1 p2 m (hc m hm) s1 s2 s3 V hV
  · intro m hm V hV
    have h := sigChain_yes k b x e f t l R.pr R.kk R.t1 R.t2 R.l1 R.l2 pub (startS k b sec p0 p1 p2 m) p0 p1 p2 m 0 (x - 1) R.r (hc m hm) s3 (startS_size k b sec p0 p1 p2 m R.kk (by omega) (by omega) (by omega)) (by omega) V hV
    rw [show ((0 + (x - 1) : Nat) : Int) = (x : Int) - 1 by omega] at h
    exact h
  · intro V sp n c hst hV
    exact sigFold_yes k b x e f t l R pub p0 p1 p2 sp n c (endsS k b (x - 1) sec pub p0 p1 p2 (b * e + f)) hl s3 (endsS_length _ _ _ _ _ _ _ _ _) (endsS_size k b (x - 1) sec pub p0 p1 p2 (b * e + f) R.kk (by omega) (by omega) (by omega) (by omega)) V hst hV

/-- The statement's nodes at a place that is right. -/
theorem keepNodes_yes (k : Int) (b x e f t l : Nat) (R : RSet k b x e f t l) (sec rnd pub : ByteArray) (p0 p1 : Int) (lf : Nat) (p3 : Int) (hl : leafB t l p0 p1 lf = true) (s1 : (sec.size : Int) = b) (s2 : (rnd.size : Int) = b) (s3 : (pub.size : Int) = b) (q0 : 0 ≤ p0 ∧ p0 ≤ 100000) (q1 : 0 ≤ p1 ∧ p1 ≤ 100000) (w : World) (hT : Tn w) :
    Calls Tryd.prog 17 #[.agg #[.int .i64 k, .int .i64 b, .int .i64 x, .int .i64 t, .int .i64 l], .agg #[.string sec, .string rnd, .string pub], .agg #[.int .i64 p0, .int .i64 p1, .int .i64 lf, .int .i64 p3]] w fun e w' => e = .returned (.bool true) ∧ Below w.heap.size w w' := by
  obtain ⟨g1, g2, g3, g4, g5, g6⟩ := pair_small R.pr
  have hl2 := hl
  unfold leafB at hl2
  simp only [Bool.and_eq_true, decide_eq_true_eq] at hl2
  obtain ⟨y0, y1, y2⟩ := hl2
  have hlf : lf < 2 ^ t := by omega
  have hl0 : leafB t l p0 p1 0 = true := by
    unfold leafB
    simp only [Bool.and_eq_true, decide_eq_true_eq]
    exact ⟨y0, y1, by omega, by have : 1 ≤ 2 ^ t := Nat.one_le_two_pow; omega⟩
  refine keepNodes_on k b x l p0 p1 p3 t lf sec rnd pub (nodeS k b (x - 1) (b * e + f) sec pub p0 p1) w R.kk (by omega) (by omega) (by omega) R.t2 hlf q0 q1 hT (nodeS_size k b (x - 1) (b * e + f) sec pub p0 p1 R.kk (by omega) (by omega) (by omega) (by omega) g3) ?_ ?_ ?_ ?_
  · intro m q
    rw [nodeS, joinS]
    simp only [ByteArray.append_assoc]
  · intro V
    exact bare_any p0 p1 lf p3 V
  · intro h j hh hj V hV
    exact sigNode_yes k b x e f t l R sec rnd pub p0 p1 h j hl0 s1 s2 s3 hh hj V hV
  · intro V hV
    have h := keepLeaf_yes k b x e f t l R sec rnd pub p0 p1 lf hl s1 s2 s3 V hV
    exact h

theorem grown_true (k0 b0 x0 t0 l0 a0 a1 a2 a3 pi qi ri : Int) (u0 u1 u2 xs : ByteArray) (w : World) (hT : Tn w) (i0 : Int64 k0) (i1 : Int64 b0) (i2 : Int64 x0) (i3 : Int64 t0) (i4 : Int64 l0) (j0 : Int64 a0) (j1 : Int64 a1) (j2 : Int64 a2) (j3 : Int64 a3) (n0 : Int64 pi) (n1 : Int64 qi) (n2 : Int64 ri) (m0 : u0.size ≤ maxLen) (m1 : u1.size ≤ maxLen) (m2 : u2.size ≤ maxLen) (m3 : xs.size ≤ maxLen) :
    Calls Tryd.prog 5 #[.agg #[.int .i64 k0, .int .i64 b0, .int .i64 x0, .int .i64 t0, .int .i64 l0], .agg #[.string u0, .string u1, .string u2], .agg #[.int .i64 a0, .int .i64 a1, .int .i64 a2, .int .i64 a3], .int .i64 pi, .int .i64 qi, .int .i64 ri, .string xs] w fun e w' => e = .returned (.bool true) ∧ Below w.heap.size w w' := by
  obtain ⟨k, b, x, e, f, t, l, R, ek, eb, ex, et, el⟩ := fit_set k0 b0 x0 t0 l0
  obtain ⟨g1, g2, g3, g4, g5, g6⟩ := pair_small R.pr
  obtain ⟨hb, hx⟩ := pairB R.pr
  have r1 := R.t1
  have r2 := R.t2
  have r3 := R.l1
  have r4 := R.l2
  have bq := pickZ_bd a0 l (by omega)
  obtain ⟨q, hq⟩ : ∃ q : Nat, pickZ a0 l = (q : Int) := ⟨(pickZ a0 l).toNat, by omega⟩
  have hql : q < l := by omega
  obtain ⟨d, hd⟩ : ∃ d, d = t * (l - 1 - q) := ⟨_, rfl⟩
  have hdl : d ≤ 8 := by rw [hd]; exact Nat.le_trans (Nat.mul_le_mul r2 (show l - 1 - q ≤ 2 by omega)) (by decide)
  obtain ⟨M, hM⟩ : ∃ M : Nat, 2 ^ d = M := ⟨_, rfl⟩
  obtain ⟨L, hL⟩ : ∃ L : Nat, 2 ^ t = L := ⟨_, rfl⟩
  have hM1 : 1 ≤ M := by rw [← hM]; exact Nat.one_le_two_pow
  have hM2 : M ≤ 256 := by rw [← hM]; exact Nat.le_trans (Nat.pow_le_pow_right (by decide) hdl) (by decide)
  have hL1 : 1 ≤ L := by rw [← hL]; exact Nat.one_le_two_pow
  have hL2 : L ≤ 16 := by rw [← hL]; exact Nat.le_trans (Nat.pow_le_pow_right (by decide) r2) (by decide)
  have b1 := pickZ_bd a1 M (by omega)
  have b2 := pickZ_bd a2 L (by omega)
  have b3 := pickZ_bd a3 ((b * e + f : Nat) : Int) (by omega)
  obtain ⟨lf, hlf⟩ : ∃ lf : Nat, pickZ a2 L = (lf : Int) := ⟨(pickZ a2 L).toNat, by omega⟩
  have hlB : leafB t l q (pickZ a1 M) lf = true := by
    unfold leafB
    rw [Int.toNat_natCast, ← hd, hM, hL]
    simp only [Bool.and_eq_true, decide_eq_true_eq]
    omega
  have hcB : chainB t l (b * e + f) q (pickZ a1 M) lf (pickZ a3 ((b * e + f : Nat) : Int)) = true := by
    unfold chainB
    rw [hlB, Bool.true_and, decide_eq_true_eq]
    omega
  have bp := pickZ_bd pi x (by omega)
  obtain ⟨P, hP⟩ : ∃ P : Nat, pickZ pi x = (P : Int) := ⟨(pickZ pi x).toNat, by omega⟩
  have bq2 := pickZ_bd qi ((x : Int) - P) (by omega)
  obtain ⟨Q, hQ⟩ : ∃ Q : Nat, pickZ qi ((x : Int) - P) = (Q : Int) := ⟨(pickZ qi ((x : Int) - P)).toNat, by omega⟩
  have br2 := pickZ_bd ri ((x : Int) - ((P + Q : Nat) : Int)) (by omega)
  obtain ⟨Z, hZ⟩ : ∃ Z : Nat, pickZ ri ((x : Int) - ((P + Q : Nat) : Int)) = (Z : Int) := ⟨(pickZ ri ((x : Int) - ((P + Q : Nat) : Int))).toNat, by omega⟩
  have sz : ∀ s : ByteArray, ((someB s b).size : Int) = b := fun s => by rw [someB_size]
  refine grown_on k0 b0 x0 t0 l0 a0 a1 a2 a3 pi qi ri u0 u1 u2 xs k b x t l q (pickZ a1 M) lf (pickZ a3 ((b * e + f : Nat) : Int)) P ((P + Q : Nat) : Int) ((P + (Q + Z) : Nat) : Int) Q Z (someB u0 b) (someB u1 b) (someB u2 b) (someB xs b) w hT (by omega) (by omega) (by omega) (by omega) (by omega) (by omega) (by omega) (by omega) (by omega) (by omega) ?_ ?_ ?_ (fun V hV => knows_any V hV) ?_ ?_ ?_ (fun V => someN_any xs b V m3 (by omega)) ?_ ?_
  · intro V
    have h := fit_any k0 b0 x0 t0 l0 V i0 i1 i2 i3 i4
    rw [ek, eb, ex, et, el] at h
    exact h
  · intro V
    exact sown_any k x t l b u0 u1 u2 V (by omega) m0 m1 m2
  · intro V
    have h := place_on k b x t l q d (b * e + f) a0 a1 a2 a3 V r2 r3 r4 hq hql hd g3 g4 j0 j1 j2 j3 (fun V => keepLeaves_any k b x l t V r1 r2) (fun V => by
      have h := keepChains_any b x k t l V hb hx
      rw [chains_pair R.pr] at h
      exact h)
    rw [hM, hL, hlf] at h
    exact h
  · intro V
    have h := pick_any pi x V (by omega) (by omega) n0.1 n0.2
    rw [hP] at h
    exact h
  · intro V
    have h := pick_any qi ((x : Int) - P) V (by omega) (by omega) n1.1 n1.2
    rw [hQ] at h
    exact h
  · intro V
    have h := pick_any ri ((x : Int) - ((P + Q : Nat) : Int)) V (by omega) (by omega) n2.1 n2.2
    rw [hZ] at h
    exact h
  · intro V hV
    have CH := fun (F n : Nat) (y : ByteArray) (hy : (y.size : Int) = b) (hn : F + n < x) (V : World) (hV : Tn V) => sigChain_yes k b x e f t l R.pr R.kk r1 r2 r3 r4 (someB u2 b) y q (pickZ a1 M) lf (pickZ a3 ((b * e + f : Nat) : Int)) F n R.r hcB (sz u2) hy hn V hV
    refine onward_on k b x t l (someB u2 b) (someB xs b) q (pickZ a1 M) lf (pickZ a3 ((b * e + f : Nat) : Int)) P ((P + Q : Nat) : Int) ((P + (Q + Z) : Nat) : Int) (chainS k b (someB u2 b) q (pickZ a1 M) lf (pickZ a3 ((b * e + f : Nat) : Int)) P Q (someB xs b)) (chainS k b (someB u2 b) q (pickZ a1 M) lf (pickZ a3 ((b * e + f : Nat) : Int)) P (Q + Z) (someB xs b)) V hV (chainS_size _ _ _ _ _ _ _ _ _ _ R.kk (by omega) (by omega) (by rw [someB_size]; omega) (sz xs)) ?_ ?_ ?_ ?_
    · intro V hV
      exact CH P Q (someB xs b) (sz xs) (by omega) V hV
    · intro V hV
      have h := CH (P + Q) Z (chainS k b (someB u2 b) q (pickZ a1 M) lf (pickZ a3 ((b * e + f : Nat) : Int)) P Q (someB xs b)) (chainS_size _ _ _ _ _ _ _ _ _ _ R.kk (by omega) (by omega) (by rw [someB_size]; omega) (sz xs)) (by omega) V hV
      rw [chainS_add, Nat.add_assoc] at h
      exact h
    · intro V hV
      exact CH P (Q + Z) (someB xs b) (sz xs) (by omega) V hV
    · intro V hV
      exact steps_any k b x t l q (pickZ a1 M) lf (pickZ a3 ((b * e + f : Nat) : Int)) (someB u2 b) (someB xs b) P (Q + Z) V R.kk (by omega) (by omega) (by rw [someB_size]; omega) (sz xs) (by omega) (by omega) (by omega) (by omega) (by omega) hV
  · intro V hV
    exact keepNodes_yes k b x e f t l R (someB u0 b) (someB u1 b) (someB u2 b) q (pickZ a1 M) lf (pickZ a3 ((b * e + f : Nat) : Int)) hlB (sz u0) (sz u1) (sz u2) (by omega) (by omega) V hV
end Go.Proofs.YtgaoeoijdpdjiaaDoor
