/-
  The statement's own onward: Chain goes by digests, and in two pieces as in one.
-/
import Derived.Test.YtgaoeoijdpdjiaaDoorPart31
import Derived.Test.YtgaoeoijdpdjiaaDoorPart48
import Derived.Test.YtgaoeoijdpdjiaaDoorPart43
import Derived.Test.YtgaoeoijdpdjiaaDoorPart22
namespace Go.Proofs.YtgaoeoijdpdjiaaDoor
open Go.RowKit

theorem chainS_add (k b : Int) (pub : ByteArray) (p0 p1 p2 p3 : Int) (F m : Nat) (y : ByteArray) : ∀ n : Nat, chainS k b pub p0 p1 p2 p3 ((F + m : Nat) : Int) n (chainS k b pub p0 p1 p2 p3 F m y) = chainS k b pub p0 p1 p2 p3 F (m + n) y := by
  intro n
  induction n with
  | zero => rfl
  | succ n ih =>
    rw [← Nat.add_assoc, chainS, ih, chainS]
    congr 1
    omega

/-- signet.Chain where all is right. -/
theorem sigChain_yes (k : Int) (b x e f t l : Nat) (hpr : Pair b x e f) (hk : k = 1 ∨ k = 2) (h1 : 1 ≤ t) (h2 : t ≤ 4) (h3 : 1 ≤ l) (h4 : l ≤ 3) (pub y : ByteArray) (p0 p1 p2 p3 : Int) (F n : Nat) (hr : rightB k b x t l = true) (hc : chainB t l (b * e + f) p0 p1 p2 p3 = true) (s1 : (pub.size : Int) = b) (s2 : (y.size : Int) = b) (hn : F + n < x) (w : World) (hT : Tn w) :
    Calls Tryd.prog 31 #[.agg #[.int .i64 k, .int .i64 b, .int .i64 x, .int .i64 t, .int .i64 l], .string pub, .agg #[.int .i64 p0, .int .i64 p1, .int .i64 p2, .int .i64 p3], .int .i64 F, .int .i64 ((F + n : Nat) : Int), .string y] w fun e w' => e = .returned (.tuple #[.string (chainS k b pub p0 p1 p2 p3 F n y), .int .i64 0]) ∧ Below w.heap.size w w' := by
  obtain ⟨g1, g2, g3, g4, g5, g6⟩ := pair_small hpr
  have hv : allLen (b : Int) [pub, y] = true := (allLen_iff _ _).2 (by intro z hz; simp at hz; rcases hz with rfl | rfl; exact s1; exact s2)
  refine schain_on k b x t l pub y p0 p1 p2 p3 F _ _ _ w hT (fun V hV => tchain_yes k b x t l pub y p0 p1 p2 p3 F _ V (fun V => ?_) (values2 k b x t l pub y true hv) (fun V => ?_) (by omega) (by omega) (by omega) _ hV (fun V hV => schain_any k b x t l pub p0 p1 p2 p3 F n y V hk (by omega) (by omega) (by omega) s2 (by omega) hV))
  · have h := check_any k b x t l V; rw [hr] at h; exact h
  · have h := isChain_any k b x _ _ _ _ _ t l (b * e + f) p0 p1 p2 p3 V h1 h2 h4 (fun V => setsMeasure_yes b x e f t l hpr k V hk h1 h2 h3 h4); rw [hc] at h; exact h

set_option maxRecDepth 20000 in
set_option maxHeartbeats 4000000 in
theorem onward_on (k b x t l : Int) (pub y : ByteArray) (p0 p1 p2 p3 fr mi to : Int) (u v : ByteArray) (w : World) (hT : Tn w) (hv : (v.size : Int) = b)
    (hA : ∀ V : World, Tn V → Calls Tryd.prog 31 #[.agg #[.int .i64 k, .int .i64 b, .int .i64 x, .int .i64 t, .int .i64 l], .string pub, .agg #[.int .i64 p0, .int .i64 p1, .int .i64 p2, .int .i64 p3], .int .i64 fr, .int .i64 mi, .string y] V fun e w' => e = .returned (.tuple #[.string u, .int .i64 0]) ∧ Below V.heap.size V w')
    (hM : ∀ V : World, Tn V → Calls Tryd.prog 31 #[.agg #[.int .i64 k, .int .i64 b, .int .i64 x, .int .i64 t, .int .i64 l], .string pub, .agg #[.int .i64 p0, .int .i64 p1, .int .i64 p2, .int .i64 p3], .int .i64 mi, .int .i64 to, .string u] V fun e w' => e = .returned (.tuple #[.string v, .int .i64 0]) ∧ Below V.heap.size V w')
    (hE : ∀ V : World, Tn V → Calls Tryd.prog 31 #[.agg #[.int .i64 k, .int .i64 b, .int .i64 x, .int .i64 t, .int .i64 l], .string pub, .agg #[.int .i64 p0, .int .i64 p1, .int .i64 p2, .int .i64 p3], .int .i64 fr, .int .i64 to, .string y] V fun e w' => e = .returned (.tuple #[.string v, .int .i64 0]) ∧ Below V.heap.size V w')
    (hS : ∀ V : World, Tn V → Calls Tryd.prog 32 #[.agg #[.int .i64 k, .int .i64 b, .int .i64 x, .int .i64 t, .int .i64 l], .string pub, .agg #[.int .i64 p0, .int .i64 p1, .int .i64 p2, .int .i64 p3], .int .i64 fr, .int .i64 to, .string y] V fun e w' => e = .returned (.string v) ∧ Below V.heap.size V w') :
    Calls Tryd.prog 15 #[.agg #[.int .i64 k, .int .i64 b, .int .i64 x, .int .i64 t, .int .i64 l], .string pub, .agg #[.int .i64 p0, .int .i64 p1, .int .i64 p2, .int .i64 p3], .int .i64 fr, .int .i64 mi, .int .i64 to, .string y] w fun e w' => e = .returned (.bool true) ∧ Below w.heap.size w w' := by
  obtain ⟨W0, hW⟩ : ∃ W0, (w.alloc (.cells #[.int .i64 k, .int .i64 b, .int .i64 x, .int .i64 t, .int .i64 l] 25)).alloc (.cells #[.int .i64 p0, .int .i64 p1, .int .i64 p2, .int .i64 p3] 27) = W0 := ⟨_, rfl⟩
  have HF := hide (show FiveC w.heap.size W0 k b x t l by subst hW; refine ⟨?_, ?_, ?_, ?_, ?_⟩ <;> simp [go_sem])
  have HP := hide (show FourC (w.heap.size + 1) W0 p0 p1 p2 p3 by subst hW; refine ⟨?_, ?_, ?_, ?_⟩ <;> simp [go_sem])
  have HB := hide (show Below w.heap.size w W0 by subst hW; exact ((Below.refl _ _).alloc (Nat.le_refl _) _).alloc (by simp) _)
  have hz : W0.heap.size ≤ w.heap.size + 2 := by subst hW; simp
  have hz' : w.heap.size + 2 ≤ W0.heap.size := by subst hW; simp
  have HTT := hide (hT.on HB.out)
  have HS := hide (fun (V : World) (h : Below W0.heap.size W0 V) => (by
    obtain ⟨c0, c1, c2, c3, c4⟩ := HF.out.below h (by omega)
    obtain ⟨d0, d1, d2, d3⟩ := HP.out.below h (by omega)
    exact ⟨c0, c1, c2, c3, c4, d0, d1, d2, d3⟩ : V.cell? ⟨w.heap.size, 0, none⟩ = some (.int .i64 k) ∧ V.cell? ⟨w.heap.size, 1, none⟩ = some (.int .i64 b) ∧ V.cell? ⟨w.heap.size, 2, none⟩ = some (.int .i64 x) ∧ V.cell? ⟨w.heap.size, 3, none⟩ = some (.int .i64 t) ∧ V.cell? ⟨w.heap.size, 4, none⟩ = some (.int .i64 l) ∧ V.cell? ⟨w.heap.size + 1, 0, none⟩ = some (.int .i64 p0) ∧ V.cell? ⟨w.heap.size + 1, 1, none⟩ = some (.int .i64 p1) ∧ V.cell? ⟨w.heap.size + 1, 2, none⟩ = some (.int .i64 p2) ∧ V.cell? ⟨w.heap.size + 1, 3, none⟩ = some (.int .i64 p3)))
  have H1 := hide hA
  have H2 := hide hM
  have H3 := hide hE
  have H4 := hide hS
  have hv1 : ((v.size : Int) == b) = true := by simpa using hv
  have hv2 : ((v.size : Int) != b) = false := by rw [bne, hv1]; rfl
  clear hT hA hM hE hS hv
  obtain ⟨c0, c1, c2, c3, c4, d0, d1, d2, d3⟩ := HS.out W0 (Below.refl _ _)
  go_enter Tryd.func15, Tryd.ntmps15
  go_wp2_with fail
  try rw [hW]
  clear hW
  refine (H1.out _ HTT.out).mono ?_
  rintro e w1 ⟨rfl, hb1⟩
  have HB1 := hide (heldB (Below.refl W0.heap.size W0) hb1 (Nat.le_refl _))
  clear hb1 c0 c1 c2 c3 c4 d0 d1 d2 d3
  obtain ⟨c0, c1, c2, c3, c4, d0, d1, d2, d3⟩ := HS.out w1 HB1.out
  go_wp2_with fail
  refine (H2.out _ (HTT.out.on HB1.out)).mono ?_
  rintro e w2 ⟨rfl, hb2⟩
  have HB2 := hide (heldB HB1.out hb2 (Nat.le_refl _))
  clear hb2 HB1 c0 c1 c2 c3 c4 d0 d1 d2 d3
  obtain ⟨c0, c1, c2, c3, c4, d0, d1, d2, d3⟩ := HS.out w2 HB2.out
  go_wp2_with fail
  refine (H3.out _ (HTT.out.on HB2.out)).mono ?_
  rintro e w3 ⟨rfl, hb3⟩
  have HB3 := hide (heldB HB2.out hb3 (Nat.le_refl _))
  clear hb3 HB2 c0 c1 c2 c3 c4 d0 d1 d2 d3
  obtain ⟨c0, c1, c2, c3, c4, d0, d1, d2, d3⟩ := HS.out w3 HB3.out
  go_wp2_with fail
  refine (H4.out _ (HTT.out.on HB3.out)).mono ?_
  rintro e w4 ⟨rfl, hb4⟩
  have HB4 := hide (heldB HB3.out hb4 (Nat.le_refl _))
  clear hb4 HB3 c0 c1 c2 c3 c4 d0 d1 d2 d3
  go_wp2
  go_ret
  exact ⟨rfl, HB.out.trans (HB4.out.mono (by omega))⟩
end Go.Proofs.YtgaoeoijdpdjiaaDoor
