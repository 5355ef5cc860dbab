/-
  signet.Chain where all is right.
-/
import Derived.Test.YtgaoeoijdpdjiabDoorPart41
import Derived.Test.YtgaoeoijdpdjiabDoorPart40
import Derived.Test.YtgaoeoijdpdjiabDoorPart16
namespace Go.Proofs.YtgaoeoijdpdjiabDoor
open Go.RowKit

theorem chainS_add (k b : Int) (pub : ByteArray) (p0 p1 p2 p3 : Int) (F m : Nat) (y : ByteArray) : ∀ n : Nat, chainS k b pub p0 p1 p2 p3 ((F + m : Nat) : Int) n (chainS k b pub p0 p1 p2 p3 F m y) = chainS k b pub p0 p1 p2 p3 F (m + n) y := by
  intro n
  induction n with
  | zero => rfl
  | succ n ih =>
    rw [← Nat.add_assoc, chainS, ih, chainS]
    congr 1
    omega

/-- signet.Chain where all is right. -/
theorem sigChain_yes (k : Int) (b x e f t l : Nat) (hpr : Pair b x e f) (hk : k = 1 ∨ k = 2) (h1 : 1 ≤ t) (h2 : t ≤ 4) (h3 : 1 ≤ l) (h4 : l ≤ 3) (pub y : ByteArray) (p0 p1 p2 p3 : Int) (F n : Nat) (hr : rightB k b x t l = true) (hc : chainB t l (b * e + f) p0 p1 p2 p3 = true) (s1 : (pub.size : Int) = b) (s2 : (y.size : Int) = b) (hn : F + n < x) (w : World) (hT : Tn w) :
    Calls Tryd.prog 35 #[.agg #[.int .i64 k, .int .i64 b, .int .i64 x, .int .i64 t, .int .i64 l], .string pub, .agg #[.int .i64 p0, .int .i64 p1, .int .i64 p2, .int .i64 p3], .int .i64 F, .int .i64 ((F + n : Nat) : Int), .string y] w fun e w' => e = .returned (.tuple #[.string (chainS k b pub p0 p1 p2 p3 F n y), .int .i64 0]) ∧ Below w.heap.size w w' := by
  obtain ⟨g1, g2, g3, g4, g5, g6⟩ := pair_small hpr
  have hv : allLen (b : Int) [pub, y] = true := (allLen_iff _ _).2 (by intro z hz; simp at hz; rcases hz with rfl | rfl; exact s1; exact s2)
  refine schain_on k b x t l pub y p0 p1 p2 p3 F _ _ _ w hT (fun V hV => tchain_yes k b x t l pub y p0 p1 p2 p3 F _ V (fun V => ?_) (values2 k b x t l pub y true hv) (fun V => ?_) (by omega) (by omega) (by omega) _ hV (fun V hV => schain_any k b x t l pub p0 p1 p2 p3 F n y V hk (by omega) (by omega) (by omega) s2 (by omega) hV))
  · have h := check_any k b x t l V; rw [hr] at h; exact h
  · have h := isChain_any k b x _ _ _ _ _ t l (b * e + f) p0 p1 p2 p3 V h1 h2 h4 (fun V => setsMeasure_yes b x e f t l hpr k V hk h1 h2 h3 h4); rw [hc] at h; exact h
end Go.Proofs.YtgaoeoijdpdjiabDoor
