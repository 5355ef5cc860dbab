/-
  A set that is right. What fit makes of any numbers: a set that is right. signet.Climb where all is right.
-/
import Derived.Test.YtgaoeoijdpdjiaaGreatDoorPart4
import Derived.Test.YtgaoeoijdpdjiaaGreatDoorPart42
import Derived.Test.YtgaoeoijdpdjiaaGreatDoorPart18
import Derived.Test.YtgaoeoijdpdjiaaGreatDoorPart29
import Derived.Test.YtgaoeoijdpdjiaaGreatDoorPart41
import Derived.Test.YtgaoeoijdpdjiaaGreatDoorPart33
import Derived.Test.YtgaoeoijdpdjiaaGreatDoorPart20
import Derived.Test.YtgaoeoijdpdjiaaGreatDoorPart43
import Derived.Test.YtgaoeoijdpdjiaaGreatDoorPart32
namespace Go.Proofs.YtgaoeoijdpdjiaaGreatDoor
open Go.RowKit
/-- A set that is right, as its pair of numbers. -/
structure RSet (k : Int) (b x e f t l : Nat) : Prop where
  pr : Pair b x e f
  kk : k = 1 ∨ k = 2
  t1 : 1 ≤ t
  t2 : t ≤ 4
  l1 : 1 ≤ l
  l2 : l ≤ 3
  r : rightB k b x t l = true
theorem pairB {b x e f : Nat} (h : Pair b x e f) : (b = 4 ∨ b = 8) ∧ (x = 4 ∨ x = 16) := by
  unfold Pair at h
  omega
end Go.Proofs.YtgaoeoijdpdjiaaGreatDoor

namespace Go.Proofs.YtgaoeoijdpdjiaaGreatDoor
open Go.RowKit
/-- A set that fit makes, as its pair of numbers. -/
theorem fit_set (k0 b0 x0 t0 l0 : Int) : ∃ (k : Int) (b x e f t l : Nat), RSet k b x e f t l ∧ pickZ k0 2 + 1 = k ∧ 4 + 4 * pickZ b0 2 = (b : Int) ∧ 4 + 12 * pickZ x0 2 = (x : Int) ∧ pickZ t0 4 + 1 = (t : Int) ∧ pickZ l0 3 + 1 = (l : Int) := by
  have p1 := pickZ_bd k0 2 (by omega)
  have p2 := pickZ_bd b0 2 (by omega)
  have p3 := pickZ_bd x0 2 (by omega)
  have p4 := pickZ_bd t0 4 (by omega)
  have p5 := pickZ_bd l0 3 (by omega)
  obtain ⟨t, ht⟩ : ∃ t : Nat, pickZ t0 4 + 1 = (t : Int) := ⟨(pickZ t0 4 + 1).toNat, by omega⟩
  obtain ⟨l, hl⟩ : ∃ l : Nat, pickZ l0 3 + 1 = (l : Int) := ⟨(pickZ l0 3 + 1).toNat, by omega⟩
  have q1 : pickZ k0 2 + 1 = 1 ∨ pickZ k0 2 + 1 = 2 := by omega
  have q2 : pickZ b0 2 = 0 ∨ pickZ b0 2 = 1 := by omega
  have q3 : pickZ x0 2 = 0 ∨ pickZ x0 2 = 1 := by omega
  have H : ∀ b x e f : Nat, Pair b x e f → (b = 4 ∨ b = 8) → (x = 4 ∨ x = 16) → RSet (pickZ k0 2 + 1) b x e f t l := fun b x e f hp hb hx => ⟨hp, q1, by omega, by omega, by omega, by omega, by unfold rightB; rw [decide_eq_true_eq]; omega⟩
  rcases q2 with q2 | q2 <;> rcases q3 with q3 | q3
  · exact ⟨_, 4, 4, 4, 3, t, l, H _ _ _ _ (by unfold Pair; omega) (by omega) (by omega), rfl, by omega, by omega, ht, hl⟩
  · exact ⟨_, 4, 16, 2, 2, t, l, H _ _ _ _ (by unfold Pair; omega) (by omega) (by omega), rfl, by omega, by omega, ht, hl⟩
  · exact ⟨_, 8, 4, 4, 4, t, l, H _ _ _ _ (by unfold Pair; omega) (by omega) (by omega), rfl, by omega, by omega, ht, hl⟩
  · exact ⟨_, 8, 16, 2, 2, t, l, H _ _ _ _ (by unfold Pair; omega) (by omega) (by omega), rfl, by omega, by omega, ht, hl⟩
end Go.Proofs.YtgaoeoijdpdjiaaGreatDoor

namespace Go.Proofs.YtgaoeoijdpdjiaaGreatDoor
open Go.RowKit
theorem sigClimb_yes (k : Int) (b x e f t l : Nat) (R : RSet k b x e f t l) (pub y : ByteArray) (p0 p1 : Int) (F g o c : Nat) (path : List ByteArray) (hl : leafB t l p0 p1 F = true) (s3 : (pub.size : Int) = b) (hy : (y.size : Int) = b) (hn : path.length = t) (hx : ∀ z ∈ path, (z.size : Int) = b) (hF : F ≤ 1000) (w : World) (hg : g < w.heap.size) (hcells : ∀ (j : Nat) z, path[j]? = some z → w.cell? ⟨g, o + j, none⟩ = some (.string z)) (hT : Tn w) :
    Calls Tryz.prog 45 #[.agg #[.int .i64 k, .int .i64 b, .int .i64 x, .int .i64 t, .int .i64 l], .string pub, .agg #[.int .i64 p0, .int .i64 p1, .int .i64 F, .int .i64 0], .string y, .slice (some ⟨g, o, none⟩) t c] w fun r w' => r = .returned (.tuple #[.string (climbS k b pub p0 p1 F path y path.length), .int .i64 0]) ∧ Below w.heap.size w w' := by
  obtain ⟨g1, g2, g3, g4, g5, g6⟩ := pair_small R.pr
  have ht2 := R.t2
  have hv := (allLen_iff (b : Int) path).2 hx
  have e4 : ((pub.size : Int) == (b : Int)) = true := by simpa using s3
  have e5 : ((y.size : Int) == (b : Int)) = true := by simpa using hy
  refine sClimb_on k b x t l pub y p0 p1 F 0 (some ⟨g, o, none⟩) t c _ _ w hT (fun V0 hb0 hV0 => cT_yes k b x t l pub y p0 p1 F 0 (some ⟨g, o, none⟩) t c _ V0 (fun V => ?_) (fun V B hB => ?_) (fun V => ?_) (by simp) (fun V hb => ?_) (fun V hb hV => ?_) hV0)
  · have h := check_any k b x t l V; rw [R.r] at h; exact h
  · have h := values2B k b x t l pub y V B hB; rw [e4, e5] at h; exact h
  · have h := isLeaf_any k b x t l p0 p1 F 0 V R.t1 R.t2 R.l2; rw [hl] at h; exact h
  · have hb2 := hb0.trans (hb.mono hb0.size)
    have h := valuesRight_some k b x t l g o c path V (fun j z hj => (hb2.cell (p := ⟨g, o + j, none⟩) hg).trans (hcells j z hj)) (Nat.lt_of_lt_of_le hg hb2.size) (by omega)
    rw [hv, hn] at h
    exact h
  · have hb2 := hb0.trans (hb.mono hb0.size)
    have h := sclimb_any k b x t l pub p0 p1 0 F g o c path y V (fun j z hj => (hb2.cell (p := ⟨g, o + j, none⟩) hg).trans (hcells j z hj)) (Nat.lt_of_lt_of_le hg hb2.size) (by omega) hF R.kk (by omega) (by omega) (by omega) hy hx hV
    rw [hn] at h
    rw [hn]
    exact h
end Go.Proofs.YtgaoeoijdpdjiaaGreatDoor
