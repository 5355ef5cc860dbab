/-
  signet.Start, Chain, NodeOf: what the calls below answer. signet.Start, NodeOf and Fold where all is right.
-/
import Derived.Test.YtgaoeoijdpdjiaaGreatDoorPart42
import Derived.Test.YtgaoeoijdpdjiaaGreatDoorPart18
import Derived.Test.YtgaoeoijdpdjiaaGreatDoorPart29
import Derived.Test.YtgaoeoijdpdjiaaGreatDoorPart46
import Derived.Test.YtgaoeoijdpdjiaaGreatDoorPart38
import Derived.Test.YtgaoeoijdpdjiaaGreatDoorPart41
import Derived.Test.YtgaoeoijdpdjiaaGreatDoorPart44
import Derived.Test.YtgaoeoijdpdjiaaGreatDoorPart33
import Derived.Test.YtgaoeoijdpdjiaaGreatDoorPart20
namespace Go.Proofs.YtgaoeoijdpdjiaaGreatDoor
open Go.RowKit
set_option maxRecDepth 20000 in
set_option maxHeartbeats 4000000 in
theorem sstart_on (k b x t l : Int) (sec rnd pub : ByteArray) (p0 p1 p2 p3 : Int) (cv : ByteArray) (er : Int) (w : World) (hT : Tn w) (hC : ∀ V : World, Tn V → Calls Tryz.prog 48 #[.agg #[.int .i64 k, .int .i64 b, .int .i64 x, .int .i64 t, .int .i64 l], .agg #[.string sec, .string rnd, .string pub], .agg #[.int .i64 p0, .int .i64 p1, .int .i64 p2, .int .i64 p3]] V fun e w' => e = .returned (.tuple #[.string cv, .int .i64 er]) ∧ Below V.heap.size V w') :
    Calls Tryz.prog 25 #[.agg #[.int .i64 k, .int .i64 b, .int .i64 x, .int .i64 t, .int .i64 l], .agg #[.string sec, .string rnd, .string pub], .agg #[.int .i64 p0, .int .i64 p1, .int .i64 p2, .int .i64 p3]] w fun e w' => e = .returned (.tuple #[.string cv, .int .i64 er]) ∧ Below w.heap.size w w' := by
  obtain ⟨W0, hW⟩ : ∃ W0, ((w.alloc (.cells #[.int .i64 k, .int .i64 b, .int .i64 x, .int .i64 t, .int .i64 l] 23)).alloc (.cells #[.string sec, .string rnd, .string pub] 25)).alloc (.cells #[.int .i64 p0, .int .i64 p1, .int .i64 p2, .int .i64 p3] 27) = W0 := ⟨_, rfl⟩
  have HF := hide (show FiveC w.heap.size W0 k b x t l by subst hW; refine ⟨?_, ?_, ?_, ?_, ?_⟩ <;> simp [go_sem])
  have HSE := hide (show W0.cell? ⟨w.heap.size + 1, 0, none⟩ = some (.string sec) ∧ W0.cell? ⟨w.heap.size + 1, 1, none⟩ = some (.string rnd) ∧ W0.cell? ⟨w.heap.size + 1, 2, none⟩ = some (.string pub) by subst hW; refine ⟨?_, ?_, ?_⟩ <;> simp [go_sem])
  have HP := hide (show FourC (w.heap.size + 1 + 1) W0 p0 p1 p2 p3 by subst hW; refine ⟨?_, ?_, ?_, ?_⟩ <;> simp [go_sem])
  have HB := hide (show Below w.heap.size w W0 by subst hW; exact (((Below.refl _ _).alloc (Nat.le_refl _) _).alloc (by simp) _).alloc (by simp; omega) _)
  have hz : W0.heap.size ≤ w.heap.size + 3 := by subst hW; simp
  have hz' : w.heap.size + 3 ≤ W0.heap.size := by subst hW; simp
  have HS := hide (fun (V : World) (h : Below W0.heap.size W0 V) => (by
    obtain ⟨c0, c1, c2, c3, c4⟩ := HF.out.below h (by omega)
    obtain ⟨d0, d1, d2, d3⟩ := HP.out.below h (by omega)
    exact ⟨c0, c1, c2, c3, c4, (h.cell (p := ⟨w.heap.size + 1, 0, none⟩) (by show w.heap.size + 1 < _; omega)).trans HSE.out.1, (h.cell (p := ⟨w.heap.size + 1, 1, none⟩) (by show w.heap.size + 1 < _; omega)).trans HSE.out.2.1, (h.cell (p := ⟨w.heap.size + 1, 2, none⟩) (by show w.heap.size + 1 < _; omega)).trans HSE.out.2.2, d0, d1, d2, d3⟩ : V.cell? ⟨w.heap.size, 0, none⟩ = some (.int .i64 k) ∧ V.cell? ⟨w.heap.size, 1, none⟩ = some (.int .i64 b) ∧ V.cell? ⟨w.heap.size, 2, none⟩ = some (.int .i64 x) ∧ V.cell? ⟨w.heap.size, 3, none⟩ = some (.int .i64 t) ∧ V.cell? ⟨w.heap.size, 4, none⟩ = some (.int .i64 l) ∧ V.cell? ⟨w.heap.size + 1, 0, none⟩ = some (.string sec) ∧ V.cell? ⟨w.heap.size + 1, 1, none⟩ = some (.string rnd) ∧ V.cell? ⟨w.heap.size + 1, 2, none⟩ = some (.string pub) ∧ V.cell? ⟨w.heap.size + 1 + 1, 0, none⟩ = some (.int .i64 p0) ∧ V.cell? ⟨w.heap.size + 1 + 1, 1, none⟩ = some (.int .i64 p1) ∧ V.cell? ⟨w.heap.size + 1 + 1, 2, none⟩ = some (.int .i64 p2) ∧ V.cell? ⟨w.heap.size + 1 + 1, 3, none⟩ = some (.int .i64 p3)))
  obtain ⟨c0, c1, c2, c3, c4, f0, f1, f2, d0, d1, d2, d3⟩ := HS.out W0 (Below.refl _ _)
  have HTT := hide (hT.on HB.out)
  have HC := hide hC
  clear hC hT
  go_enter Tryz.func25, Tryz.ntmps25
  go_wp2_with fail
  try rw [hW]
  refine (HC.out _ HTT.out).mono ?_
  rintro e w1 ⟨rfl, hb1⟩
  have HB1 := hide (HB.out.trans (hb1.mono (by omega)))
  clear hb1 c0 c1 c2 c3 c4 f0 f1 f2 d0 d1 d2 d3
  go_wp2
  go_ret2
  exact ⟨rfl, HB1.out⟩
set_option maxRecDepth 20000 in
set_option maxHeartbeats 4000000 in
theorem snode_on (k b x t l : Int) (sec rnd pub : ByteArray) (p0 p1 p2 p3 h j : Int) (cv : ByteArray) (er : Int) (w : World) (hT : Tn w) (hC : ∀ V : World, Tn V → Calls Tryz.prog 41 #[.agg #[.int .i64 k, .int .i64 b, .int .i64 x, .int .i64 t, .int .i64 l], .agg #[.string sec, .string rnd, .string pub], .agg #[.int .i64 p0, .int .i64 p1, .int .i64 p2, .int .i64 p3], .int .i64 h, .int .i64 j] V fun e w' => e = .returned (.tuple #[.string cv, .int .i64 er]) ∧ Below V.heap.size V w') :
    Calls Tryz.prog 19 #[.agg #[.int .i64 k, .int .i64 b, .int .i64 x, .int .i64 t, .int .i64 l], .agg #[.string sec, .string rnd, .string pub], .agg #[.int .i64 p0, .int .i64 p1, .int .i64 p2, .int .i64 p3], .int .i64 h, .int .i64 j] w fun e w' => e = .returned (.tuple #[.string cv, .int .i64 er]) ∧ Below w.heap.size w w' := by
  obtain ⟨W0, hW⟩ : ∃ W0, ((w.alloc (.cells #[.int .i64 k, .int .i64 b, .int .i64 x, .int .i64 t, .int .i64 l] 23)).alloc (.cells #[.string sec, .string rnd, .string pub] 25)).alloc (.cells #[.int .i64 p0, .int .i64 p1, .int .i64 p2, .int .i64 p3] 27) = W0 := ⟨_, rfl⟩
  have HF := hide (show FiveC w.heap.size W0 k b x t l by subst hW; refine ⟨?_, ?_, ?_, ?_, ?_⟩ <;> simp [go_sem])
  have HSE := hide (show W0.cell? ⟨w.heap.size + 1, 0, none⟩ = some (.string sec) ∧ W0.cell? ⟨w.heap.size + 1, 1, none⟩ = some (.string rnd) ∧ W0.cell? ⟨w.heap.size + 1, 2, none⟩ = some (.string pub) by subst hW; refine ⟨?_, ?_, ?_⟩ <;> simp [go_sem])
  have HP := hide (show FourC (w.heap.size + 1 + 1) W0 p0 p1 p2 p3 by subst hW; refine ⟨?_, ?_, ?_, ?_⟩ <;> simp [go_sem])
  have HB := hide (show Below w.heap.size w W0 by subst hW; exact (((Below.refl _ _).alloc (Nat.le_refl _) _).alloc (by simp) _).alloc (by simp; omega) _)
  have hz : W0.heap.size ≤ w.heap.size + 3 := by subst hW; simp
  have hz' : w.heap.size + 3 ≤ W0.heap.size := by subst hW; simp
  have HS := hide (fun (V : World) (h : Below W0.heap.size W0 V) => (by
    obtain ⟨c0, c1, c2, c3, c4⟩ := HF.out.below h (by omega)
    obtain ⟨d0, d1, d2, d3⟩ := HP.out.below h (by omega)
    exact ⟨c0, c1, c2, c3, c4, (h.cell (p := ⟨w.heap.size + 1, 0, none⟩) (by show w.heap.size + 1 < _; omega)).trans HSE.out.1, (h.cell (p := ⟨w.heap.size + 1, 1, none⟩) (by show w.heap.size + 1 < _; omega)).trans HSE.out.2.1, (h.cell (p := ⟨w.heap.size + 1, 2, none⟩) (by show w.heap.size + 1 < _; omega)).trans HSE.out.2.2, d0, d1, d2, d3⟩ : V.cell? ⟨w.heap.size, 0, none⟩ = some (.int .i64 k) ∧ V.cell? ⟨w.heap.size, 1, none⟩ = some (.int .i64 b) ∧ V.cell? ⟨w.heap.size, 2, none⟩ = some (.int .i64 x) ∧ V.cell? ⟨w.heap.size, 3, none⟩ = some (.int .i64 t) ∧ V.cell? ⟨w.heap.size, 4, none⟩ = some (.int .i64 l) ∧ V.cell? ⟨w.heap.size + 1, 0, none⟩ = some (.string sec) ∧ V.cell? ⟨w.heap.size + 1, 1, none⟩ = some (.string rnd) ∧ V.cell? ⟨w.heap.size + 1, 2, none⟩ = some (.string pub) ∧ V.cell? ⟨w.heap.size + 1 + 1, 0, none⟩ = some (.int .i64 p0) ∧ V.cell? ⟨w.heap.size + 1 + 1, 1, none⟩ = some (.int .i64 p1) ∧ V.cell? ⟨w.heap.size + 1 + 1, 2, none⟩ = some (.int .i64 p2) ∧ V.cell? ⟨w.heap.size + 1 + 1, 3, none⟩ = some (.int .i64 p3)))
  obtain ⟨c0, c1, c2, c3, c4, f0, f1, f2, d0, d1, d2, d3⟩ := HS.out W0 (Below.refl _ _)
  have HTT := hide (hT.on HB.out)
  have HC := hide hC
  clear hC hT
  go_enter Tryz.func19, Tryz.ntmps19
  go_wp2_with fail
  try rw [hW]
  refine (HC.out _ HTT.out).mono ?_
  rintro e w1 ⟨rfl, hb1⟩
  have HB1 := hide (HB.out.trans (hb1.mono (by omega)))
  clear hb1 c0 c1 c2 c3 c4 f0 f1 f2 d0 d1 d2 d3
  go_wp2
  go_ret2
  exact ⟨rfl, HB1.out⟩
end Go.Proofs.YtgaoeoijdpdjiaaGreatDoor

namespace Go.Proofs.YtgaoeoijdpdjiaaGreatDoor
open Go.RowKit
theorem seedsB_of {b : Nat} {sec rnd pub : ByteArray} (h1 : (sec.size : Int) = b) (h2 : (rnd.size : Int) = b) (h3 : (pub.size : Int) = b) : seedsB b sec rnd pub = true := by
  unfold seedsB
  refine (allLen_iff _ _).2 ?_
  intro z hz
  simp at hz
  rcases hz with rfl | rfl | rfl
  · exact h1
  · exact h2
  · exact h3
theorem sigNode_yes (k : Int) (b x e f t l : Nat) (R : RSet k b x e f t l) (sec rnd pub : ByteArray) (p0 p1 : Int) (n m : Nat) (hl : leafB t l p0 p1 0 = true) (s1 : (sec.size : Int) = b) (s2 : (rnd.size : Int) = b) (s3 : (pub.size : Int) = b) (hn : n ≤ t) (hm : m < 2 ^ (t - n)) (w : World) (hT : Tn w) :
    Calls Tryz.prog 19 #[.agg #[.int .i64 k, .int .i64 b, .int .i64 x, .int .i64 t, .int .i64 l], .agg #[.string sec, .string rnd, .string pub], .agg #[.int .i64 p0, .int .i64 p1, .int .i64 0, .int .i64 0], .int .i64 n, .int .i64 m] w fun r w' => r = .returned (.tuple #[.string (nodeS k b (x - 1) (b * e + f) sec pub p0 p1 n m), .int .i64 0]) ∧ Below w.heap.size w w' := by
  obtain ⟨g1, g2, g3, g4, g5, g6⟩ := pair_small R.pr
  have hs := seedsB_of s1 s2 s3
  have ht2 := R.t2
  have HM := fun V : World => setsMeasure_yes b x e f t l R.pr k V R.kk R.t1 R.t2 R.l1 R.l2
  have HSD : ∀ V : World, Calls Tryz.prog 70 #[.agg #[.int .i64 k, .int .i64 b, .int .i64 x, .int .i64 t, .int .i64 l], .agg #[.string sec, .string rnd, .string pub]] V fun e w' => e = .returned (.bool true) ∧ Below V.heap.size V w' := fun V => by have h := seedsRight_any k b x t l sec rnd pub V; rw [hs] at h; exact h
  have HIT : ∀ V : World, Calls Tryz.prog 71 #[.agg #[.int .i64 k, .int .i64 b, .int .i64 x, .int .i64 t, .int .i64 l], .agg #[.int .i64 p0, .int .i64 p1, .int .i64 0, .int .i64 0]] V fun e w' => e = .returned (.bool true) ∧ Below V.heap.size V w' := fun V => by have h := isTree_any k b x t l p0 p1 0 0 V R.t1 R.t2 R.l2; rw [hl] at h; exact h
  have HN := fun V : World => new_yes k b x t l _ _ _ _ _ _ sec rnd pub p0 p1 0 0 V HM HSD HIT
  have HH := fun V : World => has_any k b x t l (b * e + f) sec rnd pub p0 p1 0 0 n m V R.t1 R.t2
  have hmn : (m + 1) * 2 ^ n ≤ 16 := by
    have a1 : (m + 1) * 2 ^ n ≤ 2 ^ (t - n) * 2 ^ n := Nat.mul_le_mul_right _ hm
    rw [← Nat.pow_add, show t - n + n = t by omega] at a1
    exact Nat.le_trans a1 (Nat.le_trans (Nat.pow_le_pow_right (by decide) R.t2) (by decide))
  have hwd : (x : Int) = ((x - 1 : Nat) : Int) + 1 := by omega
  exact snode_on k b x t l sec rnd pub p0 p1 0 0 n m _ _ w hT (fun V hV => tnode_yes k b x t l _ sec rnd pub p0 p1 0 0 n m V hV (fun V _ => HN V) (fun V => by have h := HH V; rw [decide_eq_true (by rw [Int.toNat_natCast]; exact ⟨by omega, by omega, by omega, by omega⟩)] at h; exact h) _ (fun V hV => node_any k b x t l sec rnd pub p0 p1 0 0 (b * e + f) (x - 1) R.kk (by omega) (by omega) (by omega) (by omega) g3 g4 (ch4_of R.pr) (by omega) hwd n (by omega) m hmn V hV))
end Go.Proofs.YtgaoeoijdpdjiaaGreatDoor
