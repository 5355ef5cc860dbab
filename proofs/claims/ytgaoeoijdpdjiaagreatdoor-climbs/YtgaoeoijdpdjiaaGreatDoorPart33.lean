/-
  The program's spotOf. signet.Fold, Climb: what the calls below answer. The statement's own place: a chain's place that is right, out of any numbers. The statement's own sized.
-/
import Derived.Test.YtgaoeoijdpdjiaaGreatDoorPart30
import Derived.Test.YtgaoeoijdpdjiaaGreatDoorPart29
import Derived.Test.YtgaoeoijdpdjiaaGreatDoorPart4
import Derived.Test.YtgaoeoijdpdjiaaGreatDoorPart5
namespace Go.Proofs.YtgaoeoijdpdjiaaGreatDoor
open Go.RowKit
set_option maxRecDepth 20000 in
theorem spotOf_any (k b x t l : Int) (sec rnd pub sd : ByteArray) (p0 p1 p2 p3 ch F i : Int) (w : World) :
    Calls Tryz.prog 74 #[.agg #[.int .i64 k, .int .i64 b, .int .i64 x, .int .i64 t, .int .i64 l, .string sec, .string rnd, .string pub, .int .i64 p0, .int .i64 p1, .int .i64 p2, .int .i64 p3, .int .i64 ch], .string sd, .int .i64 F, .int .i64 i] w fun e w' => e = .returned (.agg #[.int .i64 k, .int .i64 b, .int .i64 x, .int .i64 t, .int .i64 l, .string sd, .int .i64 p0, .int .i64 p1, .int .i64 F, .int .i64 i]) ∧ Below w.heap.size w w' := by
  go_enter Tryz.func74, Tryz.ntmps74
  go_wp2
  refine bodyPost_ret (v := .agg #[.int .i64 k, .int .i64 b, .int .i64 x, .int .i64 t, .int .i64 l, .string sd, .int .i64 p0, .int .i64 p1, .int .i64 F, .int .i64 i]) (by simp [results, Tryz.results74, go_sem]) rfl ⟨rfl, ?_⟩
  first
    | exact (((Below.refl _ _).alloc (Nat.le_refl _) _).alloc (by simp) _).alloc (by simp; omega) _
    | (repeat refine Below.setCell ?_ (by simp <;> omega) _
       exact (((Below.refl _ _).alloc (Nat.le_refl _) _).alloc (by simp) _).alloc (by simp; omega) _)
end Go.Proofs.YtgaoeoijdpdjiaaGreatDoor

namespace Go.Proofs.YtgaoeoijdpdjiaaGreatDoor
open Go.RowKit
set_option maxRecDepth 20000 in
set_option maxHeartbeats 4000000 in
theorem sFold_on (k b x t l : Int) (pub : ByteArray) (p0 p1 p2 p3 : Int) (sp : Option Addr) (n c : Nat) (cv : ByteArray) (er : Int) (w : World) (hT : Tn w) (hC : ∀ V : World, Below w.heap.size w V → Tn V → Calls Tryz.prog 242 #[.agg #[.int .i64 k, .int .i64 b, .int .i64 x, .int .i64 t, .int .i64 l], .string pub, .agg #[.int .i64 p0, .int .i64 p1, .int .i64 p2, .int .i64 p3], .slice sp n c] V fun e w' => e = .returned (.tuple #[.string cv, .int .i64 er]) ∧ Below V.heap.size V w') :
    Calls Tryz.prog 179 #[.agg #[.int .i64 k, .int .i64 b, .int .i64 x, .int .i64 t, .int .i64 l], .string pub, .agg #[.int .i64 p0, .int .i64 p1, .int .i64 p2, .int .i64 p3], .slice sp n c] w fun e w' => e = .returned (.tuple #[.string cv, .int .i64 er]) ∧ Below w.heap.size w w' := by
  obtain ⟨W0, hW⟩ : ∃ W0, (w.alloc (.cells #[.int .i64 k, .int .i64 b, .int .i64 x, .int .i64 t, .int .i64 l] 23)).alloc (.cells #[.int .i64 p0, .int .i64 p1, .int .i64 p2, .int .i64 p3] 27) = W0 := ⟨_, rfl⟩
  have HF := hide (show FiveC w.heap.size W0 k b x t l by subst hW; refine ⟨?_, ?_, ?_, ?_, ?_⟩ <;> simp [go_sem])
  have HP := hide (show FourC (w.heap.size + 1) W0 p0 p1 p2 p3 by subst hW; refine ⟨?_, ?_, ?_, ?_⟩ <;> simp [go_sem])
  have HB := hide (show Below w.heap.size w W0 by subst hW; exact ((Below.refl _ _).alloc (Nat.le_refl _) _).alloc (by simp) _)
  have hz : W0.heap.size ≤ w.heap.size + 2 := by subst hW; simp
  have hz' : w.heap.size + 2 ≤ W0.heap.size := by subst hW; simp
  have HBU := hide (fun (V : World) (h : Below W0.heap.size W0 V) => HB.out.trans (h.mono (by omega)))
  have HS := hide (fun (V : World) (h : Below W0.heap.size W0 V) => (by
    obtain ⟨c0, c1, c2, c3, c4⟩ := HF.out.below h (by omega)
    obtain ⟨d0, d1, d2, d3⟩ := HP.out.below h (by omega)
    exact ⟨c0, c1, c2, c3, c4, d0, d1, d2, d3⟩ : V.cell? ⟨w.heap.size, 0, none⟩ = some (.int .i64 k) ∧ V.cell? ⟨w.heap.size, 1, none⟩ = some (.int .i64 b) ∧ V.cell? ⟨w.heap.size, 2, none⟩ = some (.int .i64 x) ∧ V.cell? ⟨w.heap.size, 3, none⟩ = some (.int .i64 t) ∧ V.cell? ⟨w.heap.size, 4, none⟩ = some (.int .i64 l) ∧ V.cell? ⟨w.heap.size + 1, 0, none⟩ = some (.int .i64 p0) ∧ V.cell? ⟨w.heap.size + 1, 1, none⟩ = some (.int .i64 p1) ∧ V.cell? ⟨w.heap.size + 1, 2, none⟩ = some (.int .i64 p2) ∧ V.cell? ⟨w.heap.size + 1, 3, none⟩ = some (.int .i64 p3)))
  obtain ⟨c0, c1, c2, c3, c4, d0, d1, d2, d3⟩ := HS.out W0 (Below.refl _ _)
  have HTT := hide (hT.on HB.out)
  have HC := hide (hC W0 HB.out)
  clear hC hT
  go_enter Tryz.func179, Tryz.ntmps179
  go_wp2_with fail
  try rw [hW]
  refine (HC.out HTT.out).mono ?_
  rintro e w1 ⟨rfl, hb1⟩
  have HB1 := hide (HB.out.trans (hb1.mono (by omega)))
  clear hb1 c0 c1 c2 c3 c4 d0 d1 d2 d3
  go_wp2
  go_ret2
  exact ⟨rfl, HB1.out⟩
set_option maxRecDepth 20000 in
set_option maxHeartbeats 4000000 in
theorem sClimb_on (k b x t l : Int) (pub y : ByteArray) (p0 p1 p2 p3 : Int) (sp : Option Addr) (n c : Nat) (cv : ByteArray) (er : Int) (w : World) (hT : Tn w) (hC : ∀ V : World, Below w.heap.size w V → Tn V → Calls Tryz.prog 82 #[.agg #[.int .i64 k, .int .i64 b, .int .i64 x, .int .i64 t, .int .i64 l], .string pub, .agg #[.int .i64 p0, .int .i64 p1, .int .i64 p2, .int .i64 p3], .string y, .slice sp n c] V fun e w' => e = .returned (.tuple #[.string cv, .int .i64 er]) ∧ Below V.heap.size V w') :
    Calls Tryz.prog 45 #[.agg #[.int .i64 k, .int .i64 b, .int .i64 x, .int .i64 t, .int .i64 l], .string pub, .agg #[.int .i64 p0, .int .i64 p1, .int .i64 p2, .int .i64 p3], .string y, .slice sp n c] w fun e w' => e = .returned (.tuple #[.string cv, .int .i64 er]) ∧ Below w.heap.size w w' := by
  obtain ⟨W0, hW⟩ : ∃ W0, (w.alloc (.cells #[.int .i64 k, .int .i64 b, .int .i64 x, .int .i64 t, .int .i64 l] 23)).alloc (.cells #[.int .i64 p0, .int .i64 p1, .int .i64 p2, .int .i64 p3] 27) = W0 := ⟨_, rfl⟩
  have HF := hide (show FiveC w.heap.size W0 k b x t l by subst hW; refine ⟨?_, ?_, ?_, ?_, ?_⟩ <;> simp [go_sem])
  have HP := hide (show FourC (w.heap.size + 1) W0 p0 p1 p2 p3 by subst hW; refine ⟨?_, ?_, ?_, ?_⟩ <;> simp [go_sem])
  have HB := hide (show Below w.heap.size w W0 by subst hW; exact ((Below.refl _ _).alloc (Nat.le_refl _) _).alloc (by simp) _)
  have hz : W0.heap.size ≤ w.heap.size + 2 := by subst hW; simp
  have hz' : w.heap.size + 2 ≤ W0.heap.size := by subst hW; simp
  have HBU := hide (fun (V : World) (h : Below W0.heap.size W0 V) => HB.out.trans (h.mono (by omega)))
  have HS := hide (fun (V : World) (h : Below W0.heap.size W0 V) => (by
    obtain ⟨c0, c1, c2, c3, c4⟩ := HF.out.below h (by omega)
    obtain ⟨d0, d1, d2, d3⟩ := HP.out.below h (by omega)
    exact ⟨c0, c1, c2, c3, c4, d0, d1, d2, d3⟩ : V.cell? ⟨w.heap.size, 0, none⟩ = some (.int .i64 k) ∧ V.cell? ⟨w.heap.size, 1, none⟩ = some (.int .i64 b) ∧ V.cell? ⟨w.heap.size, 2, none⟩ = some (.int .i64 x) ∧ V.cell? ⟨w.heap.size, 3, none⟩ = some (.int .i64 t) ∧ V.cell? ⟨w.heap.size, 4, none⟩ = some (.int .i64 l) ∧ V.cell? ⟨w.heap.size + 1, 0, none⟩ = some (.int .i64 p0) ∧ V.cell? ⟨w.heap.size + 1, 1, none⟩ = some (.int .i64 p1) ∧ V.cell? ⟨w.heap.size + 1, 2, none⟩ = some (.int .i64 p2) ∧ V.cell? ⟨w.heap.size + 1, 3, none⟩ = some (.int .i64 p3)))
  obtain ⟨c0, c1, c2, c3, c4, d0, d1, d2, d3⟩ := HS.out W0 (Below.refl _ _)
  have HTT := hide (hT.on HB.out)
  have HC := hide (hC W0 HB.out)
  clear hC hT
  go_enter Tryz.func45, Tryz.ntmps45
  go_wp2_with fail
  try rw [hW]
  refine (HC.out HTT.out).mono ?_
  rintro e w1 ⟨rfl, hb1⟩
  have HB1 := hide (HB.out.trans (hb1.mono (by omega)))
  clear hb1 c0 c1 c2 c3 c4 d0 d1 d2 d3
  go_wp2
  go_ret2
  exact ⟨rfl, HB1.out⟩
end Go.Proofs.YtgaoeoijdpdjiaaGreatDoor

namespace Go.Proofs.YtgaoeoijdpdjiaaGreatDoor
open Go.RowKit
theorem wrap64_pow (d : Nat) (h : d ≤ 12) : wrap64 (2 ^ d) = ((2 ^ d : Nat) : Int) := by
  have : d = 0 ∨ d = 1 ∨ d = 2 ∨ d = 3 ∨ d = 4 ∨ d = 5 ∨ d = 6 ∨ d = 7 ∨ d = 8 ∨ d = 9 ∨ d = 10 ∨ d = 11 ∨ d = 12 := by omega
  rcases this with rfl | rfl | rfl | rfl | rfl | rfl | rfl | rfl | rfl | rfl | rfl | rfl | rfl <;> decide +kernel
set_option maxRecDepth 20000 in
set_option maxHeartbeats 4000000 in
theorem place_on (k b x : Int) (t l q d ch : Nat) (p0 p1 p2 p3 : Int) (w : World) (h2 : t ≤ 4) (h3 : 1 ≤ l) (h4 : l ≤ 3) (hq : pickZ p0 l = (q : Int)) (hql : q < l) (hd : d = t * (l - 1 - q)) (hc1 : 1 ≤ ch) (hc2 : ch ≤ 64)
    (i0 : Int64 p0) (i1 : Int64 p1) (i2 : Int64 p2) (i3 : Int64 p3)
    (hL : ∀ V : World, Calls Tryz.prog 16 #[.agg #[.int .i64 k, .int .i64 b, .int .i64 x, .int .i64 t, .int .i64 l]] V fun e w' => e = .returned (.int .i64 ((2 ^ t : Nat) : Int)) ∧ Below V.heap.size V w')
    (hC : ∀ V : World, Calls Tryz.prog 35 #[.agg #[.int .i64 k, .int .i64 b, .int .i64 x, .int .i64 t, .int .i64 l]] V fun e w' => e = .returned (.int .i64 ch) ∧ Below V.heap.size V w') :
    Calls Tryz.prog 14 #[.agg #[.int .i64 k, .int .i64 b, .int .i64 x, .int .i64 t, .int .i64 l], .agg #[.int .i64 p0, .int .i64 p1, .int .i64 p2, .int .i64 p3]] w fun e w' => e = .returned (.agg #[.int .i64 q, .int .i64 (pickZ p1 ((2 ^ d : Nat) : Int)), .int .i64 (pickZ p2 ((2 ^ t : Nat) : Int)), .int .i64 (pickZ p3 ch)]) ∧ Below w.heap.size w w' := by
  have hdl : d ≤ 8 := by
    rw [hd]
    exact Nat.le_trans (Nat.mul_le_mul h2 (show l - 1 - q ≤ 2 by omega)) (by decide)
  have hM1 : 1 ≤ 2 ^ d := Nat.one_le_two_pow
  have hM2 : 2 ^ d ≤ 256 := Nat.le_trans (Nat.pow_le_pow_right (by decide) hdl) (by decide)
  have hL1 : 1 ≤ 2 ^ t := Nat.one_le_two_pow
  have hL2 : 2 ^ t ≤ 16 := Nat.le_trans (Nat.pow_le_pow_right (by decide) h2) (by decide)
  have hw1 : IntKind.i64.wrap ((t : Int) * ((l : Int) - 1 - (q : Int))) = (d : Int) := by
    have e : (t : Int) * ((l : Int) - 1 - (q : Int)) = (d : Int) := by rw [hd, Int.natCast_mul]; congr 1; omega
    rw [e, IntKind.wrap_i64] <;> omega
  have hw2 : wrap64 (2 ^ d) = ((2 ^ d : Nat) : Int) := wrap64_pow d (by omega)
  obtain ⟨M, hM⟩ : ∃ M : Nat, 2 ^ d = M := ⟨_, rfl⟩
  obtain ⟨L, hLL⟩ : ∃ L : Nat, 2 ^ t = L := ⟨_, rfl⟩
  rw [hM] at hM1 hM2 hw2 ⊢
  rw [hLL] at hL1 hL2 hL ⊢
  have HP0 := hide (fun V : World => (by have h := pick_any p0 l V (by omega) (by omega) i0.1 i0.2; rw [hq] at h; exact h : Calls Tryz.prog 15 #[.int .i64 p0, .int .i64 l] V fun e w' => e = .returned (.int .i64 q) ∧ w' = V))
  have HP1 := hide (fun V : World => pick_any p1 (M : Int) V (by omega) (by omega) i1.1 i1.2)
  have HP2 := hide (fun V : World => pick_any p2 (L : Int) V (by omega) (by omega) i2.1 i2.2)
  have HP3 := hide (fun V : World => pick_any p3 ch V (by omega) (by omega) i3.1 i3.2)
  have HL := hide hL
  have HC := hide hC
  clear hL hC hq hd hM hLL
  generalize pickZ p1 (M : Int) = z1 at *
  generalize pickZ p2 (L : Int) = z2 at *
  generalize pickZ p3 (ch : Int) = z3 at *
  obtain ⟨W0, hW⟩ : ∃ W0, ((w.alloc (.cells #[.int .i64 k, .int .i64 b, .int .i64 x, .int .i64 t, .int .i64 l] 23)).alloc (.cells #[.int .i64 p0, .int .i64 p1, .int .i64 p2, .int .i64 p3] 27)).alloc (.cells #[.int .i64 0, .int .i64 0, .int .i64 0, .int .i64 0] 27) = W0 := ⟨_, rfl⟩
  have HF := hide (show FiveC w.heap.size W0 k b x t l by subst hW; refine ⟨?_, ?_, ?_, ?_, ?_⟩ <;> simp [go_sem])
  have HP := hide (show FourC (w.heap.size + 1) W0 p0 p1 p2 p3 by subst hW; refine ⟨?_, ?_, ?_, ?_⟩ <;> simp [go_sem])
  have HB := hide (show Below w.heap.size w W0 by subst hW; exact (((Below.refl _ _).alloc (Nat.le_refl _) _).alloc (by simp) _).alloc (by simp; omega) _)
  have HR := hide (show Blk W0 (w.heap.size + 2) [.int .i64 0, .int .i64 0, .int .i64 0, .int .i64 0] 27 by
    subst hW
    have h := Blk.new ((w.alloc (.cells #[.int .i64 k, .int .i64 b, .int .i64 x, .int .i64 t, .int .i64 l] 23)).alloc (.cells #[.int .i64 p0, .int .i64 p1, .int .i64 p2, .int .i64 p3] 27)) [.int .i64 0, .int .i64 0, .int .i64 0, .int .i64 0] 27
    simp only [World.size_alloc] at h
    exact h)
  have hz : W0.heap.size ≤ w.heap.size + 3 := by subst hW; simp
  have hz' : w.heap.size + 3 ≤ W0.heap.size := by subst hW; simp
  have HS := hide (fun (V : World) (h : Below W0.heap.size W0 V) => (by
    obtain ⟨c0, c1, c2, c3, c4⟩ := HF.out.below h (by omega)
    obtain ⟨d0, d1, d2, d3⟩ := HP.out.below h (by omega)
    exact ⟨c0, c1, c2, c3, c4, d0, d1, d2, d3⟩ : V.cell? ⟨w.heap.size, 0, none⟩ = some (.int .i64 k) ∧ V.cell? ⟨w.heap.size, 1, none⟩ = some (.int .i64 b) ∧ V.cell? ⟨w.heap.size, 2, none⟩ = some (.int .i64 x) ∧ V.cell? ⟨w.heap.size, 3, none⟩ = some (.int .i64 t) ∧ V.cell? ⟨w.heap.size, 4, none⟩ = some (.int .i64 l) ∧ V.cell? ⟨w.heap.size + 1, 0, none⟩ = some (.int .i64 p0) ∧ V.cell? ⟨w.heap.size + 1, 1, none⟩ = some (.int .i64 p1) ∧ V.cell? ⟨w.heap.size + 1, 2, none⟩ = some (.int .i64 p2) ∧ V.cell? ⟨w.heap.size + 1, 3, none⟩ = some (.int .i64 p3)))
  obtain ⟨c0, c1, c2, c3, c4, d0, d1, d2, d3⟩ := HS.out W0 (Below.refl _ _)
  have HWE := hide hW
  clear hW
  go_enter Tryz.func14, Tryz.ntmps14
  go_wp2_with fail
  rw [HWE.out]
  refine (HP0.out _).mono ?_
  rintro e w1 ⟨rfl, hw⟩
  obtain rfl := hw.symm
  clear hw
  go_wp2_with fail
  refine (HP1.out _).mono ?_
  rintro e w1 ⟨rfl, hw⟩
  obtain rfl := hw.symm
  clear hw
  clear c0 c1 c2 c3 c4 d0 d1 d2 d3
  go_wp2_with fail
  go_region_held3 (fun V => V.cell? ⟨w.heap.size, 0, none⟩ = some (.int .i64 k) ∧ V.cell? ⟨w.heap.size, 1, none⟩ = some (.int .i64 b) ∧ V.cell? ⟨w.heap.size, 2, none⟩ = some (.int .i64 x) ∧ V.cell? ⟨w.heap.size, 3, none⟩ = some (.int .i64 t) ∧ V.cell? ⟨w.heap.size, 4, none⟩ = some (.int .i64 l) ∧ V.cell? ⟨w.heap.size + 1, 0, none⟩ = some (.int .i64 p0) ∧ V.cell? ⟨w.heap.size + 1, 1, none⟩ = some (.int .i64 p1) ∧ V.cell? ⟨w.heap.size + 1, 2, none⟩ = some (.int .i64 p2) ∧ V.cell? ⟨w.heap.size + 1, 3, none⟩ = some (.int .i64 p3)) (first | exact HS.out _ hS1 | exact HS.out _ (Below.refl W0.heap.size W0).drew) (first | (go_at_call 16; refine (HL.out _).mono ?_; rintro e w1 ⟨rfl, hb1⟩; have hS1 := heldB (Below.refl W0.heap.size W0).drew hb1 (Nat.le_refl _)) | (go_at_call 15; refine (HP2.out _).mono ?_; rintro e w2 ⟨rfl, hw⟩; obtain rfl := hw.symm; clear hw))
  have HB1 := hide hS1
  clear hS1 hb1
  go_wp2_with fail
  go_region_held3 (fun V => V.cell? ⟨w.heap.size, 0, none⟩ = some (.int .i64 k) ∧ V.cell? ⟨w.heap.size, 1, none⟩ = some (.int .i64 b) ∧ V.cell? ⟨w.heap.size, 2, none⟩ = some (.int .i64 x) ∧ V.cell? ⟨w.heap.size, 3, none⟩ = some (.int .i64 t) ∧ V.cell? ⟨w.heap.size, 4, none⟩ = some (.int .i64 l) ∧ V.cell? ⟨w.heap.size + 1, 0, none⟩ = some (.int .i64 p0) ∧ V.cell? ⟨w.heap.size + 1, 1, none⟩ = some (.int .i64 p1) ∧ V.cell? ⟨w.heap.size + 1, 2, none⟩ = some (.int .i64 p2) ∧ V.cell? ⟨w.heap.size + 1, 3, none⟩ = some (.int .i64 p3)) (first | exact HS.out _ hS2 | exact HS.out _ HB1.out.drew) (first | (go_at_call 35; refine (HC.out _).mono ?_; rintro e w3 ⟨rfl, hb2⟩; have hS2 := heldB HB1.out.drew hb2 (Nat.le_refl _)) | (go_at_call 15; refine (HP3.out _).mono ?_; rintro e w4 ⟨rfl, hw⟩; obtain rfl := hw.symm; clear hw))
  have HB2 := hide hS2
  have HR2 := hide (HR.out.below hS2 (by omega))
  clear hS2 hb2 HB1
  have r0 := HR2.out.cell 0
  have r1 := HR2.out.cell 1
  have r2 := HR2.out.cell 2
  have r3 := HR2.out.cell 3
  have f0 := HR2.out.free 0
  have f1 := HR2.out.free 1
  have f2 := HR2.out.free 2
  have f3 := HR2.out.free 3
  simp only [List.getElem?_cons_zero, List.getElem?_cons_succ] at r0 r1 r2 r3
  go_wp2
  refine bodyPost_ret (v := .agg #[.int .i64 q, .int .i64 z1, .int .i64 z2, .int .i64 z3]) (by simp [results, Tryz.results14, go_sem, r0, r1, r2, r3]) rfl ⟨rfl, ?_⟩
  have HBB := HB.out.trans (HB2.out.mono (by omega))
  iterate 4 refine Below.setCell ?_ (by simp <;> omega) _
  exact HBB
end Go.Proofs.YtgaoeoijdpdjiaaGreatDoor

namespace Go.Proofs.YtgaoeoijdpdjiaaGreatDoor
open Go.RowKit
set_option maxRecDepth 20000 in
set_option maxHeartbeats 4000000 in
theorem sizedX_any (k b x t l : Int) (g o n c : Nat) (ps : List ByteArray) (w : World) (hn : ps.length = n) (hn2 : n ≤ 1000) (hps : ∀ y ∈ ps, (y.size : Int) = b) (hg : g < w.heap.size) (hcells : ∀ (j : Nat) y, ps[j]? = some y → w.cell? ⟨g, o + j, none⟩ = some (.string y)) :
    Calls Tryz.prog 44 #[.agg #[.int .i64 k, .int .i64 b, .int .i64 x, .int .i64 t, .int .i64 l], .slice (some ⟨g, o, none⟩) n c, .int .i64 n] w fun e w' => e = .returned (.bool true) ∧ Below w.heap.size w w' := by
  obtain ⟨W0, hW⟩ : ∃ W0, w.alloc (.cells #[.int .i64 k, .int .i64 b, .int .i64 x, .int .i64 t, .int .i64 l] 23) = W0 := ⟨_, rfl⟩
  have HF := hide (show FiveC w.heap.size W0 k b x t l by subst hW; refine ⟨?_, ?_, ?_, ?_, ?_⟩ <;> simp [go_sem])
  have HB := hide (show Below w.heap.size w W0 by subst hW; exact (Below.refl _ _).alloc (Nat.le_refl _) _)
  have HCE := hide (fun (j : Nat) (hj : j < n) => (by
    obtain ⟨y, hy⟩ : ∃ y, ps[j]? = some y := ⟨_, List.getElem?_eq_getElem (by omega)⟩
    exact ⟨y, (HB.out.cell (p := ⟨g, o + j, none⟩) hg).trans (hcells j y hy), hps y (List.mem_of_getElem? hy)⟩ : ∃ y, W0.cell? ⟨g, o + j, none⟩ = some (.string y) ∧ (y.size : Int) = b))
  clear hcells hps hn
  have HWE := hide hW
  clear hW
  go_enter Tryz.func44, Tryz.ntmps44
  go_wp2_with fail
  rw [HWE.out]
  go_loopw [7] (fun i wr => ∃ m : Nat, m ≤ n ∧ i = .int .i64 m ∧ Hid (Below W0.heap.size W0 wr)) (fun i _ => n - (intOf i).toNat)
  case atStart => exact ⟨0, Nat.zero_le _, rfl, Below.refl _ _⟩
  case round =>
    obtain ⟨m, hm, rfl, hb⟩ := hrel
    by_cases hlt : m < n
    · obtain ⟨y, hy, hyb⟩ := HCE.out m hlt
      have e1 : ((y.size : Int) != b) = false := by simpa using hyb
      have e2 : ((y.size : Int) == b) = true := by simpa using hyb
      have HCY := hide hy
      have hgW : g < W0.heap.size := Nat.lt_of_lt_of_le hg HB.out.size
      have hzW : w.heap.size < W0.heap.size := by rw [← HWE.out]; simp
      have HS := hide (fun (V : World) (h : Below W0.heap.size W0 V) => (by
        obtain ⟨_, c1, _, _, _⟩ := HF.out.below h hzW
        exact ⟨c1, (h.cell (p := ⟨g, o + m, none⟩) hgW).trans HCY.out⟩ : V.cell? ⟨w.heap.size, 1, none⟩ = some (.int .i64 b) ∧ V.cell? ⟨g, o + m, none⟩ = some (.string y)))
      have hms : (m : Int) < (n : Int) := by omega
      clear hyb hy hgW hzW
      go_wp2_with fail
      go_region_held3 (fun V => V.cell? ⟨w.heap.size, 1, none⟩ = some (.int .i64 b) ∧ V.cell? ⟨g, o + m, none⟩ = some (.string y)) (exact HS.out _ hb.out.drew) (fail)
      have HB2 := hide hb.out.drew
      go_wp2
      go_roundw
      case rel =>
        have R : ∃ m' : Nat, m' ≤ n ∧ Value.int .i64 ((m : Int) + 1) = .int .i64 m' ∧ Hid (Below W0.heap.size W0 wr.drew) := ⟨m + 1, by omega, by go_num, HB2.out⟩
        first | exact R | ((repeat apply Exists.intro); exact ⟨R, rfl⟩)
      case measure => simp [intOf]; omega
    · obtain rfl : m = n := by omega
      go_wp2
      go_ret
      exact ⟨rfl, HB.out.trans (hb.out.mono HB.out.size)⟩
end Go.Proofs.YtgaoeoijdpdjiaaGreatDoor
