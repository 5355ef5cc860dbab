/-
  From a leaf up to the root: the document's own climb. The document's values of a list of texts. signet.Fold, Climb: what the calls below answer. Fold and Climb: the answer where something is wrong.
-/
import Derived.Test.YtgaoeoijdpdjiaaDoorPart36
import Derived.Test.YtgaoeoijdpdjiaaDoorPart30
import Derived.Test.YtgaoeoijdpdjiaaDoorPart5
import Derived.Test.YtgaoeoijdpdjiaaDoorPart37
import Derived.Test.YtgaoeoijdpdjiaaDoorPart13
import Derived.Test.YtgaoeoijdpdjiaaDoorPart28
import Derived.Test.YtgaoeoijdpdjiaaDoorPart39
import Derived.Test.YtgaoeoijdpdjiaaDoorPart41
import Derived.Test.YtgaoeoijdpdjiaaDoorPart38
import Derived.Test.YtgaoeoijdpdjiaaDoorPart42
import Derived.Test.YtgaoeoijdpdjiaaDoorPart40
namespace Go.Proofs.YtgaoeoijdpdjiaaDoor
open Go.RowKit

set_option maxRecDepth 20000 in
set_option maxHeartbeats 4000000 in
theorem rclimb_any (k x t l p0 p1 p3 : Int) (F : Nat) (b g o c : Nat) (pub y : ByteArray) (path : List ByteArray) (hk : k = 1 ∨ k = 2) (h1 : 1 ≤ b) (h2 : b ≤ 16) (hs : pub.size ≤ 16) (hy : (y.size : Int) = b) (hxs : ∀ z ∈ path, (z.size : Int) = b) (hF : F ≤ 1000) (q0 : 0 ≤ p0 ∧ p0 ≤ 100000) (q1 : 0 ≤ p1 ∧ p1 ≤ 100000) : ∀ (h : Nat) (_ : h ≤ 4) (_ : h ≤ path.length) (w : World) (_ : ∀ (j : Nat) z, path[j]? = some z → w.cell? ⟨g, o + j, none⟩ = some (.string z)) (_ : g < w.heap.size),
    Calls Tryd.prog 48 #[.agg #[.int .i64 k, .int .i64 b, .int .i64 x, .int .i64 t, .int .i64 l], .string pub, .agg #[.int .i64 p0, .int .i64 p1, .int .i64 F, .int .i64 p3], .string y, .slice (some ⟨g, o, none⟩) path.length c, .int .i64 h] w fun e w' => e = .returned (.string (climbS k b pub p0 p1 F path y h)) ∧ Below w.heap.size w w' := by
  obtain ⟨p2, hp2⟩ : ∃ p2 : Int, p2 = (F : Int) := ⟨_, rfl⟩
  rw [← hp2]
  have HP2 := hide hp2
  clear hp2
  intro h
  induction h with
  | zero =>
    intro _ _ w _ _
    clear hxs
    go_enter Tryd.func48, Tryd.ntmps48
    go_wp2
    go_ret
    exact ⟨rfl, ((Below.refl _ _).alloc (Nat.le_refl _) _).alloc (by simp) _⟩
  | succ h ih =>
    intro hh hhp w hcells hg
    obtain ⟨W0, hW⟩ : ∃ W0, (w.alloc (.cells #[.int .i64 k, .int .i64 b, .int .i64 x, .int .i64 t, .int .i64 l] 25)).alloc (.cells #[.int .i64 p0, .int .i64 p1, .int .i64 p2, .int .i64 p3] 27) = W0 := ⟨_, rfl⟩
    have HF := hide (show FiveC w.heap.size W0 k b x t l by subst hW; refine ⟨?_, ?_, ?_, ?_, ?_⟩ <;> simp [go_sem])
    have HP := hide (show FourC (w.heap.size + 1) W0 p0 p1 p2 p3 by subst hW; refine ⟨?_, ?_, ?_, ?_⟩ <;> simp [go_sem])
    have HB := hide (show Below w.heap.size w W0 by subst hW; exact ((Below.refl _ _).alloc (Nat.le_refl _) _).alloc (by simp) _)
    have hz : W0.heap.size ≤ w.heap.size + 2 := by subst hW; simp
    have hz' : w.heap.size + 2 ≤ W0.heap.size := by subst hW; simp
    obtain ⟨z, hz0⟩ : ∃ z, path[h]? = some z := ⟨_, List.getElem?_eq_getElem hhp⟩
    have hzz : z.size ≤ 16 := by have := hxs z (List.mem_of_getElem? hz0); omega
    have HGD := hide (show path.getD h ⟨#[]⟩ = z by rw [List.getD_eq_getElem?_getD, hz0]; rfl)
    have HC0 := hide (fun (V : World) (hb : Below W0.heap.size W0 V) (j : Nat) (z : ByteArray) (hj : path[j]? = some z) => (hb.cell (p := ⟨g, o + j, none⟩) (by show g < _; omega)).trans ((HB.out.cell (p := ⟨g, o + j, none⟩) hg).trans (hcells j z hj)))
    have hus := climbS_size k b pub p0 p1 F path y hk (by omega) (by omega) hs hy hxs h (by omega)
    have HI := hide (ih (by omega) (by omega) W0 (HC0.out W0 (Below.refl _ _)) (by omega))
    have hq1 : F / 2 ^ h ≤ 1000 := Nat.le_trans (Nat.div_le_self _ _) hF
    have HQ : Hid (F / 2 ^ h / 2 = F / 2 ^ (h + 1)) := by show F / 2 ^ h / 2 = F / 2 ^ (h + 1); rw [Nat.div_div_eq_div_mul, ← Nat.pow_succ]
    have hp16 : 2 ^ h ≤ 2 ^ 4 := Nat.pow_le_pow_right (by decide) (by omega)
    have HPW := hide (fun V : World => power_any 2 h V (by decide) (by omega) (Nat.le_trans hp16 (by decide)) (by decide))
    have hpp : 1 ≤ 2 ^ h := Nat.one_le_two_pow
    have hd1 : Int.tdiv p2 ((2 ^ h : Nat) : Int) = ((F / 2 ^ h : Nat) : Int) := by rw [HP2.out, Int.tdiv_eq_ediv_of_nonneg (by omega)]; rfl
    have HJ := hide (fun (jj : Nat) (u v : ByteArray) (hu : u.size ≤ 16) (hv : v.size ≤ 16) (hj : jj ≤ 1000) (V : World) => rjoin_any k x t l p0 p1 p2 p3 (h + 1 : Nat) jj b pub u v V hk h1 h2 hs hu hv q0 q1 (by omega) (by omega))
    have HST : Hid (climbS k b pub p0 p1 F path y (h + 1) = if F / 2 ^ h % 2 = 0 then joinS k b pub p0 p1 (h + 1 : Nat) (F / 2 ^ (h + 1) : Nat) (climbS k b pub p0 p1 F path y h) (path.getD h ⟨#[]⟩) else joinS k b pub p0 p1 (h + 1 : Nat) (F / 2 ^ (h + 1) : Nat) (path.getD h ⟨#[]⟩) (climbS k b pub p0 p1 F path y h)) := rfl
    rw [HGD.out, ← HQ.out] at HST
    have HS := hide (fun (V : World) (hb : Below W0.heap.size W0 V) => (by
      obtain ⟨c0, c1, c2, c3, c4⟩ := HF.out.below hb (by omega)
      obtain ⟨d0, d1, d2, d3⟩ := HP.out.below hb (by omega)
      exact ⟨c0, c1, c2, c3, c4, d0, d1, d2, d3, HC0.out V hb h z hz0, hb⟩ : V.cell? ⟨w.heap.size, 0, none⟩ = some (.int .i64 k) ∧ V.cell? ⟨w.heap.size, 1, none⟩ = some (.int .i64 b) ∧ V.cell? ⟨w.heap.size, 2, none⟩ = some (.int .i64 x) ∧ V.cell? ⟨w.heap.size, 3, none⟩ = some (.int .i64 t) ∧ V.cell? ⟨w.heap.size, 4, none⟩ = some (.int .i64 l) ∧ V.cell? ⟨w.heap.size + 1, 0, none⟩ = some (.int .i64 p0) ∧ V.cell? ⟨w.heap.size + 1, 1, none⟩ = some (.int .i64 p1) ∧ V.cell? ⟨w.heap.size + 1, 2, none⟩ = some (.int .i64 p2) ∧ V.cell? ⟨w.heap.size + 1, 3, none⟩ = some (.int .i64 p3) ∧ V.cell? ⟨g, o + h, none⟩ = some (.string z) ∧ Below W0.heap.size W0 V))
    have hus' : (climbS k b pub p0 p1 F path y h).size ≤ 16 := by omega
    clear ih hcells hxs q0 q1 HQ HGD HC0 hus hz0
    generalize climbS k b pub p0 p1 F path y h = u at HI HST hus'
    generalize F / 2 ^ h = q at hq1 hd1 HST
    generalize 2 ^ h = pw at hp16 HPW hpp hd1
    obtain ⟨q2, hq2⟩ : ∃ q2, q / 2 = q2 := ⟨_, rfl⟩
    have hq3 : q2 ≤ 1000 := by omega
    have hd2 : Int.tdiv (q : Int) 2 = (q2 : Int) := by rw [Int.tdiv_eq_ediv_of_nonneg (by omega)]; omega
    rw [hq2] at HST
    have HQ2 := hide hq2
    clear hq2
    have hwq : IntKind.i64.wrap (q : Int) = (q : Int) := by rw [IntKind.wrap_i64]; omega
    have hwq2 : IntKind.i64.wrap (q2 : Int) = (q2 : Int) := by rw [IntKind.wrap_i64]; omega
    have hpn : ((pw : Nat) : Int) ≠ 0 := by omega
    have hpb : ((pw : Int) == 0) = false := by rw [beq_eq_false_iff_ne]; omega
    have hpo : pw ≠ 0 := by omega
    have HJ1 := hide (HJ.out q2 u z hus' hzz hq3)
    have HJ2 := hide (HJ.out q2 z u hzz hus' hq3)
    clear HJ
    obtain ⟨Hh, hHh⟩ : ∃ Hh : Int, ((h + 1 : Nat) : Int) = Hh := ⟨_, rfl⟩
    have e1 : ((h : Nat) : Int) = Hh - 1 := by omega
    rw [e1] at HI HPW
    rw [hHh] at HJ1 HJ2 HST ⊢
    have g1 : 1 ≤ Hh := by omega
    have g2 : Hh ≤ 4 := by omega
    have g3 : Hh ≤ path.length := by omega
    have g4 : (Hh - 1).toNat = h := by omega
    have g5 : (0 : Int) ≤ Hh - 1 := by omega
    have g6 : Hh - 1 < path.length := by omega
    have g7 : IntKind.i64.wrap (Hh - 1) = Hh - 1 := by rw [IntKind.wrap_i64]; omega
    clear e1 hHh hh hhp
    obtain ⟨c0, c1, c2, c3, c4, d0, d1, d2, d3, _⟩ := HS.out W0 (Below.refl _ _)
    go_enter Tryd.func48, Tryd.ntmps48
    go_wp2_with fail
    try rw [hW]
    refine HI.out.mono ?_
    rintro e w1 ⟨rfl, hb1⟩
    have HB1 := hide (heldB (Below.refl W0.heap.size W0) hb1 (Nat.le_refl _))
    clear hb1 c0 c1 c2 c3 c4 d0 d1 d2 d3
    obtain ⟨c0, c1, c2, c3, c4, d0, d1, d2, d3, _⟩ := HS.out w1 HB1.out
    by_cases hev : q % 2 = 0
    · have hmo : Int.tmod (q : Int) 2 = 0 := by rw [Int.tmod_eq_emod_of_nonneg (by omega)]; omega
      have HE := hide (HST.out.trans (if_pos hev))
      clear hev HST
      go_wp2_with fail
      go_region_held3 (fun V => V.cell? ⟨w.heap.size, 0, none⟩ = some (.int .i64 k) ∧ V.cell? ⟨w.heap.size, 1, none⟩ = some (.int .i64 b) ∧ V.cell? ⟨w.heap.size, 2, none⟩ = some (.int .i64 x) ∧ V.cell? ⟨w.heap.size, 3, none⟩ = some (.int .i64 t) ∧ V.cell? ⟨w.heap.size, 4, none⟩ = some (.int .i64 l) ∧ V.cell? ⟨w.heap.size + 1, 0, none⟩ = some (.int .i64 p0) ∧ V.cell? ⟨w.heap.size + 1, 1, none⟩ = some (.int .i64 p1) ∧ V.cell? ⟨w.heap.size + 1, 2, none⟩ = some (.int .i64 p2) ∧ V.cell? ⟨w.heap.size + 1, 3, none⟩ = some (.int .i64 p3) ∧ V.cell? ⟨g, o + h, none⟩ = some (.string z) ∧ Below W0.heap.size W0 V) (first | exact HS.out _ hS2 | exact HS.out _ HB1.out.drew) (first | (go_at_call 61; refine (HPW.out _).mono ?_; rintro e w2 ⟨rfl, rfl⟩; have hS2 := HB1.out.drew))
      have HB2 := hide hS2
      clear hS2 c0 c1 c2 c3 c4 d0 d1 d2 d3
      go_wp2_with fail
      go_region_held3 (fun V => V.cell? ⟨w.heap.size, 0, none⟩ = some (.int .i64 k) ∧ V.cell? ⟨w.heap.size, 1, none⟩ = some (.int .i64 b) ∧ V.cell? ⟨w.heap.size, 2, none⟩ = some (.int .i64 x) ∧ V.cell? ⟨w.heap.size, 3, none⟩ = some (.int .i64 t) ∧ V.cell? ⟨w.heap.size, 4, none⟩ = some (.int .i64 l) ∧ V.cell? ⟨w.heap.size + 1, 0, none⟩ = some (.int .i64 p0) ∧ V.cell? ⟨w.heap.size + 1, 1, none⟩ = some (.int .i64 p1) ∧ V.cell? ⟨w.heap.size + 1, 2, none⟩ = some (.int .i64 p2) ∧ V.cell? ⟨w.heap.size + 1, 3, none⟩ = some (.int .i64 p3) ∧ V.cell? ⟨g, o + h, none⟩ = some (.string z) ∧ Below W0.heap.size W0 V) (first | exact HS.out _ hS3 | exact HS.out _ HB2.out.drew) (first | (go_at_call 68; refine (HJ1.out _).mono ?_; rintro e w3 ⟨rfl, hb3⟩; have hS3 := heldB HB2.out.drew hb3 (Nat.le_refl _)))
      have HB3 := hide hS3
      clear hS3 hb3
      go_wp2
      go_ret
      exact ⟨by rw [HE.out]; rfl, HB.out.trans (HB3.out.mono (by omega))⟩
    · have hmo : Int.tmod (q : Int) 2 = 1 := by rw [Int.tmod_eq_emod_of_nonneg (by omega)]; omega
      have HE := hide (HST.out.trans (if_neg hev))
      clear hev HST
      go_wp2_with fail
      go_region_held3 (fun V => V.cell? ⟨w.heap.size, 0, none⟩ = some (.int .i64 k) ∧ V.cell? ⟨w.heap.size, 1, none⟩ = some (.int .i64 b) ∧ V.cell? ⟨w.heap.size, 2, none⟩ = some (.int .i64 x) ∧ V.cell? ⟨w.heap.size, 3, none⟩ = some (.int .i64 t) ∧ V.cell? ⟨w.heap.size, 4, none⟩ = some (.int .i64 l) ∧ V.cell? ⟨w.heap.size + 1, 0, none⟩ = some (.int .i64 p0) ∧ V.cell? ⟨w.heap.size + 1, 1, none⟩ = some (.int .i64 p1) ∧ V.cell? ⟨w.heap.size + 1, 2, none⟩ = some (.int .i64 p2) ∧ V.cell? ⟨w.heap.size + 1, 3, none⟩ = some (.int .i64 p3) ∧ V.cell? ⟨g, o + h, none⟩ = some (.string z) ∧ Below W0.heap.size W0 V) (first | exact HS.out _ hS2 | exact HS.out _ HB1.out.drew) (first | (go_at_call 61; refine (HPW.out _).mono ?_; rintro e w2 ⟨rfl, rfl⟩; have hS2 := HB1.out.drew))
      have HB2 := hide hS2
      clear hS2 c0 c1 c2 c3 c4 d0 d1 d2 d3
      go_wp2_with fail
      go_region_held3 (fun V => V.cell? ⟨w.heap.size, 0, none⟩ = some (.int .i64 k) ∧ V.cell? ⟨w.heap.size, 1, none⟩ = some (.int .i64 b) ∧ V.cell? ⟨w.heap.size, 2, none⟩ = some (.int .i64 x) ∧ V.cell? ⟨w.heap.size, 3, none⟩ = some (.int .i64 t) ∧ V.cell? ⟨w.heap.size, 4, none⟩ = some (.int .i64 l) ∧ V.cell? ⟨w.heap.size + 1, 0, none⟩ = some (.int .i64 p0) ∧ V.cell? ⟨w.heap.size + 1, 1, none⟩ = some (.int .i64 p1) ∧ V.cell? ⟨w.heap.size + 1, 2, none⟩ = some (.int .i64 p2) ∧ V.cell? ⟨w.heap.size + 1, 3, none⟩ = some (.int .i64 p3) ∧ V.cell? ⟨g, o + h, none⟩ = some (.string z) ∧ Below W0.heap.size W0 V) (first | exact HS.out _ hS3 | exact HS.out _ HB2.out.drew) (first | (go_at_call 68; refine (HJ2.out _).mono ?_; rintro e w3 ⟨rfl, hb3⟩; have hS3 := heldB HB2.out.drew hb3 (Nat.le_refl _)))
      have HB3 := hide hS3
      clear hS3 hb3
      go_wp2
      go_ret
      exact ⟨by rw [HE.out]; rfl, HB.out.trans (HB3.out.mono (by omega))⟩
end Go.Proofs.YtgaoeoijdpdjiaaDoor

namespace Go.Proofs.YtgaoeoijdpdjiaaDoor
open Go.RowKit

theorem rvals_any (k b x t l m : Int) (sp : Option Addr) (n c : Nat) (xs : List ByteArray) (w : World) (h : StrsAt w sp n c xs) (hN : xs.length ≤ 8796093022208) :
    Calls Tryd.prog 45 #[.agg #[.int .i64 k, .int .i64 b, .int .i64 x, .int .i64 t, .int .i64 l], .slice sp n c, .int .i64 m] w fun e w' => e = .returned (.bool (allLen b xs && decide ((xs.length : Int) = m))) ∧ Below w.heap.size w w' := by
  rcases h with ⟨rfl, rfl, rfl, rfl⟩ | ⟨a, rfl, rfl, rfl⟩ | ⟨bk, o, rfl, rfl, _, h4, h5⟩
  · exact rvalues_nil k b x t l m w
  · exact rvalues_emp k b x t l m a c w
  · exact rvalues_some k b x t l m bk o c xs w h5 h4 (by omega)
end Go.Proofs.YtgaoeoijdpdjiaaDoor

namespace Go.Proofs.YtgaoeoijdpdjiaaDoor
open Go.RowKit

set_option maxRecDepth 20000 in
set_option maxHeartbeats 4000000 in
theorem sFold_on (k b x t l : Int) (pub : ByteArray) (p0 p1 p2 p3 : Int) (sp : Option Addr) (n c : Nat) (cv : ByteArray) (er : Int) (w : World) (hT : Tn w) (hC : ∀ V : World, Below w.heap.size w V → Tn V → Calls Tryd.prog 41 #[.agg #[.int .i64 k, .int .i64 b, .int .i64 x, .int .i64 t, .int .i64 l], .string pub, .agg #[.int .i64 p0, .int .i64 p1, .int .i64 p2, .int .i64 p3], .slice sp n c] V fun e w' => e = .returned (.tuple #[.string cv, .int .i64 er]) ∧ Below V.heap.size V w') :
    Calls Tryd.prog 24 #[.agg #[.int .i64 k, .int .i64 b, .int .i64 x, .int .i64 t, .int .i64 l], .string pub, .agg #[.int .i64 p0, .int .i64 p1, .int .i64 p2, .int .i64 p3], .slice sp n c] w fun e w' => e = .returned (.tuple #[.string cv, .int .i64 er]) ∧ Below w.heap.size w w' := by
  obtain ⟨W0, hW⟩ : ∃ W0, (w.alloc (.cells #[.int .i64 k, .int .i64 b, .int .i64 x, .int .i64 t, .int .i64 l] 25)).alloc (.cells #[.int .i64 p0, .int .i64 p1, .int .i64 p2, .int .i64 p3] 27) = W0 := ⟨_, rfl⟩
  have HF := hide (show FiveC w.heap.size W0 k b x t l by subst hW; refine ⟨?_, ?_, ?_, ?_, ?_⟩ <;> simp [go_sem])
  have HP := hide (show FourC (w.heap.size + 1) W0 p0 p1 p2 p3 by subst hW; refine ⟨?_, ?_, ?_, ?_⟩ <;> simp [go_sem])
  have HB := hide (show Below w.heap.size w W0 by subst hW; exact ((Below.refl _ _).alloc (Nat.le_refl _) _).alloc (by simp) _)
  have hz : W0.heap.size ≤ w.heap.size + 2 := by subst hW; simp
  have hz' : w.heap.size + 2 ≤ W0.heap.size := by subst hW; simp
  have HBU := hide (fun (V : World) (h : Below W0.heap.size W0 V) => HB.out.trans (h.mono (by omega)))
  have HS := hide (fun (V : World) (h : Below W0.heap.size W0 V) => (by
    obtain ⟨c0, c1, c2, c3, c4⟩ := HF.out.below h (by omega)
    obtain ⟨d0, d1, d2, d3⟩ := HP.out.below h (by omega)
    exact ⟨c0, c1, c2, c3, c4, d0, d1, d2, d3⟩ : V.cell? ⟨w.heap.size, 0, none⟩ = some (.int .i64 k) ∧ V.cell? ⟨w.heap.size, 1, none⟩ = some (.int .i64 b) ∧ V.cell? ⟨w.heap.size, 2, none⟩ = some (.int .i64 x) ∧ V.cell? ⟨w.heap.size, 3, none⟩ = some (.int .i64 t) ∧ V.cell? ⟨w.heap.size, 4, none⟩ = some (.int .i64 l) ∧ V.cell? ⟨w.heap.size + 1, 0, none⟩ = some (.int .i64 p0) ∧ V.cell? ⟨w.heap.size + 1, 1, none⟩ = some (.int .i64 p1) ∧ V.cell? ⟨w.heap.size + 1, 2, none⟩ = some (.int .i64 p2) ∧ V.cell? ⟨w.heap.size + 1, 3, none⟩ = some (.int .i64 p3)))
  obtain ⟨c0, c1, c2, c3, c4, d0, d1, d2, d3⟩ := HS.out W0 (Below.refl _ _)
  have HTT := hide (hT.on HB.out)
  have HC := hide (hC W0 HB.out)
  clear hC hT
  go_enter Tryd.func24, Tryd.ntmps24
  go_wp2_with fail
  try rw [hW]
  refine (HC.out HTT.out).mono ?_
  rintro e w1 ⟨rfl, hb1⟩
  have HB1 := hide (HB.out.trans (hb1.mono (by omega)))
  clear hb1 c0 c1 c2 c3 c4 d0 d1 d2 d3
  go_wp2
  go_ret2
  exact ⟨rfl, HB1.out⟩

set_option maxRecDepth 20000 in
set_option maxHeartbeats 4000000 in
theorem sClimb_on (k b x t l : Int) (pub y : ByteArray) (p0 p1 p2 p3 : Int) (sp : Option Addr) (n c : Nat) (cv : ByteArray) (er : Int) (w : World) (hT : Tn w) (hC : ∀ V : World, Below w.heap.size w V → Tn V → Calls Tryd.prog 47 #[.agg #[.int .i64 k, .int .i64 b, .int .i64 x, .int .i64 t, .int .i64 l], .string pub, .agg #[.int .i64 p0, .int .i64 p1, .int .i64 p2, .int .i64 p3], .string y, .slice sp n c] V fun e w' => e = .returned (.tuple #[.string cv, .int .i64 er]) ∧ Below V.heap.size V w') :
    Calls Tryd.prog 27 #[.agg #[.int .i64 k, .int .i64 b, .int .i64 x, .int .i64 t, .int .i64 l], .string pub, .agg #[.int .i64 p0, .int .i64 p1, .int .i64 p2, .int .i64 p3], .string y, .slice sp n c] w fun e w' => e = .returned (.tuple #[.string cv, .int .i64 er]) ∧ Below w.heap.size w w' := by
  obtain ⟨W0, hW⟩ : ∃ W0, (w.alloc (.cells #[.int .i64 k, .int .i64 b, .int .i64 x, .int .i64 t, .int .i64 l] 25)).alloc (.cells #[.int .i64 p0, .int .i64 p1, .int .i64 p2, .int .i64 p3] 27) = W0 := ⟨_, rfl⟩
  have HF := hide (show FiveC w.heap.size W0 k b x t l by subst hW; refine ⟨?_, ?_, ?_, ?_, ?_⟩ <;> simp [go_sem])
  have HP := hide (show FourC (w.heap.size + 1) W0 p0 p1 p2 p3 by subst hW; refine ⟨?_, ?_, ?_, ?_⟩ <;> simp [go_sem])
  have HB := hide (show Below w.heap.size w W0 by subst hW; exact ((Below.refl _ _).alloc (Nat.le_refl _) _).alloc (by simp) _)
  have hz : W0.heap.size ≤ w.heap.size + 2 := by subst hW; simp
  have hz' : w.heap.size + 2 ≤ W0.heap.size := by subst hW; simp
  have HBU := hide (fun (V : World) (h : Below W0.heap.size W0 V) => HB.out.trans (h.mono (by omega)))
  have HS := hide (fun (V : World) (h : Below W0.heap.size W0 V) => (by
    obtain ⟨c0, c1, c2, c3, c4⟩ := HF.out.below h (by omega)
    obtain ⟨d0, d1, d2, d3⟩ := HP.out.below h (by omega)
    exact ⟨c0, c1, c2, c3, c4, d0, d1, d2, d3⟩ : V.cell? ⟨w.heap.size, 0, none⟩ = some (.int .i64 k) ∧ V.cell? ⟨w.heap.size, 1, none⟩ = some (.int .i64 b) ∧ V.cell? ⟨w.heap.size, 2, none⟩ = some (.int .i64 x) ∧ V.cell? ⟨w.heap.size, 3, none⟩ = some (.int .i64 t) ∧ V.cell? ⟨w.heap.size, 4, none⟩ = some (.int .i64 l) ∧ V.cell? ⟨w.heap.size + 1, 0, none⟩ = some (.int .i64 p0) ∧ V.cell? ⟨w.heap.size + 1, 1, none⟩ = some (.int .i64 p1) ∧ V.cell? ⟨w.heap.size + 1, 2, none⟩ = some (.int .i64 p2) ∧ V.cell? ⟨w.heap.size + 1, 3, none⟩ = some (.int .i64 p3)))
  obtain ⟨c0, c1, c2, c3, c4, d0, d1, d2, d3⟩ := HS.out W0 (Below.refl _ _)
  have HTT := hide (hT.on HB.out)
  have HC := hide (hC W0 HB.out)
  clear hC hT
  go_enter Tryd.func27, Tryd.ntmps27
  go_wp2_with fail
  try rw [hW]
  refine (HC.out HTT.out).mono ?_
  rintro e w1 ⟨rfl, hb1⟩
  have HB1 := hide (HB.out.trans (hb1.mono (by omega)))
  clear hb1 c0 c1 c2 c3 c4 d0 d1 d2 d3
  go_wp2
  go_ret2
  exact ⟨rfl, HB1.out⟩
end Go.Proofs.YtgaoeoijdpdjiaaDoor

namespace Go.Proofs.YtgaoeoijdpdjiaaDoor
open Go.RowKit

theorem fT_no (k b x t l a0 a1 ch a3 a4 a5 : Int) (pub : ByteArray) (p0 p1 p2 p3 : Int) (sp : Option Addr) (n c : Nat) (w : World) (v1 il ev : Bool) (hC : ∀ V : World, Calls Tryd.prog 57 #[.agg #[.int .i64 k, .int .i64 b, .int .i64 x, .int .i64 t, .int .i64 l]] V fun e w' => e = .returned (.tuple #[.agg #[.int .i64 a0, .int .i64 a1, .int .i64 ch, .int .i64 a3, .int .i64 a4, .int .i64 a5], .int .i64 0]) ∧ Below V.heap.size V w') (hV : ∀ (V : World) (B : Nat), B = V.heap.size → Calls Tryd.prog 58 #[.agg #[.int .i64 k, .int .i64 b, .int .i64 x, .int .i64 t, .int .i64 l], .slice (some ⟨B, 0, none⟩) 1 1] (V.alloc (.cells #[.string pub] 9)) fun e w' => e = .returned (.bool v1) ∧ Below (V.alloc (.cells #[.string pub] 9)).heap.size (V.alloc (.cells #[.string pub] 9)) w') (hI : ∀ V : World, Calls Tryd.prog 59 #[.agg #[.int .i64 k, .int .i64 b, .int .i64 x, .int .i64 t, .int .i64 l], .agg #[.int .i64 p0, .int .i64 p1, .int .i64 p2, .int .i64 p3]] V fun e w' => e = .returned (.bool il) ∧ Below V.heap.size V w') (hE : ∀ V : World, Below w.heap.size w V → Calls Tryd.prog 58 #[.agg #[.int .i64 k, .int .i64 b, .int .i64 x, .int .i64 t, .int .i64 l], .slice sp n c] V fun e w' => e = .returned (.bool ev) ∧ Below V.heap.size V w') (hne : (v1 && (il && ((n : Int) == ch && ev))) = false) :
    Calls Tryd.prog 41 #[.agg #[.int .i64 k, .int .i64 b, .int .i64 x, .int .i64 t, .int .i64 l], .string pub, .agg #[.int .i64 p0, .int .i64 p1, .int .i64 p2, .int .i64 p3], .slice sp n c] w fun e w' => e = .returned (.tuple #[.string ⟨#[]⟩, .int .i64 2]) ∧ Below w.heap.size w w' := by
  cases v1 with
  | false => exact fT_pub k b x t l a0 a1 ch a3 a4 a5 pub p0 p1 p2 p3 sp n c w hC hV
  | true =>
    cases il with
    | false => exact fT_pla k b x t l a0 a1 ch a3 a4 a5 pub p0 p1 p2 p3 sp n c w hC hV hI
    | true =>
      cases g3 : ((n : Int) == ch) with
      | false => exact fT_len k b x t l a0 a1 ch a3 a4 a5 pub p0 p1 p2 p3 sp n c w hC hV hI g3
      | true =>
        rw [g3] at hne
        simp at hne
        subst hne
        exact fT_val k b x t l a0 a1 ch a3 a4 a5 pub p0 p1 p2 p3 sp n c w hC hV hI g3 hE

theorem cT_no (k b x t l : Int) (pub y : ByteArray) (p0 p1 p2 p3 : Int) (sp : Option Addr) (n c : Nat) (w : World) (v1 il ev : Bool) (hC : ∀ V : World, Calls Tryd.prog 66 #[.agg #[.int .i64 k, .int .i64 b, .int .i64 x, .int .i64 t, .int .i64 l]] V fun e w' => e = .returned (.int .i64 0) ∧ Below V.heap.size V w') (hV : ∀ (V : World) (B : Nat), B = V.heap.size → Calls Tryd.prog 58 #[.agg #[.int .i64 k, .int .i64 b, .int .i64 x, .int .i64 t, .int .i64 l], .slice (some ⟨B, 0, none⟩) 2 2] (V.alloc (.cells #[.string pub, .string y] 9)) fun e w' => e = .returned (.bool v1) ∧ Below (V.alloc (.cells #[.string pub, .string y] 9)).heap.size (V.alloc (.cells #[.string pub, .string y] 9)) w') (hI : ∀ V : World, Calls Tryd.prog 59 #[.agg #[.int .i64 k, .int .i64 b, .int .i64 x, .int .i64 t, .int .i64 l], .agg #[.int .i64 p0, .int .i64 p1, .int .i64 p2, .int .i64 p3]] V fun e w' => e = .returned (.bool il) ∧ Below V.heap.size V w') (hE : ∀ V : World, Below w.heap.size w V → Calls Tryd.prog 58 #[.agg #[.int .i64 k, .int .i64 b, .int .i64 x, .int .i64 t, .int .i64 l], .slice sp n c] V fun e w' => e = .returned (.bool ev) ∧ Below V.heap.size V w') (hne : (v1 && (il && ((n : Int) == t && ev))) = false) :
    Calls Tryd.prog 47 #[.agg #[.int .i64 k, .int .i64 b, .int .i64 x, .int .i64 t, .int .i64 l], .string pub, .agg #[.int .i64 p0, .int .i64 p1, .int .i64 p2, .int .i64 p3], .string y, .slice sp n c] w fun e w' => e = .returned (.tuple #[.string ⟨#[]⟩, .int .i64 2]) ∧ Below w.heap.size w w' := by
  cases v1 with
  | false => exact cT_pub k b x t l pub y p0 p1 p2 p3 sp n c w hC hV
  | true =>
    cases il with
    | false => exact cT_pla k b x t l pub y p0 p1 p2 p3 sp n c w hC hV hI
    | true =>
      cases g3 : ((n : Int) == t) with
      | false => exact cT_len k b x t l pub y p0 p1 p2 p3 sp n c w hC hV hI g3
      | true =>
        rw [g3] at hne
        simp at hne
        subst hne
        exact cT_val k b x t l pub y p0 p1 p2 p3 sp n c w hC hV hI g3 hE

theorem fR_no (k b x t l a0 a1 ch a3 a4 a5 : Int) (pub : ByteArray) (p0 p1 p2 p3 : Int) (sp : Option Addr) (n c : Nat) (w : World) (pl v : Bool) (hC : ∀ V : World, Calls Tryd.prog 42 #[.agg #[.int .i64 k, .int .i64 b, .int .i64 x, .int .i64 t, .int .i64 l]] V fun e w' => e = .returned (.int .i64 0) ∧ Below V.heap.size V w') (hZ : ∀ V : World, Calls Tryd.prog 43 #[.agg #[.int .i64 k, .int .i64 b, .int .i64 x, .int .i64 t, .int .i64 l]] V fun e w' => e = .returned (.agg #[.int .i64 a0, .int .i64 a1, .int .i64 ch, .int .i64 a3, .int .i64 a4, .int .i64 a5]) ∧ Below V.heap.size V w') (hI : ∀ V : World, Calls Tryd.prog 44 #[.agg #[.int .i64 k, .int .i64 b, .int .i64 x, .int .i64 t, .int .i64 l], .agg #[.int .i64 p0, .int .i64 p1, .int .i64 p2, .int .i64 p3]] V fun e w' => e = .returned (.bool pl) ∧ Below V.heap.size V w') (hE : ∀ V : World, Below w.heap.size w V → Calls Tryd.prog 45 #[.agg #[.int .i64 k, .int .i64 b, .int .i64 x, .int .i64 t, .int .i64 l], .slice sp n c, .int .i64 ch] V fun e w' => e = .returned (.bool v) ∧ Below V.heap.size V w') (hne : (pl && (p3 == 0 && ((pub.size : Int) == b && v))) = false) :
    Calls Tryd.prog 25 #[.agg #[.int .i64 k, .int .i64 b, .int .i64 x, .int .i64 t, .int .i64 l], .string pub, .agg #[.int .i64 p0, .int .i64 p1, .int .i64 p2, .int .i64 p3], .slice sp n c] w fun e w' => e = .returned (.tuple #[.string ⟨#[]⟩, .int .i64 2]) ∧ Below w.heap.size w w' := by
  cases pl with
  | false => exact fR_pla k b x t l a0 a1 ch a3 a4 a5 pub p0 p1 p2 p3 sp n c v w hC hZ hI hE
  | true =>
    cases e3 : (p3 == 0) with
    | false => exact fR_chn k b x t l a0 a1 ch a3 a4 a5 pub p0 p1 p2 p3 sp n c v w hC hZ hI hE e3
    | true =>
      cases e4 : ((pub.size : Int) == b) with
      | false => exact fR_pub k b x t l a0 a1 ch a3 a4 a5 pub p0 p1 p2 p3 sp n c v w hC hZ hI hE e3 e4
      | true =>
        rw [e3, e4] at hne
        simp at hne
        subst hne
        exact fR_val k b x t l a0 a1 ch a3 a4 a5 pub p0 p1 p2 p3 sp n c w hC hZ hI hE e3 e4

theorem cR_no (k b x t l : Int) (pub y : ByteArray) (p0 p1 p2 p3 : Int) (sp : Option Addr) (n c : Nat) (w : World) (pl v : Bool) (hC : ∀ V : World, Calls Tryd.prog 42 #[.agg #[.int .i64 k, .int .i64 b, .int .i64 x, .int .i64 t, .int .i64 l]] V fun e w' => e = .returned (.int .i64 0) ∧ Below V.heap.size V w') (hI : ∀ V : World, Calls Tryd.prog 44 #[.agg #[.int .i64 k, .int .i64 b, .int .i64 x, .int .i64 t, .int .i64 l], .agg #[.int .i64 p0, .int .i64 p1, .int .i64 p2, .int .i64 p3]] V fun e w' => e = .returned (.bool pl) ∧ Below V.heap.size V w') (hE : ∀ V : World, Below w.heap.size w V → Calls Tryd.prog 45 #[.agg #[.int .i64 k, .int .i64 b, .int .i64 x, .int .i64 t, .int .i64 l], .slice sp n c, .int .i64 t] V fun e w' => e = .returned (.bool v) ∧ Below V.heap.size V w') (hne : (pl && (p3 == 0 && ((pub.size : Int) == b && ((y.size : Int) == b && v)))) = false) :
    Calls Tryd.prog 28 #[.agg #[.int .i64 k, .int .i64 b, .int .i64 x, .int .i64 t, .int .i64 l], .string pub, .agg #[.int .i64 p0, .int .i64 p1, .int .i64 p2, .int .i64 p3], .string y, .slice sp n c] w fun e w' => e = .returned (.tuple #[.string ⟨#[]⟩, .int .i64 2]) ∧ Below w.heap.size w w' := by
  cases pl with
  | false => exact cR_pla k b x t l pub y p0 p1 p2 p3 sp n c v w hC hI hE
  | true =>
    cases e3 : (p3 == 0) with
    | false => exact cR_chn k b x t l pub y p0 p1 p2 p3 sp n c v w hC hI hE e3
    | true =>
      cases e4 : ((pub.size : Int) == b) with
      | false => exact cR_pub k b x t l pub y p0 p1 p2 p3 sp n c v w hC hI hE e3 e4
      | true =>
        cases e5 : ((y.size : Int) == b) with
        | false => exact cR_txt k b x t l pub y p0 p1 p2 p3 sp n c v w hC hI hE e3 e4 e5
        | true =>
          rw [e3, e4, e5] at hne
          simp at hne
          subst hne
          exact cR_val k b x t l pub y p0 p1 p2 p3 sp n c w hC hI hE e3 e4 e5

end Go.Proofs.YtgaoeoijdpdjiaaDoor
