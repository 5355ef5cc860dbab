/-
  From a leaf up to the root: the document's own climb. From a leaf up to the root: the program's climb. The statement's own lent and whole: a list with spare room behind it, handed in, and looked at again.
-/
import Derived.Test.YtbncojflfnpikaaDoorPart31
import Derived.Test.YtbncojflfnpikaaDoorPart26
import Derived.Test.YtbncojflfnpikaaDoorPart9
import Derived.Test.YtbncojflfnpikaaDoorPart35
import Derived.Laws.CopyOwn
import Derived.WalkSpells
namespace Go.Proofs.YtbncojflfnpikaaDoor
open Go.RowKit

set_option maxRecDepth 20000 in
set_option maxHeartbeats 4000000 in
theorem rclimb_any (k x t l p0 p1 p3 : Int) (F : Nat) (b g o c : Nat) (pub y : ByteArray) (path : List ByteArray) (hk : k = 1 ∨ k = 2) (h1 : 1 ≤ b) (h2 : b ≤ 16) (hs : pub.size ≤ 16) (hy : (y.size : Int) = b) (hxs : ∀ z ∈ path, (z.size : Int) = b) (hF : F ≤ 1000) (q0 : 0 ≤ p0 ∧ p0 ≤ 100000) (q1 : 0 ≤ p1 ∧ p1 ≤ 100000) : ∀ (h : Nat) (_ : h ≤ 4) (_ : h ≤ path.length) (w : World) (_ : ∀ (j : Nat) z, path[j]? = some z → w.cell? ⟨g, o + j, none⟩ = some (.string z)) (_ : g < w.heap.size),
    Calls Tryd.prog 80 #[.agg #[.int .i64 k, .int .i64 b, .int .i64 x, .int .i64 t, .int .i64 l], .string pub, .agg #[.int .i64 p0, .int .i64 p1, .int .i64 F, .int .i64 p3], .string y, .slice (some ⟨g, o, none⟩) path.length c, .int .i64 h] w fun e w' => e = .returned (.string (climbS k b pub p0 p1 F path y h)) ∧ Below w.heap.size w w' := by
  obtain ⟨p2, hp2⟩ : ∃ p2 : Int, p2 = (F : Int) := ⟨_, rfl⟩
  rw [← hp2]
  have HP2 := hide hp2
  clear hp2
  intro h
  induction h with
  | zero =>
    intro _ _ w _ _
    clear hxs
    go_enter Tryd.func80, Tryd.ntmps80
    go_wp2
    go_ret
    exact ⟨rfl, ((Below.refl _ _).alloc (Nat.le_refl _) _).alloc (by simp) _⟩
  | succ h ih =>
    intro hh hhp w hcells hg
    obtain ⟨W0, hW⟩ : ∃ W0, (w.alloc (.cells #[.int .i64 k, .int .i64 b, .int .i64 x, .int .i64 t, .int .i64 l] 25)).alloc (.cells #[.int .i64 p0, .int .i64 p1, .int .i64 p2, .int .i64 p3] 29) = W0 := ⟨_, rfl⟩
    have HF := hide (show FiveC w.heap.size W0 k b x t l by subst hW; refine ⟨?_, ?_, ?_, ?_, ?_⟩ <;> simp [go_sem])
    have HP := hide (show FourC (w.heap.size + 1) W0 p0 p1 p2 p3 by subst hW; refine ⟨?_, ?_, ?_, ?_⟩ <;> simp [go_sem])
    have HB := hide (show Below w.heap.size w W0 by subst hW; exact ((Below.refl _ _).alloc (Nat.le_refl _) _).alloc (by simp) _)
    have hz : W0.heap.size ≤ w.heap.size + 2 := by subst hW; simp
    have hz' : w.heap.size + 2 ≤ W0.heap.size := by subst hW; simp
    obtain ⟨z, hz0⟩ : ∃ z, path[h]? = some z := ⟨_, List.getElem?_eq_getElem hhp⟩
    have hzz : z.size ≤ 16 := by have := hxs z (List.mem_of_getElem? hz0); omega
    have HGD := hide (show path.getD h ⟨#[]⟩ = z by rw [List.getD_eq_getElem?_getD, hz0]; rfl)
    have HC0 := hide (fun (V : World) (hb : Below W0.heap.size W0 V) (j : Nat) (z : ByteArray) (hj : path[j]? = some z) => (hb.cell (p := ⟨g, o + j, none⟩) (by show g < _; omega)).trans ((HB.out.cell (p := ⟨g, o + j, none⟩) hg).trans (hcells j z hj)))
    have hus := climbS_size k b pub p0 p1 F path y hk (by omega) (by omega) hs hy hxs h (by omega)
    have HI := hide (ih (by omega) (by omega) W0 (HC0.out W0 (Below.refl _ _)) (by omega))
    have hq1 : F / 2 ^ h ≤ 1000 := Nat.le_trans (Nat.div_le_self _ _) hF
    have HQ : Hid (F / 2 ^ h / 2 = F / 2 ^ (h + 1)) := by show F / 2 ^ h / 2 = F / 2 ^ (h + 1); rw [Nat.div_div_eq_div_mul, ← Nat.pow_succ]
    have hp16 : 2 ^ h ≤ 2 ^ 4 := Nat.pow_le_pow_right (by decide) (by omega)
    have HPW := hide (fun V : World => power_any 2 h V (by decide) (by omega) (Nat.le_trans hp16 (by decide)) (by decide))
    have hpp : 1 ≤ 2 ^ h := Nat.one_le_two_pow
    have hd1 : Int.tdiv p2 ((2 ^ h : Nat) : Int) = ((F / 2 ^ h : Nat) : Int) := by rw [HP2.out, Int.tdiv_eq_ediv_of_nonneg (by omega)]; rfl
    have HJ := hide (fun (jj : Nat) (u v : ByteArray) (hu : u.size ≤ 16) (hv : v.size ≤ 16) (hj : jj ≤ 1000) (V : World) => rjoin_any k x t l p0 p1 p2 p3 (h + 1 : Nat) jj b pub u v V hk h1 h2 hs hu hv q0 q1 (by omega) (by omega))
    have HST : Hid (climbS k b pub p0 p1 F path y (h + 1) = if F / 2 ^ h % 2 = 0 then joinS k b pub p0 p1 (h + 1 : Nat) (F / 2 ^ (h + 1) : Nat) (climbS k b pub p0 p1 F path y h) (path.getD h ⟨#[]⟩) else joinS k b pub p0 p1 (h + 1 : Nat) (F / 2 ^ (h + 1) : Nat) (path.getD h ⟨#[]⟩) (climbS k b pub p0 p1 F path y h)) := rfl
    rw [HGD.out, ← HQ.out] at HST
    have HS := hide (fun (V : World) (hb : Below W0.heap.size W0 V) => (by
      obtain ⟨c0, c1, c2, c3, c4⟩ := HF.out.below hb (by omega)
      obtain ⟨d0, d1, d2, d3⟩ := HP.out.below hb (by omega)
      exact ⟨c0, c1, c2, c3, c4, d0, d1, d2, d3, HC0.out V hb h z hz0, hb⟩ : V.cell? ⟨w.heap.size, 0, none⟩ = some (.int .i64 k) ∧ V.cell? ⟨w.heap.size, 1, none⟩ = some (.int .i64 b) ∧ V.cell? ⟨w.heap.size, 2, none⟩ = some (.int .i64 x) ∧ V.cell? ⟨w.heap.size, 3, none⟩ = some (.int .i64 t) ∧ V.cell? ⟨w.heap.size, 4, none⟩ = some (.int .i64 l) ∧ V.cell? ⟨w.heap.size + 1, 0, none⟩ = some (.int .i64 p0) ∧ V.cell? ⟨w.heap.size + 1, 1, none⟩ = some (.int .i64 p1) ∧ V.cell? ⟨w.heap.size + 1, 2, none⟩ = some (.int .i64 p2) ∧ V.cell? ⟨w.heap.size + 1, 3, none⟩ = some (.int .i64 p3) ∧ V.cell? ⟨g, o + h, none⟩ = some (.string z) ∧ Below W0.heap.size W0 V))
    have hus' : (climbS k b pub p0 p1 F path y h).size ≤ 16 := by omega
    clear ih hcells hxs q0 q1 HQ HGD HC0 hus hz0
    generalize climbS k b pub p0 p1 F path y h = u at HI HST hus'
    generalize F / 2 ^ h = q at hq1 hd1 HST
    generalize 2 ^ h = pw at hp16 HPW hpp hd1
    obtain ⟨q2, hq2⟩ : ∃ q2, q / 2 = q2 := ⟨_, rfl⟩
    have hq3 : q2 ≤ 1000 := by omega
    have hd2 : Int.tdiv (q : Int) 2 = (q2 : Int) := by rw [Int.tdiv_eq_ediv_of_nonneg (by omega)]; omega
    rw [hq2] at HST
    have HQ2 := hide hq2
    clear hq2
    have hwq : IntKind.i64.wrap (q : Int) = (q : Int) := by rw [IntKind.wrap_i64]; omega
    have hwq2 : IntKind.i64.wrap (q2 : Int) = (q2 : Int) := by rw [IntKind.wrap_i64]; omega
    have hpn : ((pw : Nat) : Int) ≠ 0 := by omega
    have hpb : ((pw : Int) == 0) = false := by rw [beq_eq_false_iff_ne]; omega
    have hpo : pw ≠ 0 := by omega
    have HJ1 := hide (HJ.out q2 u z hus' hzz hq3)
    have HJ2 := hide (HJ.out q2 z u hzz hus' hq3)
    clear HJ
    obtain ⟨Hh, hHh⟩ : ∃ Hh : Int, ((h + 1 : Nat) : Int) = Hh := ⟨_, rfl⟩
    have e1 : ((h : Nat) : Int) = Hh - 1 := by omega
    rw [e1] at HI HPW
    rw [hHh] at HJ1 HJ2 HST ⊢
    have g1 : 1 ≤ Hh := by omega
    have g2 : Hh ≤ 4 := by omega
    have g3 : Hh ≤ path.length := by omega
    have g4 : (Hh - 1).toNat = h := by omega
    have g5 : (0 : Int) ≤ Hh - 1 := by omega
    have g6 : Hh - 1 < path.length := by omega
    have g7 : IntKind.i64.wrap (Hh - 1) = Hh - 1 := by rw [IntKind.wrap_i64]; omega
    clear e1 hHh hh hhp
    obtain ⟨c0, c1, c2, c3, c4, d0, d1, d2, d3, _⟩ := HS.out W0 (Below.refl _ _)
    go_enter Tryd.func80, Tryd.ntmps80
    go_wp2_with fail
    try rw [hW]
    refine HI.out.mono ?_
    rintro e w1 ⟨rfl, hb1⟩
    have HB1 := hide (heldB (Below.refl W0.heap.size W0) hb1 (Nat.le_refl _))
    clear hb1 c0 c1 c2 c3 c4 d0 d1 d2 d3
    obtain ⟨c0, c1, c2, c3, c4, d0, d1, d2, d3, _⟩ := HS.out w1 HB1.out
    by_cases hev : q % 2 = 0
    · have hmo : Int.tmod (q : Int) 2 = 0 := by rw [Int.tmod_eq_emod_of_nonneg (by omega)]; omega
      have HE := hide (HST.out.trans (if_pos hev))
      clear hev HST
      go_wp2_with fail
      go_region_held3 (fun V => V.cell? ⟨w.heap.size, 0, none⟩ = some (.int .i64 k) ∧ V.cell? ⟨w.heap.size, 1, none⟩ = some (.int .i64 b) ∧ V.cell? ⟨w.heap.size, 2, none⟩ = some (.int .i64 x) ∧ V.cell? ⟨w.heap.size, 3, none⟩ = some (.int .i64 t) ∧ V.cell? ⟨w.heap.size, 4, none⟩ = some (.int .i64 l) ∧ V.cell? ⟨w.heap.size + 1, 0, none⟩ = some (.int .i64 p0) ∧ V.cell? ⟨w.heap.size + 1, 1, none⟩ = some (.int .i64 p1) ∧ V.cell? ⟨w.heap.size + 1, 2, none⟩ = some (.int .i64 p2) ∧ V.cell? ⟨w.heap.size + 1, 3, none⟩ = some (.int .i64 p3) ∧ V.cell? ⟨g, o + h, none⟩ = some (.string z) ∧ Below W0.heap.size W0 V) (first | exact HS.out _ hS2 | exact HS.out _ HB1.out.drew) (first | (go_at_call 73; refine (HPW.out _).mono ?_; rintro e w2 ⟨rfl, rfl⟩; have hS2 := HB1.out.drew))
      have HB2 := hide hS2
      clear hS2 c0 c1 c2 c3 c4 d0 d1 d2 d3
      go_wp2_with fail
      go_region_held3 (fun V => V.cell? ⟨w.heap.size, 0, none⟩ = some (.int .i64 k) ∧ V.cell? ⟨w.heap.size, 1, none⟩ = some (.int .i64 b) ∧ V.cell? ⟨w.heap.size, 2, none⟩ = some (.int .i64 x) ∧ V.cell? ⟨w.heap.size, 3, none⟩ = some (.int .i64 t) ∧ V.cell? ⟨w.heap.size, 4, none⟩ = some (.int .i64 l) ∧ V.cell? ⟨w.heap.size + 1, 0, none⟩ = some (.int .i64 p0) ∧ V.cell? ⟨w.heap.size + 1, 1, none⟩ = some (.int .i64 p1) ∧ V.cell? ⟨w.heap.size + 1, 2, none⟩ = some (.int .i64 p2) ∧ V.cell? ⟨w.heap.size + 1, 3, none⟩ = some (.int .i64 p3) ∧ V.cell? ⟨g, o + h, none⟩ = some (.string z) ∧ Below W0.heap.size W0 V) (first | exact HS.out _ hS3 | exact HS.out _ HB2.out.drew) (first | (go_at_call 109; refine (HJ1.out _).mono ?_; rintro e w3 ⟨rfl, hb3⟩; have hS3 := heldB HB2.out.drew hb3 (Nat.le_refl _)))
      have HB3 := hide hS3
      clear hS3 hb3
      go_wp2
      go_ret
      exact ⟨by rw [HE.out]; rfl, HB.out.trans (HB3.out.mono (by omega))⟩
    · have hmo : Int.tmod (q : Int) 2 = 1 := by rw [Int.tmod_eq_emod_of_nonneg (by omega)]; omega
      have HE := hide (HST.out.trans (if_neg hev))
      clear hev HST
      go_wp2_with fail
      go_region_held3 (fun V => V.cell? ⟨w.heap.size, 0, none⟩ = some (.int .i64 k) ∧ V.cell? ⟨w.heap.size, 1, none⟩ = some (.int .i64 b) ∧ V.cell? ⟨w.heap.size, 2, none⟩ = some (.int .i64 x) ∧ V.cell? ⟨w.heap.size, 3, none⟩ = some (.int .i64 t) ∧ V.cell? ⟨w.heap.size, 4, none⟩ = some (.int .i64 l) ∧ V.cell? ⟨w.heap.size + 1, 0, none⟩ = some (.int .i64 p0) ∧ V.cell? ⟨w.heap.size + 1, 1, none⟩ = some (.int .i64 p1) ∧ V.cell? ⟨w.heap.size + 1, 2, none⟩ = some (.int .i64 p2) ∧ V.cell? ⟨w.heap.size + 1, 3, none⟩ = some (.int .i64 p3) ∧ V.cell? ⟨g, o + h, none⟩ = some (.string z) ∧ Below W0.heap.size W0 V) (first | exact HS.out _ hS2 | exact HS.out _ HB1.out.drew) (first | (go_at_call 73; refine (HPW.out _).mono ?_; rintro e w2 ⟨rfl, rfl⟩; have hS2 := HB1.out.drew))
      have HB2 := hide hS2
      clear hS2 c0 c1 c2 c3 c4 d0 d1 d2 d3
      go_wp2_with fail
      go_region_held3 (fun V => V.cell? ⟨w.heap.size, 0, none⟩ = some (.int .i64 k) ∧ V.cell? ⟨w.heap.size, 1, none⟩ = some (.int .i64 b) ∧ V.cell? ⟨w.heap.size, 2, none⟩ = some (.int .i64 x) ∧ V.cell? ⟨w.heap.size, 3, none⟩ = some (.int .i64 t) ∧ V.cell? ⟨w.heap.size, 4, none⟩ = some (.int .i64 l) ∧ V.cell? ⟨w.heap.size + 1, 0, none⟩ = some (.int .i64 p0) ∧ V.cell? ⟨w.heap.size + 1, 1, none⟩ = some (.int .i64 p1) ∧ V.cell? ⟨w.heap.size + 1, 2, none⟩ = some (.int .i64 p2) ∧ V.cell? ⟨w.heap.size + 1, 3, none⟩ = some (.int .i64 p3) ∧ V.cell? ⟨g, o + h, none⟩ = some (.string z) ∧ Below W0.heap.size W0 V) (first | exact HS.out _ hS3 | exact HS.out _ HB2.out.drew) (first | (go_at_call 109; refine (HJ2.out _).mono ?_; rintro e w3 ⟨rfl, hb3⟩; have hS3 := heldB HB2.out.drew hb3 (Nat.le_refl _)))
      have HB3 := hide hS3
      clear hS3 hb3
      go_wp2
      go_ret
      exact ⟨by rw [HE.out]; rfl, HB.out.trans (HB3.out.mono (by omega))⟩
end Go.Proofs.YtbncojflfnpikaaDoor

namespace Go.Proofs.YtbncojflfnpikaaDoor
open Go.RowKit

set_option maxRecDepth 20000 in
set_option maxHeartbeats 4000000 in
theorem sclimb_any (k b x t l : Int) (seed : ByteArray) (p0 p1 p3 : Int) (F : Nat) (g o c : Nat) (path : List ByteArray) (y : ByteArray) (w : World) (hcells : ∀ (j : Nat) z, path[j]? = some z → w.cell? ⟨g, o + j, none⟩ = some (.string z)) (hg : g < w.heap.size) (hN : path.length ≤ 64) (hF : F ≤ 1000)
    (hk : k = 1 ∨ k = 2) (h1 : 1 ≤ b) (h2 : b ≤ 16) (hs : seed.size ≤ 16) (hy : (y.size : Int) = b) (hxs : ∀ z ∈ path, (z.size : Int) = b) (hT : Tn w) :
    Calls Tryd.prog 111 #[.agg #[.int .i64 k, .int .i64 b, .int .i64 x, .int .i64 t, .int .i64 l, .string seed, .int .i64 p0, .int .i64 p1, .int .i64 F, .int .i64 p3], .string y, .slice (some ⟨g, o, none⟩) path.length c] w fun e w' => e = .returned (.string (climbS k b seed p0 p1 F path y path.length)) ∧ Below w.heap.size w w' := by
  obtain ⟨p2, hp2⟩ : ∃ p2 : Int, p2 = (F : Int) := ⟨_, rfl⟩
  rw [← hp2]
  obtain ⟨W0, hW⟩ : ∃ W0, w.alloc (.cells #[.int .i64 k, .int .i64 b, .int .i64 x, .int .i64 t, .int .i64 l, .string seed, .int .i64 p0, .int .i64 p1, .int .i64 p2, .int .i64 p3] 121) = W0 := ⟨_, rfl⟩
  have HF := hide (show TenC w.heap.size W0 k b x t l seed p0 p1 p2 p3 by subst hW; refine ⟨?_, ?_, ?_, ?_, ?_, ?_, ?_, ?_, ?_, ?_⟩ <;> simp [go_sem])
  have HB := hide (show Below w.heap.size w W0 by subst hW; exact (Below.refl _ _).alloc (Nat.le_refl _) _)
  have hz : W0.heap.size = w.heap.size + 1 := by subst hW; simp
  have HT := hide (hT.on HB.out)
  have HS := hide (fun (V : World) (h : Below W0.heap.size W0 V) => (by
    obtain ⟨c0, c1, c2, c3, c4, c5, c6, c7, c8, c9⟩ := HF.out.below h (by omega)
    exact ⟨c0, c1, c2, c3, c4, c5, c6, c7, c8, c9, h⟩ : V.cell? ⟨w.heap.size, 0, none⟩ = some (.int .i64 k) ∧ V.cell? ⟨w.heap.size, 1, none⟩ = some (.int .i64 b) ∧ V.cell? ⟨w.heap.size, 2, none⟩ = some (.int .i64 x) ∧ V.cell? ⟨w.heap.size, 3, none⟩ = some (.int .i64 t) ∧ V.cell? ⟨w.heap.size, 4, none⟩ = some (.int .i64 l) ∧ V.cell? ⟨w.heap.size, 5, none⟩ = some (.string seed) ∧ V.cell? ⟨w.heap.size, 6, none⟩ = some (.int .i64 p0) ∧ V.cell? ⟨w.heap.size, 7, none⟩ = some (.int .i64 p1) ∧ V.cell? ⟨w.heap.size, 8, none⟩ = some (.int .i64 p2) ∧ V.cell? ⟨w.heap.size, 9, none⟩ = some (.int .i64 p3) ∧ Below W0.heap.size W0 V))
  have HC0 := hide (fun (V : World) (hb : Below W0.heap.size W0 V) (j : Nat) (z : ByteArray) (hj : path[j]? = some z) => (hb.cell (p := ⟨g, o + j, none⟩) (by show g < _; omega)).trans ((HB.out.cell (p := ⟨g, o + j, none⟩) hg).trans (hcells j z hj)))
  have HCS := hide (climbS_size k b seed p0 p1 F path y hk h1 h2 hs hy hxs)
  have HJ := hide (fun (h j : Int) (u z : ByteArray) (hu : u.size ≤ 16) (hz : z.size ≤ 16) (V : World) (hb : Below W0.heap.size W0 V) => sjoin_any k b x t l seed p0 p1 p2 p3 h j u z V hk h1 h2 hs hu hz (HT.out.on hb))
  have HXS := hide hxs
  have HP2 := hide hp2
  clear hT hcells hxs hp2
  obtain ⟨c0, c1, c2, c3, c4, c5, c6, c7, c8, c9, _⟩ := HS.out W0 (Below.refl _ _)
  go_enter Tryd.func111, Tryd.ntmps111
  go_wp2_with fail
  try rw [hW]
  clear hW c0 c1 c2 c3 c4 c5 c6 c7 c8 c9
  go_loopw [1, 7, 17] (fun u n i wr => ∃ m : Nat, m ≤ path.length ∧ i = .int .i64 m ∧ n = .int .i64 ((F / 2 ^ m : Nat) : Int) ∧ u = .string (climbS k b seed p0 p1 F path y m) ∧ Hid (Below W0.heap.size W0 wr)) (fun _ _ i _ => path.length - (intOf i).toNat)
  case atStart => exact ⟨0, Nat.zero_le _, rfl, by rw [HP2.out]; simp, rfl, Below.refl _ _⟩
  case round =>
    obtain ⟨m, hm, rfl, rfl, rfl, hb⟩ := hrel
    by_cases hlt : m < path.length
    · obtain ⟨z, hz0⟩ : ∃ z, path[m]? = some z := ⟨_, List.getElem?_eq_getElem hlt⟩
      have cz := HC0.out wr hb.out m z hz0
      have hz : z.size ≤ 16 := by have := HXS.out z (List.mem_of_getElem? hz0); omega
      have HGD := hide (show path.getD m ⟨#[]⟩ = z by rw [List.getD_eq_getElem?_getD, hz0]; rfl)
      have HCM := hide (HCS.out m hm)
      have HST : Hid (climbS k b seed p0 p1 F path y (m + 1) = if F / 2 ^ m % 2 = 0 then joinS k b seed p0 p1 (m + 1 : Nat) (F / 2 ^ (m + 1) : Nat) (climbS k b seed p0 p1 F path y m) (path.getD m ⟨#[]⟩) else joinS k b seed p0 p1 (m + 1 : Nat) (F / 2 ^ (m + 1) : Nat) (path.getD m ⟨#[]⟩) (climbS k b seed p0 p1 F path y m)) := rfl
      rw [HGD.out] at HST
      have hu : (climbS k b seed p0 p1 F path y m).size ≤ 16 := by have := HCM.out; omega
      have hq1 : F / 2 ^ m ≤ 1000 := Nat.le_trans (Nat.div_le_self _ _) hF
      have HQ : Hid (F / 2 ^ m / 2 = F / 2 ^ (m + 1)) := by show F / 2 ^ m / 2 = F / 2 ^ (m + 1); rw [Nat.div_div_eq_div_mul, ← Nat.pow_succ]
      obtain ⟨q2, HQ2⟩ : ∃ q2, Hid (F / 2 ^ m / 2 = q2) := ⟨_, rfl⟩
      have hq2 : q2 ≤ 1000 := by have := HQ2.out; omega
      have hdv : Int.tdiv ((F / 2 ^ m : Nat) : Int) 2 = (q2 : Int) := by rw [tdiv_two, HQ2.out]
      have hwq : IntKind.i64.wrap (q2 : Int) = (q2 : Int) := by rw [IntKind.wrap_i64]; omega
      have HR2 : Hid (F / 2 ^ (m + 1) = q2) := HQ.out.symm.trans HQ2.out
      rw [HR2.out] at HST
      obtain ⟨d0, d1, d2, d3, d4, d5, d6, d7, d8, d9, _⟩ := HS.out wr hb.out
      have HRH := hide (HJ.out ((m : Int) + 1) (q2 : Int))
      clear hz0 HQ HGD
      by_cases hev : F / 2 ^ m % 2 = 0
      · have hmo : Int.tmod ((F / 2 ^ m : Nat) : Int) 2 = 0 := by rw [tmod_two, hev]; rfl
        have HJ1 := hide (HRH.out (climbS k b seed p0 p1 F path y m) z hu hz wr hb.out)
        have HE : Hid (climbS k b seed p0 p1 F path y (m + 1) = joinS k b seed p0 p1 ((m : Int) + 1) (q2 : Int) (climbS k b seed p0 p1 F path y m) z) := by
          show climbS k b seed p0 p1 F path y (m + 1) = _
          rw [HST.out, if_pos hev]; rfl
        clear hev HST HRH HQ2 HCM
        generalize climbS k b seed p0 p1 F path y m = u at HJ1 HE hu ⊢
        generalize F / 2 ^ m = q at hdv hmo hq1 ⊢
        go_wp2_with fail
        refine HJ1.out.mono ?_
        rintro e w1 ⟨rfl, hb1⟩
        have HB1 := hide (heldB hb.out hb1 (Nat.le_refl _))
        clear hb1 d0 d1 d2 d3 d4 d5 d6 d7 d8 d9 cz hdv hmo hwq
        go_wp2
        go_roundw
        case rel =>
          have R : ∃ m' : Nat, m' ≤ path.length ∧ Value.int .i64 ((m : Int) + 1) = .int .i64 m' ∧ Value.int .i64 (q2 : Int) = .int .i64 ((F / 2 ^ m' : Nat) : Int) ∧ Value.string (joinS k b seed p0 p1 ((m : Int) + 1) (q2 : Int) u z) = .string (climbS k b seed p0 p1 F path y m') ∧ Hid (Below W0.heap.size W0 w1) := ⟨m + 1, by omega, by go_num, by rw [HR2.out], by rw [HE.out], HB1.out⟩
          first | exact R | ((repeat apply Exists.intro); exact ⟨R, rfl⟩)
        case measure => simp [intOf]; omega
      · have hmo : Int.tmod ((F / 2 ^ m : Nat) : Int) 2 = 1 := by rw [tmod_two, show F / 2 ^ m % 2 = 1 by omega]; rfl
        have HJ1 := hide (HRH.out z (climbS k b seed p0 p1 F path y m) hz hu wr hb.out)
        have HE : Hid (climbS k b seed p0 p1 F path y (m + 1) = joinS k b seed p0 p1 ((m : Int) + 1) (q2 : Int) z (climbS k b seed p0 p1 F path y m)) := by
          show climbS k b seed p0 p1 F path y (m + 1) = _
          rw [HST.out, if_neg hev]; rfl
        clear hev HST HRH HQ2 HCM
        generalize climbS k b seed p0 p1 F path y m = u at HJ1 HE hu ⊢
        generalize F / 2 ^ m = q at hdv hmo hq1 ⊢
        go_wp2_with fail
        refine HJ1.out.mono ?_
        rintro e w1 ⟨rfl, hb1⟩
        have HB1 := hide (heldB hb.out hb1 (Nat.le_refl _))
        clear hb1 d0 d1 d2 d3 d4 d5 d6 d7 d8 d9 cz hdv hmo hwq
        go_wp2
        go_roundw
        case rel =>
          have R : ∃ m' : Nat, m' ≤ path.length ∧ Value.int .i64 ((m : Int) + 1) = .int .i64 m' ∧ Value.int .i64 (q2 : Int) = .int .i64 ((F / 2 ^ m' : Nat) : Int) ∧ Value.string (joinS k b seed p0 p1 ((m : Int) + 1) (q2 : Int) z u) = .string (climbS k b seed p0 p1 F path y m') ∧ Hid (Below W0.heap.size W0 w1) := ⟨m + 1, by omega, by go_num, by rw [HR2.out], by rw [HE.out], HB1.out⟩
          first | exact R | ((repeat apply Exists.intro); exact ⟨R, rfl⟩)
        case measure => simp [intOf]; omega
    · obtain rfl : m = path.length := by omega
      go_wp2
      go_ret
      exact ⟨rfl, HB.out.trans (hb.out.mono (by omega))⟩
end Go.Proofs.YtbncojflfnpikaaDoor

namespace Go.Proofs.YtbncojflfnpikaaDoor
open Go.RowKit

def beyondS : ByteArray := ⟨#[98, 101, 121, 111, 110, 100]⟩
def spoiltS : ByteArray := ⟨#[115, 112, 111, 105, 108, 116]⟩
/-- What lies in a lent list, its room too. -/
def lentV (xs : List ByteArray) (i : Nat) : ByteArray := if i < xs.length then xs.getD i ⟨#[]⟩ else beyondS
/-- A row of texts of which the first m are f's, the rest g's. -/
def mixL (n : Nat) (f g : Nat → ByteArray) (m : Nat) : List Value := (List.range n).map (fun i => Value.string (if i < m then f i else g i))
theorem mixL_length (n : Nat) (f g : Nat → ByteArray) (m : Nat) : (mixL n f g m).length = n := by simp [mixL]
theorem mixL_get (n : Nat) (f g : Nat → ByteArray) (m i : Nat) (h : i < n) : (mixL n f g m)[i]? = some (.string (if i < m then f i else g i)) := by
  simp [mixL, List.getElem?_range h]
theorem mixL_at (n : Nat) (f g : Nat → ByteArray) (m : Nat) (h : m < n) : (mixL n f g m)[m]? = some (.string (g m)) := by
  rw [mixL_get n f g m m h, if_neg (Nat.lt_irrefl _)]
theorem mixL_set (n : Nat) (f g : Nat → ByteArray) (m : Nat) : (mixL n f g m).set m (.string (f m)) = mixL n f g (m + 1) := by
  apply List.ext_getElem
  · simp [mixL]
  · intro i h1 h2
    rw [List.getElem_set]
    simp only [mixL, List.getElem_map, List.getElem_range]
    by_cases e : m = i
    · subst e; simp
    · rw [if_neg e]
      by_cases e2 : i < m
      · rw [if_pos e2, if_pos (by omega)]
      · rw [if_neg e2, if_neg (by omega)]
theorem mixL_end (n : Nat) (f g h : Nat → ByteArray) : mixL n f g n = mixL n h f 0 := by
  apply List.ext_getElem
  · simp [mixL]
  · intro i h1 h2
    have : i < n := by simpa [mixL] using h1
    simp [mixL, this]
theorem splice_lent (xs : List ByteArray) : splice (List.replicate (xs.length + 5) (Value.string ⟨#[]⟩)) 0 (xs.map Value.string) = mixL (xs.length + 5) (lentV xs) (fun _ => ⟨#[]⟩) xs.length := by
  apply List.ext_getElem
  · simp [mixL, splice]
  · intro i h1 h2
    have hi : i < xs.length + 5 := by simpa [mixL] using h2
    simp only [splice, mixL, List.getElem_map, List.getElem_range, List.take_zero, List.nil_append]
    by_cases e : i < xs.length
    · rw [List.getElem_append_left (by simpa using e), if_pos e]
      simp [lentV, e]
    · rw [List.getElem_append_right (by simpa using e), if_neg e]
      simp only [List.getElem_drop, List.getElem_replicate]
theorem makeStr5 (n : Nat) (hn : n ≤ 8796093022208) (w : World) : (Instr.makeSlice 34 (.int .i64 ((n : Int) + 5)) (.int .i64 ((n : Int) + 5))).run Tryd.prog w = .ok (.slice (some ⟨w.heap.size, 0, none⟩) (n + 5) (n + 5)) (w.alloc (.cells (Array.replicate (n + 5) (Value.string ⟨#[]⟩)) 9)) := by
  obtain ⟨i0, hi, hz0, hz1, hz2⟩ := info_parts infoStr
  have h := run_make (P := Tryd.prog) w 34 9 i0 (.string ⟨#[]⟩) Tryd.underlying34 hi hz0 .i64 .i64 ((n : Int) + 5) ((n : Int) + 5) (by omega) (by omega) (by rw [hz2]; omega) (by omega)
  rw [hz1, Nat.mul_one, show ((n : Int) + 5).toNat = n + 5 by omega, madeStr] at h
  rw [h]
  simp

set_option maxRecDepth 20000 in
set_option maxHeartbeats 2000000 in
theorem lent_some (bk o c : Nat) (xs : List ByteArray) (w : World) (hcells : ∀ (j : Nat) y, xs[j]? = some y → w.cell? ⟨bk, o + j, none⟩ = some (.string y)) (hbk : bk < w.heap.size) (hN : xs.length ≤ 8796093022208) :
    Calls Tryd.prog 42 #[.slice (some ⟨bk, o, none⟩) xs.length c] w fun e w' => e = .returned (.slice (some ⟨w.heap.size, 0, none⟩) xs.length (xs.length + 5)) ∧ Blk w' w.heap.size (mixL (xs.length + 5) (fun _ => spoiltS) (lentV xs) 0) 9 ∧ Below w.heap.size w w' := by
  obtain ⟨i0, hi, hz0, hz1, hz2⟩ := info_parts infoStr
  have hmk := makeStr5 xs.length hN
  have HSP := hide (splice_lent xs)
  have hsz : (Tryd.prog.info? 9).map (·.size) = some 1 := by rw [hi]; simp [hz1]
  obtain ⟨W1, hcp, HB, HR⟩ : ∃ W1, (Builtin.copy_ #[34, 34] 3 #[.slice (some ⟨w.heap.size, 0, none⟩) (xs.length + 5) (xs.length + 5), .slice (some ⟨bk, o, none⟩) xs.length c]).run Tryd.prog (w.alloc (.cells (Array.replicate (xs.length + 5) (Value.string ⟨#[]⟩)) 9)) = .ok (.int .i64 xs.length) W1 ∧ Hid (Below w.heap.size w W1) ∧ Hid (Blk W1 w.heap.size (mixL (xs.length + 5) (lentV xs) (fun _ => ⟨#[]⟩) xs.length) 9) := by
    have h0 : (w.alloc (.cells (Array.replicate (xs.length + 5) (Value.string ⟨#[]⟩)) 9)).heap[w.heap.size]? = some (.cells (Array.replicate (xs.length + 5) (Value.string ⟨#[]⟩)) 9 (0, 0)) := World.alloc_heap_new w _
    have h := run_copy_row (P := Tryd.prog) (w.alloc (.cells (Array.replicate (xs.length + 5) (Value.string ⟨#[]⟩)) 9)) 34 34 3 9 w.heap.size 0 (xs.length + 5) (xs.length + 5) ⟨bk, o, none⟩ xs.length c (Array.replicate (xs.length + 5) (Value.string ⟨#[]⟩)) 9 (xs.map Value.string) Tryd.underlying34 hsz h0 (by simp) (by
      intro j v hj
      rw [List.getElem?_map, Option.map_eq_some_iff] at hj
      obtain ⟨y, hy, rfl⟩ := hj
      rw [show Addr.add ⟨bk, o, none⟩ j = ⟨bk, o + j, none⟩ by first | rfl | simp [Addr.add]]
      exact (World.cell?_alloc_past _ _ _ hbk).trans (hcells j y hy)) (by simp) (by intro v hv; rw [List.mem_map] at hv; obtain ⟨y, _, rfl⟩ := hv; rfl)
    refine ⟨_, h.trans (by rw [show goInt (xs.map Value.string).length = .int .i64 xs.length by rw [List.length_map]; rfl]), below_setRow ((Below.refl _ _).alloc (Nat.le_refl _) _) (Nat.le_refl _) _, ?_⟩
    show Blk _ _ _ _
    unfold Blk
    rw [← HSP.out, splice, ← Array.toList_replicate, ← List.append_assoc]
    exact setRow_heap _ _ _ _ _ _ h0
  have HE := hide (mixL_end (xs.length + 5) (lentV xs) (fun _ => ⟨#[]⟩) (fun _ => spoiltS))
  have HSET := hide (fun m => mixL_set (xs.length + 5) (lentV xs) (fun _ => ⟨#[]⟩) m)
  have HAT := hide (fun m h => mixL_at (xs.length + 5) (lentV xs) (fun _ => ⟨#[]⟩) m h)
  have HLV := hide (fun m (h : xs.length ≤ m) => (show lentV xs m = beyondS by unfold lentV; rw [if_neg (by omega)]))
  clear hcells hi hz0 hz1 hz2 hsz
  have heq := fun V : World => Lib.run_eql_slice_nil (P := Tryd.prog) V 34 9 (some ⟨bk, o, none⟩) xs.length c 0 0 Tryd.underlying34
  go_enter Tryd.func42, Tryd.ntmps42
  go_wp2_with fail
  clear hmk hcp heq
  go_loopw [5] (fun i wr => ∃ m : Nat, xs.length ≤ m ∧ m ≤ xs.length + 5 ∧ i = .int .i64 m ∧ Hid (Blk wr w.heap.size (mixL (xs.length + 5) (lentV xs) (fun _ => ⟨#[]⟩) m) 9) ∧ Hid (Below w.heap.size w wr)) (fun i _ => xs.length + 5 - (intOf i).toNat)
  case atStart => exact ⟨xs.length, Nat.le_refl _, by omega, rfl, HR.out, HB.out⟩
  case round =>
    obtain ⟨m, hm1, hm2, rfl, hr, hb⟩ := hrel
    by_cases hlt : m < xs.length + 5
    · have hc := (hr.out.cell m).trans (HAT.out m hlt)
      have hf := hr.out.free m
      have HST := hide (hr.out.set m (.string (lentV xs m)))
      rw [HSET.out m, HLV.out m hm1] at HST
      have hlt' : (m : Int) < (xs.length : Int) + 5 := by omega
      go_wp2
      go_roundw
      case rel => exact ⟨m + 1, by omega, by omega, by go_num, HST.out, hb.out.setCell (Nat.le_refl _) _⟩
      case measure => simp [intOf]; omega
    · obtain rfl : m = xs.length + 5 := by omega
      have HL := hide (show Blk wr w.heap.size (mixL (xs.length + 5) (fun _ => spoiltS) (lentV xs) 0) 9 by rw [← HE.out]; exact hr.out)
      go_wp2
      go_ret
      exact ⟨rfl, HL.out, hb.out⟩

set_option maxRecDepth 20000 in
set_option maxHeartbeats 2000000 in
theorem lent_emp (a : Addr) (c : Nat) (xs : List ByteArray) (w : World) (hX : xs = []) :
    Calls Tryd.prog 42 #[.slice (some a) xs.length c] w fun e w' => e = .returned (.slice (some ⟨w.heap.size, 0, none⟩) xs.length (xs.length + 5)) ∧ Blk w' w.heap.size (mixL (xs.length + 5) (fun _ => spoiltS) (lentV xs) 0) 9 ∧ Below w.heap.size w w' := by
  obtain ⟨i0, hi, hz0, hz1, hz2⟩ := info_parts infoStr
  have hN : xs.length ≤ 8796093022208 := by rw [hX]; simp
  have hmk := makeStr5 xs.length hN
  have HSP := hide (splice_lent xs)
  have hsz : (Tryd.prog.info? 9).map (·.size) = some 1 := by rw [hi]; simp [hz1]
  obtain ⟨W1, hcp, HB, HR⟩ : ∃ W1, (Builtin.copy_ #[34, 34] 3 #[.slice (some ⟨w.heap.size, 0, none⟩) (xs.length + 5) (xs.length + 5), .slice (some a) xs.length c]).run Tryd.prog (w.alloc (.cells (Array.replicate (xs.length + 5) (Value.string ⟨#[]⟩)) 9)) = .ok (.int .i64 xs.length) W1 ∧ Hid (Below w.heap.size w W1) ∧ Hid (Blk W1 w.heap.size (mixL (xs.length + 5) (lentV xs) (fun _ => ⟨#[]⟩) xs.length) 9) := by
    have h0 : (w.alloc (.cells (Array.replicate (xs.length + 5) (Value.string ⟨#[]⟩)) 9)).heap[w.heap.size]? = some (.cells (Array.replicate (xs.length + 5) (Value.string ⟨#[]⟩)) 9 (0, 0)) := World.alloc_heap_new w _
    have h := run_copy_row (P := Tryd.prog) (w.alloc (.cells (Array.replicate (xs.length + 5) (Value.string ⟨#[]⟩)) 9)) 34 34 3 9 w.heap.size 0 (xs.length + 5) (xs.length + 5) a xs.length c (Array.replicate (xs.length + 5) (Value.string ⟨#[]⟩)) 9 (xs.map Value.string) Tryd.underlying34 hsz h0 (by simp) (by
      intro j v hj
      rw [hX] at hj; simp at hj) (by simp) (by intro v hv; rw [List.mem_map] at hv; obtain ⟨y, _, rfl⟩ := hv; rfl)
    refine ⟨_, h.trans (by rw [show goInt (xs.map Value.string).length = .int .i64 xs.length by rw [List.length_map]; rfl]), below_setRow ((Below.refl _ _).alloc (Nat.le_refl _) _) (Nat.le_refl _) _, ?_⟩
    show Blk _ _ _ _
    unfold Blk
    rw [← HSP.out, splice, ← Array.toList_replicate, ← List.append_assoc]
    exact setRow_heap _ _ _ _ _ _ h0
  have HE := hide (mixL_end (xs.length + 5) (lentV xs) (fun _ => ⟨#[]⟩) (fun _ => spoiltS))
  have HSET := hide (fun m => mixL_set (xs.length + 5) (lentV xs) (fun _ => ⟨#[]⟩) m)
  have HAT := hide (fun m h => mixL_at (xs.length + 5) (lentV xs) (fun _ => ⟨#[]⟩) m h)
  have HLV := hide (fun m (h : xs.length ≤ m) => (show lentV xs m = beyondS by unfold lentV; rw [if_neg (by omega)]))
  clear hX hi hz0 hz1 hz2 hsz
  have heq := fun V : World => Lib.run_eql_slice_nil (P := Tryd.prog) V 34 9 (some a) xs.length c 0 0 Tryd.underlying34
  go_enter Tryd.func42, Tryd.ntmps42
  go_wp2_with fail
  clear hmk hcp heq
  go_loopw [5] (fun i wr => ∃ m : Nat, xs.length ≤ m ∧ m ≤ xs.length + 5 ∧ i = .int .i64 m ∧ Hid (Blk wr w.heap.size (mixL (xs.length + 5) (lentV xs) (fun _ => ⟨#[]⟩) m) 9) ∧ Hid (Below w.heap.size w wr)) (fun i _ => xs.length + 5 - (intOf i).toNat)
  case atStart => exact ⟨xs.length, Nat.le_refl _, by omega, rfl, HR.out, HB.out⟩
  case round =>
    obtain ⟨m, hm1, hm2, rfl, hr, hb⟩ := hrel
    by_cases hlt : m < xs.length + 5
    · have hc := (hr.out.cell m).trans (HAT.out m hlt)
      have hf := hr.out.free m
      have HST := hide (hr.out.set m (.string (lentV xs m)))
      rw [HSET.out m, HLV.out m hm1] at HST
      have hlt' : (m : Int) < (xs.length : Int) + 5 := by omega
      go_wp2
      go_roundw
      case rel => exact ⟨m + 1, by omega, by omega, by go_num, HST.out, hb.out.setCell (Nat.le_refl _) _⟩
      case measure => simp [intOf]; omega
    · obtain rfl : m = xs.length + 5 := by omega
      have HL := hide (show Blk wr w.heap.size (mixL (xs.length + 5) (fun _ => spoiltS) (lentV xs) 0) 9 by rw [← HE.out]; exact hr.out)
      go_wp2
      go_ret
      exact ⟨rfl, HL.out, hb.out⟩

set_option maxRecDepth 20000 in
theorem lent_nil (w : World) : Calls Tryd.prog 42 #[.slice none 0 0] w fun e w' => e = .returned (.slice none 0 0) ∧ w' = w := by
  have heq := fun V : World => Lib.run_eql_slice_nil (P := Tryd.prog) V 34 9 none 0 0 0 0 Tryd.underlying34
  go_enter Tryd.func42, Tryd.ntmps42
  go_wp2
  go_ret
  exact ⟨rfl, rfl⟩
end Go.Proofs.YtbncojflfnpikaaDoor
