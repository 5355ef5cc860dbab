/-
  The program's Start and Chain. The document's own node. The place of a tree. The document's own Placed, at every place. Small facts about sets, seeds, places.
-/
import Derived.Test.YtgaoeoijdpdjiaaGreatDoorPart35
import Derived.Test.YtgaoeoijdpdjiaaGreatDoorPart5
import Derived.Test.YtgaoeoijdpdjiaaGreatDoorPart24
import Derived.Test.YtgaoeoijdpdjiaaGreatDoorPart33
import Derived.Test.YtgaoeoijdpdjiaaGreatDoorPart32
import Derived.Test.YtgaoeoijdpdjiaaGreatDoorPart31
import Derived.Test.YtgaoeoijdpdjiaaGreatDoorPart29
import Derived.Test.YtgaoeoijdpdjiaaGreatDoorPart30
import Derived.Test.YtgaoeoijdpdjiaaGreatDoorPart4
namespace Go.Proofs.YtgaoeoijdpdjiaaGreatDoor
open Go.RowKit

/-- What Start answers. -/
def startA (k b : Int) (r sb cb : Bool) (sec : ByteArray) (p0 p1 p2 p3 : Int) : ByteArray × Int := if r then (if sb && cb then (startS k b sec p0 p1 p2 p3, 0) else (⟨#[]⟩, 2)) else (⟨#[]⟩, 1)

set_option maxRecDepth 20000 in
set_option maxHeartbeats 4000000 in
theorem tstart_any (k b x t l : Int) (sec rnd pub : ByteArray) (p0 p1 p2 p3 : Int) (r sb cb : Bool) (w : World) (hT : Tn w)
    (hC : ∀ V : World, Calls Tryz.prog 86 #[.agg #[.int .i64 k, .int .i64 b, .int .i64 x, .int .i64 t, .int .i64 l]] V fun e w' => e = .returned (.int .i64 (if r then 0 else 1)) ∧ Below V.heap.size V w')
    (hSd : r = true → ∀ V : World, Calls Tryz.prog 70 #[.agg #[.int .i64 k, .int .i64 b, .int .i64 x, .int .i64 t, .int .i64 l], .agg #[.string sec, .string rnd, .string pub]] V fun e w' => e = .returned (.bool sb) ∧ Below V.heap.size V w')
    (hIs : r = true → ∀ V : World, Calls Tryz.prog 87 #[.agg #[.int .i64 k, .int .i64 b, .int .i64 x, .int .i64 t, .int .i64 l], .agg #[.int .i64 p0, .int .i64 p1, .int .i64 p2, .int .i64 p3]] V fun e w' => e = .returned (.bool cb) ∧ Below V.heap.size V w')
    (hSt : r = true → sb = true → ∀ V : World, Tn V → Calls Tryz.prog 88 #[.agg #[.int .i64 k, .int .i64 b, .int .i64 x, .int .i64 t, .int .i64 l, .string sec, .int .i64 p0, .int .i64 p1, .int .i64 p2, .int .i64 p3]] V fun e w' => e = .returned (.string (startS k b sec p0 p1 p2 p3)) ∧ Below V.heap.size V w') :
    Calls Tryz.prog 48 #[.agg #[.int .i64 k, .int .i64 b, .int .i64 x, .int .i64 t, .int .i64 l], .agg #[.string sec, .string rnd, .string pub], .agg #[.int .i64 p0, .int .i64 p1, .int .i64 p2, .int .i64 p3]] w fun e w' => e = .returned (.tuple #[.string (startA k b r sb cb sec p0 p1 p2 p3).1, .int .i64 (startA k b r sb cb sec p0 p1 p2 p3).2]) ∧ Below w.heap.size w w' := by
  obtain ⟨W0, hW⟩ : ∃ W0, ((w.alloc (.cells #[.int .i64 k, .int .i64 b, .int .i64 x, .int .i64 t, .int .i64 l] 23)).alloc (.cells #[.string sec, .string rnd, .string pub] 25)).alloc (.cells #[.int .i64 p0, .int .i64 p1, .int .i64 p2, .int .i64 p3] 27) = W0 := ⟨_, rfl⟩
  have HF := hide (show FiveC w.heap.size W0 k b x t l by subst hW; refine ⟨?_, ?_, ?_, ?_, ?_⟩ <;> simp [go_sem])
  have HC := hide (show W0.cell? ⟨w.heap.size + 1, 0, none⟩ = some (.string sec) ∧ W0.cell? ⟨w.heap.size + 1, 1, none⟩ = some (.string rnd) ∧ W0.cell? ⟨w.heap.size + 1, 2, none⟩ = some (.string pub) by subst hW; refine ⟨?_, ?_, ?_⟩ <;> simp [go_sem])
  have HP := hide (show FourC (w.heap.size + 1 + 1) W0 p0 p1 p2 p3 by subst hW; refine ⟨?_, ?_, ?_, ?_⟩ <;> simp [go_sem])
  have HB := hide (show Below w.heap.size w W0 by subst hW; exact (((Below.refl _ _).alloc (Nat.le_refl _) _).alloc (by simp) _).alloc (by simp; omega) _)
  have hz : W0.heap.size ≤ w.heap.size + 3 := by subst hW; simp
  have hz' : w.heap.size + 3 ≤ W0.heap.size := by subst hW; simp
  have HTT := hide (hT.on HB.out)
  have HS := hide (fun (V : World) (h : Below W0.heap.size W0 V) => (by
    obtain ⟨c0, c1, c2, c3, c4⟩ := HF.out.below h (by omega)
    obtain ⟨d0, d1, d2, d3⟩ := HP.out.below h (by omega)
    exact ⟨c0, c1, c2, c3, c4, (h.cell (p := ⟨w.heap.size + 1, 0, none⟩) (by show w.heap.size + 1 < _; omega)).trans HC.out.1, (h.cell (p := ⟨w.heap.size + 1, 1, none⟩) (by show w.heap.size + 1 < _; omega)).trans HC.out.2.1, (h.cell (p := ⟨w.heap.size + 1, 2, none⟩) (by show w.heap.size + 1 < _; omega)).trans HC.out.2.2, d0, d1, d2, d3⟩ : V.cell? ⟨w.heap.size, 0, none⟩ = some (.int .i64 k) ∧ V.cell? ⟨w.heap.size, 1, none⟩ = some (.int .i64 b) ∧ V.cell? ⟨w.heap.size, 2, none⟩ = some (.int .i64 x) ∧ V.cell? ⟨w.heap.size, 3, none⟩ = some (.int .i64 t) ∧ V.cell? ⟨w.heap.size, 4, none⟩ = some (.int .i64 l) ∧ V.cell? ⟨w.heap.size + 1, 0, none⟩ = some (.string sec) ∧ V.cell? ⟨w.heap.size + 1, 1, none⟩ = some (.string rnd) ∧ V.cell? ⟨w.heap.size + 1, 2, none⟩ = some (.string pub) ∧ V.cell? ⟨w.heap.size + 1 + 1, 0, none⟩ = some (.int .i64 p0) ∧ V.cell? ⟨w.heap.size + 1 + 1, 1, none⟩ = some (.int .i64 p1) ∧ V.cell? ⟨w.heap.size + 1 + 1, 2, none⟩ = some (.int .i64 p2) ∧ V.cell? ⟨w.heap.size + 1 + 1, 3, none⟩ = some (.int .i64 p3)))
  have HCk := hide hC
  have HSd := hide hSd
  have HIs := hide hIs
  have HSt := hide hSt
  obtain ⟨c0, c1, c2, c3, c4, f0, f1, f2, d0, d1, d2, d3⟩ := HS.out W0 (Below.refl _ _)
  clear hC hSd hIs hSt hT
  unfold startA
  cases r with
  | false =>
    go_enter Tryz.func48, Tryz.ntmps48
    go_wp2_with fail
    try rw [hW]
    refine (HCk.out _).mono ?_
    rintro e w1 ⟨rfl, hb1⟩
    have HB1 := hide hb1
    clear hb1 c0 c1 c2 c3 c4 f0 f1 f2 d0 d1 d2 d3
    go_wp2
    go_ret2
    exact ⟨rfl, HB.out.trans (HB1.out.mono (by omega))⟩
  | true =>
    have HSD := hide (HSd.out rfl)
    have HIS := hide (HIs.out rfl)
    have HST := hide (HSt.out rfl)
    clear HSd HIs HSt
    cases sb with
    | false =>
      go_enter Tryz.func48, Tryz.ntmps48
      go_wp2_with fail
      try rw [hW]
      refine (HCk.out _).mono ?_
      rintro e w1 ⟨rfl, hb1⟩
      have HB1 := hide hb1
      clear hb1 c0 c1 c2 c3 c4 f0 f1 f2 d0 d1 d2 d3
      obtain ⟨c0, c1, c2, c3, c4, f0, f1, f2, d0, d1, d2, d3⟩ := HS.out w1 HB1.out
      go_wp2_with fail
      refine (HSD.out _).mono ?_
      rintro e w2 ⟨rfl, hb2⟩
      have HB2 := hide (heldB HB1.out hb2 (Nat.le_refl _))
      clear hb2 HB1 c0 c1 c2 c3 c4 f0 f1 f2 d0 d1 d2 d3
      go_wp2
      go_ret2
      exact ⟨rfl, HB.out.trans (HB2.out.mono (by omega))⟩
    | true =>
      cases cb with
      | false =>
        go_enter Tryz.func48, Tryz.ntmps48
        go_wp2_with fail
        try rw [hW]
        refine (HCk.out _).mono ?_
        rintro e w1 ⟨rfl, hb1⟩
        have HB1 := hide hb1
        clear hb1 c0 c1 c2 c3 c4 f0 f1 f2 d0 d1 d2 d3
        obtain ⟨c0, c1, c2, c3, c4, f0, f1, f2, d0, d1, d2, d3⟩ := HS.out w1 HB1.out
        go_wp2_with fail
        refine (HSD.out _).mono ?_
        rintro e w2 ⟨rfl, hb2⟩
        have HB2 := hide (heldB HB1.out hb2 (Nat.le_refl _))
        clear hb2 HB1 c0 c1 c2 c3 c4 f0 f1 f2 d0 d1 d2 d3
        obtain ⟨c0, c1, c2, c3, c4, f0, f1, f2, d0, d1, d2, d3⟩ := HS.out w2 HB2.out
        go_wp2_with fail
        refine (HIS.out _).mono ?_
        rintro e w3 ⟨rfl, hb3⟩
        have HB3 := hide (heldB HB2.out hb3 (Nat.le_refl _))
        clear hb3 HB2 c0 c1 c2 c3 c4 f0 f1 f2 d0 d1 d2 d3
        go_wp2
        go_ret2
        exact ⟨rfl, HB.out.trans (HB3.out.mono (by omega))⟩
      | true =>
        have HSV := hide (fun (V : World) (hV : Tn V) => HST.out rfl V hV)
        clear HST
        generalize startS k b sec p0 p1 p2 p3 = sv at HSV ⊢
        go_enter Tryz.func48, Tryz.ntmps48
        go_wp2_with fail
        try rw [hW]
        refine (HCk.out _).mono ?_
        rintro e w1 ⟨rfl, hb1⟩
        have HB1 := hide hb1
        clear hb1 c0 c1 c2 c3 c4 f0 f1 f2 d0 d1 d2 d3
        obtain ⟨c0, c1, c2, c3, c4, f0, f1, f2, d0, d1, d2, d3⟩ := HS.out w1 HB1.out
        go_wp2_with fail
        refine (HSD.out _).mono ?_
        rintro e w2 ⟨rfl, hb2⟩
        have HB2 := hide (heldB HB1.out hb2 (Nat.le_refl _))
        clear hb2 HB1 c0 c1 c2 c3 c4 f0 f1 f2 d0 d1 d2 d3
        obtain ⟨c0, c1, c2, c3, c4, f0, f1, f2, d0, d1, d2, d3⟩ := HS.out w2 HB2.out
        go_wp2_with fail
        refine (HIS.out _).mono ?_
        rintro e w3 ⟨rfl, hb3⟩
        have HB3 := hide (heldB HB2.out hb3 (Nat.le_refl _))
        clear hb3 HB2 c0 c1 c2 c3 c4 f0 f1 f2 d0 d1 d2 d3
        obtain ⟨c0, c1, c2, c3, c4, f0, f1, f2, d0, d1, d2, d3⟩ := HS.out w3 HB3.out
        have HSS := hide (HSV.out w3 (HTT.out.on HB3.out))
        go_wp2_with fail
        refine HSS.out.mono ?_
        rintro e w4 ⟨rfl, hb4⟩
        have HB4 := hide (heldB HB3.out hb4 (Nat.le_refl _))
        clear hb4 HB3 c0 c1 c2 c3 c4 f0 f1 f2 d0 d1 d2 d3
        go_wp2
        go_ret2
        exact ⟨rfl, HB.out.trans (HB4.out.mono (by omega))⟩
end Go.Proofs.YtgaoeoijdpdjiaaGreatDoor

namespace Go.Proofs.YtgaoeoijdpdjiaaGreatDoor
open Go.RowKit

set_option maxRecDepth 20000 in
set_option maxHeartbeats 4000000 in
theorem rnode_any (k x t l p0 p1 p2 p3 a0 a1 a3 a4 a5 : Int) (b : Nat) (sec rnd pub : ByteArray) (ch wd : Nat) (hk : k = 1 ∨ k = 2) (h1 : 1 ≤ b) (h2 : b ≤ 16) (hs : sec.size ≤ 16) (hp : pub.size ≤ 16) (hc1 : 1 ≤ ch) (hc2 : ch ≤ 64) (hwd : wd ≤ 15) (hx : x = (wd : Int) + 1) (q0 : 0 ≤ p0 ∧ p0 ≤ 100000) (q1 : 0 ≤ p1 ∧ p1 ≤ 100000)
    (hsz : ∀ V : World, Calls Tryz.prog 89 #[.agg #[.int .i64 k, .int .i64 b, .int .i64 x, .int .i64 t, .int .i64 l]] V fun r w' => r = .returned (.agg #[.int .i64 a0, .int .i64 a1, .int .i64 ch, .int .i64 a3, .int .i64 a4, .int .i64 a5]) ∧ Below V.heap.size V w') : ∀ (h : Nat) (_ : h ≤ 4) (j : Nat) (_ : (j + 1) * 2 ^ h ≤ 16) (w : World),
    Calls Tryz.prog 56 #[.agg #[.int .i64 k, .int .i64 b, .int .i64 x, .int .i64 t, .int .i64 l], .agg #[.string sec, .string rnd, .string pub], .agg #[.int .i64 p0, .int .i64 p1, .int .i64 p2, .int .i64 p3], .int .i64 h, .int .i64 j] w fun e w' => e = .returned (.string (nodeS k b wd ch sec pub p0 p1 h j)) ∧ Below w.heap.size w w' := by
  intro h
  induction h with
  | zero =>
    intro _ j hj w
    have HL := hide (rleaf_any k x t l p0 p1 j p3 a0 a1 a3 a4 a5 b sec rnd pub ch wd (((w.alloc (.cells #[.int .i64 k, .int .i64 b, .int .i64 x, .int .i64 t, .int .i64 l] 23)).alloc (.cells #[.string sec, .string rnd, .string pub] 25)).alloc (.cells #[.int .i64 p0, .int .i64 p1, .int .i64 j, .int .i64 p3] 27)) hk h1 h2 hs hp hc1 hc2 hwd hx q0 q1 (by simp at hj; omega) hsz)
    clear hx hsz
    rw [show nodeS k b wd ch sec pub p0 p1 0 j = leafS k b wd ch sec pub p0 p1 j by rw [nodeS]]
    generalize leafS k b wd ch sec pub p0 p1 j = lf at HL ⊢
    go_enter Tryz.func56, Tryz.ntmps56
    go_wp2_with fail
    refine HL.out.mono ?_
    rintro e w1 ⟨rfl, hb1⟩
    have HB1 := hide (((((Below.refl w.heap.size w).alloc (Nat.le_refl _) _).alloc (by simp) _).alloc (by simp; omega) _).trans (hb1.mono (by simp; omega)))
    clear hb1
    go_wp2
    go_ret
    exact ⟨rfl, HB1.out⟩
  | succ h ih =>
    intro hh j hj w
    obtain ⟨W0, hW⟩ : ∃ W0, ((w.alloc (.cells #[.int .i64 k, .int .i64 b, .int .i64 x, .int .i64 t, .int .i64 l] 23)).alloc (.cells #[.string sec, .string rnd, .string pub] 25)).alloc (.cells #[.int .i64 p0, .int .i64 p1, .int .i64 p2, .int .i64 p3] 27) = W0 := ⟨_, rfl⟩
    have HF := hide (show FiveC w.heap.size W0 k b x t l by subst hW; refine ⟨?_, ?_, ?_, ?_, ?_⟩ <;> simp [go_sem])
    have HC := hide (show W0.cell? ⟨w.heap.size + 1, 0, none⟩ = some (.string sec) ∧ W0.cell? ⟨w.heap.size + 1, 1, none⟩ = some (.string rnd) ∧ W0.cell? ⟨w.heap.size + 1, 2, none⟩ = some (.string pub) by subst hW; refine ⟨?_, ?_, ?_⟩ <;> simp [go_sem])
    have HP := hide (show FourC (w.heap.size + 1 + 1) W0 p0 p1 p2 p3 by subst hW; refine ⟨?_, ?_, ?_, ?_⟩ <;> simp [go_sem])
    have HB := hide (show Below w.heap.size w W0 by subst hW; exact (((Below.refl _ _).alloc (Nat.le_refl _) _).alloc (by simp) _).alloc (by simp; omega) _)
    have hz : W0.heap.size ≤ w.heap.size + 3 := by subst hW; simp
    have hz' : w.heap.size + 3 ≤ W0.heap.size := by subst hW; simp
    have hp2 : 1 ≤ 2 ^ h := Nat.one_le_two_pow
    have hj' : (j + 1) * 2 * 2 ^ h ≤ 16 := by rw [Nat.pow_succ] at hj; rw [Nat.mul_assoc, Nat.mul_comm 2]; exact hj
    have hjb : j ≤ 7 := by
      have : (j + 1) * 2 * 1 ≤ 16 := Nat.le_trans (Nat.mul_le_mul_left _ hp2) hj'
      omega
    have H1 := hide (fun (V : World) => ih (by omega) (2 * j) (Nat.le_trans (Nat.mul_le_mul_right _ (by omega)) hj') V)
    have H2 := hide (fun (V : World) => ih (by omega) (2 * j + 1) (Nat.le_trans (Nat.mul_le_mul_right _ (by omega)) hj') V)
    have s1 := nodeS_size k b wd ch sec pub p0 p1 hk (by omega) (by omega) hs hp hc1 h (2 * j)
    have s2 := nodeS_size k b wd ch sec pub p0 p1 hk (by omega) (by omega) hs hp hc1 h (2 * j + 1)
    have HJ := hide (fun (V : World) => rjoin_any k x t l p0 p1 p2 p3 (h + 1 : Nat) j b pub (nodeS k b wd ch sec pub p0 p1 h (2 * j)) (nodeS k b wd ch sec pub p0 p1 h (2 * j + 1)) V hk h1 h2 hp (by omega) (by omega) q0 q1 (by omega) (by omega))
    have HN : Hid (nodeS k b wd ch sec pub p0 p1 (h + 1) j = joinS k b pub p0 p1 (h + 1 : Nat) j (nodeS k b wd ch sec pub p0 p1 h (2 * j)) (nodeS k b wd ch sec pub p0 p1 h (2 * j + 1))) := rfl
    rw [HN.out]
    clear s1 s2 ih hp2 hj' hj hx hsz q0 q1
    generalize nodeS k b wd ch sec pub p0 p1 h (2 * j) = na at H1 HJ HN ⊢
    generalize nodeS k b wd ch sec pub p0 p1 h (2 * j + 1) = nb at H2 HJ HN ⊢
    obtain ⟨Hh, hHh⟩ : ∃ Hh : Int, ((h + 1 : Nat) : Int) = Hh := ⟨_, rfl⟩
    have e1 : ((h : Nat) : Int) = Hh - 1 := by omega
    have e2 : ((2 * j : Nat) : Int) = 2 * (j : Int) := by omega
    have e3 : ((2 * j + 1 : Nat) : Int) = 2 * (j : Int) + 1 := by omega
    rw [e1, e2] at H1
    rw [e1, e3] at H2
    rw [hHh] at HJ HN ⊢
    have g1 : 1 ≤ Hh := by omega
    have g2 : Hh ≤ 4 := by omega
    clear e1 e2 e3 hHh
    have HS := hide (fun (V : World) (h : Below W0.heap.size W0 V) => (by
      obtain ⟨c0, c1, c2, c3, c4⟩ := HF.out.below h (by omega)
      obtain ⟨d0, d1, d2, d3⟩ := HP.out.below h (by omega)
      exact ⟨c0, c1, c2, c3, c4, (h.cell (p := ⟨w.heap.size + 1, 0, none⟩) (by show w.heap.size + 1 < _; omega)).trans HC.out.1, (h.cell (p := ⟨w.heap.size + 1, 1, none⟩) (by show w.heap.size + 1 < _; omega)).trans HC.out.2.1, (h.cell (p := ⟨w.heap.size + 1, 2, none⟩) (by show w.heap.size + 1 < _; omega)).trans HC.out.2.2, d0, d1, d2, d3⟩ : V.cell? ⟨w.heap.size, 0, none⟩ = some (.int .i64 k) ∧ V.cell? ⟨w.heap.size, 1, none⟩ = some (.int .i64 b) ∧ V.cell? ⟨w.heap.size, 2, none⟩ = some (.int .i64 x) ∧ V.cell? ⟨w.heap.size, 3, none⟩ = some (.int .i64 t) ∧ V.cell? ⟨w.heap.size, 4, none⟩ = some (.int .i64 l) ∧ V.cell? ⟨w.heap.size + 1, 0, none⟩ = some (.string sec) ∧ V.cell? ⟨w.heap.size + 1, 1, none⟩ = some (.string rnd) ∧ V.cell? ⟨w.heap.size + 1, 2, none⟩ = some (.string pub) ∧ V.cell? ⟨w.heap.size + 1 + 1, 0, none⟩ = some (.int .i64 p0) ∧ V.cell? ⟨w.heap.size + 1 + 1, 1, none⟩ = some (.int .i64 p1) ∧ V.cell? ⟨w.heap.size + 1 + 1, 2, none⟩ = some (.int .i64 p2) ∧ V.cell? ⟨w.heap.size + 1 + 1, 3, none⟩ = some (.int .i64 p3)))
    obtain ⟨c0, c1, c2, c3, c4, f0, f1, f2, d0, d1, d2, d3⟩ := HS.out W0 (Below.refl _ _)
    go_enter Tryz.func56, Tryz.ntmps56
    go_wp2_with fail
    try rw [hW]
    refine (H1.out _).mono ?_
    rintro e w1 ⟨rfl, hb1⟩
    have HB1 := hide (heldB (Below.refl W0.heap.size W0) hb1 (Nat.le_refl _))
    clear hb1 c0 c1 c2 c3 c4 f0 f1 f2 d0 d1 d2 d3
    obtain ⟨c0, c1, c2, c3, c4, f0, f1, f2, d0, d1, d2, d3⟩ := HS.out w1 HB1.out
    go_wp2_with fail
    refine (H2.out _).mono ?_
    rintro e w2 ⟨rfl, hb2⟩
    have HB2 := hide (heldB HB1.out hb2 (Nat.le_refl _))
    clear hb2 HB1 c0 c1 c2 c3 c4 f0 f1 f2 d0 d1 d2 d3
    obtain ⟨c0, c1, c2, c3, c4, f0, f1, f2, d0, d1, d2, d3⟩ := HS.out w2 HB2.out
    go_wp2_with fail
    refine (HJ.out _).mono ?_
    rintro e w3 ⟨rfl, hb3⟩
    have HB3 := hide (heldB HB2.out hb3 (Nat.le_refl _))
    clear hb3 HB2 c0 c1 c2 c3 c4 f0 f1 f2 d0 d1 d2 d3
    go_wp2
    go_ret
    exact ⟨rfl, HB.out.trans (HB3.out.mono (by omega))⟩
end Go.Proofs.YtgaoeoijdpdjiaaGreatDoor

namespace Go.Proofs.YtgaoeoijdpdjiaaGreatDoor
open Go.RowKit

set_option maxRecDepth 20000 in
set_option maxHeartbeats 2000000 in
theorem isTree_any (k b x : Int) (t l : Nat) (p0 p1 p2 p3 : Int) (w : World) (h1 : 1 ≤ t) (h2 : t ≤ 4) (h4 : l ≤ 3) :
    Calls Tryz.prog 71 #[.agg #[.int .i64 k, .int .i64 b, .int .i64 x, .int .i64 t, .int .i64 l], .agg #[.int .i64 p0, .int .i64 p1, .int .i64 p2, .int .i64 p3]] w fun e w' => e = .returned (.bool ((leafB t l p0 p1 p2 && p3 == 0) && p2 == 0)) ∧ Below w.heap.size w w' := by
  have HL := hide (isLeaf_any k b x t l p0 p1 p2 p3 ((w.alloc (.cells #[.int .i64 k, .int .i64 b, .int .i64 x, .int .i64 t, .int .i64 l] 23)).alloc (.cells #[.int .i64 p0, .int .i64 p1, .int .i64 p2, .int .i64 p3] 27)) h1 h2 h4)
  generalize (leafB t l p0 p1 p2 && p3 == 0) = r at HL ⊢
  cases r with
  | false =>
    go_enter Tryz.func71, Tryz.ntmps71
    go_wp2_with fail
    refine HL.out.mono ?_
    rintro e w1 ⟨rfl, hb1⟩
    have HB1 := hide ((((Below.refl w.heap.size w).alloc (Nat.le_refl _) _).alloc (by simp) _).trans (hb1.mono (by simp; omega)))
    clear hb1
    go_wp2
    go_ret
    exact ⟨rfl, HB1.out⟩
  | true =>
    generalize hr : (p2 == 0) = r
    go_enter Tryz.func71, Tryz.ntmps71
    go_wp2_with fail
    refine HL.out.mono ?_
    rintro e w1 ⟨rfl, hb1⟩
    have d2 : w1.cell? ⟨w.heap.size + 1, 2, none⟩ = some (.int .i64 p2) := (hb1.cell (p := ⟨w.heap.size + 1, 2, none⟩) (by simp)).trans (by simp [go_sem])
    have HB1 := hide ((((Below.refl w.heap.size w).alloc (Nat.le_refl _) _).alloc (by simp) _).trans (hb1.mono (by simp; omega)))
    clear hb1
    go_wp2
    go_ret
    exact ⟨by simp, HB1.out⟩
end Go.Proofs.YtgaoeoijdpdjiaaGreatDoor

namespace Go.Proofs.YtgaoeoijdpdjiaaGreatDoor
open Go.RowKit

set_option maxRecDepth 20000 in
set_option maxHeartbeats 2000000 in
theorem placed_out (k b x t l p0 p1 p2 p3 : Int) (w : World) (h : p0 < 0 ∨ l ≤ p0) :
    Calls Tryz.prog 51 #[.agg #[.int .i64 k, .int .i64 b, .int .i64 x, .int .i64 t, .int .i64 l], .agg #[.int .i64 p0, .int .i64 p1, .int .i64 p2, .int .i64 p3]] w fun e w' => e = .returned (.bool false) ∧ Below w.heap.size w w' := by
  by_cases h0 : p0 < 0
  · go_enter Tryz.func51, Tryz.ntmps51
    go_wp2
    go_ret
    exact ⟨rfl, ((Below.refl _ _).alloc (Nat.le_refl _) _).alloc (by simp) _⟩
  · have h1 : l ≤ p0 := by omega
    go_enter Tryz.func51, Tryz.ntmps51
    go_wp2
    go_ret
    exact ⟨rfl, ((Below.refl _ _).alloc (Nat.le_refl _) _).alloc (by simp) _⟩

theorem placed_any (k x a0 a1 a3 a4 a5 : Int) (b t l ch : Nat) (p0 p1 p2 p3 : Int) (w : World) (h2 : t ≤ 4) (h4 : l ≤ 3)
    (hsz : ∀ V : World, Calls Tryz.prog 89 #[.agg #[.int .i64 k, .int .i64 b, .int .i64 x, .int .i64 t, .int .i64 l]] V fun r w' => r = .returned (.agg #[.int .i64 a0, .int .i64 a1, .int .i64 ch, .int .i64 a3, .int .i64 a4, .int .i64 a5]) ∧ Below V.heap.size V w') :
    Calls Tryz.prog 51 #[.agg #[.int .i64 k, .int .i64 b, .int .i64 x, .int .i64 t, .int .i64 l], .agg #[.int .i64 p0, .int .i64 p1, .int .i64 p2, .int .i64 p3]] w fun e w' => e = .returned (.bool (chainB t l ch p0 p1 p2 p3)) ∧ Below w.heap.size w w' := by
  by_cases h0 : p0 < 0 ∨ (l : Int) ≤ p0
  · refine (placed_out k b x t l p0 p1 p2 p3 w h0).mono ?_
    rintro e w' ⟨rfl, hb⟩
    refine ⟨?_, hb⟩
    have : decide (0 ≤ p0 ∧ p0 < (l : Int)) = false := by simp; omega
    unfold chainB leafB
    rw [this]
    rfl
  · obtain ⟨q, rfl⟩ : ∃ q : Nat, p0 = (q : Int) := ⟨p0.toNat, by omega⟩
    have hq : q < l := by omega
    have d0 : decide (0 ≤ (q : Int) ∧ (q : Int) < (l : Int)) = true := by simp; omega
    unfold chainB leafB
    rw [d0, Int.toNat_natCast, Nat.pow_mul, Bool.true_and]
    by_cases e1 : 0 ≤ p1
    · by_cases e2 : p1 < ((((2 ^ t) ^ (l - 1 - q) : Nat)) : Int)
      · rw [show decide (0 ≤ p1 ∧ p1 < ((((2 ^ t) ^ (l - 1 - q) : Nat)) : Int)) = true from decide_eq_true ⟨e1, e2⟩, Bool.true_and]
        by_cases e3 : 0 ≤ p2
        · by_cases e4 : p2 < (((2 ^ t : Nat)) : Int)
          · rw [show decide (0 ≤ p2 ∧ p2 < (((2 ^ t : Nat)) : Int)) = true from decide_eq_true ⟨e3, e4⟩, Bool.true_and]
            by_cases e5 : 0 ≤ p3
            · by_cases e6 : p3 < (ch : Int)
              · rw [show decide (0 ≤ p3 ∧ p3 < (ch : Int)) = true from decide_eq_true ⟨e5, e6⟩]
                exact placed_7 k x a0 a1 a3 a4 a5 b t l q ch p1 p2 p3 w h2 h4 hq hsz e1 e2 e3 e4 e5 e6
              · rw [show decide (0 ≤ p3 ∧ p3 < (ch : Int)) = false from decide_eq_false (fun h => e6 h.2)]
                exact placed_6 k x a0 a1 a3 a4 a5 b t l q ch p1 p2 p3 w h2 h4 hq hsz e1 e2 e3 e4 e5 (by omega)
            · rw [show decide (0 ≤ p3 ∧ p3 < (ch : Int)) = false from decide_eq_false (fun h => e5 h.1)]
              exact placed_5 k x a0 a1 a3 a4 a5 b t l q ch p1 p2 p3 w h2 h4 hq hsz e1 e2 e3 e4 (by omega)
          · rw [show decide (0 ≤ p2 ∧ p2 < (((2 ^ t : Nat)) : Int)) = false from decide_eq_false (fun h => e4 h.2), Bool.false_and]
            exact placed_4 k x a0 a1 a3 a4 a5 b t l q ch p1 p2 p3 w h2 h4 hq hsz e1 e2 e3 (Int.not_lt.1 e4)
        · rw [show decide (0 ≤ p2 ∧ p2 < (((2 ^ t : Nat)) : Int)) = false from decide_eq_false (fun h => e3 h.1), Bool.false_and]
          exact placed_3 k x a0 a1 a3 a4 a5 b t l q ch p1 p2 p3 w h2 h4 hq hsz e1 e2 (by omega)
      · rw [show decide (0 ≤ p1 ∧ p1 < ((((2 ^ t) ^ (l - 1 - q) : Nat)) : Int)) = false from decide_eq_false (fun h => e2 h.2), Bool.false_and, Bool.false_and]
        exact placed_2 k x a0 a1 a3 a4 a5 b t l q ch p1 p2 p3 w h2 h4 hq hsz e1 (Int.not_lt.1 e2)
    · rw [show decide (0 ≤ p1 ∧ p1 < ((((2 ^ t) ^ (l - 1 - q) : Nat)) : Int)) = false from decide_eq_false (fun h => e1 h.1), Bool.false_and, Bool.false_and]
      exact placed_1 k x a0 a1 a3 a4 a5 b t l q ch p1 p2 p3 w h2 h4 hq hsz (by omega)
end Go.Proofs.YtgaoeoijdpdjiaaGreatDoor

namespace Go.Proofs.YtgaoeoijdpdjiaaGreatDoor
open Go.RowKit

theorem chainB_bounds {t l ch : Nat} {p0 p1 p2 p3 : Int} (h : chainB t l ch p0 p1 p2 p3 = true) (h2 : t ≤ 4) (h4 : l ≤ 3) (hc : ch ≤ 64) : (0 ≤ p0 ∧ p0 ≤ 100000) ∧ (0 ≤ p1 ∧ p1 ≤ 100000) ∧ (0 ≤ p2 ∧ p2 ≤ 100000) ∧ (0 ≤ p3 ∧ p3 ≤ 100000) := by
  unfold chainB leafB at h
  simp only [Bool.and_eq_true, decide_eq_true_eq] at h
  obtain ⟨⟨⟨a0, a1⟩, ⟨b0, b1⟩, ⟨c0, c1⟩⟩, d0, d1⟩ := h
  have e1 : 2 ^ (t * (l - 1 - p0.toNat)) ≤ 2 ^ 8 := Nat.pow_le_pow_right (by decide) (Nat.le_trans (Nat.mul_le_mul h2 (show l - 1 - p0.toNat ≤ 2 by omega)) (by decide))
  have e2 : 2 ^ t ≤ 2 ^ 4 := Nat.pow_le_pow_right (by decide) h2
  have e3 : (2 : Nat) ^ 8 = 256 := by decide
  have e4 : (2 : Nat) ^ 4 = 16 := by decide
  rw [e3] at e1
  rw [e4] at e2
  generalize 2 ^ (t * (l - 1 - p0.toNat)) = u at e1 b1
  generalize 2 ^ t = v at e2 c1
  omega

theorem pair_small {b x e f : Nat} (h : Pair b x e f) : 1 ≤ b ∧ b ≤ 16 ∧ 1 ≤ b * e + f ∧ b * e + f ≤ 64 ∧ 1 ≤ x ∧ x ≤ 16 := by
  rcases h with ⟨rfl, rfl, rfl, rfl⟩ | ⟨rfl, rfl, rfl, rfl⟩ | ⟨rfl, rfl, rfl, rfl⟩ | ⟨rfl, rfl, rfl, rfl⟩ <;> decide
end Go.Proofs.YtgaoeoijdpdjiaaGreatDoor
