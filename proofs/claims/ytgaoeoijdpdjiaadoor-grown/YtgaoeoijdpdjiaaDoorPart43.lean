/-
  The program's Start and Chain. The program's Leaf. Small facts about sets, seeds, places.
-/
import Derived.Test.YtgaoeoijdpdjiaaDoorPart42
import Derived.Test.YtgaoeoijdpdjiaaDoorPart6
import Derived.Test.YtgaoeoijdpdjiaaDoorPart28
import Derived.Test.YtgaoeoijdpdjiaaDoorPart36
import Derived.Test.YtgaoeoijdpdjiaaDoorPart5
namespace Go.Proofs.YtgaoeoijdpdjiaaDoor
open Go.RowKit

/-- What Start answers. -/
def startA (k b : Int) (r sb cb : Bool) (sec : ByteArray) (p0 p1 p2 p3 : Int) : ByteArray × Int := if r then (if sb && cb then (startS k b sec p0 p1 p2 p3, 0) else (⟨#[]⟩, 2)) else (⟨#[]⟩, 1)

set_option maxRecDepth 20000 in
set_option maxHeartbeats 4000000 in
theorem tstart_any (k b x t l : Int) (sec rnd pub : ByteArray) (p0 p1 p2 p3 : Int) (r sb cb : Bool) (w : World) (hT : Tn w)
    (hC : ∀ V : World, Calls Tryd.prog 66 #[.agg #[.int .i64 k, .int .i64 b, .int .i64 x, .int .i64 t, .int .i64 l]] V fun e w' => e = .returned (.int .i64 (if r then 0 else 1)) ∧ Below V.heap.size V w')
    (hSd : r = true → ∀ V : World, Calls Tryd.prog 96 #[.agg #[.int .i64 k, .int .i64 b, .int .i64 x, .int .i64 t, .int .i64 l], .agg #[.string sec, .string rnd, .string pub]] V fun e w' => e = .returned (.bool sb) ∧ Below V.heap.size V w')
    (hIs : r = true → ∀ V : World, Calls Tryd.prog 69 #[.agg #[.int .i64 k, .int .i64 b, .int .i64 x, .int .i64 t, .int .i64 l], .agg #[.int .i64 p0, .int .i64 p1, .int .i64 p2, .int .i64 p3]] V fun e w' => e = .returned (.bool cb) ∧ Below V.heap.size V w')
    (hSt : r = true → sb = true → ∀ V : World, Tn V → Calls Tryd.prog 101 #[.agg #[.int .i64 k, .int .i64 b, .int .i64 x, .int .i64 t, .int .i64 l, .string sec, .int .i64 p0, .int .i64 p1, .int .i64 p2, .int .i64 p3]] V fun e w' => e = .returned (.string (startS k b sec p0 p1 p2 p3)) ∧ Below V.heap.size V w') :
    Calls Tryd.prog 74 #[.agg #[.int .i64 k, .int .i64 b, .int .i64 x, .int .i64 t, .int .i64 l], .agg #[.string sec, .string rnd, .string pub], .agg #[.int .i64 p0, .int .i64 p1, .int .i64 p2, .int .i64 p3]] w fun e w' => e = .returned (.tuple #[.string (startA k b r sb cb sec p0 p1 p2 p3).1, .int .i64 (startA k b r sb cb sec p0 p1 p2 p3).2]) ∧ Below w.heap.size w w' := by
  obtain ⟨W0, hW⟩ : ∃ W0, ((w.alloc (.cells #[.int .i64 k, .int .i64 b, .int .i64 x, .int .i64 t, .int .i64 l] 25)).alloc (.cells #[.string sec, .string rnd, .string pub] 33)).alloc (.cells #[.int .i64 p0, .int .i64 p1, .int .i64 p2, .int .i64 p3] 27) = W0 := ⟨_, rfl⟩
  have HF := hide (show FiveC w.heap.size W0 k b x t l by subst hW; refine ⟨?_, ?_, ?_, ?_, ?_⟩ <;> simp [go_sem])
  have HC := hide (show W0.cell? ⟨w.heap.size + 1, 0, none⟩ = some (.string sec) ∧ W0.cell? ⟨w.heap.size + 1, 1, none⟩ = some (.string rnd) ∧ W0.cell? ⟨w.heap.size + 1, 2, none⟩ = some (.string pub) by subst hW; refine ⟨?_, ?_, ?_⟩ <;> simp [go_sem])
  have HP := hide (show FourC (w.heap.size + 1 + 1) W0 p0 p1 p2 p3 by subst hW; refine ⟨?_, ?_, ?_, ?_⟩ <;> simp [go_sem])
  have HB := hide (show Below w.heap.size w W0 by subst hW; exact (((Below.refl _ _).alloc (Nat.le_refl _) _).alloc (by simp) _).alloc (by simp; omega) _)
  have hz : W0.heap.size ≤ w.heap.size + 3 := by subst hW; simp
  have hz' : w.heap.size + 3 ≤ W0.heap.size := by subst hW; simp
  have HTT := hide (hT.on HB.out)
  have HS := hide (fun (V : World) (h : Below W0.heap.size W0 V) => (by
    obtain ⟨c0, c1, c2, c3, c4⟩ := HF.out.below h (by omega)
    obtain ⟨d0, d1, d2, d3⟩ := HP.out.below h (by omega)
    exact ⟨c0, c1, c2, c3, c4, (h.cell (p := ⟨w.heap.size + 1, 0, none⟩) (by show w.heap.size + 1 < _; omega)).trans HC.out.1, (h.cell (p := ⟨w.heap.size + 1, 1, none⟩) (by show w.heap.size + 1 < _; omega)).trans HC.out.2.1, (h.cell (p := ⟨w.heap.size + 1, 2, none⟩) (by show w.heap.size + 1 < _; omega)).trans HC.out.2.2, d0, d1, d2, d3⟩ : V.cell? ⟨w.heap.size, 0, none⟩ = some (.int .i64 k) ∧ V.cell? ⟨w.heap.size, 1, none⟩ = some (.int .i64 b) ∧ V.cell? ⟨w.heap.size, 2, none⟩ = some (.int .i64 x) ∧ V.cell? ⟨w.heap.size, 3, none⟩ = some (.int .i64 t) ∧ V.cell? ⟨w.heap.size, 4, none⟩ = some (.int .i64 l) ∧ V.cell? ⟨w.heap.size + 1, 0, none⟩ = some (.string sec) ∧ V.cell? ⟨w.heap.size + 1, 1, none⟩ = some (.string rnd) ∧ V.cell? ⟨w.heap.size + 1, 2, none⟩ = some (.string pub) ∧ V.cell? ⟨w.heap.size + 1 + 1, 0, none⟩ = some (.int .i64 p0) ∧ V.cell? ⟨w.heap.size + 1 + 1, 1, none⟩ = some (.int .i64 p1) ∧ V.cell? ⟨w.heap.size + 1 + 1, 2, none⟩ = some (.int .i64 p2) ∧ V.cell? ⟨w.heap.size + 1 + 1, 3, none⟩ = some (.int .i64 p3)))
  have HCk := hide hC
  have HSd := hide hSd
  have HIs := hide hIs
  have HSt := hide hSt
  obtain ⟨c0, c1, c2, c3, c4, f0, f1, f2, d0, d1, d2, d3⟩ := HS.out W0 (Below.refl _ _)
  clear hC hSd hIs hSt hT
  unfold startA
  cases r with
  | false =>
    go_enter Tryd.func74, Tryd.ntmps74
    go_wp2_with fail
    try rw [hW]
    refine (HCk.out _).mono ?_
    rintro e w1 ⟨rfl, hb1⟩
    have HB1 := hide hb1
    clear hb1 c0 c1 c2 c3 c4 f0 f1 f2 d0 d1 d2 d3
    go_wp2
    go_ret2
    exact ⟨rfl, HB.out.trans (HB1.out.mono (by omega))⟩
  | true =>
    have HSD := hide (HSd.out rfl)
    have HIS := hide (HIs.out rfl)
    have HST := hide (HSt.out rfl)
    clear HSd HIs HSt
    cases sb with
    | false =>
      go_enter Tryd.func74, Tryd.ntmps74
      go_wp2_with fail
      try rw [hW]
      refine (HCk.out _).mono ?_
      rintro e w1 ⟨rfl, hb1⟩
      have HB1 := hide hb1
      clear hb1 c0 c1 c2 c3 c4 f0 f1 f2 d0 d1 d2 d3
      obtain ⟨c0, c1, c2, c3, c4, f0, f1, f2, d0, d1, d2, d3⟩ := HS.out w1 HB1.out
      go_wp2_with fail
      refine (HSD.out _).mono ?_
      rintro e w2 ⟨rfl, hb2⟩
      have HB2 := hide (heldB HB1.out hb2 (Nat.le_refl _))
      clear hb2 HB1 c0 c1 c2 c3 c4 f0 f1 f2 d0 d1 d2 d3
      go_wp2
      go_ret2
      exact ⟨rfl, HB.out.trans (HB2.out.mono (by omega))⟩
    | true =>
      cases cb with
      | false =>
        go_enter Tryd.func74, Tryd.ntmps74
        go_wp2_with fail
        try rw [hW]
        refine (HCk.out _).mono ?_
        rintro e w1 ⟨rfl, hb1⟩
        have HB1 := hide hb1
        clear hb1 c0 c1 c2 c3 c4 f0 f1 f2 d0 d1 d2 d3
        obtain ⟨c0, c1, c2, c3, c4, f0, f1, f2, d0, d1, d2, d3⟩ := HS.out w1 HB1.out
        go_wp2_with fail
        refine (HSD.out _).mono ?_
        rintro e w2 ⟨rfl, hb2⟩
        have HB2 := hide (heldB HB1.out hb2 (Nat.le_refl _))
        clear hb2 HB1 c0 c1 c2 c3 c4 f0 f1 f2 d0 d1 d2 d3
        obtain ⟨c0, c1, c2, c3, c4, f0, f1, f2, d0, d1, d2, d3⟩ := HS.out w2 HB2.out
        go_wp2_with fail
        refine (HIS.out _).mono ?_
        rintro e w3 ⟨rfl, hb3⟩
        have HB3 := hide (heldB HB2.out hb3 (Nat.le_refl _))
        clear hb3 HB2 c0 c1 c2 c3 c4 f0 f1 f2 d0 d1 d2 d3
        go_wp2
        go_ret2
        exact ⟨rfl, HB.out.trans (HB3.out.mono (by omega))⟩
      | true =>
        have HSV := hide (fun (V : World) (hV : Tn V) => HST.out rfl V hV)
        clear HST
        generalize startS k b sec p0 p1 p2 p3 = sv at HSV ⊢
        go_enter Tryd.func74, Tryd.ntmps74
        go_wp2_with fail
        try rw [hW]
        refine (HCk.out _).mono ?_
        rintro e w1 ⟨rfl, hb1⟩
        have HB1 := hide hb1
        clear hb1 c0 c1 c2 c3 c4 f0 f1 f2 d0 d1 d2 d3
        obtain ⟨c0, c1, c2, c3, c4, f0, f1, f2, d0, d1, d2, d3⟩ := HS.out w1 HB1.out
        go_wp2_with fail
        refine (HSD.out _).mono ?_
        rintro e w2 ⟨rfl, hb2⟩
        have HB2 := hide (heldB HB1.out hb2 (Nat.le_refl _))
        clear hb2 HB1 c0 c1 c2 c3 c4 f0 f1 f2 d0 d1 d2 d3
        obtain ⟨c0, c1, c2, c3, c4, f0, f1, f2, d0, d1, d2, d3⟩ := HS.out w2 HB2.out
        go_wp2_with fail
        refine (HIS.out _).mono ?_
        rintro e w3 ⟨rfl, hb3⟩
        have HB3 := hide (heldB HB2.out hb3 (Nat.le_refl _))
        clear hb3 HB2 c0 c1 c2 c3 c4 f0 f1 f2 d0 d1 d2 d3
        obtain ⟨c0, c1, c2, c3, c4, f0, f1, f2, d0, d1, d2, d3⟩ := HS.out w3 HB3.out
        have HSS := hide (HSV.out w3 (HTT.out.on HB3.out))
        go_wp2_with fail
        refine HSS.out.mono ?_
        rintro e w4 ⟨rfl, hb4⟩
        have HB4 := hide (heldB HB3.out hb4 (Nat.le_refl _))
        clear hb4 HB3 c0 c1 c2 c3 c4 f0 f1 f2 d0 d1 d2 d3
        go_wp2
        go_ret2
        exact ⟨rfl, HB.out.trans (HB4.out.mono (by omega))⟩
end Go.Proofs.YtgaoeoijdpdjiaaDoor

namespace Go.Proofs.YtgaoeoijdpdjiaaDoor
open Go.RowKit

theorem rev_ends (k b : Int) (sec pub : ByteArray) (p0 p1 F : Int) (wd ch : Nat) : revS k b sec pub p0 p1 F (List.replicate ch wd) ch = endsS k b wd sec pub p0 p1 F ch := by
  unfold revS endsS
  refine List.map_congr_left ?_
  intro i hi
  have h : i < ch := by simpa using hi
  simp [endS, h]

set_option maxRecDepth 20000 in
set_option maxHeartbeats 4000000 in
theorem leaf_any (k b x t l : Int) (sec rnd pub : ByteArray) (p0 p1 p2 p3 F : Int) (ch wd : Nat) (w : World) (hk : k = 1 ∨ k = 2) (h1 : 1 ≤ b) (h2 : b ≤ 16) (hs : sec.size ≤ 16) (hp : pub.size ≤ 16) (hc1 : 1 ≤ ch) (hc2 : ch ≤ 64) (hch : Ch4 ch) (hwd : wd ≤ 15) (hx : x = (wd : Int) + 1) (hT : Tn w) :
    Calls Tryd.prog 99 #[.agg #[.int .i64 k, .int .i64 b, .int .i64 x, .int .i64 t, .int .i64 l, .string sec, .string rnd, .string pub, .int .i64 p0, .int .i64 p1, .int .i64 p2, .int .i64 p3, .int .i64 ch], .int .i64 F] w fun e w' => e = .returned (.string (leafS k b wd ch sec pub p0 p1 F)) ∧ Below w.heap.size w w' := by
  have hx1 : 1 ≤ x := by omega
  have hx2 : x ≤ 16 := by omega
  have HRP := hide (fun (V : World) (g : Nat) (hg : g < V.heap.size) (hc : V.cell? ⟨g, 0, none⟩ = some (.int .i64 (x - 1))) => repeat_one (x - 1) g ch V hc1 (by omega) hg hc (mul_one ch hch))
  have HSP := hide (fun (V : World) => spotOf_any k b x t l sec rnd pub pub p0 p1 p2 p3 ch F 0 V)
  have HRV := hide (fun (V : World) (q : Nat) (hV : Tn V) (hq : Blk V q (List.replicate ch (.int .i64 (x - 1))) 3) => (by
    have h := reveal_any k b x t l sec rnd pub p0 p1 p2 p3 ch F q 0 ch (List.replicate ch wd) V hk h1 h2 hs hp (by simpa using hc2) (by intro d hd; rw [List.mem_replicate] at hd; omega) hq.lt (by
      intro j d hj
      rw [List.getElem?_replicate] at hj
      split at hj
      · rename_i hjc
        cases hj
        rw [Nat.zero_add, hq.cell, List.getElem?_replicate, if_pos hjc, hx]
        congr 2
        omega
      · cases hj) hV
    rw [List.length_replicate, rev_ends] at h
    exact h.mono fun e w' ⟨a, b, c⟩ => ⟨_, a, b, c⟩ : Calls Tryd.prog 114 #[.agg #[.int .i64 k, .int .i64 b, .int .i64 x, .int .i64 t, .int .i64 l, .string sec, .string rnd, .string pub, .int .i64 p0, .int .i64 p1, .int .i64 p2, .int .i64 p3, .int .i64 ch], .int .i64 F, .slice (some ⟨q, 0, none⟩) ch ch] V fun e w' => ∃ g, e = .returned (.slice (some ⟨g, 0, none⟩) ch ch) ∧ Blk w' g ((endsS k b wd sec pub p0 p1 F ch).map Value.string) 9 ∧ Below V.heap.size V w'))
  have HFO := hide (fun (V : World) (g : Nat) (hV : Tn V) (hg : Blk V g ((endsS k b wd sec pub p0 p1 F ch).map Value.string) 9) => (by
    have h := sfold_any k b x t l pub p0 p1 F 0 g 0 ch (endsS k b wd sec pub p0 p1 F ch) V (by
      intro j y hj
      rw [Nat.zero_add, hg.cell, List.getElem?_map, hj]
      rfl) hg.lt (by rw [endsS_length]; exact Nat.le_refl _) (by rw [endsS_length]; exact hc2) (by rw [endsS_length]; exact hc1) hk h1 h2 hp (endsS_size k b wd sec pub p0 p1 F ch hk h1 h2 hs hp) hV
    rw [endsS_length] at h
    exact h : Calls Tryd.prog 60 #[.agg #[.int .i64 k, .int .i64 b, .int .i64 x, .int .i64 t, .int .i64 l, .string pub, .int .i64 p0, .int .i64 p1, .int .i64 F, .int .i64 0], .slice (some ⟨g, 0, none⟩) ch ch] V fun e w' => e = .returned (.string (leafS k b wd ch sec pub p0 p1 F)) ∧ Below V.heap.size V w'))
  generalize leafS k b wd ch sec pub p0 p1 F = lf at HFO ⊢
  have HX := hide hx
  clear hx
  obtain ⟨WT, hWT⟩ : ∃ WT, w.alloc (.cells #[.int .i64 k, .int .i64 b, .int .i64 x, .int .i64 t, .int .i64 l, .string sec, .string rnd, .string pub, .int .i64 p0, .int .i64 p1, .int .i64 p2, .int .i64 p3, .int .i64 ch] 95) = WT := ⟨_, rfl⟩
  have HWT := hide (show Blk WT w.heap.size [.int .i64 k, .int .i64 b, .int .i64 x, .int .i64 t, .int .i64 l, .string sec, .string rnd, .string pub, .int .i64 p0, .int .i64 p1, .int .i64 p2, .int .i64 p3, .int .i64 ch] 95 by rw [← hWT]; exact Blk.new _ _ _)
  have hzT : WT.heap.size ≤ w.heap.size + 1 := by rw [← hWT]; simp
  have hzT' : w.heap.size + 1 ≤ WT.heap.size := by rw [← hWT]; simp
  have HB := hide (show Below w.heap.size w WT by rw [← hWT]; exact (Below.refl _ _).alloc (Nat.le_refl _) _)
  have HTT := hide (hT.on HB.out)
  have HS := hide (fun (V : World) (h : Below WT.heap.size WT V) => (by
    have hb := HWT.out.below h (by omega)
    exact ⟨hb.cell 0, hb.cell 1, hb.cell 2, hb.cell 3, hb.cell 4, hb.cell 5, hb.cell 6, hb.cell 7, hb.cell 8, hb.cell 9, hb.cell 10, hb.cell 11, hb.cell 12⟩ : V.cell? ⟨w.heap.size, 0, none⟩ = some (.int .i64 k) ∧ V.cell? ⟨w.heap.size, 1, none⟩ = some (.int .i64 b) ∧ V.cell? ⟨w.heap.size, 2, none⟩ = some (.int .i64 x) ∧ V.cell? ⟨w.heap.size, 3, none⟩ = some (.int .i64 t) ∧ V.cell? ⟨w.heap.size, 4, none⟩ = some (.int .i64 l) ∧ V.cell? ⟨w.heap.size, 5, none⟩ = some (.string sec) ∧ V.cell? ⟨w.heap.size, 6, none⟩ = some (.string rnd) ∧ V.cell? ⟨w.heap.size, 7, none⟩ = some (.string pub) ∧ V.cell? ⟨w.heap.size, 8, none⟩ = some (.int .i64 p0) ∧ V.cell? ⟨w.heap.size, 9, none⟩ = some (.int .i64 p1) ∧ V.cell? ⟨w.heap.size, 10, none⟩ = some (.int .i64 p2) ∧ V.cell? ⟨w.heap.size, 11, none⟩ = some (.int .i64 p3) ∧ V.cell? ⟨w.heap.size, 12, none⟩ = some (.int .i64 ch)))
  have HA := hide ((Below.refl WT.heap.size WT).alloc (Nat.le_refl _) (.cells #[.int .i64 (x - 1)] 3))
  have HR0 := hide (HRP.out (WT.alloc (.cells #[.int .i64 (x - 1)] 3)) (w.heap.size + 1) (by simp; omega) (by rw [show w.heap.size + 1 = WT.heap.size by omega]; simp [go_sem]))
  obtain ⟨c0, c1, c2, c3, c4, c5, c6, c7, c8, c9, c10, c11, c12⟩ := HS.out WT (Below.refl _ _)
  clear hT HRP
  have HWE := hide hWT
  clear hWT
  go_enter Tryd.func99, Tryd.ntmps99
  go_wp2_with fail
  rw [HWE.out]
  refine HR0.out.mono ?_
  rintro e w1 ⟨q, rfl, hq0, hq, hb1⟩
  have HQ := hide hq
  have HB1 := hide (heldB HA.out hb1 (Nat.le_refl _))
  have hqw : q < w1.heap.size := hq.lt
  clear hq hb1 hq0 c0 c1 c2 c3 c4 c5 c6 c7 c8 c9 c10 c11 c12 HA HR0
  go_wp2_with fail
  go_region_held3 (fun V => V.cell? ⟨w.heap.size, 0, none⟩ = some (.int .i64 k) ∧ V.cell? ⟨w.heap.size, 1, none⟩ = some (.int .i64 b) ∧ V.cell? ⟨w.heap.size, 2, none⟩ = some (.int .i64 x) ∧ V.cell? ⟨w.heap.size, 3, none⟩ = some (.int .i64 t) ∧ V.cell? ⟨w.heap.size, 4, none⟩ = some (.int .i64 l) ∧ V.cell? ⟨w.heap.size, 5, none⟩ = some (.string sec) ∧ V.cell? ⟨w.heap.size, 6, none⟩ = some (.string rnd) ∧ V.cell? ⟨w.heap.size, 7, none⟩ = some (.string pub) ∧ V.cell? ⟨w.heap.size, 8, none⟩ = some (.int .i64 p0) ∧ V.cell? ⟨w.heap.size, 9, none⟩ = some (.int .i64 p1) ∧ V.cell? ⟨w.heap.size, 10, none⟩ = some (.int .i64 p2) ∧ V.cell? ⟨w.heap.size, 11, none⟩ = some (.int .i64 p3) ∧ V.cell? ⟨w.heap.size, 12, none⟩ = some (.int .i64 ch)) (first | exact HS.out _ hS4 | exact HS.out _ hS3 | exact HS.out _ hS2 | exact HS.out _ HB1.out.drew) (first | (go_at_call 113; refine (HSP.out _).mono ?_; rintro e w2 ⟨rfl, hb2⟩; have hS2 := heldB HB1.out.drew hb2 (Nat.le_refl _); have hK2 := (HQ.out.below (Below.refl w1.heap.size w1).drew hqw).on hb2) | (go_at_call 114; refine (HRV.out _ q (HTT.out.on hS2) hK2).mono ?_; rintro e w3 ⟨g, rfl, hg3, hb3⟩; have hS3 := heldB hS2 hb3 (Nat.le_refl _)) | (go_at_call 60; refine (HFO.out _ g (HTT.out.on hS3) hg3).mono ?_; rintro e w4 ⟨rfl, hb4⟩; have hS4 := heldB hS3 hb4 (Nat.le_refl _)))
  have HB4 := hide hS4
  clear hS2 hS3 hS4 hb2 hb3 hb4 hg3 hK2
  go_wp2
  go_ret
  exact ⟨rfl, HB.out.trans (HB4.out.mono (by omega))⟩
end Go.Proofs.YtgaoeoijdpdjiaaDoor

namespace Go.Proofs.YtgaoeoijdpdjiaaDoor
open Go.RowKit

theorem chainB_bounds {t l ch : Nat} {p0 p1 p2 p3 : Int} (h : chainB t l ch p0 p1 p2 p3 = true) (h2 : t ≤ 4) (h4 : l ≤ 3) (hc : ch ≤ 64) : (0 ≤ p0 ∧ p0 ≤ 100000) ∧ (0 ≤ p1 ∧ p1 ≤ 100000) ∧ (0 ≤ p2 ∧ p2 ≤ 100000) ∧ (0 ≤ p3 ∧ p3 ≤ 100000) := by
  unfold chainB leafB at h
  simp only [Bool.and_eq_true, decide_eq_true_eq] at h
  obtain ⟨⟨⟨a0, a1⟩, ⟨b0, b1⟩, ⟨c0, c1⟩⟩, d0, d1⟩ := h
  have e1 : 2 ^ (t * (l - 1 - p0.toNat)) ≤ 2 ^ 8 := Nat.pow_le_pow_right (by decide) (Nat.le_trans (Nat.mul_le_mul h2 (show l - 1 - p0.toNat ≤ 2 by omega)) (by decide))
  have e2 : 2 ^ t ≤ 2 ^ 4 := Nat.pow_le_pow_right (by decide) h2
  have e3 : (2 : Nat) ^ 8 = 256 := by decide
  have e4 : (2 : Nat) ^ 4 = 16 := by decide
  rw [e3] at e1
  rw [e4] at e2
  generalize 2 ^ (t * (l - 1 - p0.toNat)) = u at e1 b1
  generalize 2 ^ t = v at e2 c1
  omega

theorem seedsB_size {b : Int} {sec rnd pub : ByteArray} (h : seedsB b sec rnd pub = true) : (sec.size : Int) = b ∧ (rnd.size : Int) = b ∧ (pub.size : Int) = b := by
  unfold seedsB at h
  have := (allLen_iff b _).1 h
  exact ⟨this sec (by simp), this rnd (by simp), this pub (by simp)⟩

theorem pair_small {b x e f : Nat} (h : Pair b x e f) : 1 ≤ b ∧ b ≤ 16 ∧ 1 ≤ b * e + f ∧ b * e + f ≤ 64 ∧ 1 ≤ x ∧ x ≤ 16 := by
  rcases h with ⟨rfl, rfl, rfl, rfl⟩ | ⟨rfl, rfl, rfl, rfl⟩ | ⟨rfl, rfl, rfl, rfl⟩ | ⟨rfl, rfl, rfl, rfl⟩ <;> decide
end Go.Proofs.YtgaoeoijdpdjiaaDoor
