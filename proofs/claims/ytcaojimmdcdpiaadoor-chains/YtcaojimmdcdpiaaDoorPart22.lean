/-
  Are seeds right? The program's SeedsRight, the document's Seeded. The program's Start and Chain.
-/
import Derived.Test.YtcaojimmdcdpiaaDoorPart16
import Derived.Test.YtcaojimmdcdpiaaDoorPart3
import Derived.Test.YtcaojimmdcdpiaaDoorPart21
import Derived.Test.YtcaojimmdcdpiaaDoorPart10
namespace Go.Proofs.YtcaojimmdcdpiaaDoor
open Go.RowKit

/-- Are the seeds right? -/
def seedsB (b : Int) (sec rnd pub : ByteArray) : Bool := allLen b [sec, rnd, pub]

set_option maxRecDepth 20000 in
set_option maxHeartbeats 2000000 in
theorem seedsRight_any (k b x t l : Int) (sec rnd pub : ByteArray) (w : World) :
    Calls Tryd.prog 82 #[.agg #[.int .i64 k, .int .i64 b, .int .i64 x, .int .i64 t, .int .i64 l], .agg #[.string sec, .string rnd, .string pub]] w fun e w' => e = .returned (.bool (seedsB b sec rnd pub)) ∧ Below w.heap.size w w' := by
  have HV := hide (valuesRight_some k b x t l ((w.alloc (.cells #[.int .i64 k, .int .i64 b, .int .i64 x, .int .i64 t, .int .i64 l] 25)).alloc (.cells #[.string sec, .string rnd, .string pub] 27)).heap.size 0 3 [sec, rnd, pub] (((w.alloc (.cells #[.int .i64 k, .int .i64 b, .int .i64 x, .int .i64 t, .int .i64 l] 25)).alloc (.cells #[.string sec, .string rnd, .string pub] 27)).alloc (.cells #[.string sec, .string rnd, .string pub] 9)) (by
    intro j y hj
    match j, hj with
    | 0, hj => simp at hj; subst hj; simp [go_sem]
    | 1, hj => simp at hj; subst hj; simp [go_sem]
    | 2, hj => simp at hj; subst hj; simp [go_sem]) (by simp) (by simp))
  simp only [List.length_cons, List.length_nil, Nat.reduceAdd] at HV
  have hsz : ((w.alloc (.cells #[.int .i64 k, .int .i64 b, .int .i64 x, .int .i64 t, .int .i64 l] 25)).alloc (.cells #[.string sec, .string rnd, .string pub] 27)).heap.size = w.heap.size + 1 + 1 := by simp
  rw [hsz] at HV
  unfold seedsB
  generalize allLen b [sec, rnd, pub] = r at HV ⊢
  go_enter Tryd.func82, Tryd.ntmps82
  go_wp2_with fail
  refine HV.out.mono ?_
  rintro e w1 ⟨rfl, hb1⟩
  have HB1 := hide (((((Below.refl w.heap.size w).alloc (Nat.le_refl _) _).alloc (by simp) _).alloc (by simp; omega) _).trans (hb1.mono (by simp; omega)))
  clear hsz
  clear hb1
  go_wp2
  go_ret
  exact ⟨rfl, HB1.out⟩

set_option maxRecDepth 20000 in
set_option maxHeartbeats 2000000 in
theorem seeded_any (k b x t l : Int) (sec rnd pub : ByteArray) (w : World) :
    Calls Tryd.prog 68 #[.agg #[.int .i64 k, .int .i64 b, .int .i64 x, .int .i64 t, .int .i64 l], .agg #[.string sec, .string rnd, .string pub]] w fun e w' => e = .returned (.bool (seedsB b sec rnd pub)) ∧ Below w.heap.size w w' := by
  have e : seedsB b sec rnd pub = (((sec.size : Int) == b) && (((rnd.size : Int) == b) && ((pub.size : Int) == b))) := by
    unfold seedsB allLen allLen allLen allLen
    simp [Bool.beq_eq_decide_eq]
  rw [e]
  cases a0 : ((sec.size : Int) == b) with
  | false =>
    go_enter Tryd.func68, Tryd.ntmps68
    go_wp2
    go_ret
    exact ⟨rfl, ((Below.refl _ _).alloc (Nat.le_refl _) _).alloc (by simp) _⟩
  | true =>
    cases a1 : ((rnd.size : Int) == b) with
    | false =>
      go_enter Tryd.func68, Tryd.ntmps68
      go_wp2
      go_ret
      exact ⟨rfl, ((Below.refl _ _).alloc (Nat.le_refl _) _).alloc (by simp) _⟩
    | true =>
      cases a2 : ((pub.size : Int) == b) with
      | false =>
        go_enter Tryd.func68, Tryd.ntmps68
        go_wp2
        go_ret
        exact ⟨rfl, ((Below.refl _ _).alloc (Nat.le_refl _) _).alloc (by simp) _⟩
      | true =>
        go_enter Tryd.func68, Tryd.ntmps68
        go_wp2
        go_ret
        exact ⟨rfl, ((Below.refl _ _).alloc (Nat.le_refl _) _).alloc (by simp) _⟩
end Go.Proofs.YtcaojimmdcdpiaaDoor

namespace Go.Proofs.YtcaojimmdcdpiaaDoor
open Go.RowKit

/-- What Start answers. -/
def startA (k b : Int) (r sb cb : Bool) (sec : ByteArray) (p0 p1 p2 p3 : Int) : ByteArray × Int := if r then (if sb && cb then (startS k b sec p0 p1 p2 p3, 0) else (⟨#[]⟩, 2)) else (⟨#[]⟩, 1)

set_option maxRecDepth 20000 in
set_option maxHeartbeats 4000000 in
theorem tstart_any (k b x t l : Int) (sec rnd pub : ByteArray) (p0 p1 p2 p3 : Int) (r sb cb : Bool) (w : World) (hT : Tn w)
    (hC : ∀ V : World, Calls Tryd.prog 101 #[.agg #[.int .i64 k, .int .i64 b, .int .i64 x, .int .i64 t, .int .i64 l]] V fun e w' => e = .returned (.int .i64 (if r then 0 else 1)) ∧ Below V.heap.size V w')
    (hSd : r = true → ∀ V : World, Calls Tryd.prog 82 #[.agg #[.int .i64 k, .int .i64 b, .int .i64 x, .int .i64 t, .int .i64 l], .agg #[.string sec, .string rnd, .string pub]] V fun e w' => e = .returned (.bool sb) ∧ Below V.heap.size V w')
    (hIs : r = true → ∀ V : World, Calls Tryd.prog 102 #[.agg #[.int .i64 k, .int .i64 b, .int .i64 x, .int .i64 t, .int .i64 l], .agg #[.int .i64 p0, .int .i64 p1, .int .i64 p2, .int .i64 p3]] V fun e w' => e = .returned (.bool cb) ∧ Below V.heap.size V w')
    (hSt : r = true → sb = true → ∀ V : World, Tn V → Calls Tryd.prog 85 #[.agg #[.int .i64 k, .int .i64 b, .int .i64 x, .int .i64 t, .int .i64 l, .string sec, .int .i64 p0, .int .i64 p1, .int .i64 p2, .int .i64 p3]] V fun e w' => e = .returned (.string (startS k b sec p0 p1 p2 p3)) ∧ Below V.heap.size V w') :
    Calls Tryd.prog 66 #[.agg #[.int .i64 k, .int .i64 b, .int .i64 x, .int .i64 t, .int .i64 l], .agg #[.string sec, .string rnd, .string pub], .agg #[.int .i64 p0, .int .i64 p1, .int .i64 p2, .int .i64 p3]] w fun e w' => e = .returned (.tuple #[.string (startA k b r sb cb sec p0 p1 p2 p3).1, .int .i64 (startA k b r sb cb sec p0 p1 p2 p3).2]) ∧ Below w.heap.size w w' := by
  obtain ⟨W0, hW⟩ : ∃ W0, ((w.alloc (.cells #[.int .i64 k, .int .i64 b, .int .i64 x, .int .i64 t, .int .i64 l] 25)).alloc (.cells #[.string sec, .string rnd, .string pub] 27)).alloc (.cells #[.int .i64 p0, .int .i64 p1, .int .i64 p2, .int .i64 p3] 29) = W0 := ⟨_, rfl⟩
  have HF := hide (show FiveC w.heap.size W0 k b x t l by subst hW; refine ⟨?_, ?_, ?_, ?_, ?_⟩ <;> simp [go_sem])
  have HC := hide (show W0.cell? ⟨w.heap.size + 1, 0, none⟩ = some (.string sec) ∧ W0.cell? ⟨w.heap.size + 1, 1, none⟩ = some (.string rnd) ∧ W0.cell? ⟨w.heap.size + 1, 2, none⟩ = some (.string pub) by subst hW; refine ⟨?_, ?_, ?_⟩ <;> simp [go_sem])
  have HP := hide (show FourC (w.heap.size + 1 + 1) W0 p0 p1 p2 p3 by subst hW; refine ⟨?_, ?_, ?_, ?_⟩ <;> simp [go_sem])
  have HB := hide (show Below w.heap.size w W0 by subst hW; exact (((Below.refl _ _).alloc (Nat.le_refl _) _).alloc (by simp) _).alloc (by simp; omega) _)
  have hz : W0.heap.size ≤ w.heap.size + 3 := by subst hW; simp
  have hz' : w.heap.size + 3 ≤ W0.heap.size := by subst hW; simp
  have HTT := hide (hT.on HB.out)
  have HS := hide (fun (V : World) (h : Below W0.heap.size W0 V) => (by
    obtain ⟨c0, c1, c2, c3, c4⟩ := HF.out.below h (by omega)
    obtain ⟨d0, d1, d2, d3⟩ := HP.out.below h (by omega)
    exact ⟨c0, c1, c2, c3, c4, (h.cell (p := ⟨w.heap.size + 1, 0, none⟩) (by show w.heap.size + 1 < _; omega)).trans HC.out.1, (h.cell (p := ⟨w.heap.size + 1, 1, none⟩) (by show w.heap.size + 1 < _; omega)).trans HC.out.2.1, (h.cell (p := ⟨w.heap.size + 1, 2, none⟩) (by show w.heap.size + 1 < _; omega)).trans HC.out.2.2, d0, d1, d2, d3⟩ : V.cell? ⟨w.heap.size, 0, none⟩ = some (.int .i64 k) ∧ V.cell? ⟨w.heap.size, 1, none⟩ = some (.int .i64 b) ∧ V.cell? ⟨w.heap.size, 2, none⟩ = some (.int .i64 x) ∧ V.cell? ⟨w.heap.size, 3, none⟩ = some (.int .i64 t) ∧ V.cell? ⟨w.heap.size, 4, none⟩ = some (.int .i64 l) ∧ V.cell? ⟨w.heap.size + 1, 0, none⟩ = some (.string sec) ∧ V.cell? ⟨w.heap.size + 1, 1, none⟩ = some (.string rnd) ∧ V.cell? ⟨w.heap.size + 1, 2, none⟩ = some (.string pub) ∧ V.cell? ⟨w.heap.size + 1 + 1, 0, none⟩ = some (.int .i64 p0) ∧ V.cell? ⟨w.heap.size + 1 + 1, 1, none⟩ = some (.int .i64 p1) ∧ V.cell? ⟨w.heap.size + 1 + 1, 2, none⟩ = some (.int .i64 p2) ∧ V.cell? ⟨w.heap.size + 1 + 1, 3, none⟩ = some (.int .i64 p3)))
  have HCk := hide hC
  have HSd := hide hSd
  have HIs := hide hIs
  have HSt := hide hSt
  obtain ⟨c0, c1, c2, c3, c4, f0, f1, f2, d0, d1, d2, d3⟩ := HS.out W0 (Below.refl _ _)
  clear hC hSd hIs hSt hT
  unfold startA
  cases r with
  | false =>
    go_enter Tryd.func66, Tryd.ntmps66
    go_wp2_with fail
    try rw [hW]
    refine (HCk.out _).mono ?_
    rintro e w1 ⟨rfl, hb1⟩
    have HB1 := hide hb1
    clear hb1 c0 c1 c2 c3 c4 f0 f1 f2 d0 d1 d2 d3
    go_wp2
    go_ret2
    exact ⟨rfl, HB.out.trans (HB1.out.mono (by omega))⟩
  | true =>
    have HSD := hide (HSd.out rfl)
    have HIS := hide (HIs.out rfl)
    have HST := hide (HSt.out rfl)
    clear HSd HIs HSt
    cases sb with
    | false =>
      go_enter Tryd.func66, Tryd.ntmps66
      go_wp2_with fail
      try rw [hW]
      refine (HCk.out _).mono ?_
      rintro e w1 ⟨rfl, hb1⟩
      have HB1 := hide hb1
      clear hb1 c0 c1 c2 c3 c4 f0 f1 f2 d0 d1 d2 d3
      obtain ⟨c0, c1, c2, c3, c4, f0, f1, f2, d0, d1, d2, d3⟩ := HS.out w1 HB1.out
      go_wp2_with fail
      refine (HSD.out _).mono ?_
      rintro e w2 ⟨rfl, hb2⟩
      have HB2 := hide (heldB HB1.out hb2 (Nat.le_refl _))
      clear hb2 HB1 c0 c1 c2 c3 c4 f0 f1 f2 d0 d1 d2 d3
      go_wp2
      go_ret2
      exact ⟨rfl, HB.out.trans (HB2.out.mono (by omega))⟩
    | true =>
      cases cb with
      | false =>
        go_enter Tryd.func66, Tryd.ntmps66
        go_wp2_with fail
        try rw [hW]
        refine (HCk.out _).mono ?_
        rintro e w1 ⟨rfl, hb1⟩
        have HB1 := hide hb1
        clear hb1 c0 c1 c2 c3 c4 f0 f1 f2 d0 d1 d2 d3
        obtain ⟨c0, c1, c2, c3, c4, f0, f1, f2, d0, d1, d2, d3⟩ := HS.out w1 HB1.out
        go_wp2_with fail
        refine (HSD.out _).mono ?_
        rintro e w2 ⟨rfl, hb2⟩
        have HB2 := hide (heldB HB1.out hb2 (Nat.le_refl _))
        clear hb2 HB1 c0 c1 c2 c3 c4 f0 f1 f2 d0 d1 d2 d3
        obtain ⟨c0, c1, c2, c3, c4, f0, f1, f2, d0, d1, d2, d3⟩ := HS.out w2 HB2.out
        go_wp2_with fail
        refine (HIS.out _).mono ?_
        rintro e w3 ⟨rfl, hb3⟩
        have HB3 := hide (heldB HB2.out hb3 (Nat.le_refl _))
        clear hb3 HB2 c0 c1 c2 c3 c4 f0 f1 f2 d0 d1 d2 d3
        go_wp2
        go_ret2
        exact ⟨rfl, HB.out.trans (HB3.out.mono (by omega))⟩
      | true =>
        have HSV := hide (fun (V : World) (hV : Tn V) => HST.out rfl V hV)
        clear HST
        generalize startS k b sec p0 p1 p2 p3 = sv at HSV ⊢
        go_enter Tryd.func66, Tryd.ntmps66
        go_wp2_with fail
        try rw [hW]
        refine (HCk.out _).mono ?_
        rintro e w1 ⟨rfl, hb1⟩
        have HB1 := hide hb1
        clear hb1 c0 c1 c2 c3 c4 f0 f1 f2 d0 d1 d2 d3
        obtain ⟨c0, c1, c2, c3, c4, f0, f1, f2, d0, d1, d2, d3⟩ := HS.out w1 HB1.out
        go_wp2_with fail
        refine (HSD.out _).mono ?_
        rintro e w2 ⟨rfl, hb2⟩
        have HB2 := hide (heldB HB1.out hb2 (Nat.le_refl _))
        clear hb2 HB1 c0 c1 c2 c3 c4 f0 f1 f2 d0 d1 d2 d3
        obtain ⟨c0, c1, c2, c3, c4, f0, f1, f2, d0, d1, d2, d3⟩ := HS.out w2 HB2.out
        go_wp2_with fail
        refine (HIS.out _).mono ?_
        rintro e w3 ⟨rfl, hb3⟩
        have HB3 := hide (heldB HB2.out hb3 (Nat.le_refl _))
        clear hb3 HB2 c0 c1 c2 c3 c4 f0 f1 f2 d0 d1 d2 d3
        obtain ⟨c0, c1, c2, c3, c4, f0, f1, f2, d0, d1, d2, d3⟩ := HS.out w3 HB3.out
        have HSS := hide (HSV.out w3 (HTT.out.on HB3.out))
        go_wp2_with fail
        refine HSS.out.mono ?_
        rintro e w4 ⟨rfl, hb4⟩
        have HB4 := hide (heldB HB3.out hb4 (Nat.le_refl _))
        clear hb4 HB3 c0 c1 c2 c3 c4 f0 f1 f2 d0 d1 d2 d3
        go_wp2
        go_ret2
        exact ⟨rfl, HB.out.trans (HB4.out.mono (by omega))⟩
end Go.Proofs.YtcaojimmdcdpiaaDoor
