/-
  The statement's own took: does a walk's path begin with these values? The statement's own due: of each height whose turn it is in the next step the stack is one whole node; their values. The statement's own climbed: the walk's path leads from this leaf's value to the root.
-/
import Derived.Test.YtgaoeoijdpdjiaaGreatDoorPart48
import Derived.BigQuiet
import Derived.Deep.QuietTactic
import Derived.Test.YtgaoeoijdpdjiaaGreatDoorPart29
import Derived.Test.YtgaoeoijdpdjiaaGreatDoorPart33
import Derived.Deep.AppendLies
import Derived.Test.YtgaoeoijdpdjiaaGreatDoorPart30
import Derived.Test.YtgaoeoijdpdjiaaGreatDoorPart5
namespace Go.Proofs.YtgaoeoijdpdjiaaGreatDoor
open Go.RowKit
set_option maxRecDepth 20000 in
theorem took_zero (X T lc : Nat) (lp : Option Addr) (w : World) (hP : Calls Tryz.prog 42 #[.pointer (some ⟨X, 0, none⟩)] w fun e w' => ∃ g c, e = .returned (.slice (some ⟨g, 0, none⟩) T c) ∧ Below w.heap.size w w') :
    Calls Tryz.prog 24 #[.pointer (some ⟨X, 0, none⟩), .slice lp 0 lc] w fun e w' => e = .returned (.bool true) ∧ Below w.heap.size w w' := by
  have HP := hide hP
  have h0 : ¬ (T : Int) < 0 := by omega
  clear hP
  go_enter Tryz.func24, Tryz.ntmps24
  go_wp2_with fail
  go_at_call 42
  refine HP.out.mono ?_
  rintro e w1 ⟨g, c, rfl, hb⟩
  have HB := hide hb
  clear hb
  go_wp2_with fail
  go_rounds 1
  go_wp2
  go_ret
  exact ⟨rfl, HB.out⟩
set_option maxRecDepth 20000 in
set_option maxHeartbeats 1000000 in
theorem took_some (X T m lc g2 : Nat) (ps : List ByteArray) (w : World) (hm : m ≤ T) (hT : T ≤ 100) (hps : ps.length = T) (hg : g2 < w.heap.size) (hl : ∀ (j : Nat) y, j < m → ps[j]? = some y → w.cell? ⟨g2, j, none⟩ = some (.string y))
    (hP : Calls Tryz.prog 42 #[.pointer (some ⟨X, 0, none⟩)] w fun e w' => ∃ g c, e = .returned (.slice (some ⟨g, 0, none⟩) T c) ∧ (∀ (j : Nat) z, ps[j]? = some z → w'.cell? ⟨g, j, none⟩ = some (.string z)) ∧ Below w.heap.size w w') :
    Calls Tryz.prog 24 #[.pointer (some ⟨X, 0, none⟩), .slice (some ⟨g2, 0, none⟩) m lc] w fun e w' => e = .returned (.bool true) ∧ Below w.heap.size w w' := by
  have HP := hide hP
  have HL := hide hl
  have HPS := hide hps
  have h0 : ¬ (T : Int) < (m : Int) := by omega
  clear hP hl hps
  go_enter Tryz.func24, Tryz.ntmps24
  go_wp2_with fail
  go_at_call 42
  refine HP.out.mono ?_
  rintro e w1 ⟨g, c, rfl, hc, hb⟩
  have HC := hide hc
  have HB := hide hb
  have HL1 := hide (fun (j : Nat) y (h1 : j < m) (h2 : ps[j]? = some y) => (hb.cell (p := ⟨g2, j, none⟩) hg).trans (HL.out j y h1 h2))
  clear hb hc
  go_wp2_with fail
  go_loopw [6] (fun i wr => ∃ j q : Nat, j ≤ m ∧ i = .int .i64 j ∧ Hid (wr = w1.drewN q)) (fun i _ => m - (intOf i).toNat)
  case atStart => exact ⟨0, 0, by omega, rfl, rfl⟩
  case round =>
    obtain ⟨j, q, hj, rfl, hw⟩ := hrel
    by_cases hlt : j < m
    · obtain ⟨y, hy⟩ : ∃ y, ps[j]? = some y := ⟨_, List.getElem?_eq_getElem (by rw [HPS.out]; omega)⟩
      have d1 : wr.cell? ⟨g, j, none⟩ = some (.string y) := by rw [hw.out]; exact HC.out j y hy
      have d2 : wr.cell? ⟨g2, j, none⟩ = some (.string y) := by rw [hw.out]; exact HL1.out j y hlt hy
      clear hy
      have hji : (j : Int) < (m : Int) := by omega
      have hjt : (j : Int) < (T : Int) := by omega
      go_wp2
      go_quiet (fail)
      go_wp2
      go_roundw
      case rel => exact ⟨j + 1, q + _, by omega, by go_num, by show World.drewN wr _ = w1.drewN _; rw [hw.out, World.drewN_drewN]⟩
      case measure => simp [intOf]; omega
    · go_wp2
      go_ret
      exact ⟨rfl, by rw [hw.out]; exact below_drewN HB.out _⟩
end Go.Proofs.YtgaoeoijdpdjiaaGreatDoor

namespace Go.Proofs.YtgaoeoijdpdjiaaGreatDoor
open Go.RowKit
set_option maxRecDepth 20000 in
set_option maxHeartbeats 4000000 in
theorem due_on (k b x l : Int) (T a X : Nat) (va : Nat → ByteArray) (w : World) (hT : T ≤ 4) (ha : a ≤ 16)
    (hS : ∀ (j : Nat) (V : World), j < T → (a + 1) % 2 ^ j = 0 → Below w.heap.size w V → Calls Tryz.prog 46 #[.pointer (some ⟨X, 0, none⟩), .int .i64 (j : Int)] V fun e w' => ∃ g c, e = .returned (.tuple #[.slice (some ⟨g, 0, none⟩) 1 c, .int .i64 0]) ∧ w'.cell? ⟨g, 0, none⟩ = some (.int .i64 (j : Int)) ∧ w'.cell? ⟨g, 2, none⟩ = some (.string (va j)) ∧ Below V.heap.size V w') :
    Calls Tryz.prog 22 #[.agg #[.int .i64 k, .int .i64 b, .int .i64 x, .int .i64 (T : Int), .int .i64 l], .pointer (some ⟨X, 0, none⟩), .int .i64 (a : Int)] w fun e w' => ∃ m v, e = .returned (.tuple #[v, .bool true]) ∧ m ≤ T ∧ w'.ownsRow w.heap.size 9 1 v m (((List.range m).map va).map .string) ∧ Below w.heap.size w w' := by
  obtain ⟨i0, hi, hz0, hz1, hz2⟩ := info_parts infoSt
  obtain ⟨W0, hW⟩ : ∃ W0, w.alloc (.cells #[.int .i64 k, .int .i64 b, .int .i64 x, .int .i64 (T : Int), .int .i64 l] 23) = W0 := ⟨_, rfl⟩
  have HF := hide (show FiveC w.heap.size W0 k b x T l by subst hW; refine ⟨?_, ?_, ?_, ?_, ?_⟩ <;> simp [go_sem])
  have HB := hide (show Below w.heap.size w W0 by subst hW; exact (Below.refl _ _).alloc (Nat.le_refl _) _)
  have hz : W0.heap.size ≤ w.heap.size + 1 := by subst hW; simp
  have hz' : w.heap.size + 1 ≤ W0.heap.size := by subst hW; simp
  have HS := hide hS
  clear hS
  have HWE := hide hW
  clear hW
  go_enter Tryz.func22, Tryz.ntmps22
  go_wp2_with fail
  rw [HWE.out]
  clear HWE
  go_loopw [8, 9] (fun v h wr => ∃ j : Nat, j ≤ T ∧ h = .int .i64 (j : Int) ∧ Hid (wr.ownsRow (w.heap.size + 1) 9 1 v j (((List.range j).map va).map .string)) ∧ Hid (Below (w.heap.size + 1) W0 wr) ∧ w.heap.size + 1 ≤ wr.heap.size) (fun _ h _ => T - (intOf h).toNat)
  case atStart => exact ⟨0, Nat.zero_le _, rfl, World.ownsRow_nil _ _ _ _, Below.refl _ _, hz'⟩
  case round =>
    obtain ⟨j, hj, rfl, ho, hb, hzr⟩ := hrel
    obtain ⟨c0, c1, c2, c3, c4⟩ := HF.out.below hb.out (by omega)
    by_cases hlt : j < T
    · have hlti : (j : Int) < (T : Int) := by omega
      have hw2 : wrap64 ((2 : Int) ^ j) = ((2 ^ j : Nat) : Int) := wrap64_pow j (by omega)
      have hP : 1 ≤ 2 ^ j := Nat.one_le_two_pow
      have hP8 : 2 ^ j ≤ 8 := Nat.le_trans (Nat.pow_le_pow_right (by decide) (show j ≤ 3 by omega)) (by decide)
      have HSJ := hide (fun V => HS.out j V hlt)
      obtain ⟨P, hPe⟩ : ∃ P, 2 ^ j = P := ⟨_, rfl⟩
      rw [hPe] at hw2 hP HSJ hP8
      have hP0 : P ≠ 0 := by omega
      have htm : Int.tmod ((a : Int) + 1) (P : Int) = (((a + 1) % P : Nat) : Int) := by rw [Int.tmod_eq_emod_of_nonneg (by omega), Int.natCast_emod, show ((a + 1 : Nat) : Int) = (a : Int) + 1 by omega]
      clear hPe
      by_cases hr : (a + 1) % P = 0
      · rw [hr] at htm
        have HQ := hide (HSJ.out wr hr (HB.out.trans (hb.out.mono (by omega))))
        clear hP hP8
        go_wp2_with fail
        go_at_call 46
        refine HQ.out.mono ?_
        rintro e w3 ⟨g, c, rfl, g0, g2, hb3⟩
        have HB3 := hide (hb.out.trans (hb3.mono hzr))
        have HO3 := hide (owns_kept ho.out (Kept.of_below (F := fun _ => False) hb3) (fun _ _ e => e))
        have hz3 : w.heap.size + 1 ≤ w3.heap.size := Nat.le_trans hzr hb3.size
        clear hb3 HQ HSJ ho hb c0 c1 c2 c3 c4 hzr
        have HSU := hide (show (List.range (j + 1)).map va = (List.range j).map va ++ [va j] by simp [List.range_succ])
        have ej : ((j : Int) != (j : Int)) = false := by simp
        go_wp2_with (at_builtin; refine wpList_append_own _ rfl _ _ 50 rfl (w.heap.size + 1) 9 i0 (.string ⟨#[]⟩) 1 16 Tryz.underlying50 hi hz0 hz1 hz2 rfl (by decide) _ _ _ rfl (HO3.out.alloc _) ⟨w3.heap.size, 0, none⟩ 1 1 [_] rfl rfl (one_new _ _ _) ?c2 ?c3 ?c4 ?c5 ?_)
        case c2 => intro y hy; simp at hy; subst hy; rfl
        case c3 => unfold maxLen; omega
        case c4 => omega
        case c5 => simp; omega
        intro v' w6 ho6 hgrow _
        have HB6 := hide ((HB3.out.alloc (by omega) _).grown hgrow (by simp; omega) (fun p hp => (owns_loY HO3.out p hp).1))
        have HO6 : Hid (w6.ownsRow (w.heap.size + 1) 9 1 v' (j + 1) (((List.range (j + 1)).map va).map Value.string)) := by
          show w6.ownsRow (w.heap.size + 1) 9 1 v' (j + 1) (((List.range (j + 1)).map va).map Value.string)
          rw [HSU.out, List.map_append, List.map_map]
          exact ho6
        have hz6 : w.heap.size + 1 ≤ w6.heap.size := by have := hgrow.size; simp at this; omega
        clear ho6 hgrow HO3 HB3 hz3 g0 g2
        go_wp2
        go_roundw
        case rel =>
          have R : ∃ j' : Nat, j' ≤ T ∧ Value.int .i64 ((j : Int) + 1) = .int .i64 (j' : Int) ∧ Hid (w6.ownsRow (w.heap.size + 1) 9 1 v' j' (((List.range j').map va).map Value.string)) ∧ Hid (Below (w.heap.size + 1) W0 w6) ∧ w.heap.size + 1 ≤ w6.heap.size := ⟨j + 1, by omega, by go_num, HO6.out, HB6.out, hz6⟩
          first | exact R | ((repeat apply Exists.intro); exact ⟨R, rfl⟩)
        case measure => simp [intOf]; omega
      · generalize (a + 1) % P = r at *
        have hr2 : ((r : Int) == 0) = false := beq_eq_false_iff_ne.2 (by omega)
        have hr3 : r ≠ 0 := hr
        clear hP hP8 hr HSJ
        go_wp2_with fail
        go_ret2
        exact ⟨j, _, rfl, by omega, owns_lower (lo' := w.heap.size) ho.out (by omega), HB.out.trans (hb.out.mono (by omega))⟩
    · have hlti : ¬ (j : Int) < (T : Int) := by omega
      have H9 := hide (owns_lower (lo' := w.heap.size) ho.out (Nat.le_succ _))
      have H8 := H9.out
      rw [List.map_map] at H8
      have HH := hide H8
      clear H8
      go_wp2_with fail
      go_ret2
      exact ⟨j, _, rfl, hj, HH.out, HB.out.trans (hb.out.mono (by omega))⟩
end Go.Proofs.YtgaoeoijdpdjiaaGreatDoor

namespace Go.Proofs.YtgaoeoijdpdjiaaGreatDoor
open Go.RowKit
set_option maxRecDepth 20000 in
set_option maxHeartbeats 4000000 in
theorem climbed_on (k b x l p0 p1 : Int) (t lf : Nat) (sec rnd pub : ByteArray) (X : Nat) (ps : List ByteArray) (y rt : ByteArray) (w : World) (hT : Tn w) (hy : (y.size : Int) = b)
    (hP : ∀ V : World, Below w.heap.size w V → Calls Tryz.prog 42 #[.pointer (some ⟨X, 0, none⟩)] V fun e w' => ∃ g c, e = .returned (.slice (some ⟨g, 0, none⟩) t c) ∧ g < w'.heap.size ∧ (∀ (j : Nat) z, ps[j]? = some z → w'.cell? ⟨g, j, none⟩ = some (.string z)) ∧ Below V.heap.size V w')
    (hA : ∀ V : World, Below w.heap.size w V → Calls Tryz.prog 43 #[.pointer (some ⟨X, 0, none⟩)] V fun e w' => e = .returned (.int .i64 (lf : Int)) ∧ w' = V)
    (hS : ∀ (V : World) (g c : Nat), g < V.heap.size → (∀ (j : Nat) z, ps[j]? = some z → V.cell? ⟨g, j, none⟩ = some (.string z)) → Calls Tryz.prog 44 #[.agg #[.int .i64 k, .int .i64 b, .int .i64 x, .int .i64 t, .int .i64 l], .slice (some ⟨g, 0, none⟩) t c, .int .i64 t] V fun e w' => e = .returned (.bool true) ∧ Below V.heap.size V w')
    (hN : ∀ V : World, Tn V → Calls Tryz.prog 19 #[.agg #[.int .i64 k, .int .i64 b, .int .i64 x, .int .i64 t, .int .i64 l], .agg #[.string sec, .string rnd, .string pub], .agg #[.int .i64 p0, .int .i64 p1, .int .i64 0, .int .i64 0], .int .i64 0, .int .i64 lf] V fun r w' => r = .returned (.tuple #[.string y, .int .i64 0]) ∧ Below V.heap.size V w')
    (hC : ∀ (V : World) (g c : Nat), Tn V → g < V.heap.size → (∀ (j : Nat) z, ps[j]? = some z → V.cell? ⟨g, j, none⟩ = some (.string z)) → Calls Tryz.prog 45 #[.agg #[.int .i64 k, .int .i64 b, .int .i64 x, .int .i64 t, .int .i64 l], .string pub, .agg #[.int .i64 p0, .int .i64 p1, .int .i64 lf, .int .i64 0], .string y, .slice (some ⟨g, 0, none⟩) t c] V fun r w' => r = .returned (.tuple #[.string rt, .int .i64 0]) ∧ Below V.heap.size V w') :
    Calls Tryz.prog 20 #[.agg #[.int .i64 k, .int .i64 b, .int .i64 x, .int .i64 t, .int .i64 l], .agg #[.string sec, .string rnd, .string pub], .agg #[.int .i64 p0, .int .i64 p1, .int .i64 lf, .int .i64 0], .pointer (some ⟨X, 0, none⟩), .string rt] w fun e w' => e = .returned (.bool true) ∧ Below w.heap.size w w' := by
  obtain ⟨W0, hW⟩ : ∃ W0, ((w.alloc (.cells #[.int .i64 k, .int .i64 b, .int .i64 x, .int .i64 t, .int .i64 l] 23)).alloc (.cells #[.string sec, .string rnd, .string pub] 25)).alloc (.cells #[.int .i64 p0, .int .i64 p1, .int .i64 lf, .int .i64 0] 27) = W0 := ⟨_, rfl⟩
  have HF := hide (show FiveC w.heap.size W0 k b x t l by subst hW; refine ⟨?_, ?_, ?_, ?_, ?_⟩ <;> simp [go_sem])
  have HSE := hide (show W0.cell? ⟨w.heap.size + 1, 0, none⟩ = some (.string sec) ∧ W0.cell? ⟨w.heap.size + 1, 1, none⟩ = some (.string rnd) ∧ W0.cell? ⟨w.heap.size + 1, 2, none⟩ = some (.string pub) by subst hW; refine ⟨?_, ?_, ?_⟩ <;> simp [go_sem])
  have HPP := hide (show FourC (w.heap.size + 1 + 1) W0 p0 p1 lf 0 by subst hW; refine ⟨?_, ?_, ?_, ?_⟩ <;> simp [go_sem])
  have HB := hide (show Below w.heap.size w W0 by subst hW; exact (((Below.refl _ _).alloc (Nat.le_refl _) _).alloc (by simp) _).alloc (by simp; omega) _)
  have hz : W0.heap.size ≤ w.heap.size + 3 := by subst hW; simp
  have hz' : w.heap.size + 3 ≤ W0.heap.size := by subst hW; simp
  have HTT := hide (hT.on HB.out)
  have HS := hide (fun (V : World) (h : Below W0.heap.size W0 V) => (by
    obtain ⟨c0, c1, c2, c3, c4⟩ := HF.out.below h (by omega)
    obtain ⟨d0, d1, d2, d3⟩ := HPP.out.below h (by omega)
    exact ⟨c0, c1, c2, c3, c4, (h.cell (p := ⟨w.heap.size + 1, 0, none⟩) (by show w.heap.size + 1 < _; omega)).trans HSE.out.1, (h.cell (p := ⟨w.heap.size + 1, 1, none⟩) (by show w.heap.size + 1 < _; omega)).trans HSE.out.2.1, (h.cell (p := ⟨w.heap.size + 1, 2, none⟩) (by show w.heap.size + 1 < _; omega)).trans HSE.out.2.2, d0, d1, d2, d3⟩ : V.cell? ⟨w.heap.size, 0, none⟩ = some (.int .i64 k) ∧ V.cell? ⟨w.heap.size, 1, none⟩ = some (.int .i64 b) ∧ V.cell? ⟨w.heap.size, 2, none⟩ = some (.int .i64 x) ∧ V.cell? ⟨w.heap.size, 3, none⟩ = some (.int .i64 t) ∧ V.cell? ⟨w.heap.size, 4, none⟩ = some (.int .i64 l) ∧ V.cell? ⟨w.heap.size + 1, 0, none⟩ = some (.string sec) ∧ V.cell? ⟨w.heap.size + 1, 1, none⟩ = some (.string rnd) ∧ V.cell? ⟨w.heap.size + 1, 2, none⟩ = some (.string pub) ∧ V.cell? ⟨w.heap.size + 1 + 1, 0, none⟩ = some (.int .i64 p0) ∧ V.cell? ⟨w.heap.size + 1 + 1, 1, none⟩ = some (.int .i64 p1) ∧ V.cell? ⟨w.heap.size + 1 + 1, 2, none⟩ = some (.int .i64 lf) ∧ V.cell? ⟨w.heap.size + 1 + 1, 3, none⟩ = some (.int .i64 0)))
  have HP := hide (hP W0 HB.out)
  have HA := hide hA
  have HSZ := hide hS
  have HN := hide hN
  have HC := hide hC
  have HBR := hide (fun V : World => bare_any p0 p1 lf 0 V)
  have ey : ((y.size : Int) == b) = true := by rw [hy]; exact beq_self_eq_true b
  have er : (rt.toList == rt.toList) = true := beq_self_eq_true _
  have el : ((lf : Int) != (lf : Int)) = false := by simp
  clear hT hP hA hS hN hC hy
  have HWE := hide hW
  clear hW
  go_enter Tryz.func20, Tryz.ntmps20
  go_wp2_with fail
  rw [HWE.out]
  clear HWE
  go_wp2_with fail
  go_at_call 42
  refine HP.out.mono ?_
  rintro e w1 ⟨g, c, rfl, hg, hc, hb⟩
  have HB1 := hide hb
  have HG := hide hg
  have HCE := hide hc
  have HBW := hide (HB.out.trans (hb.mono HB.out.size))
  clear hb hg hc
  go_wp2_with fail
  go_at_call 43
  refine (HA.out w1 HBW.out).mono ?_
  rintro e w2 ⟨rfl, hw⟩
  obtain rfl := hw.symm
  clear hw
  obtain ⟨c0, c1, c2, c3, c4, s0, s1, s2, d0, d1, d2, d3⟩ := HS.out _ HB1.out
  go_wp2_with fail
  refine (HSZ.out _ g c HG.out HCE.out).mono ?_
  rintro e w3 ⟨rfl, hb⟩
  have HB3 := hide (heldB HB1.out hb (Nat.le_refl _))
  have HG3 := hide (Nat.lt_of_lt_of_le HG.out hb.size)
  have HC3 := hide (fun (j : Nat) z (h : ps[j]? = some z) => (hb.cell (p := ⟨g, j, none⟩) HG.out).trans (HCE.out j z h))
  clear hb HB1 HG HCE HBW c0 c1 c2 c3 c4 s0 s1 s2 d0 d1 d2 d3
  obtain ⟨c0, c1, c2, c3, c4, s0, s1, s2, d0, d1, d2, d3⟩ := HS.out _ HB3.out
  go_wp2_with fail
  clear c0 c1 c2 c3 c4 s0 s1 s2 d0 d1 d2 d3
  go_region_held3 (fun V => V.cell? ⟨w.heap.size, 0, none⟩ = some (.int .i64 k) ∧ V.cell? ⟨w.heap.size, 1, none⟩ = some (.int .i64 b) ∧ V.cell? ⟨w.heap.size, 2, none⟩ = some (.int .i64 x) ∧ V.cell? ⟨w.heap.size, 3, none⟩ = some (.int .i64 t) ∧ V.cell? ⟨w.heap.size, 4, none⟩ = some (.int .i64 l) ∧ V.cell? ⟨w.heap.size + 1, 0, none⟩ = some (.string sec) ∧ V.cell? ⟨w.heap.size + 1, 1, none⟩ = some (.string rnd) ∧ V.cell? ⟨w.heap.size + 1, 2, none⟩ = some (.string pub) ∧ V.cell? ⟨w.heap.size + 1 + 1, 0, none⟩ = some (.int .i64 p0) ∧ V.cell? ⟨w.heap.size + 1 + 1, 1, none⟩ = some (.int .i64 p1) ∧ V.cell? ⟨w.heap.size + 1 + 1, 2, none⟩ = some (.int .i64 lf) ∧ V.cell? ⟨w.heap.size + 1 + 1, 3, none⟩ = some (.int .i64 0)) (first | exact HS.out _ hS2 | exact HS.out _ hS1 | exact HS.out _ HB3.out.drew) (first | (go_at_call 13; refine (HBR.out _).mono ?_; rintro e w4 ⟨rfl, hb4⟩; have hS1 := heldB HB3.out.drew hb4 (Nat.le_refl _)) | (go_at_call 19; refine (HN.out _ (HTT.out.on hS1)).mono ?_; rintro e w5 ⟨rfl, hb5⟩; have hS2 := heldB hS1 hb5 (Nat.le_refl _)))
  have HB5 := hide hS2
  have HY5 := hide (heldB ((Below.refl w3.heap.size w3).drew.trans (hb4.mono (Nat.le_refl _))) hb5 (Nat.le_refl _))
  clear hS1 hS2 hb4 hb5 HB3
  have HG5 := hide (Nat.lt_of_lt_of_le HG3.out HY5.out.size)
  have HC5 := hide (fun (j : Nat) z (h : ps[j]? = some z) => (HY5.out.cell (p := ⟨g, j, none⟩) HG3.out).trans (HC3.out j z h))
  obtain ⟨c0, c1, c2, c3, c4, s0, s1, s2, d0, d1, d2, d3⟩ := HS.out _ HB5.out
  go_wp2_with fail
  refine (HC.out _ g c (HTT.out.on HB5.out) HG5.out HC5.out).mono ?_
  rintro e w6 ⟨rfl, hb6⟩
  have HB6 := hide (heldB HB5.out hb6 (Nat.le_refl _))
  clear hb6 HB5 HY5 HG5 HC5 c0 c1 c2 c3 c4 s0 s1 s2 d0 d1 d2 d3
  obtain ⟨c0, c1, c2, c3, c4, s0, s1, s2, d0, d1, d2, d3⟩ := HS.out _ HB6.out
  go_wp2
  go_ret
  exact ⟨rfl, HB.out.trans (HB6.out.mono HB.out.size)⟩
end Go.Proofs.YtgaoeoijdpdjiaaGreatDoor
