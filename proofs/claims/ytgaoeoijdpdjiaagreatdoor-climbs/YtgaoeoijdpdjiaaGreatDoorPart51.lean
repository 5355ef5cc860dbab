/-
  The statement's own stacked: each stack's nodes are nodes of the tree, beside one another, of falling heights.
-/
import Derived.Test.YtgaoeoijdpdjiaaGreatDoorPart48
import Derived.Test.YtgaoeoijdpdjiaaGreatDoorPart29
import Derived.Test.YtgaoeoijdpdjiaaGreatDoorPart30
import Derived.Test.YtgaoeoijdpdjiaaGreatDoorPart33
import Derived.BigQuiet
import Derived.Deep.QuietTactic
namespace Go.Proofs.YtgaoeoijdpdjiaaGreatDoor
open Go.RowKit
set_option maxRecDepth 20000 in
set_option maxHeartbeats 8000000 in
theorem stacked_on (k b x l p0 p1 : Int) (t lf : Nat) (sec rnd pub : ByteArray) (X : Nat) (L : Nat → List Hk) (tv : Nat → Nat → ByteArray) (w : World) (hT : Tn w) (ht : t ≤ 4)
    (hL1 : ∀ h, h < t → (L h).length ≤ h + 1) (hL0 : lf = 0 → ∀ h, h < t → (L h).length = 1) (hLn : ∀ h, h < t → ∀ p ∈ L h, p.1 ≤ h ∧ p.2 < 2 ^ (t - p.1)) (hLb : ∀ h, h < t → ∀ (i : Nat) p q, (L h)[i]? = some p → (L h)[i + 1]? = some q → q.1 < p.1 ∧ q.2 * 2 ^ q.1 = (p.2 + 1) * 2 ^ p.1)
    (hS : ∀ (h : Nat) (V : World), h < t → Below w.heap.size w V → Calls Tryz.prog 46 #[.pointer (some ⟨X, 0, none⟩), .int .i64 (h : Int)] V fun e w' => ∃ v', e = .returned (.tuple #[v', .int .i64 0]) ∧ w'.ownsRow V.heap.size 100 3 v' (L h).length (nodC ((L h).map (ndT tv))) ∧ Below V.heap.size V w')
    (hN : ∀ h j : Nat, h ≤ t → j < 2 ^ (t - h) → ∀ V : World, Tn V → Calls Tryz.prog 19 #[.agg #[.int .i64 k, .int .i64 b, .int .i64 x, .int .i64 t, .int .i64 l], .agg #[.string sec, .string rnd, .string pub], .agg #[.int .i64 p0, .int .i64 p1, .int .i64 0, .int .i64 0], .int .i64 h, .int .i64 j] V fun r w' => r = .returned (.tuple #[.string (tv h j), .int .i64 0]) ∧ Below V.heap.size V w') :
    Calls Tryz.prog 21 #[.agg #[.int .i64 k, .int .i64 b, .int .i64 x, .int .i64 t, .int .i64 l], .agg #[.string sec, .string rnd, .string pub], .agg #[.int .i64 p0, .int .i64 p1, .int .i64 lf, .int .i64 0], .pointer (some ⟨X, 0, none⟩)] w fun e w' => e = .returned (.bool true) ∧ Below w.heap.size w w' := by
  obtain ⟨W0, hW⟩ : ∃ W0, ((w.alloc (.cells #[.int .i64 k, .int .i64 b, .int .i64 x, .int .i64 t, .int .i64 l] 23)).alloc (.cells #[.string sec, .string rnd, .string pub] 25)).alloc (.cells #[.int .i64 p0, .int .i64 p1, .int .i64 lf, .int .i64 0] 27) = W0 := ⟨_, rfl⟩
  have HF := hide (show FiveC w.heap.size W0 k b x t l by subst hW; refine ⟨?_, ?_, ?_, ?_, ?_⟩ <;> simp [go_sem])
  have HSE := hide (show W0.cell? ⟨w.heap.size + 1, 0, none⟩ = some (.string sec) ∧ W0.cell? ⟨w.heap.size + 1, 1, none⟩ = some (.string rnd) ∧ W0.cell? ⟨w.heap.size + 1, 2, none⟩ = some (.string pub) by subst hW; refine ⟨?_, ?_, ?_⟩ <;> simp [go_sem])
  have HPP := hide (show FourC (w.heap.size + 1 + 1) W0 p0 p1 lf 0 by subst hW; refine ⟨?_, ?_, ?_, ?_⟩ <;> simp [go_sem])
  have HB := hide (show Below w.heap.size w W0 by subst hW; exact (((Below.refl _ _).alloc (Nat.le_refl _) _).alloc (by simp) _).alloc (by simp; omega) _)
  have hz : W0.heap.size ≤ w.heap.size + 3 := by subst hW; simp
  have hz' : w.heap.size + 3 ≤ W0.heap.size := by subst hW; simp
  have HTT := hide (hT.on HB.out)
  have HC := hide (fun (V : World) (h : Below W0.heap.size W0 V) => (by
    obtain ⟨c0, c1, c2, c3, c4⟩ := HF.out.below h (by omega)
    obtain ⟨d0, d1, d2, d3⟩ := HPP.out.below h (by omega)
    exact ⟨c0, c1, c2, c3, c4, (h.cell (p := ⟨w.heap.size + 1, 0, none⟩) (by show w.heap.size + 1 < _; omega)).trans HSE.out.1, (h.cell (p := ⟨w.heap.size + 1, 1, none⟩) (by show w.heap.size + 1 < _; omega)).trans HSE.out.2.1, (h.cell (p := ⟨w.heap.size + 1, 2, none⟩) (by show w.heap.size + 1 < _; omega)).trans HSE.out.2.2, d0, d1, d2, d3⟩ : V.cell? ⟨w.heap.size, 0, none⟩ = some (.int .i64 k) ∧ V.cell? ⟨w.heap.size, 1, none⟩ = some (.int .i64 b) ∧ V.cell? ⟨w.heap.size, 2, none⟩ = some (.int .i64 x) ∧ V.cell? ⟨w.heap.size, 3, none⟩ = some (.int .i64 t) ∧ V.cell? ⟨w.heap.size, 4, none⟩ = some (.int .i64 l) ∧ V.cell? ⟨w.heap.size + 1, 0, none⟩ = some (.string sec) ∧ V.cell? ⟨w.heap.size + 1, 1, none⟩ = some (.string rnd) ∧ V.cell? ⟨w.heap.size + 1, 2, none⟩ = some (.string pub) ∧ V.cell? ⟨w.heap.size + 1 + 1, 0, none⟩ = some (.int .i64 p0) ∧ V.cell? ⟨w.heap.size + 1 + 1, 1, none⟩ = some (.int .i64 p1) ∧ V.cell? ⟨w.heap.size + 1 + 1, 2, none⟩ = some (.int .i64 lf) ∧ V.cell? ⟨w.heap.size + 1 + 1, 3, none⟩ = some (.int .i64 0)))
  have HSK := hide hS
  have HN := hide hN
  have HL1 := hide hL1
  have HL0 := hide hL0
  have HLN := hide hLn
  have HLB := hide hLb
  have HBR := hide (fun V : World => bare_any p0 p1 lf 0 V)
  clear hT hS hN hL1 hL0 hLn hLb
  have HWE := hide hW
  clear hW
  go_enter Tryz.func21, Tryz.ntmps21
  go_wp2_with fail
  rw [HWE.out]
  clear HWE
  go_loopw [9] (fun h wr => ∃ j : Nat, j ≤ t ∧ h = .int .i64 (j : Int) ∧ Hid (Below W0.heap.size W0 wr)) (fun h _ => t - (intOf h).toNat)
  case atStart => exact ⟨0, Nat.zero_le _, rfl, Below.refl _ _⟩
  case round =>
    obtain ⟨h, hh, rfl, hb⟩ := hrel
    obtain ⟨c0, c1, c2, c3, c4, s0, s1, s2, d0, d1, d2, d3⟩ := HC.out _ hb.out
    by_cases hlt : h < t
    · have hlti : (h : Int) < (t : Int) := by omega
      obtain ⟨wo, rfl⟩ : ∃ wo : World, wo = wr := ⟨_, rfl⟩
      have HQ := hide (HSK.out h wo hlt (HB.out.trans (hb.out.mono HB.out.size)))
      have hn1 := HL1.out h hlt
      have hn0 := fun e => HL0.out e h hlt
      have HN1 := hide (HLN.out h hlt)
      have HB1 := hide (HLB.out h hlt)
      generalize L h = Lh at HQ hn1 hn0 HN1 HB1
      clear c0 c1 c2 c4 s0 s1 s2 d0 d1 d2 d3
      go_wp2_with fail
      go_at_call 46
      refine HQ.out.mono ?_
      rintro e w3 ⟨v, rfl, hr, hb3⟩
      have HB3 := hide (heldB hb.out hb3 (Nat.le_refl _))
      clear hb3 HQ hb c3
      obtain ⟨c0, c1, c2, c3, c4, s0, s1, s2, d0, d1, d2, d3⟩ := HC.out _ HB3.out
      obtain ⟨sp, cp, hv, hcell⟩ : ∃ sp cp, v = .slice sp Lh.length cp ∧ (0 < Lh.length → ∃ g, sp = some ⟨g, 0, none⟩ ∧ g < w3.heap.size ∧ ∀ i p, Lh[i]? = some p → w3.cell? ⟨g, i * 3, none⟩ = some (.int .i64 (p.1 : Int)) ∧ w3.cell? ⟨g, i * 3 + 1, none⟩ = some (.int .i64 (p.2 : Int)) ∧ w3.cell? ⟨g, i * 3 + 2, none⟩ = some (.string (tv p.1 p.2))) := by
        rcases Nat.eq_zero_or_pos Lh.length with h0 | h0
        · rcases hr.2 with ⟨rfl, -⟩ | ⟨g, cap, cur, rfl, -⟩
          · exact ⟨_, _, by rw [h0], fun h => by omega⟩
          · exact ⟨_, _, rfl, fun h => by omega⟩
        · obtain ⟨g, cap, rfl, -, hg⟩ := hr.form h0
          refine ⟨_, _, rfl, fun _ => ⟨g, rfl, hg, fun i p hp => ?_⟩⟩
          have hi : i < Lh.length := (List.getElem?_eq_some_iff.1 hp).1
          have hp' : (Lh.map (ndT tv))[i]? = some (ndT tv p) := by rw [List.getElem?_map, hp]; rfl
          refine ⟨?_, ?_, ?_⟩
          · rw [hr.cellAt (i * 3) (by omega)]; exact nodC_get hp' 0 (by decide)
          · rw [hr.cellAt (i * 3 + 1) (by omega)]; exact nodC_get hp' 1 (by decide)
          · rw [hr.cellAt (i * 3 + 2) (by omega)]; exact nodC_get hp' 2 (by decide)
      subst hv
      clear hr
      obtain ⟨n, hne⟩ : ∃ n, Lh.length = n := ⟨_, rfl⟩
      have HNE := hide hne
      rw [hne] at hn1 hn0 hcell ⊢
      have HCELL := hide hcell
      have q1 : ((lf : Int) == 0) = decide (lf = 0) := by rw [Bool.eq_iff_iff]; simp
      have q2 : ¬ (h : Int) + 1 < (n : Int) := by omega
      have q3 : IntKind.i64.wrap ((h : Int) + 1) = (h : Int) + 1 := by rw [IntKind.wrap_i64] <;> omega
      have q4 : lf = 0 → ((n : Int) != 1) = false := fun e => by rw [hn0 e]; rfl
      clear hne hcell
      by_cases hl0 : lf = 0
      all_goals
        first
          | (have q5 := q4 hl0; have q6 : ((lf : Int) == 0) = true := by rw [q1]; exact decide_eq_true hl0)
          | (have q6 : ((lf : Int) == 0) = false := by rw [q1]; exact decide_eq_false hl0)
        clear q1 q4 hn0 hn1 hl0
        go_wp2_with fail
        clear q6 c0 c1 c2 c3 c4 s0 s1 s2 d0 d1 d2 d3
        try clear q5
        go_loopw [12] (fun i wr => ∃ j : Nat, j ≤ n ∧ i = .int .i64 (j : Int) ∧ Hid (Below w3.heap.size w3 wr)) (fun i _ => n - (intOf i).toNat)
        case atStart => exact ⟨0, Nat.zero_le _, rfl, Below.refl _ _⟩
        case round =>
          obtain ⟨i, hi, rfl, hb4⟩ := hrel
          have HB4 := hide (heldB HB3.out hb4.out (Nat.le_refl _))
          by_cases hlt2 : i < n
          · have hin : (i : Int) < (n : Int) := by omega
            obtain ⟨g, rfl, hg, hce⟩ := HCELL.out (by omega)
            obtain ⟨p, hp⟩ : ∃ p, Lh[i]? = some p := ⟨_, List.getElem?_eq_getElem (by rw [HNE.out]; exact hlt2)⟩
            obtain ⟨m1, m2⟩ := HN1.out p (List.mem_of_getElem? hp)
            have m3 : p.1 ≤ t := by omega
            have HNO := hide (HN.out p.1 p.2 m3 m2)
            have HCE := hide (fun V (hV : Below wr.heap.size wr V) => (by
              have hv := heldB hb4.out hV (Nat.le_refl _)
              obtain ⟨e0, e1, e2⟩ := hce i p hp
              exact ⟨(hv.cell (p := ⟨g, i * 3, none⟩) hg).trans e0, (hv.cell (p := ⟨g, i * 3 + 1, none⟩) hg).trans e1, (hv.cell (p := ⟨g, i * 3 + 2, none⟩) hg).trans e2⟩ : V.cell? ⟨g, i * 3, none⟩ = some (.int .i64 (p.1 : Int)) ∧ V.cell? ⟨g, i * 3 + 1, none⟩ = some (.int .i64 (p.2 : Int)) ∧ V.cell? ⟨g, i * 3 + 2, none⟩ = some (.string (tv p.1 p.2))))
            have HPREV := hide (fun V (hV : Below wr.heap.size wr V) i' (hi' : i' + 1 = i) => (by
              obtain ⟨q, hq⟩ : ∃ q, Lh[i']? = some q := ⟨_, List.getElem?_eq_getElem (by rw [HNE.out]; omega)⟩
              have hv := heldB hb4.out hV (Nat.le_refl _)
              obtain ⟨e0, e1, e2⟩ := hce i' q hq
              obtain ⟨b1, b2⟩ := HB1.out i' q p hq (by rw [hi']; exact hp)
              obtain ⟨n1, n2⟩ := HN1.out q (List.mem_of_getElem? hq)
              exact ⟨q, (hv.cell (p := ⟨g, i' * 3, none⟩) hg).trans e0, (hv.cell (p := ⟨g, i' * 3 + 1, none⟩) hg).trans e1, b1, b2, n1, n2⟩ : ∃ q : Hk, V.cell? ⟨g, i' * 3, none⟩ = some (.int .i64 (q.1 : Int)) ∧ V.cell? ⟨g, i' * 3 + 1, none⟩ = some (.int .i64 (q.2 : Int)) ∧ p.1 < q.1 ∧ p.2 * 2 ^ p.1 = (q.2 + 1) * 2 ^ q.1 ∧ q.1 ≤ h ∧ q.2 < 2 ^ (t - q.1)))
            have hp2 : p.2 < 16 := Nat.lt_of_lt_of_le m2 (Nat.le_trans (Nat.pow_le_pow_right (by decide) (show t - p.1 ≤ 4 by omega)) (by decide))
            generalize p.1 = ph at *
            generalize p.2 = pn at *
            generalize hty : tv ph pn = ty at *
            clear hty hp hce
            have HS := hide (fun (V : World) (hV : Below wr.heap.size wr V) => (by
              obtain ⟨c0, c1, c2, c3, c4, s0, s1, s2, d0, d1, d2, d3⟩ := HC.out V (heldB HB4.out hV (Nat.le_refl _))
              exact ⟨c0, c1, c2, c3, c4, s0, s1, s2, d0, d1, d2, d3, HCE.out V hV⟩ : V.cell? ⟨w.heap.size, 0, none⟩ = some (.int .i64 k) ∧ V.cell? ⟨w.heap.size, 1, none⟩ = some (.int .i64 b) ∧ V.cell? ⟨w.heap.size, 2, none⟩ = some (.int .i64 x) ∧ V.cell? ⟨w.heap.size, 3, none⟩ = some (.int .i64 t) ∧ V.cell? ⟨w.heap.size, 4, none⟩ = some (.int .i64 l) ∧ V.cell? ⟨w.heap.size + 1, 0, none⟩ = some (.string sec) ∧ V.cell? ⟨w.heap.size + 1, 1, none⟩ = some (.string rnd) ∧ V.cell? ⟨w.heap.size + 1, 2, none⟩ = some (.string pub) ∧ V.cell? ⟨w.heap.size + 1 + 1, 0, none⟩ = some (.int .i64 p0) ∧ V.cell? ⟨w.heap.size + 1 + 1, 1, none⟩ = some (.int .i64 p1) ∧ V.cell? ⟨w.heap.size + 1 + 1, 2, none⟩ = some (.int .i64 lf) ∧ V.cell? ⟨w.heap.size + 1 + 1, 3, none⟩ = some (.int .i64 0) ∧ V.cell? ⟨g, i * 3, none⟩ = some (.int .i64 (ph : Int)) ∧ V.cell? ⟨g, i * 3 + 1, none⟩ = some (.int .i64 (pn : Int)) ∧ V.cell? ⟨g, i * 3 + 2, none⟩ = some (.string ty)))
            go_wp2_with fail
            go_region_held3 (fun V => V.cell? ⟨w.heap.size, 0, none⟩ = some (.int .i64 k) ∧ V.cell? ⟨w.heap.size, 1, none⟩ = some (.int .i64 b) ∧ V.cell? ⟨w.heap.size, 2, none⟩ = some (.int .i64 x) ∧ V.cell? ⟨w.heap.size, 3, none⟩ = some (.int .i64 t) ∧ V.cell? ⟨w.heap.size, 4, none⟩ = some (.int .i64 l) ∧ V.cell? ⟨w.heap.size + 1, 0, none⟩ = some (.string sec) ∧ V.cell? ⟨w.heap.size + 1, 1, none⟩ = some (.string rnd) ∧ V.cell? ⟨w.heap.size + 1, 2, none⟩ = some (.string pub) ∧ V.cell? ⟨w.heap.size + 1 + 1, 0, none⟩ = some (.int .i64 p0) ∧ V.cell? ⟨w.heap.size + 1 + 1, 1, none⟩ = some (.int .i64 p1) ∧ V.cell? ⟨w.heap.size + 1 + 1, 2, none⟩ = some (.int .i64 lf) ∧ V.cell? ⟨w.heap.size + 1 + 1, 3, none⟩ = some (.int .i64 0) ∧ V.cell? ⟨g, i * 3, none⟩ = some (.int .i64 (ph : Int)) ∧ V.cell? ⟨g, i * 3 + 1, none⟩ = some (.int .i64 (pn : Int)) ∧ V.cell? ⟨g, i * 3 + 2, none⟩ = some (.string ty)) (first | exact HS.out _ hS2 | exact HS.out _ hS1 | exact HS.out _ (Below.refl wr.heap.size wr).drew) (first | (go_at_call 13; refine (HBR.out _).mono ?_; rintro e w4 ⟨rfl, hb5⟩; have hS1 := heldB (Below.refl wr.heap.size wr).drew hb5 (Nat.le_refl _)) | (go_at_call 19; refine (HNO.out _ (HTT.out.on (heldB HB4.out hS1 (Nat.le_refl _)))).mono ?_; rintro e w5 ⟨rfl, hb6⟩; have hS2 := heldB hS1 hb6 (Nat.le_refl _)))
            have HB5 := hide hS2
            clear hS1 hS2 hb5 hb6
            obtain ⟨e0, e1, e2⟩ := HCE.out _ HB5.out
            have t1 : (ty.toList != ty.toList) = false := bne_self_eq_false _
            have t2 : ¬ (h : Int) < (ph : Int) := by omega
            have HBE := hide (heldB hb4.out HB5.out (Nat.le_refl _))
            rcases Nat.eq_zero_or_pos i with hi0 | hi0
            · subst hi0
              go_wp2_with fail
              go_quiet (fail)
              go_wp2
              go_roundw
              case rel =>
                refine ⟨0 + 1, by omega, by go_num, ?_⟩
                exact below_drewN HBE.out _
              case measure => simp [intOf]; omega
            · obtain ⟨i', hi'⟩ : ∃ i', i' + 1 = i := ⟨i - 1, by omega⟩
              obtain ⟨q, f0, f1, f2, f3, f4, f5⟩ := HPREV.out _ HB5.out i' hi'
              have hq2 : q.2 < 16 := Nat.lt_of_lt_of_le f5 (Nat.le_trans (Nat.pow_le_pow_right (by decide) (show t - q.1 ≤ 4 by omega)) (by decide))
              generalize q.1 = qh at *
              generalize q.2 = qn at *
              have e3 : ((2 : Int) ^ ph) = ((2 ^ ph : Nat) : Int) := by simp
              have e4 : ((2 : Int) ^ qh) = ((2 ^ qh : Nat) : Int) := by simp
              have z1 : 2 ^ ph ≤ 16 := Nat.le_trans (Nat.pow_le_pow_right (by decide) (show ph ≤ 4 by omega)) (by decide)
              have z2 : pn * 2 ^ ph ≤ 16 * 16 := Nat.mul_le_mul (by omega) z1
              obtain ⟨N, hN⟩ : ∃ N, pn * 2 ^ ph = N := ⟨_, rfl⟩
              have y1 : IntKind.i64.wrap ((pn : Int) * 2 ^ ph) = (N : Int) := by
                rw [e3, ← Int.natCast_mul, hN, IntKind.wrap_i64] <;> omega
              have y2 : IntKind.i64.wrap (((qn : Int) + 1) * 2 ^ qh) = (N : Int) := by
                rw [e4, show ((qn : Int) + 1) = ((qn + 1 : Nat) : Int) by omega, ← Int.natCast_mul, ← f3, hN, IntKind.wrap_i64] <;> omega
              have y3 : IntKind.i64.wrap ((qn : Int) + 1) = (qn : Int) + 1 := by rw [IntKind.wrap_i64] <;> omega
              have y4 : IntKind.i64.wrap ((i : Int) - 1) = (i' : Int) := by rw [show (i : Int) - 1 = (i' : Int) by omega, IntKind.wrap_i64] <;> omega
              have y5 : (i' : Int) < (n : Int) := by omega
              have y6 : ¬ (qh : Int) ≤ (ph : Int) := by omega
              have y7 : (0 : Int) < (i : Int) := by omega
              have y8 : decide ((qh : Int) ≤ (ph : Int)) = false := decide_eq_false y6
              have y9 : ¬ qh ≤ ph := by omega
              have y11 : wrap64 (((qn : Int) + 1) * 2 ^ min (IntKind.u64.wrap (qh : Int)).toNat 64) = (N : Int) := by
                rw [show IntKind.u64.wrap (qh : Int) = (qh : Int) by rw [IntKind.wrap_u64] <;> omega, Int.toNat_natCast, Nat.min_eq_left (by omega), e4, show ((qn : Int) + 1) = ((qn + 1 : Nat) : Int) by omega, ← Int.natCast_mul, ← f3, hN]
                exact w64Y _ (by omega)
              have y10 : decide (qh ≤ ph) = false := decide_eq_false y9
              clear f2 f3 f4 f5 e3 e4 z1 z2 hN hi' m2
              go_wp2_with fail
              go_quiet (fail)
              go_wp2
              go_roundw
              case rel =>
                refine ⟨i + 1, by omega, by go_num, ?_⟩
                exact below_drewN HBE.out _
              case measure => simp [intOf]; omega
          · go_wp2_with fail
            go_roundw
            case rel =>
              have R : ∃ j : Nat, j ≤ t ∧ Value.int .i64 ((h : Int) + 1) = .int .i64 (j : Int) ∧ Hid (Below W0.heap.size W0 wr) := ⟨h + 1, by omega, by go_num, HB4⟩
              first | exact R | ((repeat apply Exists.intro); exact ⟨R, rfl⟩)
            case measure => simp [intOf]; omega
    · have hlti : ¬ (h : Int) < (t : Int) := by omega
      go_wp2_with fail
      go_ret
      exact ⟨rfl, HB.out.trans (hb.out.mono HB.out.size)⟩
end Go.Proofs.YtgaoeoijdpdjiaaGreatDoor
