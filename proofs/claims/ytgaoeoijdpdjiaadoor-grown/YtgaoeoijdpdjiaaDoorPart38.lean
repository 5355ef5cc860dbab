/-
  The statement's own nodes: a leaf is what its chains make; above, each node is the digest of the two below.
-/
import Derived.Test.YtgaoeoijdpdjiaaDoorPart30
import Derived.Test.YtgaoeoijdpdjiaaDoorPart35
import Derived.Test.YtgaoeoijdpdjiaaDoorPart34
namespace Go.Proofs.YtgaoeoijdpdjiaaDoor
open Go.RowKit

theorem not_empty {s : ByteArray} {b : Int} (h : (s.size : Int) = b) (hb : 1 ≤ b) : s.toList.isEmpty = false := by
  rw [List.isEmpty_eq_false_iff, ByteArray.toList_eq]
  intro e
  have h2 := congrArg List.length e
  have h3 : s.size = s.data.toList.length := rfl
  rw [h2] at h3
  rw [h3] at h
  simp at h
  omega

set_option maxRecDepth 20000 in
set_option maxHeartbeats 8000000 in
theorem keepNodes_on (k b x l p0 p1 p3 : Int) (t lf : Nat) (sec rnd pub : ByteArray) (nd : Nat → Nat → ByteArray) (w : World) (hk : k = 1 ∨ k = 2) (h1 : 1 ≤ b) (h2 : b ≤ 16) (hp : pub.size ≤ 16) (ht : t ≤ 4) (hlf : lf < 2 ^ t) (q0 : 0 ≤ p0 ∧ p0 ≤ 100000) (q1 : 0 ≤ p1 ∧ p1 ≤ 100000) (hT : Tn w) (hsz : ∀ h j, ((nd h j).size : Int) = b)
    (hst : ∀ m q : Nat, hv k b (numB 1 4 ++ (pub ++ numB 1 p0 ++ numB 4 p1 ++ numB 1 ((m + 1 : Nat) : Int) ++ numB 1 q ++ nd m (2 * q) ++ nd m (2 * q + 1))) = nd (m + 1) q)
    (hBr : ∀ V : World, Calls Tryd.prog 34 #[.agg #[.int .i64 p0, .int .i64 p1, .int .i64 lf, .int .i64 p3]] V fun e w' => e = .returned (.agg #[.int .i64 p0, .int .i64 p1, .int .i64 0, .int .i64 0]) ∧ Below V.heap.size V w')
    (hN : ∀ h j : Nat, h ≤ t → j < 2 ^ (t - h) → ∀ V : World, Tn V → Calls Tryd.prog 33 #[.agg #[.int .i64 k, .int .i64 b, .int .i64 x, .int .i64 t, .int .i64 l], .agg #[.string sec, .string rnd, .string pub], .agg #[.int .i64 p0, .int .i64 p1, .int .i64 0, .int .i64 0], .int .i64 h, .int .i64 j] V fun r w' => r = .returned (.tuple #[.string (nd h j), .int .i64 0]) ∧ Below V.heap.size V w')
    (hL : ∀ V : World, Tn V → Calls Tryd.prog 35 #[.agg #[.int .i64 k, .int .i64 b, .int .i64 x, .int .i64 t, .int .i64 l], .agg #[.string sec, .string rnd, .string pub], .agg #[.int .i64 p0, .int .i64 p1, .int .i64 lf, .int .i64 0]] V fun r w' => r = .returned (.string (nd 0 lf)) ∧ Below V.heap.size V w') :
    Calls Tryd.prog 17 #[.agg #[.int .i64 k, .int .i64 b, .int .i64 x, .int .i64 t, .int .i64 l], .agg #[.string sec, .string rnd, .string pub], .agg #[.int .i64 p0, .int .i64 p1, .int .i64 lf, .int .i64 p3]] w fun e w' => e = .returned (.bool true) ∧ Below w.heap.size w w' := by
  have hlf2 : lf ≤ 16 := Nat.le_of_lt (Nat.lt_of_lt_of_le hlf (Nat.le_trans (Nat.pow_le_pow_right (by decide) ht) (by decide)))
  obtain ⟨W0, hW⟩ : ∃ W0, ((w.alloc (.cells #[.int .i64 k, .int .i64 b, .int .i64 x, .int .i64 t, .int .i64 l] 25)).alloc (.cells #[.string sec, .string rnd, .string pub] 33)).alloc (.cells #[.int .i64 p0, .int .i64 p1, .int .i64 lf, .int .i64 p3] 27) = W0 := ⟨_, rfl⟩
  have HF := hide (show FiveC w.heap.size W0 k b x t l by subst hW; refine ⟨?_, ?_, ?_, ?_, ?_⟩ <;> simp [go_sem])
  have HSE := hide (show W0.cell? ⟨w.heap.size + 1, 0, none⟩ = some (.string sec) ∧ W0.cell? ⟨w.heap.size + 1, 1, none⟩ = some (.string rnd) ∧ W0.cell? ⟨w.heap.size + 1, 2, none⟩ = some (.string pub) by subst hW; refine ⟨?_, ?_, ?_⟩ <;> simp [go_sem])
  have HP := hide (show FourC (w.heap.size + 1 + 1) W0 p0 p1 lf p3 by subst hW; refine ⟨?_, ?_, ?_, ?_⟩ <;> simp [go_sem])
  have HB := hide (show Below w.heap.size w W0 by subst hW; exact (((Below.refl _ _).alloc (Nat.le_refl _) _).alloc (by simp) _).alloc (by simp; omega) _)
  have hz : W0.heap.size ≤ w.heap.size + 3 := by subst hW; simp
  have hz' : w.heap.size + 3 ≤ W0.heap.size := by subst hW; simp
  have HTT := hide (hT.on HB.out)
  have HS := hide (fun (V : World) (h : Below W0.heap.size W0 V) => (by
    obtain ⟨c0, c1, c2, c3, c4⟩ := HF.out.below h (by omega)
    obtain ⟨d0, d1, d2, d3⟩ := HP.out.below h (by omega)
    exact ⟨c0, c1, c2, c3, c4, (h.cell (p := ⟨w.heap.size + 1, 0, none⟩) (by show w.heap.size + 1 < _; omega)).trans HSE.out.1, (h.cell (p := ⟨w.heap.size + 1, 1, none⟩) (by show w.heap.size + 1 < _; omega)).trans HSE.out.2.1, (h.cell (p := ⟨w.heap.size + 1, 2, none⟩) (by show w.heap.size + 1 < _; omega)).trans HSE.out.2.2, d0, d1, d2, d3⟩ : V.cell? ⟨w.heap.size, 0, none⟩ = some (.int .i64 k) ∧ V.cell? ⟨w.heap.size, 1, none⟩ = some (.int .i64 b) ∧ V.cell? ⟨w.heap.size, 2, none⟩ = some (.int .i64 x) ∧ V.cell? ⟨w.heap.size, 3, none⟩ = some (.int .i64 t) ∧ V.cell? ⟨w.heap.size, 4, none⟩ = some (.int .i64 l) ∧ V.cell? ⟨w.heap.size + 1, 0, none⟩ = some (.string sec) ∧ V.cell? ⟨w.heap.size + 1, 1, none⟩ = some (.string rnd) ∧ V.cell? ⟨w.heap.size + 1, 2, none⟩ = some (.string pub) ∧ V.cell? ⟨w.heap.size + 1 + 1, 0, none⟩ = some (.int .i64 p0) ∧ V.cell? ⟨w.heap.size + 1 + 1, 1, none⟩ = some (.int .i64 p1) ∧ V.cell? ⟨w.heap.size + 1 + 1, 2, none⟩ = some (.int .i64 lf) ∧ V.cell? ⟨w.heap.size + 1 + 1, 3, none⟩ = some (.int .i64 p3)))
  have HBR := hide hBr
  have HN := hide hN
  have HL := hide hL
  have HSZ := hide hsz
  have HST := hide hst
  have HN0 := hide (hN 0 lf (by omega) (by simpa using hlf))
  have e0 := not_empty (hsz 0 lf) h1
  have HNU0 := hide (fun V : World => keepNumber_any 1 p0 V (by decide) q0.1 (by omega))
  have HNU1 := hide (fun V : World => keepNumber_any 4 p1 V (by decide) q1.1 (by omega))
  have cc1 := sadd pub (numB 1 p0) (by omega) (by rw [numB_size]; omega)
  have cc2 := sadd (pub ++ numB 1 p0) (numB 4 p1) (by simp only [ByteArray.size_append, numB_size]; omega) (by rw [numB_size]; omega)
  have hhd : (pub ++ numB 1 p0 ++ numB 4 p1).size ≤ 32 := by simp only [ByteArray.size_append, numB_size]; omega
  have HTG := hide (fun (s : ByteArray) (hs : s.size ≤ 300) (V : World) (hV : Tn V) => tagged_any k b x t l 4 s V hk h1 h2 (by omega) (by omega) (by omega) hV)
  clear hT hBr hN hL hsz hst q0 q1
  have HWE := hide hW
  clear hW
  go_enter Tryd.func17, Tryd.ntmps17
  go_wp2_with fail
  rw [HWE.out]
  clear HWE
  go_wp2_with fail
  go_region_held3 (fun V => V.cell? ⟨w.heap.size, 0, none⟩ = some (.int .i64 k) ∧ V.cell? ⟨w.heap.size, 1, none⟩ = some (.int .i64 b) ∧ V.cell? ⟨w.heap.size, 2, none⟩ = some (.int .i64 x) ∧ V.cell? ⟨w.heap.size, 3, none⟩ = some (.int .i64 t) ∧ V.cell? ⟨w.heap.size, 4, none⟩ = some (.int .i64 l) ∧ V.cell? ⟨w.heap.size + 1, 0, none⟩ = some (.string sec) ∧ V.cell? ⟨w.heap.size + 1, 1, none⟩ = some (.string rnd) ∧ V.cell? ⟨w.heap.size + 1, 2, none⟩ = some (.string pub) ∧ V.cell? ⟨w.heap.size + 1 + 1, 0, none⟩ = some (.int .i64 p0) ∧ V.cell? ⟨w.heap.size + 1 + 1, 1, none⟩ = some (.int .i64 p1) ∧ V.cell? ⟨w.heap.size + 1 + 1, 2, none⟩ = some (.int .i64 lf) ∧ V.cell? ⟨w.heap.size + 1 + 1, 3, none⟩ = some (.int .i64 p3)) (first | exact HS.out _ hS2 | exact HS.out _ hS1 | exact HS.out _ (Below.refl W0.heap.size W0).drew) (first | (go_at_call 34; refine (HBR.out _).mono ?_; rintro e w1 ⟨rfl, hb1⟩; have hS1 := heldB (Below.refl W0.heap.size W0).drew hb1 (Nat.le_refl _)) | (go_at_call 33; refine (HN0.out _ (HTT.out.on hS1)).mono ?_; rintro e w2 ⟨rfl, hb2⟩; have hS2 := heldB hS1 hb2 (Nat.le_refl _)))
  have HB2 := hide hS2
  clear hS1 hS2 hb1 hb2
  obtain ⟨c0, c1, c2, c3, c4, s0, s1, s2, d0, d1, d2, d3⟩ := HS.out _ HB2.out
  go_wp2_with fail
  refine (HL.out _ (HTT.out.on HB2.out)).mono ?_
  rintro e w3 ⟨rfl, hb3⟩
  have HB3 := hide (heldB HB2.out hb3 (Nat.le_refl _))
  clear hb3 HB2 c0 c1 c2 c3 c4 s0 s1 s2 d0 d1 d2 d3
  go_wp2_with fail
  go_region_held3 (fun V => V.cell? ⟨w.heap.size, 0, none⟩ = some (.int .i64 k) ∧ V.cell? ⟨w.heap.size, 1, none⟩ = some (.int .i64 b) ∧ V.cell? ⟨w.heap.size, 2, none⟩ = some (.int .i64 x) ∧ V.cell? ⟨w.heap.size, 3, none⟩ = some (.int .i64 t) ∧ V.cell? ⟨w.heap.size, 4, none⟩ = some (.int .i64 l) ∧ V.cell? ⟨w.heap.size + 1, 0, none⟩ = some (.string sec) ∧ V.cell? ⟨w.heap.size + 1, 1, none⟩ = some (.string rnd) ∧ V.cell? ⟨w.heap.size + 1, 2, none⟩ = some (.string pub) ∧ V.cell? ⟨w.heap.size + 1 + 1, 0, none⟩ = some (.int .i64 p0) ∧ V.cell? ⟨w.heap.size + 1 + 1, 1, none⟩ = some (.int .i64 p1) ∧ V.cell? ⟨w.heap.size + 1 + 1, 2, none⟩ = some (.int .i64 lf) ∧ V.cell? ⟨w.heap.size + 1 + 1, 3, none⟩ = some (.int .i64 p3)) (first | exact HS.out _ hS5 | exact HS.out _ hS4 | exact HS.out _ HB3.out.drew) (first | (go_at_call 36; have hx := hS4; clear hx; refine (HNU1.out _).mono ?_; rintro e w5 ⟨rfl, hb5⟩; have hS5 := heldB hS4 hb5 (Nat.le_refl _)) | (go_at_call 36; refine (HNU0.out _).mono ?_; rintro e w4 ⟨rfl, hb4⟩; have hS4 := heldB HB3.out.drew hb4 (Nat.le_refl _)))
  have HB5 := hide hS5
  clear hS4 hS5 hb4 hb5 HB3 cc1 cc2 e0
  generalize pub ++ numB 1 p0 ++ numB 4 p1 = hdS at HST hhd ⊢
  obtain ⟨c0, c1, c2, c3, c4, s0, s1, s2, d0, d1, d2, d3⟩ := HS.out _ HB5.out
  go_wp2_with fail
  trace_state
  go_loopw [11, 12] (fun j h wr => ∃ m : Nat, m ≤ t ∧ h = .int .i64 ((m : Int) + 1) ∧ j = .int .i64 ((lf / 2 ^ m : Nat) : Int) ∧ Hid (Below W0.heap.size W0 wr)) (fun _ h _ => t + 1 - (intOf h).toNat)
  case atStart => exact ⟨0, Nat.zero_le _, by simp, by simp, HB5.out⟩
  case round =>
    clear c0 c1 c2 c3 c4 s0 s1 s2 d0 d1 d2 d3
    obtain ⟨m, hm, rfl, rfl, hb⟩ := hrel
    obtain ⟨c0, c1, c2, c3, c4, s0, s1, s2, d0, d1, d2, d3⟩ := HS.out _ hb.out
    by_cases hlt : m < t
    · obtain ⟨q, hq⟩ : ∃ q, lf / 2 ^ m = q := ⟨_, rfl⟩
      have hqb : q < 2 ^ (t - m) := by
        rw [← hq]
        refine Nat.div_lt_of_lt_mul ?_
        rw [← Nat.pow_add, show m + (t - m) = t by omega]
        exact hlf
      have hq16 : q ≤ 16 := by rw [← hq]; exact Nat.le_trans (Nat.div_le_self _ _) hlf2
      have HQ1 := hide (show lf / 2 ^ (m + 1) = q / 2 by rw [← hq, Nat.pow_succ, Nat.div_div_eq_div_mul])
      have htd := tdiv_two q
      rw [hq]
      clear hq
      obtain ⟨r, hr⟩ : ∃ r, q / 2 = r := ⟨_, rfl⟩
      rw [hr] at HQ1 htd
      have hp2 : 2 ^ (t - m) = 2 * 2 ^ (t - (m + 1)) := by rw [← Nat.pow_succ']; congr 1; omega
      have hr1 : r < 2 ^ (t - (m + 1)) := by omega
      have hr2 : 2 * r + 1 < 2 ^ (t - m) := by omega
      have hr16 : r ≤ 8 := by omega
      have HNA := hide (HN.out m (2 * r) (by omega) (by omega))
      have HNB := hide (HN.out m (2 * r + 1) (by omega) hr2)
      have HNC := hide (HN.out (m + 1) r (by omega) hr1)
      have g1 := HSZ.out m (2 * r)
      have g2 := HSZ.out m (2 * r + 1)
      have HTC := hide (fun (V : World) (hV : Tn V) => (by
        have h := HTG.out (hdS ++ numB 1 ((m + 1 : Nat) : Int) ++ numB 1 r ++ nd m (2 * r) ++ nd m (2 * r + 1)) (by simp only [ByteArray.size_append, numB_size]; omega) V hV
        rw [HST.out m r] at h
        exact h : Calls Tryd.prog 37 #[.agg #[.int .i64 k, .int .i64 b, .int .i64 x, .int .i64 t, .int .i64 l], .int .i64 4, .string (hdS ++ numB 1 ((m + 1 : Nat) : Int) ++ numB 1 r ++ nd m (2 * r) ++ nd m (2 * r + 1))] V fun e w' => e = .returned (.string (nd (m + 1) r)) ∧ Below V.heap.size V w'))
      have e1 := not_empty (HSZ.out (m + 1) r) h1
      have HN1 := hide (fun V : World => keepNumber_any 1 ((m + 1 : Nat) : Int) V (by decide) (by omega) (by omega))
      have HN2 := hide (fun V : World => keepNumber_any 1 (r : Int) V (by decide) (by omega) (by omega))
      have cc1 := sadd hdS (numB 1 ((m + 1 : Nat) : Int)) (by omega) (by rw [numB_size]; omega)
      have cc2 := sadd (hdS ++ numB 1 ((m + 1 : Nat) : Int)) (numB 1 r) (by simp only [ByteArray.size_append, numB_size]; omega) (by rw [numB_size]; omega)
      have cc3 := sadd (hdS ++ numB 1 ((m + 1 : Nat) : Int) ++ numB 1 r) (nd m (2 * r)) (by simp only [ByteArray.size_append, numB_size]; omega) (by omega)
      have cc4 := sadd (hdS ++ numB 1 ((m + 1 : Nat) : Int) ++ numB 1 r ++ nd m (2 * r)) (nd m (2 * r + 1)) (by simp only [ByteArray.size_append, numB_size]; omega) (by omega)
      generalize nd m (2 * r) = lS at HNA HTC cc3 cc4 g1
      generalize nd m (2 * r + 1) = rS at HNB HTC cc4 g2
      generalize nd (m + 1) r = uS at HNC HTC e1
      have hm1 : ((m : Int) + 1) = ((m + 1 : Nat) : Int) := by omega
      have v1 : IntKind.i64.wrap (((m + 1 : Nat) : Int) - 1) = (m : Int) := by rw [IntKind.wrap_i64] <;> omega
      have v0 : IntKind.i64.wrap (r : Int) = (r : Int) := by rw [IntKind.wrap_i64] <;> omega
      have v2 : IntKind.i64.wrap ((r : Int) * 2) = ((2 * r : Nat) : Int) := by rw [IntKind.wrap_i64] <;> omega
      have v3 : IntKind.i64.wrap (((2 * r : Nat) : Int) + 1) = ((2 * r + 1 : Nat) : Int) := by rw [IntKind.wrap_i64] <;> omega
      have hle : ((m + 1 : Nat) : Int) ≤ (t : Int) := by omega
      have hM16 : m + 1 ≤ 4 := by omega
      rw [hm1]
      have HM1 := hide hm1
      clear hm1 hqb hp2 hr1 hr2 hr c0 c1 c2 c4 s0 s1 s2 d0 d1 d2 d3
      obtain ⟨M1, hM1⟩ : ∃ M1 : Nat, m + 1 = M1 := ⟨_, rfl⟩
      obtain ⟨R2, hR2⟩ : ∃ R2 : Nat, 2 * r = R2 := ⟨_, rfl⟩
      obtain ⟨R3, hR3⟩ : ∃ R3 : Nat, 2 * r + 1 = R3 := ⟨_, rfl⟩
      rw [hR3] at HNB v3
      rw [hR2] at HNA v2 v3
      rw [hM1] at HNC HTC HN1 cc1 cc2 cc3 cc4 v1 hle HM1 HQ1 hM16 ⊢
      have HM2 := hide hM1
      clear hR2 hR3 hM1 g1 g2
      go_wp2_with fail
      go_region_held3 (fun V => V.cell? ⟨w.heap.size, 0, none⟩ = some (.int .i64 k) ∧ V.cell? ⟨w.heap.size, 1, none⟩ = some (.int .i64 b) ∧ V.cell? ⟨w.heap.size, 2, none⟩ = some (.int .i64 x) ∧ V.cell? ⟨w.heap.size, 3, none⟩ = some (.int .i64 t) ∧ V.cell? ⟨w.heap.size, 4, none⟩ = some (.int .i64 l) ∧ V.cell? ⟨w.heap.size + 1, 0, none⟩ = some (.string sec) ∧ V.cell? ⟨w.heap.size + 1, 1, none⟩ = some (.string rnd) ∧ V.cell? ⟨w.heap.size + 1, 2, none⟩ = some (.string pub) ∧ V.cell? ⟨w.heap.size + 1 + 1, 0, none⟩ = some (.int .i64 p0) ∧ V.cell? ⟨w.heap.size + 1 + 1, 1, none⟩ = some (.int .i64 p1) ∧ V.cell? ⟨w.heap.size + 1 + 1, 2, none⟩ = some (.int .i64 lf) ∧ V.cell? ⟨w.heap.size + 1 + 1, 3, none⟩ = some (.int .i64 p3)) (first | exact HS.out _ hS12 | exact HS.out _ hS11 | exact HS.out _ hb.out.drew) (first | (go_at_call 34; refine (HBR.out _).mono ?_; rintro e w11 ⟨rfl, hb11⟩; have hS11 := heldB hb.out.drew hb11 (Nat.le_refl _)) | (go_at_call 33; refine (HNA.out _ (HTT.out.on hS11)).mono ?_; rintro e w12 ⟨rfl, hb12⟩; have hS12 := heldB hS11 hb12 (Nat.le_refl _)))
      have HB12 := hide hS12
      clear hS11 hS12 hb11 hb12
      go_wp2_with fail
      go_region_held3 (fun V => V.cell? ⟨w.heap.size, 0, none⟩ = some (.int .i64 k) ∧ V.cell? ⟨w.heap.size, 1, none⟩ = some (.int .i64 b) ∧ V.cell? ⟨w.heap.size, 2, none⟩ = some (.int .i64 x) ∧ V.cell? ⟨w.heap.size, 3, none⟩ = some (.int .i64 t) ∧ V.cell? ⟨w.heap.size, 4, none⟩ = some (.int .i64 l) ∧ V.cell? ⟨w.heap.size + 1, 0, none⟩ = some (.string sec) ∧ V.cell? ⟨w.heap.size + 1, 1, none⟩ = some (.string rnd) ∧ V.cell? ⟨w.heap.size + 1, 2, none⟩ = some (.string pub) ∧ V.cell? ⟨w.heap.size + 1 + 1, 0, none⟩ = some (.int .i64 p0) ∧ V.cell? ⟨w.heap.size + 1 + 1, 1, none⟩ = some (.int .i64 p1) ∧ V.cell? ⟨w.heap.size + 1 + 1, 2, none⟩ = some (.int .i64 lf) ∧ V.cell? ⟨w.heap.size + 1 + 1, 3, none⟩ = some (.int .i64 p3)) (first | exact HS.out _ hS14 | exact HS.out _ hS13 | exact HS.out _ HB12.out.drew) (first | (go_at_call 34; refine (HBR.out _).mono ?_; rintro e w13 ⟨rfl, hb13⟩; have hS13 := heldB HB12.out.drew hb13 (Nat.le_refl _)) | (go_at_call 33; refine (HNB.out _ (HTT.out.on hS13)).mono ?_; rintro e w14 ⟨rfl, hb14⟩; have hS14 := heldB hS13 hb14 (Nat.le_refl _)))
      have HB14 := hide hS14
      clear hS13 hS14 hb13 hb14
      clear HB12
      go_wp2_with fail
      go_region_held3 (fun V => V.cell? ⟨w.heap.size, 0, none⟩ = some (.int .i64 k) ∧ V.cell? ⟨w.heap.size, 1, none⟩ = some (.int .i64 b) ∧ V.cell? ⟨w.heap.size, 2, none⟩ = some (.int .i64 x) ∧ V.cell? ⟨w.heap.size, 3, none⟩ = some (.int .i64 t) ∧ V.cell? ⟨w.heap.size, 4, none⟩ = some (.int .i64 l) ∧ V.cell? ⟨w.heap.size + 1, 0, none⟩ = some (.string sec) ∧ V.cell? ⟨w.heap.size + 1, 1, none⟩ = some (.string rnd) ∧ V.cell? ⟨w.heap.size + 1, 2, none⟩ = some (.string pub) ∧ V.cell? ⟨w.heap.size + 1 + 1, 0, none⟩ = some (.int .i64 p0) ∧ V.cell? ⟨w.heap.size + 1 + 1, 1, none⟩ = some (.int .i64 p1) ∧ V.cell? ⟨w.heap.size + 1 + 1, 2, none⟩ = some (.int .i64 lf) ∧ V.cell? ⟨w.heap.size + 1 + 1, 3, none⟩ = some (.int .i64 p3)) (first | exact HS.out _ hS16 | exact HS.out _ hS15 | exact HS.out _ HB14.out.drew) (first | (go_at_call 34; refine (HBR.out _).mono ?_; rintro e w15 ⟨rfl, hb15⟩; have hS15 := heldB HB14.out.drew hb15 (Nat.le_refl _)) | (go_at_call 33; refine (HNC.out _ (HTT.out.on hS15)).mono ?_; rintro e w16 ⟨rfl, hb16⟩; have hS16 := heldB hS15 hb16 (Nat.le_refl _)))
      have HB16 := hide hS16
      clear hS15 hS16 hb15 hb16
      clear HB14
      go_wp2_with fail
      go_region_held3 (fun V => V.cell? ⟨w.heap.size, 0, none⟩ = some (.int .i64 k) ∧ V.cell? ⟨w.heap.size, 1, none⟩ = some (.int .i64 b) ∧ V.cell? ⟨w.heap.size, 2, none⟩ = some (.int .i64 x) ∧ V.cell? ⟨w.heap.size, 3, none⟩ = some (.int .i64 t) ∧ V.cell? ⟨w.heap.size, 4, none⟩ = some (.int .i64 l) ∧ V.cell? ⟨w.heap.size + 1, 0, none⟩ = some (.string sec) ∧ V.cell? ⟨w.heap.size + 1, 1, none⟩ = some (.string rnd) ∧ V.cell? ⟨w.heap.size + 1, 2, none⟩ = some (.string pub) ∧ V.cell? ⟨w.heap.size + 1 + 1, 0, none⟩ = some (.int .i64 p0) ∧ V.cell? ⟨w.heap.size + 1 + 1, 1, none⟩ = some (.int .i64 p1) ∧ V.cell? ⟨w.heap.size + 1 + 1, 2, none⟩ = some (.int .i64 lf) ∧ V.cell? ⟨w.heap.size + 1 + 1, 3, none⟩ = some (.int .i64 p3)) (first | exact HS.out _ hS19 | exact HS.out _ hS18 | exact HS.out _ hS17 | exact HS.out _ HB16.out.drew) (first | (go_at_call 36; have hx := hS17; clear hx; refine (HN2.out _).mono ?_; rintro e w18 ⟨rfl, hb18⟩; have hS18 := heldB hS17 hb18 (Nat.le_refl _)) | (go_at_call 36; refine (HN1.out _).mono ?_; rintro e w17 ⟨rfl, hb17⟩; have hS17 := heldB HB16.out.drew hb17 (Nat.le_refl _)) | (go_at_call 37; refine (HTC.out _ (HTT.out.on hS18)).mono ?_; rintro e w19 ⟨rfl, hb19⟩; have hS19 := heldB hS18 hb19 (Nat.le_refl _)))
      have HB19 := hide hS19
      clear hS17 hS18 hS19 hb17 hb18 hb19 cc1 cc2 cc3 cc4 HB16
      go_wp2
      go_roundw
      case rel =>
        have R : ∃ m' : Nat, m' ≤ t ∧ Value.int .i64 ((M1 : Int) + 1) = .int .i64 ((m' : Int) + 1) ∧ Value.int .i64 (r : Int) = .int .i64 ((lf / 2 ^ m' : Nat) : Int) ∧ Hid (Below W0.heap.size W0 w19) := ⟨m + 1, by omega, by rw [HM2.out], by have := HM2.out; rw [this, HQ1.out], HB19.out⟩
        first | exact R | ((repeat apply Exists.intro); exact ⟨R, rfl⟩)
      case measure => have := HM2.out; simp [intOf]; omega
    · obtain rfl : m = t := by omega
      have hgt : ¬ ((m : Int) + 1 ≤ (m : Int)) := by omega
      go_wp2
      go_ret
      exact ⟨rfl, HB.out.trans (hb.out.mono (by omega))⟩
end Go.Proofs.YtgaoeoijdpdjiaaDoor
