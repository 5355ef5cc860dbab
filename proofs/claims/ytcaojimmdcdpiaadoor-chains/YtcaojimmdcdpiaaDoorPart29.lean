/-
  The document's own leaf. The document's own node.
-/
import Derived.Test.YtcaojimmdcdpiaaDoorPart27
import Derived.Test.YtcaojimmdcdpiaaDoorPart28
import Derived.Test.YtcaojimmdcdpiaaDoorPart23
namespace Go.Proofs.YtcaojimmdcdpiaaDoor
open Go.RowKit

theorem grownBy_cell (W : World) (g i : Nat) (v : Value) : W.grownBy (W.setCell ⟨g, i, none⟩ v) (some g) :=
  ⟨rfl, rfl, rfl, by simp [World.setCell], fun k _ hk => Below.heap_setCell _ _ _ _ (fun e => hk (by rw [e]))⟩
theorem own_ne {w : World} {base : Nat} {e : TypeId} {s : Nat} {v : Value} {n : Nat} {xs : List Value} (h : w.ownsRow base e s v n xs) {g : Nat} (hg : g < base) : v.ownBlock = none ∨ v.ownBlock ≠ some g := by
  cases hv : v.ownBlock with
  | none => exact .inl rfl
  | some p =>
    refine .inr (fun e => ?_)
    have := (owns_lt h p hv).1
    simp at e
    omega
theorem blk_grown {w w' : World} {g : Nat} {vs : List Value} {T : TypeId} {row : Option Nat} (h : Blk w g vs T) (hg : w.grownBy w' row) (hne : ∀ p, row = some p → g < p) : Blk w' g vs T := by
  have hlt := h.lt
  unfold Blk at h ⊢
  rw [hg.block g hlt (fun e => by have := hne g e.symm; omega)]
  exact h

set_option maxRecDepth 20000 in
set_option maxHeartbeats 8000000 in
theorem rleaf_any (k x t l p0 p1 p2 p3 a0 a1 a3 a4 a5 : Int) (b : Nat) (sec rnd pub : ByteArray) (ch wd : Nat) (w : World) (hk : k = 1 ∨ k = 2) (h1 : 1 ≤ b) (h2 : b ≤ 16) (hs : sec.size ≤ 16) (hp : pub.size ≤ 16) (hc1 : 1 ≤ ch) (hc2 : ch ≤ 64) (hwd : wd ≤ 15) (hx : x = (wd : Int) + 1) (q0 : 0 ≤ p0 ∧ p0 ≤ 100000) (q1 : 0 ≤ p1 ∧ p1 ≤ 100000) (q2 : 0 ≤ p2 ∧ p2 ≤ 100000)
    (hsz : ∀ V : World, Calls Tryd.prog 76 #[.agg #[.int .i64 k, .int .i64 b, .int .i64 x, .int .i64 t, .int .i64 l]] V fun r w' => r = .returned (.agg #[.int .i64 a0, .int .i64 a1, .int .i64 ch, .int .i64 a3, .int .i64 a4, .int .i64 a5]) ∧ Below V.heap.size V w') :
    Calls Tryd.prog 108 #[.agg #[.int .i64 k, .int .i64 b, .int .i64 x, .int .i64 t, .int .i64 l], .agg #[.string sec, .string rnd, .string pub], .agg #[.int .i64 p0, .int .i64 p1, .int .i64 p2, .int .i64 p3]] w fun e w' => e = .returned (.string (leafS k b wd ch sec pub p0 p1 p2)) ∧ Below w.heap.size w w' := by
  obtain ⟨i0, hi, hz0, hz1, hz2⟩ := info_parts infoStr
  have hx1 : 1 ≤ x := by omega
  have hx2 : x ≤ 16 := by omega
  have HSZ := hide hsz
  have HST := hide (fun (m : Nat) (hm : m ≤ 64) (V : World) => rstart_any k x t l p0 p1 p2 m b sec rnd pub V hk h1 h2 hs q0 q1 q2 (by omega))
  have HCH := hide (fun (m : Nat) (hm : m ≤ 64) (V : World) => (by
    have h := rchain_any k x t l p0 p1 p2 m b pub (startS k b sec p0 p1 p2 m) 0 hk h1 h2 hp (startS_size k b sec p0 p1 p2 m hk (by omega) (by omega) hs) q0 q1 q2 (by omega) wd (by omega) V
    rw [show ((0 + wd : Nat) : Int) = x - 1 by omega] at h
    exact h : Calls Tryd.prog 72 #[.agg #[.int .i64 k, .int .i64 b, .int .i64 x, .int .i64 t, .int .i64 l], .string pub, .agg #[.int .i64 p0, .int .i64 p1, .int .i64 p2, .int .i64 m], .int .i64 0, .int .i64 (x - 1), .string (startS k b sec p0 p1 p2 m)] V fun e w' => e = .returned (.string (endS k b wd sec pub p0 p1 p2 m)) ∧ Below V.heap.size V w'))
  have HFO := hide (fun (z : Int) (V : World) (g c : Nat) (hg : g < V.heap.size) (hc : (endsS k b wd sec pub p0 p1 p2 ch).length ≤ c) (hce : ∀ (j : Nat) y, (endsS k b wd sec pub p0 p1 p2 ch)[j]? = some y → V.cell? ⟨g, 0 + j, none⟩ = some (.string y)) => (by
    have h := rfold_any k x t l p0 p1 p2 z b pub hk h1 h2 hp q0 q1 q2 6 0 g 0 c (endsS k b wd sec pub p0 p1 p2 ch) V (by omega) hce hg hc (by rw [endsS_length]; exact hc1) (by rw [endsS_length]; omega) (by rw [endsS_length]; exact hc2) (endsS_size k b wd sec pub p0 p1 p2 ch hk (by omega) (by omega) hs hp)
    exact h : Calls Tryd.prog 78 #[.agg #[.int .i64 k, .int .i64 b, .int .i64 x, .int .i64 t, .int .i64 l], .string pub, .agg #[.int .i64 p0, .int .i64 p1, .int .i64 p2, .int .i64 z], .int .i64 (0 : Nat), .slice (some ⟨g, 0, none⟩) (endsS k b wd sec pub p0 p1 p2 ch).length c] V fun e w' => e = .returned (.string (foldS k b pub p0 p1 p2 6 (0 : Nat) (endsS k b wd sec pub p0 p1 p2 ch))) ∧ Below V.heap.size V w'))
  have HES := hide (fun m => endsS_succ k b wd sec pub p0 p1 p2 m)
  have HEL := hide (fun m => endsS_length k b wd sec pub p0 p1 p2 m)
  clear hsz q0 q1 q2 hx
  obtain ⟨W0, hW⟩ : ∃ W0, (w.alloc (.cells #[.int .i64 k, .int .i64 b, .int .i64 x, .int .i64 t, .int .i64 l] 25)).alloc (.cells #[.string sec, .string rnd, .string pub] 27) = W0 := ⟨_, rfl⟩
  have hzT : W0.heap.size ≤ w.heap.size + 2 := by subst hW; simp
  have hzT' : w.heap.size + 2 ≤ W0.heap.size := by subst hW; simp
  have HF := hide (show FiveC w.heap.size W0 k b x t l by subst hW; refine ⟨?_, ?_, ?_, ?_, ?_⟩ <;> simp [go_sem])
  have HC := hide (show W0.cell? ⟨w.heap.size + 1, 0, none⟩ = some (.string sec) ∧ W0.cell? ⟨w.heap.size + 1, 1, none⟩ = some (.string rnd) ∧ W0.cell? ⟨w.heap.size + 1, 2, none⟩ = some (.string pub) by subst hW; refine ⟨?_, ?_, ?_⟩ <;> simp [go_sem])
  have HB := hide (show Below w.heap.size w W0 by subst hW; exact ((Below.refl _ _).alloc (Nat.le_refl _) _).alloc (by simp) _)
  have HP0 := hide (show Blk (W0.alloc (.cells #[.int .i64 p0, .int .i64 p1, .int .i64 p2, .int .i64 p3] 29)) (w.heap.size + 2) [.int .i64 p0, .int .i64 p1, .int .i64 p2, .int .i64 p3] 29 by have h := Blk.new W0 [.int .i64 p0, .int .i64 p1, .int .i64 p2, .int .i64 p3] 29; rw [show W0.heap.size = w.heap.size + 2 by omega] at h; exact h)
  have HWE := hide hW
  clear hW
  go_enter Tryd.func108, Tryd.ntmps108
  go_wp2_with fail
  refine (HSZ.out _).mono ?_
  rintro e w1 ⟨rfl, hb1⟩
  rw [HWE.out] at hb1
  have HB1 := hide (show Below (w.heap.size + 2) W0 w1 from ((Below.refl _ W0).alloc (by omega) _).trans (hb1.mono (by simp; omega)))
  have HP1 := hide (HP0.out.on hb1)
  have hz1' : w.heap.size + 2 < w1.heap.size := HP1.out.lt
  clear hb1 HWE
  have HZ := hide (show Blk (w1.alloc (.cells #[.int .i64 a0, .int .i64 a1, .int .i64 ch, .int .i64 a3, .int .i64 a4, .int .i64 a5] 106)) w1.heap.size [.int .i64 a0, .int .i64 a1, .int .i64 ch, .int .i64 a3, .int .i64 a4, .int .i64 a5] 106 from Blk.new _ _ _)
  have HBA := hide (HB1.out.alloc (by omega) (.cells #[.int .i64 a0, .int .i64 a1, .int .i64 ch, .int .i64 a3, .int .i64 a4, .int .i64 a5] 106))
  have HPA := hide (HP1.out.alloc (.cells #[.int .i64 a0, .int .i64 a1, .int .i64 ch, .int .i64 a3, .int .i64 a4, .int .i64 a5] 106))
  have hzA : (w1.alloc (.cells #[.int .i64 a0, .int .i64 a1, .int .i64 ch, .int .i64 a3, .int .i64 a4, .int .i64 a5] 106)).heap.size = w1.heap.size + 1 := by simp
  go_wp2_with fail
  obtain ⟨WA, hWA⟩ : ∃ WA, w1.alloc (.cells #[.int .i64 a0, .int .i64 a1, .int .i64 ch, .int .i64 a3, .int .i64 a4, .int .i64 a5] 106) = WA := ⟨_, rfl⟩
  rw [hWA] at HZ HBA HPA hzA ⊢
  clear hWA HB1 HP1
  go_loopw [8, 9] (fun v i wr => ∃ (m : Nat) (z : Int), m ≤ ch ∧ i = .int .i64 m ∧ Hid (Blk wr (w.heap.size + 2) [.int .i64 p0, .int .i64 p1, .int .i64 p2, .int .i64 z] 29) ∧ Hid (Blk wr w1.heap.size [.int .i64 a0, .int .i64 a1, .int .i64 ch, .int .i64 a3, .int .i64 a4, .int .i64 a5] 106) ∧ Hid (wr.ownsRow (w1.heap.size + 1) 9 1 v m ((endsS k b wd sec pub p0 p1 p2 m).map Value.string)) ∧ Hid (Below (w.heap.size + 2) W0 wr) ∧ w1.heap.size + 1 ≤ wr.heap.size) (fun _ i _ => ch - (intOf i).toNat)
  case atStart => exact ⟨0, p3, Nat.zero_le _, rfl, HPA.out, HZ.out, World.ownsRow_nil _ _ _ _, HBA.out, by omega⟩
  case round =>
    obtain ⟨m, z, hm, rfl, hat, hsz, ho, hb, hzr⟩ := hrel
    have zc := hsz.out.cell 2
    have a3' := hat.out.cell 3
    have fz := hat.out.free 3
    obtain ⟨c0, c1, c2, c3, c4⟩ := HF.out.below hb.out (by omega)
    have s0 := (hb.out.cell (p := ⟨w.heap.size + 1, 0, none⟩) (by show w.heap.size + 1 < _; omega)).trans HC.out.1
    have s1 := (hb.out.cell (p := ⟨w.heap.size + 1, 1, none⟩) (by show w.heap.size + 1 < _; omega)).trans HC.out.2.1
    have s2 := (hb.out.cell (p := ⟨w.heap.size + 1, 2, none⟩) (by show w.heap.size + 1 < _; omega)).trans HC.out.2.2
    have d0 := hat.out.cell 0
    have d1 := hat.out.cell 1
    have d2 := hat.out.cell 2
    simp only [List.getElem?_cons_zero, List.getElem?_cons_succ] at zc a3' d0 d1 d2
    by_cases hlt : m < ch
    · have HBV := hide (hb.out.setCell (p := ⟨w.heap.size + 2, 3, none⟩) (Nat.le_refl _) (.int .i64 m))
      have HAV := hide (hat.out.set 3 (.int .i64 m))
      have HZV := hide (hsz.out.other (a := ⟨w.heap.size + 2, 3, none⟩) (.int .i64 m) (by simp; omega))
      have HOV := hide (ho.out.kept (grownBy_cell wr (w.heap.size + 2) 3 (.int .i64 m)) (own_ne ho.out (by omega)))
      have hzV : w1.heap.size + 1 ≤ (wr.setCell ⟨w.heap.size + 2, 3, none⟩ (.int .i64 m)).heap.size := by simp [World.setCell]; omega
      have HSM := hide (HST.out m (by omega) (wr.setCell ⟨w.heap.size + 2, 3, none⟩ (.int .i64 m)))
      go_wp2_with fail
      refine HSM.out.mono ?_
      rintro e w2 ⟨rfl, hb2⟩
      have HB2 := hide (heldN HBV.out hb2 (by omega))
      have HA2 := hide (HAV.out.on hb2)
      have HZ2 := hide (HZV.out.on hb2)
      have HO2 := hide (HOV.out.kept (grown_of_below hb2) (by cases Value.ownBlock _ with | none => exact .inl rfl | some _ => exact .inr (by simp)))
      have hz2' : w1.heap.size + 1 ≤ w2.heap.size := Nat.le_trans hzV hb2.size
      clear hb2 hzV HBV HAV HZV HOV HSM zc a3' fz c0 c1 c2 c3 c4 s0 s1 s2 d0 d1 d2 hat hsz ho hb hzr
      obtain ⟨c0, c1, c2, c3, c4⟩ := HF.out.below HB2.out (by omega)
      have s2 := (HB2.out.cell (p := ⟨w.heap.size + 1, 2, none⟩) (by show w.heap.size + 1 < _; omega)).trans HC.out.2.2
      have d0 := HA2.out.cell 0
      have d1 := HA2.out.cell 1
      have d2 := HA2.out.cell 2
      have d3 := HA2.out.cell 3
      simp only [List.set_cons_succ, List.set_cons_zero, List.getElem?_cons_zero, List.getElem?_cons_succ] at d0 d1 d2 d3
      have HCM := hide (HCH.out m (by omega) w2)
      go_wp2_with fail
      refine HCM.out.mono ?_
      rintro e w3 ⟨rfl, hb3⟩
      have HB3 := hide (heldN HB2.out hb3 (by omega))
      have HA3 := hide (HA2.out.on hb3)
      have HZ3 := hide (HZ2.out.on hb3)
      have HO3 := hide (HO2.out.kept (grown_of_below hb3) (by cases Value.ownBlock _ with | none => exact .inl rfl | some _ => exact .inr (by simp)))
      have hz3' : w1.heap.size + 1 ≤ w3.heap.size := Nat.le_trans hz2' hb3.size
      clear hb3 hz2' HB2 HA2 HZ2 HO2 HCM c0 c1 c2 c3 c4 s2 d0 d1 d2 d3
      have HSU := hide (HES.out m)
      generalize endS k b wd sec pub p0 p1 p2 m = en at HSU ⊢
      go_wp2_with (at_builtin; refine wpList_append_own _ rfl _ _ 34 rfl (w1.heap.size + 1) 9 i0 (.string ⟨#[]⟩) 1 16 Tryd.underlying34 hi hz0 hz1 hz2 rfl (by decide) _ _ _ rfl (HO3.out.alloc _) ⟨w3.heap.size, 0, none⟩ 1 1 [_] rfl rfl (one_new _ _ _) ?c2 ?c3 ?c4 ?c5 ?_)
      case c2 => intro y hy; simp at hy; subst hy; rfl
      case c3 => unfold maxLen; omega
      case c4 => omega
      case c5 => simp; omega
      intro v' w6 ho6 hgrow _
      have HB6 := hide ((HB3.out.alloc (by omega) _).grown hgrow (by simp; omega) (fun p hp => by have := (owns_lt HO3.out p hp).1; omega))
      have HO6 : Hid (w6.ownsRow (w1.heap.size + 1) 9 1 v' (m + 1) ((endsS k b wd sec pub p0 p1 p2 (m + 1)).map Value.string)) := by
        show w6.ownsRow (w1.heap.size + 1) 9 1 v' (m + 1) ((endsS k b wd sec pub p0 p1 p2 (m + 1)).map Value.string)
        rw [HSU.out, List.map_append]
        exact ho6
      have HA6 := hide (blk_grown (HA3.out.alloc _) hgrow (fun p hp => by have := (owns_lt HO3.out p hp).1; omega))
      have HZ6 := hide (blk_grown (HZ3.out.alloc _) hgrow (fun p hp => by have := (owns_lt HO3.out p hp).1; omega))
      have hz6' : w1.heap.size + 1 ≤ w6.heap.size := by have := hgrow.size; simp at this; omega
      clear ho6 hgrow HO3 HB3 HA3 HZ3 hz3'
      go_wp2
      go_roundw
      case rel =>
        have R : ∃ (m' : Nat) (z : Int), m' ≤ ch ∧ Value.int .i64 ((m : Int) + 1) = .int .i64 m' ∧ Hid (Blk w6 (w.heap.size + 2) [.int .i64 p0, .int .i64 p1, .int .i64 p2, .int .i64 z] 29) ∧ Hid (Blk w6 w1.heap.size [.int .i64 a0, .int .i64 a1, .int .i64 ch, .int .i64 a3, .int .i64 a4, .int .i64 a5] 106) ∧ Hid (w6.ownsRow (w1.heap.size + 1) 9 1 v' m' ((endsS k b wd sec pub p0 p1 p2 m').map Value.string)) ∧ Hid (Below (w.heap.size + 2) W0 w6) ∧ w1.heap.size + 1 ≤ w6.heap.size := ⟨m + 1, m, by omega, by go_num, HA6.out, HZ6.out, HO6.out, HB6.out, hz6'⟩
        first | exact R | ((repeat apply Exists.intro); exact ⟨R, rfl⟩)
      case measure => simp [intOf]; omega
    · obtain rfl : m = ch := by omega
      have hel := HEL.out m
      have HO := ho.out
      obtain ⟨g', c', rfl, hcc, hg1, hg2, hce'⟩ := owns_strs (ys := endsS k b wd sec pub p0 p1 p2 m) (by rw [hel]; exact HO) (by omega)
      have HFM := hide (HFO.out z wr g' c' hg2 hcc hce')
      rw [hel] at HFM
      have HLS : Hid (leafS k b wd m sec pub p0 p1 p2 = foldS k b pub p0 p1 p2 6 (0 : Nat) (endsS k b wd sec pub p0 p1 p2 m)) := rfl
      rw [← HLS.out] at HFM
      have HBW := hide (HB.out.trans (hb.out.mono (by omega)))
      clear hce' HO hsz ho hat hb hcc
      obtain ⟨lf, hlf⟩ : ∃ lf, leafS k b wd m sec pub p0 p1 p2 = lf := ⟨_, rfl⟩
      rw [hlf] at HFM
      have HLF := hide hlf
      clear hlf HLS
      go_wp2_with fail
      refine HFM.out.mono ?_
      rintro e w2 ⟨rfl, hb2⟩
      have HB2 := hide (HBW.out.trans (hb2.mono HBW.out.size))
      clear hb2 zc a3' fz c0 c1 c2 c3 c4 s0 s1 s2 d0 d1 d2
      go_wp2
      go_ret
      exact ⟨by rw [HLF.out]; rfl, HB2.out⟩
end Go.Proofs.YtcaojimmdcdpiaaDoor

namespace Go.Proofs.YtcaojimmdcdpiaaDoor
open Go.RowKit

set_option maxRecDepth 20000 in
set_option maxHeartbeats 4000000 in
theorem rnode_any (k x t l p0 p1 p2 p3 a0 a1 a3 a4 a5 : Int) (b : Nat) (sec rnd pub : ByteArray) (ch wd : Nat) (hk : k = 1 ∨ k = 2) (h1 : 1 ≤ b) (h2 : b ≤ 16) (hs : sec.size ≤ 16) (hp : pub.size ≤ 16) (hc1 : 1 ≤ ch) (hc2 : ch ≤ 64) (hwd : wd ≤ 15) (hx : x = (wd : Int) + 1) (q0 : 0 ≤ p0 ∧ p0 ≤ 100000) (q1 : 0 ≤ p1 ∧ p1 ≤ 100000)
    (hsz : ∀ V : World, Calls Tryd.prog 76 #[.agg #[.int .i64 k, .int .i64 b, .int .i64 x, .int .i64 t, .int .i64 l]] V fun r w' => r = .returned (.agg #[.int .i64 a0, .int .i64 a1, .int .i64 ch, .int .i64 a3, .int .i64 a4, .int .i64 a5]) ∧ Below V.heap.size V w') : ∀ (h : Nat) (_ : h ≤ 4) (j : Nat) (_ : (j + 1) * 2 ^ h ≤ 16) (w : World),
    Calls Tryd.prog 74 #[.agg #[.int .i64 k, .int .i64 b, .int .i64 x, .int .i64 t, .int .i64 l], .agg #[.string sec, .string rnd, .string pub], .agg #[.int .i64 p0, .int .i64 p1, .int .i64 p2, .int .i64 p3], .int .i64 h, .int .i64 j] w fun e w' => e = .returned (.string (nodeS k b wd ch sec pub p0 p1 h j)) ∧ Below w.heap.size w w' := by
  intro h
  induction h with
  | zero =>
    intro _ j hj w
    have HL := hide (rleaf_any k x t l p0 p1 j p3 a0 a1 a3 a4 a5 b sec rnd pub ch wd (((w.alloc (.cells #[.int .i64 k, .int .i64 b, .int .i64 x, .int .i64 t, .int .i64 l] 25)).alloc (.cells #[.string sec, .string rnd, .string pub] 27)).alloc (.cells #[.int .i64 p0, .int .i64 p1, .int .i64 j, .int .i64 p3] 29)) hk h1 h2 hs hp hc1 hc2 hwd hx q0 q1 (by simp at hj; omega) hsz)
    clear hx hsz
    rw [show nodeS k b wd ch sec pub p0 p1 0 j = leafS k b wd ch sec pub p0 p1 j by rw [nodeS]]
    generalize leafS k b wd ch sec pub p0 p1 j = lf at HL ⊢
    go_enter Tryd.func74, Tryd.ntmps74
    go_wp2_with fail
    refine HL.out.mono ?_
    rintro e w1 ⟨rfl, hb1⟩
    have HB1 := hide (((((Below.refl w.heap.size w).alloc (Nat.le_refl _) _).alloc (by simp) _).alloc (by simp; omega) _).trans (hb1.mono (by simp; omega)))
    clear hb1
    go_wp2
    go_ret
    exact ⟨rfl, HB1.out⟩
  | succ h ih =>
    intro hh j hj w
    obtain ⟨W0, hW⟩ : ∃ W0, ((w.alloc (.cells #[.int .i64 k, .int .i64 b, .int .i64 x, .int .i64 t, .int .i64 l] 25)).alloc (.cells #[.string sec, .string rnd, .string pub] 27)).alloc (.cells #[.int .i64 p0, .int .i64 p1, .int .i64 p2, .int .i64 p3] 29) = W0 := ⟨_, rfl⟩
    have HF := hide (show FiveC w.heap.size W0 k b x t l by subst hW; refine ⟨?_, ?_, ?_, ?_, ?_⟩ <;> simp [go_sem])
    have HC := hide (show W0.cell? ⟨w.heap.size + 1, 0, none⟩ = some (.string sec) ∧ W0.cell? ⟨w.heap.size + 1, 1, none⟩ = some (.string rnd) ∧ W0.cell? ⟨w.heap.size + 1, 2, none⟩ = some (.string pub) by subst hW; refine ⟨?_, ?_, ?_⟩ <;> simp [go_sem])
    have HP := hide (show FourC (w.heap.size + 1 + 1) W0 p0 p1 p2 p3 by subst hW; refine ⟨?_, ?_, ?_, ?_⟩ <;> simp [go_sem])
    have HB := hide (show Below w.heap.size w W0 by subst hW; exact (((Below.refl _ _).alloc (Nat.le_refl _) _).alloc (by simp) _).alloc (by simp; omega) _)
    have hz : W0.heap.size ≤ w.heap.size + 3 := by subst hW; simp
    have hz' : w.heap.size + 3 ≤ W0.heap.size := by subst hW; simp
    have hp2 : 1 ≤ 2 ^ h := Nat.one_le_two_pow
    have hj' : (j + 1) * 2 * 2 ^ h ≤ 16 := by rw [Nat.pow_succ] at hj; rw [Nat.mul_assoc, Nat.mul_comm 2]; exact hj
    have hjb : j ≤ 7 := by
      have : (j + 1) * 2 * 1 ≤ 16 := Nat.le_trans (Nat.mul_le_mul_left _ hp2) hj'
      omega
    have H1 := hide (fun (V : World) => ih (by omega) (2 * j) (Nat.le_trans (Nat.mul_le_mul_right _ (by omega)) hj') V)
    have H2 := hide (fun (V : World) => ih (by omega) (2 * j + 1) (Nat.le_trans (Nat.mul_le_mul_right _ (by omega)) hj') V)
    have s1 := nodeS_size k b wd ch sec pub p0 p1 hk (by omega) (by omega) hs hp hc1 h (2 * j)
    have s2 := nodeS_size k b wd ch sec pub p0 p1 hk (by omega) (by omega) hs hp hc1 h (2 * j + 1)
    have HJ := hide (fun (V : World) => rjoin_any k x t l p0 p1 p2 p3 (h + 1 : Nat) j b pub (nodeS k b wd ch sec pub p0 p1 h (2 * j)) (nodeS k b wd ch sec pub p0 p1 h (2 * j + 1)) V hk h1 h2 hp (by omega) (by omega) q0 q1 (by omega) (by omega))
    have HN : Hid (nodeS k b wd ch sec pub p0 p1 (h + 1) j = joinS k b pub p0 p1 (h + 1 : Nat) j (nodeS k b wd ch sec pub p0 p1 h (2 * j)) (nodeS k b wd ch sec pub p0 p1 h (2 * j + 1))) := rfl
    rw [HN.out]
    clear s1 s2 ih hp2 hj' hj hx hsz q0 q1
    generalize nodeS k b wd ch sec pub p0 p1 h (2 * j) = na at H1 HJ HN ⊢
    generalize nodeS k b wd ch sec pub p0 p1 h (2 * j + 1) = nb at H2 HJ HN ⊢
    obtain ⟨Hh, hHh⟩ : ∃ Hh : Int, ((h + 1 : Nat) : Int) = Hh := ⟨_, rfl⟩
    have e1 : ((h : Nat) : Int) = Hh - 1 := by omega
    have e2 : ((2 * j : Nat) : Int) = 2 * (j : Int) := by omega
    have e3 : ((2 * j + 1 : Nat) : Int) = 2 * (j : Int) + 1 := by omega
    rw [e1, e2] at H1
    rw [e1, e3] at H2
    rw [hHh] at HJ HN ⊢
    have g1 : 1 ≤ Hh := by omega
    have g2 : Hh ≤ 4 := by omega
    clear e1 e2 e3 hHh
    have HS := hide (fun (V : World) (h : Below W0.heap.size W0 V) => (by
      obtain ⟨c0, c1, c2, c3, c4⟩ := HF.out.below h (by omega)
      obtain ⟨d0, d1, d2, d3⟩ := HP.out.below h (by omega)
      exact ⟨c0, c1, c2, c3, c4, (h.cell (p := ⟨w.heap.size + 1, 0, none⟩) (by show w.heap.size + 1 < _; omega)).trans HC.out.1, (h.cell (p := ⟨w.heap.size + 1, 1, none⟩) (by show w.heap.size + 1 < _; omega)).trans HC.out.2.1, (h.cell (p := ⟨w.heap.size + 1, 2, none⟩) (by show w.heap.size + 1 < _; omega)).trans HC.out.2.2, d0, d1, d2, d3⟩ : V.cell? ⟨w.heap.size, 0, none⟩ = some (.int .i64 k) ∧ V.cell? ⟨w.heap.size, 1, none⟩ = some (.int .i64 b) ∧ V.cell? ⟨w.heap.size, 2, none⟩ = some (.int .i64 x) ∧ V.cell? ⟨w.heap.size, 3, none⟩ = some (.int .i64 t) ∧ V.cell? ⟨w.heap.size, 4, none⟩ = some (.int .i64 l) ∧ V.cell? ⟨w.heap.size + 1, 0, none⟩ = some (.string sec) ∧ V.cell? ⟨w.heap.size + 1, 1, none⟩ = some (.string rnd) ∧ V.cell? ⟨w.heap.size + 1, 2, none⟩ = some (.string pub) ∧ V.cell? ⟨w.heap.size + 1 + 1, 0, none⟩ = some (.int .i64 p0) ∧ V.cell? ⟨w.heap.size + 1 + 1, 1, none⟩ = some (.int .i64 p1) ∧ V.cell? ⟨w.heap.size + 1 + 1, 2, none⟩ = some (.int .i64 p2) ∧ V.cell? ⟨w.heap.size + 1 + 1, 3, none⟩ = some (.int .i64 p3)))
    obtain ⟨c0, c1, c2, c3, c4, f0, f1, f2, d0, d1, d2, d3⟩ := HS.out W0 (Below.refl _ _)
    go_enter Tryd.func74, Tryd.ntmps74
    go_wp2_with fail
    try rw [hW]
    refine (H1.out _).mono ?_
    rintro e w1 ⟨rfl, hb1⟩
    have HB1 := hide (heldB (Below.refl W0.heap.size W0) hb1 (Nat.le_refl _))
    clear hb1 c0 c1 c2 c3 c4 f0 f1 f2 d0 d1 d2 d3
    obtain ⟨c0, c1, c2, c3, c4, f0, f1, f2, d0, d1, d2, d3⟩ := HS.out w1 HB1.out
    go_wp2_with fail
    refine (H2.out _).mono ?_
    rintro e w2 ⟨rfl, hb2⟩
    have HB2 := hide (heldB HB1.out hb2 (Nat.le_refl _))
    clear hb2 HB1 c0 c1 c2 c3 c4 f0 f1 f2 d0 d1 d2 d3
    obtain ⟨c0, c1, c2, c3, c4, f0, f1, f2, d0, d1, d2, d3⟩ := HS.out w2 HB2.out
    go_wp2_with fail
    refine (HJ.out _).mono ?_
    rintro e w3 ⟨rfl, hb3⟩
    have HB3 := hide (heldB HB2.out hb3 (Nat.le_refl _))
    clear hb3 HB2 c0 c1 c2 c3 c4 f0 f1 f2 d0 d1 d2 d3
    go_wp2
    go_ret
    exact ⟨rfl, HB.out.trans (HB3.out.mono (by omega))⟩
end Go.Proofs.YtcaojimmdcdpiaaDoor
