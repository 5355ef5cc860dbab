/-
  The statement's own leaf: a leaf's value out of its chains.
-/
import Derived.Test.YtgaoeoijdpdjiaaDoorPart39
import Derived.Test.YtgaoeoijdpdjiaaDoorPart29
import Derived.Test.YtgaoeoijdpdjiaaDoorPart34
namespace Go.Proofs.YtgaoeoijdpdjiaaDoor
open Go.RowKit

set_option maxRecDepth 20000 in
set_option maxHeartbeats 8000000 in
theorem keepLeaf_on (k b x t l p0 p1 p2 p3 : Int) (sec rnd pub lf : ByteArray) (st en : Nat → ByteArray) (ch : Nat) (w : World) (hc1 : 1 ≤ ch) (hc2 : ch ≤ 64) (hx1 : 1 ≤ x) (hx2 : x ≤ 16) (hT : Tn w) (z1 : ∀ m, ((st m).size : Int) = b) (z2 : ∀ m, ((en m).size : Int) = b) (z3 : (lf.size : Int) = b)
    (hCh : ∀ V : World, Calls Tryd.prog 30 #[.agg #[.int .i64 k, .int .i64 b, .int .i64 x, .int .i64 t, .int .i64 l]] V fun e w' => e = .returned (.int .i64 ch) ∧ Below V.heap.size V w')
    (hSt : ∀ m : Nat, m < ch → ∀ V : World, Tn V → Calls Tryd.prog 51 #[.agg #[.int .i64 k, .int .i64 b, .int .i64 x, .int .i64 t, .int .i64 l], .agg #[.string sec, .string rnd, .string pub], .agg #[.int .i64 p0, .int .i64 p1, .int .i64 p2, .int .i64 m]] V fun e w' => e = .returned (.tuple #[.string (st m), .int .i64 0]) ∧ Below V.heap.size V w')
    (hCn : ∀ m : Nat, m < ch → ∀ V : World, Tn V → Calls Tryd.prog 31 #[.agg #[.int .i64 k, .int .i64 b, .int .i64 x, .int .i64 t, .int .i64 l], .string pub, .agg #[.int .i64 p0, .int .i64 p1, .int .i64 p2, .int .i64 m], .int .i64 0, .int .i64 (x - 1), .string (st m)] V fun e w' => e = .returned (.tuple #[.string (en m), .int .i64 0]) ∧ Below V.heap.size V w')
    (hFo : ∀ (V : World) (sp : Option Addr) (n c : Nat), StrsAt V sp n c ((List.range ch).map en) → Tn V → Calls Tryd.prog 24 #[.agg #[.int .i64 k, .int .i64 b, .int .i64 x, .int .i64 t, .int .i64 l], .string pub, .agg #[.int .i64 p0, .int .i64 p1, .int .i64 p2, .int .i64 0], .slice sp n c] V fun e w' => e = .returned (.tuple #[.string lf, .int .i64 0]) ∧ Below V.heap.size V w') :
    Calls Tryd.prog 35 #[.agg #[.int .i64 k, .int .i64 b, .int .i64 x, .int .i64 t, .int .i64 l], .agg #[.string sec, .string rnd, .string pub], .agg #[.int .i64 p0, .int .i64 p1, .int .i64 p2, .int .i64 p3]] w fun e w' => e = .returned (.string lf) ∧ Below w.heap.size w w' := by
  obtain ⟨i0, hi, hz0, hz1, hz2⟩ := info_parts infoStr
  have HCH := hide hCh
  have HST := hide hSt
  have HCN := hide hCn
  have HFO := hide hFo
  have HZ1 := hide z1
  have HZ2 := hide z2
  have g3 : ((lf.size : Int) == b) = true := by simpa using z3
  have g3n : ((lf.size : Int) != b) = false := by rw [bne, g3]; rfl
  obtain ⟨W0, hW⟩ : ∃ W0, (w.alloc (.cells #[.int .i64 k, .int .i64 b, .int .i64 x, .int .i64 t, .int .i64 l] 25)).alloc (.cells #[.string sec, .string rnd, .string pub] 33) = W0 := ⟨_, rfl⟩
  have hzT : W0.heap.size ≤ w.heap.size + 2 := by subst hW; simp
  have hzT' : w.heap.size + 2 ≤ W0.heap.size := by subst hW; simp
  have HF := hide (show FiveC w.heap.size W0 k b x t l by subst hW; refine ⟨?_, ?_, ?_, ?_, ?_⟩ <;> simp [go_sem])
  have HC := hide (show W0.cell? ⟨w.heap.size + 1, 0, none⟩ = some (.string sec) ∧ W0.cell? ⟨w.heap.size + 1, 1, none⟩ = some (.string rnd) ∧ W0.cell? ⟨w.heap.size + 1, 2, none⟩ = some (.string pub) by subst hW; refine ⟨?_, ?_, ?_⟩ <;> simp [go_sem])
  have HB := hide (show Below w.heap.size w W0 by subst hW; exact ((Below.refl _ _).alloc (Nat.le_refl _) _).alloc (by simp) _)
  have HTW := hide (hT.on HB.out)
  have HTB := hide (fun (V : World) (h : Below (w.heap.size + 2) W0 V) => HTW.out.below h (by omega))
  have HP0 := hide (show Blk (W0.alloc (.cells #[.int .i64 p0, .int .i64 p1, .int .i64 p2, .int .i64 p3] 27)) (w.heap.size + 2) [.int .i64 p0, .int .i64 p1, .int .i64 p2, .int .i64 p3] 27 by have h := Blk.new W0 [.int .i64 p0, .int .i64 p1, .int .i64 p2, .int .i64 p3] 27; rw [show W0.heap.size = w.heap.size + 2 by omega] at h; exact h)
  have HBA := hide ((Below.refl (w.heap.size + 2) W0).alloc (by omega) (.cells #[.int .i64 p0, .int .i64 p1, .int .i64 p2, .int .i64 p3] 27))
  have hzA : (W0.alloc (.cells #[.int .i64 p0, .int .i64 p1, .int .i64 p2, .int .i64 p3] 27)).heap.size = w.heap.size + 3 := by simp; omega
  clear hCh hSt hCn hFo z1 z2 z3 hT
  have HWE := hide hW
  clear hW
  go_enter Tryd.func35, Tryd.ntmps35
  go_wp2_with fail
  rw [HWE.out]
  obtain ⟨WA, hWA⟩ : ∃ WA, W0.alloc (.cells #[.int .i64 p0, .int .i64 p1, .int .i64 p2, .int .i64 p3] 27) = WA := ⟨_, rfl⟩
  rw [hWA] at HP0 HBA hzA ⊢
  clear hWA HWE
  go_loopw [7, 8] (fun v i wr => ∃ (m : Nat) (z : Int), m ≤ ch ∧ i = .int .i64 m ∧ Hid (Blk wr (w.heap.size + 2) [.int .i64 p0, .int .i64 p1, .int .i64 p2, .int .i64 z] 27) ∧ Hid (wr.ownsRow (w.heap.size + 3) 9 1 v m (((List.range m).map en).map Value.string)) ∧ Hid (Below (w.heap.size + 2) W0 wr) ∧ w.heap.size + 3 ≤ wr.heap.size) (fun _ i _ => ch - (intOf i).toNat)
  case atStart => exact ⟨0, p3, Nat.zero_le _, rfl, HP0.out, World.ownsRow_nil _ _ _ _, HBA.out, by omega⟩
  case round =>
    obtain ⟨m, z, hm, rfl, hat0, ho0, hb0, hzr0⟩ := hrel
    obtain ⟨c0, c1, c2, c3, c4⟩ := HF.out.below hb0.out (by omega)
    have HC1 := hide (HCH.out wr)
    go_wp2_with fail
    refine HC1.out.mono ?_
    rintro e w1 ⟨rfl, hb1⟩
    have hat := hide (hat0.out.on hb1)
    have hb := hide (heldN hb0.out hb1 (by omega))
    have ho := hide (ho0.out.kept (grown_of_below hb1) (by cases Value.ownBlock _ with | none => exact .inl rfl | some _ => exact .inr (by simp)))
    have hzr : w.heap.size + 3 ≤ w1.heap.size := Nat.le_trans hzr0 hb1.size
    clear hat0 ho0 hb0 hzr0 hb1 HC1 c0 c1 c2 c3 c4
    have a3' := hat.out.cell 3
    have fz := hat.out.free 3
    obtain ⟨c0, c1, c2, c3, c4⟩ := HF.out.below hb.out (by omega)
    have s0 := (hb.out.cell (p := ⟨w.heap.size + 1, 0, none⟩) (by show w.heap.size + 1 < _; omega)).trans HC.out.1
    have s1 := (hb.out.cell (p := ⟨w.heap.size + 1, 1, none⟩) (by show w.heap.size + 1 < _; omega)).trans HC.out.2.1
    have s2 := (hb.out.cell (p := ⟨w.heap.size + 1, 2, none⟩) (by show w.heap.size + 1 < _; omega)).trans HC.out.2.2
    have d0 := hat.out.cell 0
    have d1 := hat.out.cell 1
    have d2 := hat.out.cell 2
    simp only [List.getElem?_cons_zero, List.getElem?_cons_succ] at a3' d0 d1 d2
    by_cases hlt : m < ch
    · have HBV := hide (hb.out.setCell (p := ⟨w.heap.size + 2, 3, none⟩) (Nat.le_refl _) (.int .i64 m))
      have HAV := hide (hat.out.set 3 (.int .i64 m))
      have HOV := hide (ho.out.kept (grownBy_cell w1 (w.heap.size + 2) 3 (.int .i64 m)) (own_ne ho.out (by omega)))
      have hzV : w.heap.size + 3 ≤ (w1.setCell ⟨w.heap.size + 2, 3, none⟩ (.int .i64 m)).heap.size := by simp [World.setCell]; omega
      have HSM := hide (HST.out m hlt (w1.setCell ⟨w.heap.size + 2, 3, none⟩ (.int .i64 m)) (HTB.out _ HBV.out))
      go_wp2_with fail
      refine HSM.out.mono ?_
      rintro e w2 ⟨rfl, hb2⟩
      have HB2 := hide (heldN HBV.out hb2 (by omega))
      have HA2 := hide (HAV.out.on hb2)
      have HO2 := hide (HOV.out.kept (grown_of_below hb2) (by cases Value.ownBlock _ with | none => exact .inl rfl | some _ => exact .inr (by simp)))
      have hz2' : w.heap.size + 3 ≤ w2.heap.size := Nat.le_trans hzV hb2.size
      clear hb2 hzV HBV HAV HOV HSM a3' fz c0 c1 c2 c3 c4 s0 s1 s2 d0 d1 d2 hat ho hb hzr
      obtain ⟨c0, c1, c2, c3, c4⟩ := HF.out.below HB2.out (by omega)
      have s2 := (HB2.out.cell (p := ⟨w.heap.size + 1, 2, none⟩) (by show w.heap.size + 1 < _; omega)).trans HC.out.2.2
      have d0 := HA2.out.cell 0
      have d1 := HA2.out.cell 1
      have d2 := HA2.out.cell 2
      have d3 := HA2.out.cell 3
      simp only [List.set_cons_succ, List.set_cons_zero, List.getElem?_cons_zero, List.getElem?_cons_succ] at d0 d1 d2 d3
      have HCM := hide (HCN.out m hlt w2 (HTB.out _ HB2.out))
      have k1 : (((st m).size : Int) == b) = true := by simpa using HZ1.out m
      have k1n : (((st m).size : Int) != b) = false := by rw [bne, k1]; rfl
      have k2 : (((en m).size : Int) == b) = true := by simpa using HZ2.out m
      have k2n : (((en m).size : Int) != b) = false := by rw [bne, k2]; rfl
      go_wp2_with fail
      refine HCM.out.mono ?_
      rintro e w3 ⟨rfl, hb3⟩
      have HB3 := hide (heldN HB2.out hb3 (by omega))
      have HA3 := hide (HA2.out.on hb3)
      have HO3 := hide (HO2.out.kept (grown_of_below hb3) (by cases Value.ownBlock _ with | none => exact .inl rfl | some _ => exact .inr (by simp)))
      have hz3' : w.heap.size + 3 ≤ w3.heap.size := Nat.le_trans hz2' hb3.size
      clear hb3 hz2' HB2 HA2 HO2 HCM c0 c1 c2 c3 c4 s2 d0 d1 d2 d3
      obtain ⟨c0, c1, c2, c3, c4⟩ := HF.out.below HB3.out (by omega)
      have HSU := hide (show (List.range (m + 1)).map en = (List.range m).map en ++ [en m] by simp [List.range_succ])
      go_wp2_with (at_builtin; refine wpList_append_own _ rfl _ _ 28 rfl (w.heap.size + 3) 9 i0 (.string ⟨#[]⟩) 1 16 Tryd.underlying28 hi hz0 hz1 hz2 rfl (by decide) _ _ _ rfl (HO3.out.alloc _) ⟨w3.heap.size, 0, none⟩ 1 1 [_] rfl rfl (one_new _ _ _) ?c2 ?c3 ?c4 ?c5 ?_)
      case c2 => intro y hy; simp at hy; subst hy; rfl
      case c3 => unfold maxLen; omega
      case c4 => omega
      case c5 => simp; omega
      intro v' w6 ho6 hgrow _
      have HB6 := hide ((HB3.out.alloc (by omega) _).grown hgrow (by simp; omega) (fun p hp => by have := (owns_lt HO3.out p hp).1; omega))
      have HO6 : Hid (w6.ownsRow (w.heap.size + 3) 9 1 v' (m + 1) (((List.range (m + 1)).map en).map Value.string)) := by
        show w6.ownsRow (w.heap.size + 3) 9 1 v' (m + 1) (((List.range (m + 1)).map en).map Value.string)
        rw [HSU.out, List.map_append, List.map_map]
        exact ho6
      have HA6 := hide (blk_grown (HA3.out.alloc _) hgrow (fun p hp => by have := (owns_lt HO3.out p hp).1; omega))
      have hz6' : w.heap.size + 3 ≤ w6.heap.size := by have := hgrow.size; simp at this; omega
      clear ho6 hgrow HO3 HB3 HA3 hz3' c0 c1 c2 c3 c4 k1 k1n k2 k2n
      go_wp2
      go_roundw
      case rel =>
        have R : ∃ (m' : Nat) (z : Int), m' ≤ ch ∧ Value.int .i64 ((m : Int) + 1) = .int .i64 m' ∧ Hid (Blk w6 (w.heap.size + 2) [.int .i64 p0, .int .i64 p1, .int .i64 p2, .int .i64 z] 27) ∧ Hid (w6.ownsRow (w.heap.size + 3) 9 1 v' m' (((List.range m').map en).map Value.string)) ∧ Hid (Below (w.heap.size + 2) W0 w6) ∧ w.heap.size + 3 ≤ w6.heap.size := ⟨m + 1, m, by omega, by go_num, HA6.out, HO6.out, HB6.out, hz6'⟩
        first | exact R | ((repeat apply Exists.intro); exact ⟨R, rfl⟩)
      case measure => simp [intOf]; omega
    · obtain rfl : m = ch := by omega
      have HBV := hide (hb.out.setCell (p := ⟨w.heap.size + 2, 3, none⟩) (Nat.le_refl _) (.int .i64 0))
      have HAV := hide (hat.out.set 3 (.int .i64 0))
      have HO := ho.out.kept (grownBy_cell w1 (w.heap.size + 2) 3 (.int .i64 0)) (own_ne ho.out (by omega))
      obtain ⟨g', c', rfl, hcc, hg1, hg2, hce'⟩ := owns_strs (ys := (List.range m).map en) (by simpa using HO) (by simpa using hc1)
      have HFM := hide (HFO.out (w1.setCell ⟨w.heap.size + 2, 3, none⟩ (.int .i64 0)) _ _ _ (.inr (.inr ⟨g', 0, rfl, rfl, hcc, hg2, hce'⟩)) (HTB.out _ HBV.out))
      have hel : ((List.range m).map en).length = m := by simp
      rw [hel] at HFM
      have HBW := hide (HB.out.trans (HBV.out.mono (by omega)))
      have HBX := hide (HBV.out)
      simp only [List.length_map, List.length_range]
      clear hce' HO ho hb hcc hel HAV
      go_wp2_with fail
      refine HFM.out.mono ?_
      rintro e w2 ⟨rfl, hb2⟩
      have HB2 := hide (HBW.out.trans (hb2.mono HBW.out.size))
      have HB2' := hide (heldN HBX.out hb2 (by omega))
      clear hb2 a3' fz c0 c1 c2 c3 c4 s0 s1 s2 d0 d1 d2
      obtain ⟨c0, c1, c2, c3, c4⟩ := HF.out.below HB2'.out (by omega)
      go_wp2
      go_ret
      exact ⟨rfl, HB2.out⟩
end Go.Proofs.YtgaoeoijdpdjiaaDoor
