/-
  The statement's own layer: the root to which one layer's parts lead, its calls' answers being given.
-/
import Derived.Test.YtgaoeoijdpdjiabDoorPart32
import Derived.Test.YtgaoeoijdpdjiabDoorPart30
import Derived.Test.YtgaoeoijdpdjiabDoorPart25
import Derived.Test.YtgaoeoijdpdjiabDoorPart20
namespace Go.Proofs.YtgaoeoijdpdjiabDoor
open Go.RowKit

set_option maxRecDepth 20000 in
set_option maxHeartbeats 8000000 in
theorem layer_on (k b x t l p0 p1 p3 : Int) (F ch N gp op cp tN : Nat) (pub mm lf rr : ByteArray) (ds : List Nat) (pa en : Nat → ByteArray) (w : World) (hc1 : 1 ≤ ch) (hc2 : ch ≤ 64) (hx1 : 1 ≤ x) (hx2 : x ≤ 16) (htN : t = (tN : Int)) (ht4 : tN ≤ 4) (ht1 : 1 ≤ tN) (hNN : N = ch + tN) (hNc : N ≤ cp) (hT : Tn w) (hds : ds.length = ch) (z3 : (rr.size : Int) = b) (hgp : gp < w.heap.size)
    (hpc : ∀ j, j < ch → w.cell? ⟨gp, op + j, none⟩ = some (.string (pa j)))
    (hDg : ∀ V : World, Calls Tryd.prog 34 #[.agg #[.int .i64 k, .int .i64 b, .int .i64 x, .int .i64 t, .int .i64 l], .string mm] V fun r w' => ∃ g, r = .returned (.tuple #[.slice (some ⟨g, 0, none⟩) ch ch, .bool true]) ∧ V.heap.size ≤ g ∧ RowZ w' g (ds.map Int.ofNat) ∧ Below V.heap.size V w')
    (hCh : ∀ V : World, Calls Tryd.prog 16 #[.agg #[.int .i64 k, .int .i64 b, .int .i64 x, .int .i64 t, .int .i64 l]] V fun e w' => e = .returned (.int .i64 ch) ∧ Below V.heap.size V w')
    (hSz : ∀ V : World, Below w.heap.size w V → Calls Tryd.prog 17 #[.agg #[.int .i64 k, .int .i64 b, .int .i64 x, .int .i64 t, .int .i64 l], .slice (some ⟨gp, op, none⟩) N cp, .int .i64 N] V fun e w' => e = .returned (.bool true) ∧ Below V.heap.size V w')
    (hCn : ∀ (i d : Nat), ds[i]? = some d → ∀ V : World, Tn V → Calls Tryd.prog 35 #[.agg #[.int .i64 k, .int .i64 b, .int .i64 x, .int .i64 t, .int .i64 l], .string pub, .agg #[.int .i64 p0, .int .i64 p1, .int .i64 F, .int .i64 i], .int .i64 d, .int .i64 (x - 1), .string (pa i)] V fun e w' => e = .returned (.tuple #[.string (en i), .int .i64 0]) ∧ Below V.heap.size V w')
    (hFo : ∀ (V : World) (sp : Option Addr) (n c : Nat), StrsAt V sp n c ((List.range ch).map en) → Tn V → Calls Tryd.prog 36 #[.agg #[.int .i64 k, .int .i64 b, .int .i64 x, .int .i64 t, .int .i64 l], .string pub, .agg #[.int .i64 p0, .int .i64 p1, .int .i64 F, .int .i64 0], .slice sp n c] V fun e w' => e = .returned (.tuple #[.string lf, .int .i64 0]) ∧ Below V.heap.size V w')
    (hCl : ∀ V : World, Below w.heap.size w V → Tn V → Calls Tryd.prog 37 #[.agg #[.int .i64 k, .int .i64 b, .int .i64 x, .int .i64 t, .int .i64 l], .string pub, .agg #[.int .i64 p0, .int .i64 p1, .int .i64 F, .int .i64 0], .string lf, .slice (some ⟨gp, op + ch, none⟩) tN (cp - ch)] V fun e w' => e = .returned (.tuple #[.string rr, .int .i64 0]) ∧ Below V.heap.size V w') :
    Calls Tryd.prog 23 #[.agg #[.int .i64 k, .int .i64 b, .int .i64 x, .int .i64 t, .int .i64 l], .string pub, .agg #[.int .i64 p0, .int .i64 p1, .int .i64 F, .int .i64 p3], .string mm, .slice (some ⟨gp, op, none⟩) N cp] w fun e w' => e = .returned (.string rr) ∧ Below w.heap.size w w' := by
  obtain ⟨i0, hi, hz0, hz1', hz2⟩ := info_parts infoStr
  have HDG := hide hDg
  have HCH := hide hCh
  have HSZ := hide hSz
  have HCN := hide hCn
  have HFO := hide hFo
  have HCL := hide hCl
  have HPC := hide hpc
  have g3 : ((rr.size : Int) == b) = true := by simpa using z3
  have g3n : ((rr.size : Int) != b) = false := by rw [bne, g3]; rfl
  have vx : IntKind.i64.wrap (x - 1) = x - 1 := by rw [IntKind.wrap_i64] <;> omega
  have vc : IntKind.i64.wrap ((ch : Int) + t) = (N : Int) := by rw [IntKind.wrap_i64] <;> omega
  have hcut : ∀ wx, (Instr.slice 30 (.slice (some ⟨gp, op, none⟩) N cp) (some (.int .i64 ch)) none none).run Tryd.prog wx = .ok (.slice (some ⟨gp, op + ch, none⟩) tN (cp - ch)) wx := fun wx => by
    have e2 : (ch : Int) ≤ N := by omega
    have e3 : (0 : Int) ≤ ch := by omega
    have e5 : N - ch = tN := by omega
    have e6 : ¬ cp = ch := by omega
    simp [go_sem, e2, e3, e5, e6]
  obtain ⟨W0, hW⟩ : ∃ W0, w.alloc (.cells #[.int .i64 k, .int .i64 b, .int .i64 x, .int .i64 t, .int .i64 l] 23) = W0 := ⟨_, rfl⟩
  have hzT : W0.heap.size ≤ w.heap.size + 1 := by subst hW; simp
  have hzT' : w.heap.size + 1 ≤ W0.heap.size := by subst hW; simp
  have HF := hide (show FiveC w.heap.size W0 k b x t l by subst hW; refine ⟨?_, ?_, ?_, ?_, ?_⟩ <;> simp [go_sem])
  have HB := hide (show Below w.heap.size w W0 by subst hW; exact (Below.refl _ _).alloc (Nat.le_refl _) _)
  have hpos := hT.pos
  have HTW := hide (hT.on HB.out)
  have HTB := hide (fun (V : World) (h : Below (w.heap.size + 1) W0 V) => HTW.out.below h (by omega))
  have HP0 := hide (show Blk (W0.alloc (.cells #[.int .i64 p0, .int .i64 p1, .int .i64 F, .int .i64 p3] 47)) (w.heap.size + 1) [.int .i64 p0, .int .i64 p1, .int .i64 F, .int .i64 p3] 47 by have h := Blk.new W0 [.int .i64 p0, .int .i64 p1, .int .i64 F, .int .i64 p3] 47; rw [show W0.heap.size = w.heap.size + 1 by omega] at h; exact h)
  have HBA := hide ((Below.refl (w.heap.size + 1) W0).alloc (by omega) (.cells #[.int .i64 p0, .int .i64 p1, .int .i64 F, .int .i64 p3] 47))
  have hzA : (W0.alloc (.cells #[.int .i64 p0, .int .i64 p1, .int .i64 F, .int .i64 p3] 47)).heap.size = w.heap.size + 2 := by simp; omega
  have HNN := hide hNN
  have HDS := hide hds
  have hN68 : N ≤ 68 := by omega
  clear hDg hCh hSz hCn hFo hCl hpc hT htN z3 hNN hds
  have HWE := hide hW
  clear hW
  go_enter Tryd.func23, Tryd.ntmps23
  go_wp2_with fail
  rw [HWE.out]
  obtain ⟨WA, hWA⟩ : ∃ WA, W0.alloc (.cells #[.int .i64 p0, .int .i64 p1, .int .i64 F, .int .i64 p3] 47) = WA := ⟨_, rfl⟩
  rw [hWA] at HP0 HBA hzA ⊢
  clear hWA HWE
  refine (HDG.out WA).mono ?_
  rintro r w1 ⟨gD, rfl, hgD, hrow, hb1⟩
  have HB1 := hide (heldN HBA.out hb1 (by omega))
  have HA1 := hide (HP0.out.on hb1)
  have HR1 := hide hrow
  have hgD1 : gD < w1.heap.size := lt_of_block hrow
  have hz1 : w.heap.size + 2 ≤ w1.heap.size := by have := hb1.size; omega
  clear hb1 hrow HP0 HBA
  have HS := hide (fun (V : World) (h : Below (w.heap.size + 1) W0 V) => (by
    obtain ⟨c0, c1, c2, c3, c4⟩ := HF.out.below h (by omega)
    exact ⟨c0, c1, c2, c3, c4⟩ : V.cell? ⟨w.heap.size, 0, none⟩ = some (.int .i64 k) ∧ V.cell? ⟨w.heap.size, 1, none⟩ = some (.int .i64 b) ∧ V.cell? ⟨w.heap.size, 2, none⟩ = some (.int .i64 x) ∧ V.cell? ⟨w.heap.size, 3, none⟩ = some (.int .i64 t) ∧ V.cell? ⟨w.heap.size, 4, none⟩ = some (.int .i64 l)))
  have HS1 := hide (fun (V : World) (h : Below w1.heap.size w1 V) => HS.out V (heldN HB1.out h (by omega)))
  have HWB := hide (fun (V : World) (h : Below (w.heap.size + 1) W0 V) => HB.out.trans (h.mono (by omega)))
  go_wp2_with fail
  go_region_held3 (fun V => V.cell? ⟨w.heap.size, 0, none⟩ = some (.int .i64 k) ∧ V.cell? ⟨w.heap.size, 1, none⟩ = some (.int .i64 b) ∧ V.cell? ⟨w.heap.size, 2, none⟩ = some (.int .i64 x) ∧ V.cell? ⟨w.heap.size, 3, none⟩ = some (.int .i64 t) ∧ V.cell? ⟨w.heap.size, 4, none⟩ = some (.int .i64 l)) (first | exact HS1.out _ hS2 | exact HS1.out _ hS1 | exact HS1.out _ (Below.refl w1.heap.size w1).drew) (first | (go_at_call 16; refine (HCH.out _).mono ?_; rintro e w2 ⟨rfl, hb2⟩; have hS1 := heldB (Below.refl w1.heap.size w1).drew hb2 (Nat.le_refl _)) | (go_at_call 17; refine (HSZ.out _ (HWB.out _ (heldN HB1.out hS1 (by omega)))).mono ?_; rintro e w3 ⟨rfl, hb3⟩; have hS2 := heldB hS1 hb3 (Nat.le_refl _)))
  have HB3 := hide (heldN HB1.out hS2 (by omega))
  have HA3 := hide (HA1.out.on hS2)
  have HD3 := hide (show ∀ (j d : Nat), ds[j]? = some d → w3.cell? ⟨gD, j, none⟩ = some (.int .i64 d) from fun j d hj => (by
    have hjl : j < ds.length := (List.getElem?_eq_some_iff.1 hj).1
    refine (hS2.cell (p := ⟨gD, j, none⟩) hgD1).trans ?_
    rw [HR1.out.cell (by rw [List.length_map]; exact hjl), List.getElem?_map, hj]
    rfl))
  have hz3 : w1.heap.size ≤ w3.heap.size := hS2.size
  clear hS1 hS2 hb2 hb3 HB1 HA1 HR1 HS1 vc
  go_wp2_with fail
  obtain ⟨BS, hBS⟩ : ∃ BS, w3.heap.size = BS := ⟨_, rfl⟩
  go_loopw [14, 15] (fun v i wr => ∃ (m : Nat) (z : Int), m ≤ ch ∧ i = .int .i64 m ∧ Hid (Blk wr (w.heap.size + 1) [.int .i64 p0, .int .i64 p1, .int .i64 F, .int .i64 z] 47) ∧ Hid (wr.ownsRow BS 9 1 v m (((List.range m).map en).map Value.string)) ∧ Hid (Below (w.heap.size + 1) W0 wr) ∧ Hid (∀ (j d : Nat), ds[j]? = some d → wr.cell? ⟨gD, j, none⟩ = some (.int .i64 d)) ∧ BS ≤ wr.heap.size) (fun _ i _ => ch - (intOf i).toNat)
  case atStart => exact ⟨0, p3, Nat.zero_le _, rfl, HA3.out, World.ownsRow_nil _ _ _ _, HB3.out, HD3.out, by omega⟩
  case round =>
    obtain ⟨m, z, hm, rfl, hat, ho, hb, hdg, hzr⟩ := hrel
    have HWR := hide (HWB.out _ hb.out)
    have a3' := hat.out.cell 3
    have fz := hat.out.free 3
    simp only [List.getElem?_cons_zero, List.getElem?_cons_succ] at a3'
    by_cases hlt : m < ch
    · obtain ⟨dd, hdd⟩ : ∃ dd, ds[m]? = some dd := ⟨_, List.getElem?_eq_getElem (by rw [HDS.out]; exact hlt)⟩
      have HBV := hide (hb.out.setCell (p := ⟨w.heap.size + 1, 3, none⟩) (Nat.le_refl _) (.int .i64 m))
      have HAV := hide (hat.out.set 3 (.int .i64 m))
      have HOV := hide (ho.out.kept (grownBy_cell wr (w.heap.size + 1) 3 (.int .i64 m)) (own_ne ho.out (by omega)))
      have HDV := hide (show ∀ (j d : Nat), ds[j]? = some d → (wr.setCell ⟨w.heap.size + 1, 3, none⟩ (.int .i64 m)).cell? ⟨gD, j, none⟩ = some (.int .i64 d) from fun j d hj => (World.cell?_setCell_other _ _ _ _ (by simp <;> omega)).trans (hdg.out j d hj))
      have HPV := hide (show (wr.setCell ⟨w.heap.size + 1, 3, none⟩ (.int .i64 m)).cell? ⟨gp, op + m, none⟩ = some (.string (pa m)) from (World.cell?_setCell_other _ _ _ _ (by simp <;> omega)).trans ((HWR.out.cell (p := ⟨gp, op + m, none⟩) hgp).trans (HPC.out m hlt)))
      have hzV : BS ≤ (wr.setCell ⟨w.heap.size + 1, 3, none⟩ (.int .i64 m)).heap.size := by simp [World.setCell]; omega
      have H4 := hide (HCN.out m dd hdd)
      obtain ⟨V0, hV0⟩ : ∃ V0, wr.setCell ⟨w.heap.size + 1, 3, none⟩ (.int .i64 m) = V0 := ⟨_, rfl⟩
      rw [hV0] at HBV HAV HOV HDV HPV hzV
      have HCD := hide (HDV.out m dd hdd)
      have hgV : gD < V0.heap.size := by omega
      have hpV : gp < V0.heap.size := by omega
      have HSV := hide (fun (V : World) (h : Below V0.heap.size V0 V) => (by
        obtain ⟨c0, c1, c2, c3, c4⟩ := HS.out V (heldN HBV.out h (by omega))
        have q2 := HAV.out.on h
        exact ⟨c0, c1, c2, c3, c4, q2.cell 0, q2.cell 1, q2.cell 2, q2.cell 3, (h.cell (p := ⟨gD, m, none⟩) hgV).trans HCD.out, (h.cell (p := ⟨gp, op + m, none⟩) hpV).trans HPV.out⟩ : V.cell? ⟨w.heap.size, 0, none⟩ = some (.int .i64 k) ∧ V.cell? ⟨w.heap.size, 1, none⟩ = some (.int .i64 b) ∧ V.cell? ⟨w.heap.size, 2, none⟩ = some (.int .i64 x) ∧ V.cell? ⟨w.heap.size, 3, none⟩ = some (.int .i64 t) ∧ V.cell? ⟨w.heap.size, 4, none⟩ = some (.int .i64 l) ∧ V.cell? ⟨w.heap.size + 1, 0, none⟩ = some (.int .i64 p0) ∧ V.cell? ⟨w.heap.size + 1, 1, none⟩ = some (.int .i64 p1) ∧ V.cell? ⟨w.heap.size + 1, 2, none⟩ = some (.int .i64 F) ∧ V.cell? ⟨w.heap.size + 1, 3, none⟩ = some (.int .i64 m) ∧ V.cell? ⟨gD, m, none⟩ = some (.int .i64 dd) ∧ V.cell? ⟨gp, op + m, none⟩ = some (.string (pa m))))
      have HVE := hide hV0
      have HSU := hide (show (List.range (m + 1)).map en = (List.range m).map en ++ [en m] by simp [List.range_succ])
      have hms : (m : Int) < (ch : Int) := by omega
      have hmN : (m : Int) < (N : Int) := by have := HNN.out; omega
      clear hV0 hdd hgV hpV
      go_wp2_with fail
      rw [HVE.out]
      clear a3' fz HVE
      go_region_held3 (fun V => V.cell? ⟨w.heap.size, 0, none⟩ = some (.int .i64 k) ∧ V.cell? ⟨w.heap.size, 1, none⟩ = some (.int .i64 b) ∧ V.cell? ⟨w.heap.size, 2, none⟩ = some (.int .i64 x) ∧ V.cell? ⟨w.heap.size, 3, none⟩ = some (.int .i64 t) ∧ V.cell? ⟨w.heap.size, 4, none⟩ = some (.int .i64 l) ∧ V.cell? ⟨w.heap.size + 1, 0, none⟩ = some (.int .i64 p0) ∧ V.cell? ⟨w.heap.size + 1, 1, none⟩ = some (.int .i64 p1) ∧ V.cell? ⟨w.heap.size + 1, 2, none⟩ = some (.int .i64 F) ∧ V.cell? ⟨w.heap.size + 1, 3, none⟩ = some (.int .i64 m) ∧ V.cell? ⟨gD, m, none⟩ = some (.int .i64 dd) ∧ V.cell? ⟨gp, op + m, none⟩ = some (.string (pa m))) (first | exact HSV.out _ hS4 | exact HSV.out _ (Below.refl V0.heap.size V0).drew) ((go_at_call 35; refine (H4.out _ ((HTB.out _ HBV.out).on (Below.refl V0.heap.size V0).drew)).mono ?_; rintro e w4 ⟨rfl, hb4⟩; have hS4 := heldB (Below.refl V0.heap.size V0).drew hb4 (Nat.le_refl _)))
      have HB4 := hide (heldN HBV.out hS4 (by omega))
      have HA4 := hide (HAV.out.on hS4)
      have HO4 := hide (HOV.out.kept (grown_of_below hS4) (by cases Value.ownBlock _ with | none => exact .inl rfl | some _ => exact .inr (by simp)))
      have HD4 := hide (show ∀ (j d : Nat), ds[j]? = some d → w4.cell? ⟨gD, j, none⟩ = some (.int .i64 d) from fun j d hj => (hS4.cell (p := ⟨gD, j, none⟩) (by show gD < _; omega)).trans (HDV.out j d hj))
      have hz4 : BS ≤ w4.heap.size := Nat.le_trans hzV hS4.size
      clear hS4 hb4 HBV HAV HOV HDV HPV hzV HCD HSV H4
      go_wp2_with (at_builtin; refine wpList_append_own _ rfl _ _ 30 rfl BS 9 i0 (.string ⟨#[]⟩) 1 16 Tryd.underlying30 hi hz0 hz1' hz2 rfl (by decide) _ _ _ rfl (HO4.out.alloc _) ⟨w4.heap.size, 0, none⟩ 1 1 [_] rfl rfl (one_new _ _ _) ?c2 ?c3 ?c4 ?c5 ?_)
      case c2 => intro y hy; simp at hy; subst hy; rfl
      case c3 => unfold maxLen; omega
      case c4 => omega
      case c5 => simp; omega
      intro v' w6 ho6 hgrow _
      have HB6 := hide ((HB4.out.alloc (by omega) _).grown hgrow (by simp; omega) (fun p hp => by have := (owns_lt HO4.out p hp).1; omega))
      have HO6 : Hid (w6.ownsRow BS 9 1 v' (m + 1) (((List.range (m + 1)).map en).map Value.string)) := by
        show w6.ownsRow BS 9 1 v' (m + 1) (((List.range (m + 1)).map en).map Value.string)
        rw [HSU.out, List.map_append, List.map_map]
        exact ho6
      have HA6 := hide (blk_grown (HA4.out.alloc _) hgrow (fun p hp => by have := (owns_lt HO4.out p hp).1; omega))
      have HD6 := hide (show ∀ (j d : Nat), ds[j]? = some d → w6.cell? ⟨gD, j, none⟩ = some (.int .i64 d) from fun j d hj => (World.cell?_of_block (hgrow.block gD (by simp; omega) (fun e => by have := (owns_lt HO4.out gD e.symm).1; omega))).trans ((World.cell?_alloc_past _ _ _ (by show gD < _; omega)).trans (HD4.out j d hj)))
      have hz6' : BS ≤ w6.heap.size := by have := hgrow.size; simp at this; omega
      clear ho6 hgrow HO4 HB4 HA4 HD4 hz4
      go_wp2
      go_roundw
      case rel =>
        have R : ∃ (m' : Nat) (z : Int), m' ≤ ch ∧ Value.int .i64 ((m : Int) + 1) = .int .i64 m' ∧ Hid (Blk w6 (w.heap.size + 1) [.int .i64 p0, .int .i64 p1, .int .i64 F, .int .i64 z] 47) ∧ Hid (w6.ownsRow BS 9 1 v' m' (((List.range m').map en).map Value.string)) ∧ Hid (Below (w.heap.size + 1) W0 w6) ∧ Hid (∀ (j d : Nat), ds[j]? = some d → w6.cell? ⟨gD, j, none⟩ = some (.int .i64 d)) ∧ BS ≤ w6.heap.size := ⟨m + 1, m, by omega, by go_num, HA6.out, HO6.out, HB6.out, HD6.out, hz6'⟩
        first | exact R | ((repeat apply Exists.intro); exact ⟨R, rfl⟩)
      case measure => simp [intOf]; omega
    · obtain rfl : m = ch := by omega
      have HBV := hide (hb.out.setCell (p := ⟨w.heap.size + 1, 3, none⟩) (Nat.le_refl _) (.int .i64 0))
      have HAV := hide (hat.out.set 3 (.int .i64 0))
      have HO := ho.out.kept (grownBy_cell wr (w.heap.size + 1) 3 (.int .i64 0)) (own_ne ho.out (by omega))
      obtain ⟨g', c', rfl, hcc, hg1, hg2, hce'⟩ := owns_strs (ys := (List.range m).map en) (by simpa using HO) (by simpa using hc1)
      obtain ⟨V0, hV0⟩ : ∃ V0, wr.setCell ⟨w.heap.size + 1, 3, none⟩ (.int .i64 0) = V0 := ⟨_, rfl⟩
      rw [hV0] at HBV HAV hg2 hce'
      have HFM := hide (HFO.out V0 _ _ _ (.inr (.inr ⟨g', 0, rfl, rfl, hcc, hg2, hce'⟩)) (HTB.out _ HBV.out))
      have hel : ((List.range m).map en).length = m := by simp
      rw [hel] at HFM
      have hzV : w.heap.size + 1 ≤ V0.heap.size := by have := HBV.out.size; omega
      have HSV := hide (fun (V : World) (h : Below V0.heap.size V0 V) => (by
        obtain ⟨c0, c1, c2, c3, c4⟩ := HS.out V (heldN HBV.out h (by omega))
        have q2 := HAV.out.on h
        exact ⟨c0, c1, c2, c3, c4, q2.cell 0, q2.cell 1, q2.cell 2, q2.cell 3⟩ : V.cell? ⟨w.heap.size, 0, none⟩ = some (.int .i64 k) ∧ V.cell? ⟨w.heap.size, 1, none⟩ = some (.int .i64 b) ∧ V.cell? ⟨w.heap.size, 2, none⟩ = some (.int .i64 x) ∧ V.cell? ⟨w.heap.size, 3, none⟩ = some (.int .i64 t) ∧ V.cell? ⟨w.heap.size, 4, none⟩ = some (.int .i64 l) ∧ V.cell? ⟨w.heap.size + 1, 0, none⟩ = some (.int .i64 p0) ∧ V.cell? ⟨w.heap.size + 1, 1, none⟩ = some (.int .i64 p1) ∧ V.cell? ⟨w.heap.size + 1, 2, none⟩ = some (.int .i64 F) ∧ V.cell? ⟨w.heap.size + 1, 3, none⟩ = some (.int .i64 0)))
      simp only [List.length_map, List.length_range]
      have HVE := hide hV0
      obtain ⟨c0, c1, c2, c3, c4⟩ := HS.out wr hb.out
      have d0 := hat.out.cell 0
      have d1 := hat.out.cell 1
      have d2 := hat.out.cell 2
      simp only [List.getElem?_cons_zero, List.getElem?_cons_succ] at d0 d1 d2
      clear hce' HO ho hcc hel hV0
      go_wp2_with fail
      rw [HVE.out]
      clear a3' fz
      refine HFM.out.mono ?_
      rintro e w4 ⟨rfl, hb4⟩
      have HB4 := hide (heldN HBV.out hb4 (by omega))
      have HSW := hide (fun (V : World) (h : Below w4.heap.size w4 V) => HSV.out V (heldB (heldB (Below.refl V0.heap.size V0) hb4 (Nat.le_refl _)) h (Nat.le_refl _)))
      have HTV := hide (HTB.out _ HB4.out)
      have HWV := hide (HWB.out _ HB4.out)
      clear c0 c1 c2 c3 c4 d0 d1 d2 HVE hb4
      go_wp2_with fail
      go_region_held3 (fun V => V.cell? ⟨w.heap.size, 0, none⟩ = some (.int .i64 k) ∧ V.cell? ⟨w.heap.size, 1, none⟩ = some (.int .i64 b) ∧ V.cell? ⟨w.heap.size, 2, none⟩ = some (.int .i64 x) ∧ V.cell? ⟨w.heap.size, 3, none⟩ = some (.int .i64 t) ∧ V.cell? ⟨w.heap.size, 4, none⟩ = some (.int .i64 l) ∧ V.cell? ⟨w.heap.size + 1, 0, none⟩ = some (.int .i64 p0) ∧ V.cell? ⟨w.heap.size + 1, 1, none⟩ = some (.int .i64 p1) ∧ V.cell? ⟨w.heap.size + 1, 2, none⟩ = some (.int .i64 F) ∧ V.cell? ⟨w.heap.size + 1, 3, none⟩ = some (.int .i64 0)) (first | exact HSW.out _ hS5 | exact HSW.out _ (Below.refl w4.heap.size w4).drew) ((go_at_call 37; refine (HCL.out _ HWV.out.drew (HTV.out.on (Below.refl w4.heap.size w4).drew)).mono ?_; rintro e w5 ⟨rfl, hb5⟩; have hS5 := heldB (Below.refl w4.heap.size w4).drew hb5 (Nat.le_refl _)))
      have HB5 := hide (HWV.out.trans (hS5.mono HWV.out.size))
      obtain ⟨c0, c1, c2, c3, c4, d0, d1, d2, d3⟩ := HSW.out _ hS5
      clear hS5 hb5
      go_wp2
      go_ret
      exact ⟨rfl, HB5.out⟩
end Go.Proofs.YtgaoeoijdpdjiabDoor
