/-
  The statement InOrder answers true.
-/
import Derived.Test.YtgaoeoijdpdjiabGreatDoorPart48
import Derived.Test.YtgaoeoijdpdjiabGreatDoorPart19
import Derived.Test.YtgaoeoijdpdjiabGreatDoorPart25
import Derived.Test.YtgaoeoijdpdjiabGreatDoorPart32
import Derived.Test.YtgaoeoijdpdjiabGreatDoorPart16
namespace Go.Proofs.YtgaoeoijdpdjiabGreatDoor
open Go.RowKit

theorem INV.low {lo SD D G S : Nat} {tm k : Int} {b x e f t l : Nat} {sec rnd pub : ByteArray} {bat : Nat} {Wd : World} {kk : Nat} {V : World} (h : INV lo SD D G S tm k b x e f t l sec rnd pub bat Wd kk V) : Below lo Wd V := by
  obtain ⟨_, _, _, _, _, h, _⟩ := h
  exact h

set_option maxRecDepth 20000 in
set_option maxHeartbeats 16000000 in
theorem inOrder_true (k0 b0 x0 t0 l0 bt : Int) (sec rnd pub : ByteArray) (v : Value) (L : List StepDJ) (w : World) (hk : Int64 k0) (hb : Int64 b0) (hx : Int64 x0) (ht : Int64 t0) (hl0 : Int64 l0) (hbt1 : -9223372036854775808 ≤ bt) (hbt2 : bt ≤ 9223372036854775807) (m1 : sec.size ≤ maxLen) (m2 : rnd.size ≤ maxLen) (m3 : pub.size ≤ maxLen) (hv : ScriptAtJ w v L) (hl : L.length ≤ maxLen) (hT : Tn w) :
    Calls Tryz.prog 7 #[.agg #[.int .i64 k0, .int .i64 b0, .int .i64 x0, .int .i64 t0, .int .i64 l0], .agg #[.string sec, .string rnd, .string pub], .int .i64 bt, v] w fun e w' => e = .returned (.bool true) ∧ Below w.heap.size w w' := by
  obtain ⟨k, b, x, e, f, t, l, R, ek, eb, ex, et, el⟩ := fit_set k0 b0 x0 t0 l0
  have HFIT := hide (fun V : World => fit_any k0 b0 x0 t0 l0 V hk hb hx ht hl0)
  rw [ek, eb, ex, et, el] at HFIT
  obtain ⟨g1, g2, g3, g4, g5, g6⟩ := pair_small R.pr
  have HSOW := hide (fun V : World => sown_any k x t l b sec rnd pub V (by omega) m1 m2 m3)
  obtain ⟨sc, hsc, z1⟩ : ∃ sc, someB sec b = sc ∧ sc.size = b := ⟨_, rfl, someB_size _ _⟩
  obtain ⟨rn, hrn, z2⟩ : ∃ rn, someB rnd b = rn ∧ rn.size = b := ⟨_, rfl, someB_size _ _⟩
  obtain ⟨pu, hpu, z3⟩ : ∃ pu, someB pub b = pu ∧ pu.size = b := ⟨_, rfl, someB_size _ _⟩
  rw [hsc, hrn, hpu] at HSOW
  obtain ⟨va, vc, hvv⟩ := hv.len
  subst hvv
  have HV := hide hv
  unfold maxLen at hl
  have HPB := hide (fun V : World => pickR_any bt 64 V (by omega) (by omega) hbt1 hbt2)
  have pb := pickZ_bd bt 64 (by omega)
  obtain ⟨m0, hm0⟩ := Int.eq_ofNat_of_zero_le pb.1
  rw [hm0] at HPB pb
  obtain ⟨bat, hbat⟩ : ∃ bat : Nat, m0 + 1 = bat := ⟨_, rfl⟩
  have hwb : IntKind.i64.wrap ((m0 : Int) + 1) = (bat : Int) := by rw [IntKind.wrap_i64] <;> omega
  have HBT := hide (show 1 ≤ bat ∧ bat ≤ 64 by omega)
  have HT4 := hide (total_most R)
  have HTO := hide (fun V : World => keepTotal_any k b x t l V R.t2 R.l2)
  have HR := hide R
  have HZZ := hide (And.intro z1 (And.intro z2 z3))
  have HTW := hide hT
  obtain ⟨n, hn⟩ : ∃ n, L.length = n := ⟨_, rfl⟩
  rw [hn] at hl
  simp only [hn]
  have HN := hide hn
  obtain ⟨W0, hW⟩ : ∃ W0, (w.alloc (.cells #[.int .i64 k0, .int .i64 b0, .int .i64 x0, .int .i64 t0, .int .i64 l0] 26)).alloc (.cells #[.string sec, .string rnd, .string pub] 42) = W0 := ⟨_, rfl⟩
  have HB0 := hide (show Below w.heap.size w W0 by subst hW; exact ((Below.refl _ _).alloc (Nat.le_refl _) _).alloc (by simp) _)
  have HC0 := hide (show Blk W0 w.heap.size [.int .i64 k0, .int .i64 b0, .int .i64 x0, .int .i64 t0, .int .i64 l0] 26 by rw [← hW]; exact (Blk.new w _ _).alloc _)
  have HE0 := hide (show Blk W0 (w.heap.size + 1) [.string sec, .string rnd, .string pub] 42 by
    rw [← hW]
    have h := Blk.new (w.alloc (.cells #[.int .i64 k0, .int .i64 b0, .int .i64 x0, .int .i64 t0, .int .i64 l0] 26)) [.string sec, .string rnd, .string pub] 42
    simp only [World.size_alloc] at h
    exact h)
  have HWE := hide hW
  clear hW R ek eb ex et el g1 g2 g3 g4 g5 g6 hsc hrn hpu z1 z2 z3 hv pb hm0 hbat hk hb hx ht hl0 hbt1 hbt2 m1 m2 m3 hT hn
  go_enter Tryz.func7, Tryz.ntmps7
  go_wp2_with fail
  rw [HWE.out]
  refine (HFIT.out _).mono ?_
  rintro e1 w1 ⟨rfl, hb1⟩
  have HC1 := hide (HC0.out.on hb1)
  have HE1 := hide (HE0.out.on hb1)
  have r0 : w1.cell? ⟨w.heap.size, 0, none⟩ = some (.int .i64 k0) := HC1.out.cell 0
  have f0 := HC1.out.free 0
  have r1 : w1.cell? ⟨w.heap.size, 1, none⟩ = some (.int .i64 b0) := HC1.out.cell 1
  have f1 := HC1.out.free 1
  have r2 : w1.cell? ⟨w.heap.size, 2, none⟩ = some (.int .i64 x0) := HC1.out.cell 2
  have f2 := HC1.out.free 2
  have r3 : w1.cell? ⟨w.heap.size, 3, none⟩ = some (.int .i64 t0) := HC1.out.cell 3
  have f3 := HC1.out.free 3
  have r4 : w1.cell? ⟨w.heap.size, 4, none⟩ = some (.int .i64 l0) := HC1.out.cell 4
  have f4 := HC1.out.free 4
  have d0 : w1.cell? ⟨w.heap.size + 1, 0, none⟩ = some (.string sec) := HE1.out.cell 0
  have d1 : w1.cell? ⟨w.heap.size + 1, 1, none⟩ = some (.string rnd) := HE1.out.cell 1
  have d2 : w1.cell? ⟨w.heap.size + 1, 2, none⟩ = some (.string pub) := HE1.out.cell 2
  have HCX := hide (((((HC1.out.set 0 (.int .i64 k)).set 1 (.int .i64 b)).set 2 (.int .i64 x)).set 3 (.int .i64 t)).set 4 (.int .i64 l))
  have HEX := hide (((((HE1.out.other (a := ⟨w.heap.size, 0, none⟩) (.int .i64 k) (Nat.succ_ne_self _)).other (a := ⟨w.heap.size, 1, none⟩) (.int .i64 b) (Nat.succ_ne_self _)).other (a := ⟨w.heap.size, 2, none⟩) (.int .i64 x) (Nat.succ_ne_self _)).other (a := ⟨w.heap.size, 3, none⟩) (.int .i64 t) (Nat.succ_ne_self _)).other (a := ⟨w.heap.size, 4, none⟩) (.int .i64 l) (Nat.succ_ne_self _))
  have HBX := hide (HB0.out.trans ((((((hb1.mono HB0.out.size).setCell (p := ⟨w.heap.size, 0, none⟩) (Nat.le_refl _) (.int .i64 k)).setCell (p := ⟨w.heap.size, 1, none⟩) (Nat.le_refl _) (.int .i64 b)).setCell (p := ⟨w.heap.size, 2, none⟩) (Nat.le_refl _) (.int .i64 x)).setCell (p := ⟨w.heap.size, 3, none⟩) (Nat.le_refl _) (.int .i64 t)).setCell (p := ⟨w.heap.size, 4, none⟩) (Nat.le_refl _) (.int .i64 l)))
  clear hb1
  go_wp2_with fail
  generalize (((((w1).setCell ⟨w.heap.size, 0, none⟩ (.int .i64 k)).setCell ⟨w.heap.size, 1, none⟩ (.int .i64 b)).setCell ⟨w.heap.size, 2, none⟩ (.int .i64 x)).setCell ⟨w.heap.size, 3, none⟩ (.int .i64 t)).setCell ⟨w.heap.size, 4, none⟩ (.int .i64 l) = W1 at HCX HEX HBX ⊢
  clear r0 r1 r2 r3 r4 f0 f1 f2 f3 f4 d0 d1 d2
  simp only [List.set_cons_zero, List.set_cons_succ] at HCX
  refine (HSOW.out _).mono ?_
  rintro e1 w2 ⟨rfl, hb2⟩
  have HE2 := hide (HEX.out.on hb2)
  have HC2 := hide (HCX.out.on hb2)
  have r0 : w2.cell? ⟨w.heap.size + 1, 0, none⟩ = some (.string sec) := HE2.out.cell 0
  have f0 := HE2.out.free 0
  have r1 : w2.cell? ⟨w.heap.size + 1, 1, none⟩ = some (.string rnd) := HE2.out.cell 1
  have f1 := HE2.out.free 1
  have r2 : w2.cell? ⟨w.heap.size + 1, 2, none⟩ = some (.string pub) := HE2.out.cell 2
  have f2 := HE2.out.free 2
  have HEY := hide (((HE2.out.set 0 (.string sc)).set 1 (.string rn)).set 2 (.string pu))
  have HCY := hide (((HC2.out.other (a := ⟨w.heap.size + 1, 0, none⟩) (.string sc) (Nat.succ_ne_self _).symm).other (a := ⟨w.heap.size + 1, 1, none⟩) (.string rn) (Nat.succ_ne_self _).symm).other (a := ⟨w.heap.size + 1, 2, none⟩) (.string pu) (Nat.succ_ne_self _).symm)
  have HBY := hide (HBX.out.trans ((((hb2.mono HBX.out.size).setCell (p := ⟨w.heap.size + 1, 0, none⟩) (Nat.le_succ _) (.string sc)).setCell (p := ⟨w.heap.size + 1, 1, none⟩) (Nat.le_succ _) (.string rn)).setCell (p := ⟨w.heap.size + 1, 2, none⟩) (Nat.le_succ _) (.string pu)))
  clear hb2
  go_wp2_with fail
  generalize (((w2).setCell ⟨w.heap.size + 1, 0, none⟩ (.string sc)).setCell ⟨w.heap.size + 1, 1, none⟩ (.string rn)).setCell ⟨w.heap.size + 1, 2, none⟩ (.string pu) = W2 at HCY HEY HBY ⊢
  clear r0 r1 r2 f0 f1 f2
  simp only [List.set_cons_zero, List.set_cons_succ] at HEY
  obtain ⟨lo, hlo⟩ : ∃ lo, W2.heap.size = lo := ⟨_, rfl⟩
  have HND := hide (snew_yes 2 W2 W2.heap.size (by decide) (by decide) (Nat.le_refl _))
  rw [hlo] at HND
  simp only [Int.cast_ofNat_Int] at HND
  have HLO := hide hlo
  have HL1 := hide (show w.heap.size < lo by rw [← hlo]; exact HCY.out.lt)
  have HL2 := hide (show w.heap.size + 1 < lo by rw [← hlo]; exact HEY.out.lt)
  have HTB := hide (show 1 < lo from Nat.lt_trans HTW.out.pos HL1.out)
  have HT2 := hide (HTW.out.on HBY.out)
  have HBS := hide (fun (V : World) (h : Below lo W2 V) => (And.intro (HCY.out.below h HL1.out) (HEY.out.below h HL2.out)))
  clear hlo
  refine HND.out.mono ?_
  rintro e1 w3 ⟨SD, F0, rfl, hs3, hf3, hb3⟩
  obtain ⟨D, E, pv, hbS, hd, n1, n2, n3, hloS, rfl⟩ := hs3
  have HSD := hide (show Blk w3 SD [.pointer (some ⟨D, 0, none⟩)] 135 from hbS)
  have HDS := hide (show DSk lo D (newD 2) w3 (DFoot D E pv) from ⟨E, pv, hd, rfl⟩)
  have HNF := hide (show ¬ DFoot D E pv SD by rintro (e | e | e) <;> first | exact n1 e | exact n2 e | exact n3 e)
  have HLS := hide hloS
  have HB3L := hide (show Below lo W2 w3 from hb3)
  have HZ3 := hide (show lo ≤ w3.heap.size by have := HB3L.out.size; rw [HLO.out] at this; exact this)
  have HMK := hide (made_in HR.out HZZ.out.1 HZZ.out.2.1 HZZ.out.2.2 lo SD D bat (DFoot D E pv) W2 w3.drew HT2.out HTB.out HZ3.out HB3L.out.drew HBT.out.1 HBT.out.2 HSD.out (HDS.out.below (Below.refl _ _).drew) HNF.out HLS.out)
  have HS := hide (fun (V : World) (h : Blk V w.heap.size [.int .i64 k, .int .i64 b, .int .i64 x, .int .i64 t, .int .i64 l] 26 ∧ Blk V (w.heap.size + 1) [.string sc, .string rn, .string pu] 42) => (⟨h.1.cell 0, h.1.cell 1, h.1.cell 2, h.1.cell 3, h.1.cell 4, h.2.cell 0, h.2.cell 1, h.2.cell 2⟩ : V.cell? ⟨w.heap.size, 0, none⟩ = some (.int .i64 k) ∧ V.cell? ⟨w.heap.size, 1, none⟩ = some (.int .i64 b) ∧ V.cell? ⟨w.heap.size, 2, none⟩ = some (.int .i64 x) ∧ V.cell? ⟨w.heap.size, 3, none⟩ = some (.int .i64 t) ∧ V.cell? ⟨w.heap.size, 4, none⟩ = some (.int .i64 l) ∧ V.cell? ⟨w.heap.size + 1, 0, none⟩ = some (.string sc) ∧ V.cell? ⟨w.heap.size + 1, 1, none⟩ = some (.string rn) ∧ V.cell? ⟨w.heap.size + 1, 2, none⟩ = some (.string pu)))
  clear hbS hd n1 n2 n3 hloS hf3 hb3
  go_wp2_with fail
  refine wp_region_held_drew (S := fun V => V.cell? ⟨w.heap.size, 0, none⟩ = some (.int .i64 k) ∧ V.cell? ⟨w.heap.size, 1, none⟩ = some (.int .i64 b) ∧ V.cell? ⟨w.heap.size, 2, none⟩ = some (.int .i64 x) ∧ V.cell? ⟨w.heap.size, 3, none⟩ = some (.int .i64 t) ∧ V.cell? ⟨w.heap.size, 4, none⟩ = some (.int .i64 l) ∧ V.cell? ⟨w.heap.size + 1, 0, none⟩ = some (.string sc) ∧ V.cell? ⟨w.heap.size + 1, 1, none⟩ = some (.string rn) ∧ V.cell? ⟨w.heap.size + 1, 2, none⟩ = some (.string pu)) (by kernel_rfl) (HS.out _ (HBS.out _ HB3L.out.drew)) (fun hHeld => ?_)
  refine wpAnyH_take (i := 0) (oi := ?oia0) (v := ?va0) ?hia0 (by kernel_rfl) (by kernel_rfl) (by kernel_rfl) ?hQa0 (Or.inl ⟨?h1a0, ?hya0⟩) hHeld ?resta0
  case hia0 => (simp only [List.getElem?_toArray, List.getElem?_cons_zero]; rfl)
  case hQa0 => exact fun _ _ _ h => h
  case h1a0 => rfl
  case hya0 => intro V hSV; (try dsimp only at hSV); go_simp; (try with_reducible rfl)
  try simp only [Act.put, List.setIfInBounds_toArray, List.set_cons_zero, List.set_cons_succ]
  refine wpAnyH_take (i := 1) (oi := ?oia1) (v := ?va1) ?hia1 (by kernel_rfl) (by kernel_rfl) (by kernel_rfl) ?hQa1 (Or.inl ⟨?h1a1, ?hya1⟩) hHeld ?resta1
  case hia1 => (simp only [List.getElem?_toArray, List.getElem?_cons_succ, List.getElem?_cons_zero]; rfl)
  case hQa1 => exact fun _ _ _ h => h
  case h1a1 => rfl
  case hya1 => intro V hSV; (try dsimp only at hSV); go_simp; (try with_reducible rfl)
  try simp only [Act.put, List.setIfInBounds_toArray, List.set_cons_zero, List.set_cons_succ]
  refine wpAnyH_take (i := 2) (oi := ?oia2) (v := ?va2) ?hia2 (by kernel_rfl) (by kernel_rfl) (by kernel_rfl) ?hQa2 (Or.inl ⟨?h1a2, ?hya2⟩) hHeld ?resta2
  case hia2 => (simp only [List.getElem?_toArray, List.getElem?_cons_succ, List.getElem?_cons_zero]; rfl)
  case hQa2 => exact fun _ _ _ h => h
  case h1a2 => rfl
  case hya2 => intro V hSV; (try dsimp only at hSV); go_simp; (try with_reducible rfl)
  try simp only [Act.put, List.setIfInBounds_toArray, List.set_cons_zero, List.set_cons_succ]
  refine wpAnyH_take (i := 3) (oi := ?oia3) (v := ?va3) ?hia3 (by kernel_rfl) (by kernel_rfl) (by kernel_rfl) ?hQa3 (Or.inl ⟨?h1a3, ?hya3⟩) hHeld ?resta3
  case hia3 => (simp only [List.getElem?_toArray, List.getElem?_cons_succ, List.getElem?_cons_zero]; rfl)
  case hQa3 => exact fun _ _ _ h => h
  case h1a3 => rfl
  case hya3 => intro V hSV; (try dsimp only at hSV); go_simp; (try with_reducible rfl)
  try simp only [Act.put, List.setIfInBounds_toArray, List.set_cons_zero, List.set_cons_succ]
  refine wpAnyH_ready (rs := [4]) (by kernel_rfl) (by simp) ?_
  refine AllReadyH.cons (o := ?oa4) ?hoa4 (fun K hK => ?hsa4) AllReadyH.nil
  case hoa4 => (simp only [List.getElem?_toArray, List.getElem?_cons_succ, List.getElem?_cons_zero]; rfl)
  go_simp
  go_at_call 17
  refine (HPB.out _).mono ?_
  rintro e w4 ⟨rfl, rfl⟩
  try go_wp2_with fail
  refine hK.out _ _ (HS.out _ (HBS.out _ HB3L.out.drew)) (fun hHeld => ?_)
  clear hK K
  try simp only [Act.put, List.setIfInBounds_toArray, List.set_cons_zero, List.set_cons_succ]
  refine wpAnyH_take (i := 5) (oi := ?oia5) (v := ?va5) ?hia5 (by kernel_rfl) (by kernel_rfl) (by kernel_rfl) ?hQa5 (Or.inl ⟨?h1a5, ?hya5⟩) hHeld ?resta5
  case hia5 => (simp only [List.getElem?_toArray, List.getElem?_cons_succ, List.getElem?_cons_zero]; rfl)
  case hQa5 => exact fun _ _ _ h => h
  case h1a5 => rfl
  case hya5 => intro V hSV; (try dsimp only at hSV); go_simp; (try with_reducible rfl)
  try simp only [Act.put, List.setIfInBounds_toArray, List.set_cons_zero, List.set_cons_succ]
  refine wpAnyH_ready (rs := [6]) (by kernel_rfl) (by simp) ?_
  refine AllReadyH.cons (o := ?oa6) ?hoa6 (fun K hK => ?hsa6) AllReadyH.nil
  case hoa6 => (simp only [List.getElem?_toArray, List.getElem?_cons_succ, List.getElem?_cons_zero]; rfl)
  go_simp
  go_at_call 23
  refine HMK.out.mono ?_
  rintro e w5 ⟨G, S, rfl, hinv, hsz⟩
  have HI5 := hide hinv
  have HZ5 := hide (Nat.le_trans HZ3.out hsz)
  clear hinv hsz
  try go_wp2_with fail
  refine hK.out _ _ (HS.out _ (HBS.out _ HI5.out.low)) (fun hHeld => ?_)
  clear hK K
  try simp only [Act.put, List.setIfInBounds_toArray, List.set_cons_zero, List.set_cons_succ]
  refine wpAnyH_take (i := 7) (oi := ?oia7) (v := ?va7) ?hia7 (by kernel_rfl) (by kernel_rfl) (by kernel_rfl) ?hQa7 (Or.inl ⟨?h1a7, ?hya7⟩) hHeld ?resta7
  case hia7 => (simp only [List.getElem?_toArray, List.getElem?_cons_succ, List.getElem?_cons_zero]; rfl)
  case hQa7 => exact fun _ _ _ h => h
  case h1a7 => rfl
  case hya7 => intro V hSV; (try dsimp only at hSV); go_simp; (try with_reducible rfl)
  try simp only [Act.put, List.setIfInBounds_toArray, List.set_cons_zero, List.set_cons_succ]
  refine wpAnyH_take (i := 8) (oi := ?oia8) (v := ?va8) ?hia8 (by kernel_rfl) (by kernel_rfl) (by kernel_rfl) ?hQa8 (Or.inl ⟨?h1a8, ?hya8⟩) hHeld ?resta8
  case hia8 => (simp only [List.getElem?_toArray, List.getElem?_cons_succ, List.getElem?_cons_zero]; rfl)
  case hQa8 => exact fun _ _ _ h => h
  case h1a8 => rfl
  case hya8 => intro V hSV; (try dsimp only at hSV); go_simp; (try with_reducible rfl)
  try simp only [Act.put, List.setIfInBounds_toArray, List.set_cons_zero, List.set_cons_succ]
  refine wpAnyH_take (i := 9) (oi := ?oia9) (v := ?va9) ?hia9 (by kernel_rfl) (by kernel_rfl) (by kernel_rfl) ?hQa9 (Or.inl ⟨?h1a9, ?hya9⟩) hHeld ?resta9
  case hia9 => (simp only [List.getElem?_toArray, List.getElem?_cons_succ, List.getElem?_cons_zero]; rfl)
  case hQa9 => exact fun _ _ _ h => h
  case h1a9 => rfl
  case hya9 => intro V hSV; (try dsimp only at hSV); go_simp; (try with_reducible rfl)
  try simp only [Act.put, List.setIfInBounds_toArray, List.set_cons_zero, List.set_cons_succ]
  refine wpAnyH_take (i := 10) (oi := ?oia10) (v := ?va10) ?hia10 (by kernel_rfl) (by kernel_rfl) (by kernel_rfl) ?hQa10 (Or.inl ⟨?h1a10, ?hya10⟩) hHeld ?resta10
  case hia10 => (simp only [List.getElem?_toArray, List.getElem?_cons_succ, List.getElem?_cons_zero]; rfl)
  case hQa10 => exact fun _ _ _ h => h
  case h1a10 => rfl
  case hya10 => intro V hSV; (try dsimp only at hSV); go_simp; (try with_reducible rfl)
  try simp only [Act.put, List.setIfInBounds_toArray, List.set_cons_zero, List.set_cons_succ]
  refine wpAnyH_take (i := 11) (oi := ?oia11) (v := ?va11) ?hia11 (by kernel_rfl) (by kernel_rfl) (by kernel_rfl) ?hQa11 (Or.inl ⟨?h1a11, ?hya11⟩) hHeld ?resta11
  case hia11 => (simp only [List.getElem?_toArray, List.getElem?_cons_succ, List.getElem?_cons_zero]; rfl)
  case hQa11 => exact fun _ _ _ h => h
  case h1a11 => rfl
  case hya11 => intro V hSV; (try dsimp only at hSV); go_simp; (try with_reducible rfl)
  try simp only [Act.put, List.setIfInBounds_toArray, List.set_cons_zero, List.set_cons_succ]
  refine wpAnyH_done (by kernel_rfl) ?_ _
  clear hHeld hwb
  go_wp2_with fail
  go_loopw [12, 13] (fun kv i wr => ∃ j kk : Nat, j ≤ n ∧ i = .int .i64 j ∧ kv = .int .i64 kk ∧ Hid (INV lo SD D G S 1 k b x e f t l sc rn pu bat W2 kk wr ∧ lo ≤ wr.heap.size)) (fun _ i _ => n - (intOf i).toNat)
  case atStart => exact ⟨0, 0, Nat.zero_le _, rfl, rfl, HI5.out, HZ5.out⟩
  case round =>
    obtain ⟨j, kk, hj, rfl, rfl, hinv⟩ := hrel
    have HZR := hide hinv.out.2
    obtain ⟨st, F, q, bd, hI, hB, hc, hq1, hq, hkb, hbt⟩ := hinv.out.1
    have HI := hide hI
    have HBL := hide hB
    have HCA := hide (And.intro hc (And.intro hq1 (And.intro hq (And.intro hkb hbt))))
    have HCR := hide (HBS.out _ hB).1
    have HSL := hide hI.s.lt
    have HFL := hide (fun i hi => (hI.k.lt i hi).2 : ∀ i, F i → i < wr.heap.size)
    have hkm : kk ≤ 4096 := by have := HT4.out; omega
    have hbm : bd ≤ 4096 := by have := HT4.out; omega
    clear hinv hI hB hc hq1 hq hkb hbt
    by_cases hlt : j < n
    · obtain ⟨dkd, da, db, dt, ka, kn, kc, sb, so, hvav, hsb, g0, g1, g2, g3, g4, HOK⟩ : ∃ (dkd da db : Int) (dt : ByteArray) (ka : Option Addr) (kn kc sb so : Nat), va = some ⟨sb, so, none⟩ ∧ sb < w.heap.size ∧ wr.cell? ⟨sb, so + j * 5, none⟩ = some (.int .i64 dkd) ∧ wr.cell? ⟨sb, so + j * 5 + 1, none⟩ = some (.int .i64 da) ∧ wr.cell? ⟨sb, so + j * 5 + 2, none⟩ = some (.int .i64 db) ∧ wr.cell? ⟨sb, so + j * 5 + 3, none⟩ = some (.string dt) ∧ wr.cell? ⟨sb, so + j * 5 + 4, none⟩ = some (.slice ka kn kc) ∧ Hid ((-9223372036854775808 ≤ dkd ∧ dkd ≤ 9223372036854775807) ∧ (-9223372036854775808 ≤ db ∧ db ≤ 9223372036854775807)) := by
        rcases HV.out with ⟨_, e0⟩ | ⟨sb, so, cap, e0, _, hsb, hall⟩
        · have := HN.out
          rw [e0] at this
          simp at this
          omega
        · obtain ⟨d, hd⟩ : ∃ d, L[j]? = some d := ⟨_, List.getElem?_eq_getElem (by rw [HN.out]; exact hlt)⟩
          obtain ⟨ok, c0, c1, c2, c3, c4⟩ := hall j d hd
          simp only [Value.slice.injEq] at e0
          have hc : ∀ o u, w.cell? ⟨sb, o, none⟩ = some u → wr.cell? ⟨sb, o, none⟩ = some u := fun o u h => (HBL.out.cell (p := ⟨sb, o, none⟩) (Nat.lt_trans hsb HL1.out)).trans ((HBY.out.cell (p := ⟨sb, o, none⟩) hsb).trans h)
          obtain ⟨ka, kc, hkv⟩ := ok.kb.len
          rw [hkv] at c4
          exact ⟨d.kd, d.a, d.b, d.t, ka, d.K.length, kc, sb, so, e0.1, hsb, hc _ _ c0, hc _ _ c1, hc _ _ c2, hc _ _ c3, hc _ _ c4, ⟨ok.kd1, ok.kd2⟩, ok.b1, ok.b2⟩
      subst hvav
      clear hsb
      have hms : (j : Int) < (n : Int) := by omega
      obtain ⟨W6, hW6⟩ : ∃ W6, wr.alloc (.cells #[.int .i64 dkd, .int .i64 da, .int .i64 db, .string dt, .slice ka kn kc] 53) = W6 := ⟨_, rfl⟩
      obtain ⟨OB, hOB⟩ : ∃ OB, wr.heap.size = OB := ⟨_, rfl⟩
      have HB6 := hide (show Below wr.heap.size wr W6 by rw [← hW6]; exact (Below.refl _ _).alloc (Nat.le_refl _) _)
      have HO6 := hide (show Blk W6 OB [.int .i64 dkd, .int .i64 da, .int .i64 db, .string dt, .slice ka kn kc] 53 by rw [← hW6, ← hOB]; exact Blk.new wr _ _)
      have HC6 := hide (HCR.out.on HB6.out)
      have HI6 := hide (HI.out.below HB6.out)
      have HZ6 := hide (Nat.le_trans HZR.out HB6.out.size)
      have HBL6 := hide (HBL.out.trans (HB6.out.mono HZR.out))
      have HNO := hide (show ¬ (OB = S ∨ F OB) by
        rw [← hOB]
        rintro (e1 | e1)
        · have := HSL.out; omega
        · have := HFL.out _ e1; omega)
      have HNC := hide (show ¬ (w.heap.size = S ∨ F w.heap.size) by
        rintro (e1 | e1)
        · have := HI.out.ls; have := HL1.out; omega
        · have := (HI.out.k.lt _ e1).1; have := HL1.out; omega)
      have HWE6 := hide hW6
      have HOBE := hide hOB
      have o0 : W6.cell? ⟨OB, 0, none⟩ = some (.int .i64 dkd) := HO6.out.cell 0
      rw [← hW6, ← hOB] at o0
      clear hW6 hOB
      have HPK := hide (fun V : World => pickR_any dkd 2 V (by omega) (by omega) HOK.out.1.1 HOK.out.1.2)
      have pk := pickZ_bd dkd 2 (by omega)
      go_wp2_with fail
      refine (HPK.out _).mono ?_
      rintro e1 w7 ⟨rfl, rfl⟩
      rw [HWE6.out, HOBE.out]
      clear o0 g0 g1 g2 g3 g4
      by_cases hkd : pickZ dkd 2 = 0
      · have hkd1 : (pickZ dkd 2 == 0) = true := by simpa using hkd
        clear pk
        have HUP := hide (fun V : World => upTo_any dt 200 V)
        simp only [Int.cast_ofNat_Int] at HUP
        have hms9 := upS_size dt 200
        obtain ⟨ms, hms8⟩ : ∃ ms, upS dt 200 = ms := ⟨_, rfl⟩
        rw [hms8] at HUP hms9
        have HMS := hide hms9
        have HS15 := hide (fun (V : World) (h : Blk V w.heap.size [.int .i64 k, .int .i64 b, .int .i64 x, .int .i64 t, .int .i64 l] 26 ∧ Blk V OB [.int .i64 dkd, .int .i64 da, .int .i64 db, .string dt, .slice ka kn kc] 53) => (⟨h.1.cell 0, h.1.cell 1, h.1.cell 2, h.1.cell 3, h.1.cell 4, h.2.cell 3⟩ : V.cell? ⟨w.heap.size, 0, none⟩ = some (.int .i64 k) ∧ V.cell? ⟨w.heap.size, 1, none⟩ = some (.int .i64 b) ∧ V.cell? ⟨w.heap.size, 2, none⟩ = some (.int .i64 x) ∧ V.cell? ⟨w.heap.size, 3, none⟩ = some (.int .i64 t) ∧ V.cell? ⟨w.heap.size, 4, none⟩ = some (.int .i64 l) ∧ V.cell? ⟨OB, 3, none⟩ = some (.string dt)))
        have HI6D := hide (HI6.out.below (Below.refl _ W6).drew)
        clear hms8 hms9 hkd
        by_cases hkt : kk < 2 ^ (t * l)
        · have HIO := hide (inv_sign (V := W6.drew) (Wd := W2) HR.out HZZ.out.1 HZZ.out.2.1 HZZ.out.2.2 HT2.out HTB.out HZ6.out HBT.out.1 HBT.out.2 ms HMS.out hkt HI6D.out HBL6.out.drew HCA.out.1 HCA.out.2.1 HCA.out.2.2.1 HCA.out.2.2.2.1 HCA.out.2.2.2.2)
          have hkT : (kk : Int) < ((2 ^ (t * l) : Nat) : Int) := by omega
          have hw1 : IntKind.i64.wrap ((kk : Int) + 1) = (kk : Int) + 1 := by rw [IntKind.wrap_i64] <;> omega
          generalize 2 ^ (t * l) = TT at HTO hkT hkt
          go_wp2_with fail
          refine wp_region_held_drew (S := fun V => V.cell? ⟨w.heap.size, 0, none⟩ = some (.int .i64 k) ∧ V.cell? ⟨w.heap.size, 1, none⟩ = some (.int .i64 b) ∧ V.cell? ⟨w.heap.size, 2, none⟩ = some (.int .i64 x) ∧ V.cell? ⟨w.heap.size, 3, none⟩ = some (.int .i64 t) ∧ V.cell? ⟨w.heap.size, 4, none⟩ = some (.int .i64 l) ∧ V.cell? ⟨OB, 3, none⟩ = some (.string dt)) (by kernel_rfl) (HS15.out _ (And.intro HC6.out HO6.out)) (fun hHeld => ?_)
          refine wpAnyH_take (i := 0) (oi := ?ois0) (v := ?vs0) ?his0 (by kernel_rfl) (by kernel_rfl) (by kernel_rfl) ?hQs0 (Or.inl ⟨?h1s0, ?hys0⟩) hHeld ?rests0
          case his0 => (simp only [List.getElem?_toArray, List.getElem?_cons_zero]; rfl)
          case hQs0 => exact fun _ _ _ h => h
          case h1s0 => rfl
          case hys0 => intro V hSV; (try dsimp only at hSV); go_simp; (try with_reducible rfl)
          try simp only [Act.put, List.setIfInBounds_toArray, List.set_cons_zero, List.set_cons_succ]
          refine wpAnyH_take (i := 1) (oi := ?ois1) (v := ?vs1) ?his1 (by kernel_rfl) (by kernel_rfl) (by kernel_rfl) ?hQs1 (Or.inl ⟨?h1s1, ?hys1⟩) hHeld ?rests1
          case his1 => (simp only [List.getElem?_toArray, List.getElem?_cons_succ, List.getElem?_cons_zero]; rfl)
          case hQs1 => exact fun _ _ _ h => h
          case h1s1 => rfl
          case hys1 => intro V hSV; (try dsimp only at hSV); go_simp; (try with_reducible rfl)
          try simp only [Act.put, List.setIfInBounds_toArray, List.set_cons_zero, List.set_cons_succ]
          refine wpAnyH_take (i := 2) (oi := ?ois2) (v := ?vs2) ?his2 (by kernel_rfl) (by kernel_rfl) (by kernel_rfl) ?hQs2 (Or.inl ⟨?h1s2, ?hys2⟩) hHeld ?rests2
          case his2 => (simp only [List.getElem?_toArray, List.getElem?_cons_succ, List.getElem?_cons_zero]; rfl)
          case hQs2 => exact fun _ _ _ h => h
          case h1s2 => rfl
          case hys2 => intro V hSV; (try dsimp only at hSV); go_simp; (try with_reducible rfl)
          try simp only [Act.put, List.setIfInBounds_toArray, List.set_cons_zero, List.set_cons_succ]
          refine wpAnyH_take (i := 3) (oi := ?ois3) (v := ?vs3) ?his3 (by kernel_rfl) (by kernel_rfl) (by kernel_rfl) ?hQs3 (Or.inl ⟨?h1s3, ?hys3⟩) hHeld ?rests3
          case his3 => (simp only [List.getElem?_toArray, List.getElem?_cons_succ, List.getElem?_cons_zero]; rfl)
          case hQs3 => exact fun _ _ _ h => h
          case h1s3 => rfl
          case hys3 => intro V hSV; (try dsimp only at hSV); go_simp; (try with_reducible rfl)
          try simp only [Act.put, List.setIfInBounds_toArray, List.set_cons_zero, List.set_cons_succ]
          refine wpAnyH_take (i := 4) (oi := ?ois4) (v := ?vs4) ?his4 (by kernel_rfl) (by kernel_rfl) (by kernel_rfl) ?hQs4 (Or.inl ⟨?h1s4, ?hys4⟩) hHeld ?rests4
          case his4 => (simp only [List.getElem?_toArray, List.getElem?_cons_succ, List.getElem?_cons_zero]; rfl)
          case hQs4 => exact fun _ _ _ h => h
          case h1s4 => rfl
          case hys4 => intro V hSV; (try dsimp only at hSV); go_simp; (try with_reducible rfl)
          try simp only [Act.put, List.setIfInBounds_toArray, List.set_cons_zero, List.set_cons_succ]
          refine wpAnyH_take (i := 5) (oi := ?ois5) (v := ?vs5) ?his5 (by kernel_rfl) (by kernel_rfl) (by kernel_rfl) ?hQs5 (Or.inl ⟨?h1s5, ?hys5⟩) hHeld ?rests5
          case his5 => (simp only [List.getElem?_toArray, List.getElem?_cons_succ, List.getElem?_cons_zero]; rfl)
          case hQs5 => exact fun _ _ _ h => h
          case h1s5 => rfl
          case hys5 => intro V hSV; (try dsimp only at hSV); go_simp; (try with_reducible rfl)
          try simp only [Act.put, List.setIfInBounds_toArray, List.set_cons_zero, List.set_cons_succ]
          refine wpAnyH_ready (rs := [6]) (by kernel_rfl) (by simp) ?_
          refine AllReadyH.cons (o := ?os6) ?hos6 (fun K hK => ?hss6) AllReadyH.nil
          case hos6 => (simp only [List.getElem?_toArray, List.getElem?_cons_succ, List.getElem?_cons_zero]; rfl)
          go_simp
          go_at_call 28
          refine (HUP.out _).mono ?_
          rintro e w7 ⟨rfl, rfl⟩
          try go_wp2_with fail
          refine hK.out _ _ (HS15.out _ (And.intro HC6.out HO6.out)) (fun hHeld => ?_)
          clear hK K
          try simp only [Act.put, List.setIfInBounds_toArray, List.set_cons_zero, List.set_cons_succ]
          refine wpAnyH_ready (rs := [7]) (by kernel_rfl) (by simp) ?_
          refine AllReadyH.cons (o := ?os7) ?hos7 (fun K hK => ?hss7) AllReadyH.nil
          case hos7 => (simp only [List.getElem?_toArray, List.getElem?_cons_succ, List.getElem?_cons_zero]; rfl)
          go_simp
          go_at_call 27
          refine HIO.out.mono ?_
          rintro e w8 ⟨rfl, hinv, hkp⟩
          have HI8 := hide hinv
          have HX8 := hide (And.intro (hkp.blk HC6.out HNC.out) (hkp.blk HO6.out HNO.out))
          have HZ8 := hide (Nat.le_trans HZ6.out hkp.size)
          clear hinv hkp
          try go_wp2_with fail
          refine hK.out _ _ (HS15.out _ (HX8.out)) (fun hHeld => ?_)
          clear hK K
          try simp only [Act.put, List.setIfInBounds_toArray, List.set_cons_zero, List.set_cons_succ]
          refine wpAnyH_take (i := 8) (oi := ?ois8) (v := ?vs8) ?his8 (by kernel_rfl) (by kernel_rfl) (by kernel_rfl) ?hQs8 (Or.inl ⟨?h1s8, ?hys8⟩) hHeld ?rests8
          case his8 => (simp only [List.getElem?_toArray, List.getElem?_cons_succ, List.getElem?_cons_zero]; rfl)
          case hQs8 => exact fun _ _ _ h => h
          case h1s8 => rfl
          case hys8 => intro V hSV; (try dsimp only at hSV); go_simp; (try with_reducible rfl)
          try simp only [Act.put, List.setIfInBounds_toArray, List.set_cons_zero, List.set_cons_succ]
          refine wpAnyH_done (by kernel_rfl) ?_ _
          clear hHeld
          have c0 : w8.cell? ⟨w.heap.size, 0, none⟩ = some (.int .i64 k) := HX8.out.1.cell 0
          have c1 : w8.cell? ⟨w.heap.size, 1, none⟩ = some (.int .i64 b) := HX8.out.1.cell 1
          have c2 : w8.cell? ⟨w.heap.size, 2, none⟩ = some (.int .i64 x) := HX8.out.1.cell 2
          have c3 : w8.cell? ⟨w.heap.size, 3, none⟩ = some (.int .i64 t) := HX8.out.1.cell 3
          have c4 : w8.cell? ⟨w.heap.size, 4, none⟩ = some (.int .i64 l) := HX8.out.1.cell 4
          go_wp2_with fail
          refine (HTO.out _).mono ?_
          rintro e1 w9 ⟨rfl, hb9⟩
          have HI9 := hide (HI8.out.then hb9 HZ8.out)
          have HZ9 := hide (Nat.le_trans HZ8.out hb9.size)
          clear hb9 c0 c1 c2 c3 c4
          go_wp2
          go_roundw
          case rel =>
            have RR : ∃ j' kk' : Nat, j' ≤ n ∧ Value.int .i64 ((j : Int) + 1) = .int .i64 j' ∧ Value.int .i64 ((kk : Int) + 1) = .int .i64 kk' ∧ Hid (INV lo SD D G S 1 k b x e f t l sc rn pu bat W2 kk' w9 ∧ lo ≤ w9.heap.size) := ⟨j + 1, kk + 1, by omega, by go_num, by go_num, HI9.out, HZ9.out⟩
            first | exact RR | ((repeat apply Exists.intro); exact ⟨RR, rfl⟩)
          case measure => simp [intOf]; omega
        · have HIO := hide (inv_spent (V := W6.drew) (Wd := W2) HR.out HZ6.out ms HMS.out (by omega) HI6D.out HBL6.out.drew HCA.out.1 HCA.out.2.1 HCA.out.2.2.1 HCA.out.2.2.2.1 HCA.out.2.2.2.2)
          have hkT : ((2 ^ (t * l) : Nat) : Int) ≤ (kk : Int) := by omega
          generalize 2 ^ (t * l) = TT at HTO hkT hkt
          go_wp2_with fail
          refine wp_region_held_drew (S := fun V => V.cell? ⟨w.heap.size, 0, none⟩ = some (.int .i64 k) ∧ V.cell? ⟨w.heap.size, 1, none⟩ = some (.int .i64 b) ∧ V.cell? ⟨w.heap.size, 2, none⟩ = some (.int .i64 x) ∧ V.cell? ⟨w.heap.size, 3, none⟩ = some (.int .i64 t) ∧ V.cell? ⟨w.heap.size, 4, none⟩ = some (.int .i64 l) ∧ V.cell? ⟨OB, 3, none⟩ = some (.string dt)) (by kernel_rfl) (HS15.out _ (And.intro HC6.out HO6.out)) (fun hHeld => ?_)
          refine wpAnyH_take (i := 0) (oi := ?oiu0) (v := ?vu0) ?hiu0 (by kernel_rfl) (by kernel_rfl) (by kernel_rfl) ?hQu0 (Or.inl ⟨?h1u0, ?hyu0⟩) hHeld ?restu0
          case hiu0 => (simp only [List.getElem?_toArray, List.getElem?_cons_zero]; rfl)
          case hQu0 => exact fun _ _ _ h => h
          case h1u0 => rfl
          case hyu0 => intro V hSV; (try dsimp only at hSV); go_simp; (try with_reducible rfl)
          try simp only [Act.put, List.setIfInBounds_toArray, List.set_cons_zero, List.set_cons_succ]
          refine wpAnyH_take (i := 1) (oi := ?oiu1) (v := ?vu1) ?hiu1 (by kernel_rfl) (by kernel_rfl) (by kernel_rfl) ?hQu1 (Or.inl ⟨?h1u1, ?hyu1⟩) hHeld ?restu1
          case hiu1 => (simp only [List.getElem?_toArray, List.getElem?_cons_succ, List.getElem?_cons_zero]; rfl)
          case hQu1 => exact fun _ _ _ h => h
          case h1u1 => rfl
          case hyu1 => intro V hSV; (try dsimp only at hSV); go_simp; (try with_reducible rfl)
          try simp only [Act.put, List.setIfInBounds_toArray, List.set_cons_zero, List.set_cons_succ]
          refine wpAnyH_take (i := 2) (oi := ?oiu2) (v := ?vu2) ?hiu2 (by kernel_rfl) (by kernel_rfl) (by kernel_rfl) ?hQu2 (Or.inl ⟨?h1u2, ?hyu2⟩) hHeld ?restu2
          case hiu2 => (simp only [List.getElem?_toArray, List.getElem?_cons_succ, List.getElem?_cons_zero]; rfl)
          case hQu2 => exact fun _ _ _ h => h
          case h1u2 => rfl
          case hyu2 => intro V hSV; (try dsimp only at hSV); go_simp; (try with_reducible rfl)
          try simp only [Act.put, List.setIfInBounds_toArray, List.set_cons_zero, List.set_cons_succ]
          refine wpAnyH_take (i := 3) (oi := ?oiu3) (v := ?vu3) ?hiu3 (by kernel_rfl) (by kernel_rfl) (by kernel_rfl) ?hQu3 (Or.inl ⟨?h1u3, ?hyu3⟩) hHeld ?restu3
          case hiu3 => (simp only [List.getElem?_toArray, List.getElem?_cons_succ, List.getElem?_cons_zero]; rfl)
          case hQu3 => exact fun _ _ _ h => h
          case h1u3 => rfl
          case hyu3 => intro V hSV; (try dsimp only at hSV); go_simp; (try with_reducible rfl)
          try simp only [Act.put, List.setIfInBounds_toArray, List.set_cons_zero, List.set_cons_succ]
          refine wpAnyH_take (i := 4) (oi := ?oiu4) (v := ?vu4) ?hiu4 (by kernel_rfl) (by kernel_rfl) (by kernel_rfl) ?hQu4 (Or.inl ⟨?h1u4, ?hyu4⟩) hHeld ?restu4
          case hiu4 => (simp only [List.getElem?_toArray, List.getElem?_cons_succ, List.getElem?_cons_zero]; rfl)
          case hQu4 => exact fun _ _ _ h => h
          case h1u4 => rfl
          case hyu4 => intro V hSV; (try dsimp only at hSV); go_simp; (try with_reducible rfl)
          try simp only [Act.put, List.setIfInBounds_toArray, List.set_cons_zero, List.set_cons_succ]
          refine wpAnyH_take (i := 5) (oi := ?oiu5) (v := ?vu5) ?hiu5 (by kernel_rfl) (by kernel_rfl) (by kernel_rfl) ?hQu5 (Or.inl ⟨?h1u5, ?hyu5⟩) hHeld ?restu5
          case hiu5 => (simp only [List.getElem?_toArray, List.getElem?_cons_succ, List.getElem?_cons_zero]; rfl)
          case hQu5 => exact fun _ _ _ h => h
          case h1u5 => rfl
          case hyu5 => intro V hSV; (try dsimp only at hSV); go_simp; (try with_reducible rfl)
          try simp only [Act.put, List.setIfInBounds_toArray, List.set_cons_zero, List.set_cons_succ]
          refine wpAnyH_ready (rs := [6]) (by kernel_rfl) (by simp) ?_
          refine AllReadyH.cons (o := ?ou6) ?hou6 (fun K hK => ?hsu6) AllReadyH.nil
          case hou6 => (simp only [List.getElem?_toArray, List.getElem?_cons_succ, List.getElem?_cons_zero]; rfl)
          go_simp
          go_at_call 28
          refine (HUP.out _).mono ?_
          rintro e w7 ⟨rfl, rfl⟩
          try go_wp2_with fail
          refine hK.out _ _ (HS15.out _ (And.intro HC6.out HO6.out)) (fun hHeld => ?_)
          clear hK K
          try simp only [Act.put, List.setIfInBounds_toArray, List.set_cons_zero, List.set_cons_succ]
          refine wpAnyH_ready (rs := [7]) (by kernel_rfl) (by simp) ?_
          refine AllReadyH.cons (o := ?ou7) ?hou7 (fun K hK => ?hsu7) AllReadyH.nil
          case hou7 => (simp only [List.getElem?_toArray, List.getElem?_cons_succ, List.getElem?_cons_zero]; rfl)
          go_simp
          go_at_call 27
          refine HIO.out.mono ?_
          rintro e w8 ⟨rfl, hinv, hkp⟩
          have HI8 := hide hinv
          have HX8 := hide (And.intro (hkp.blk HC6.out HNC.out) (hkp.blk HO6.out HNO.out))
          have HZ8 := hide (Nat.le_trans HZ6.out hkp.size)
          clear hinv hkp
          try go_wp2_with fail
          refine hK.out _ _ (HS15.out _ (HX8.out)) (fun hHeld => ?_)
          clear hK K
          try simp only [Act.put, List.setIfInBounds_toArray, List.set_cons_zero, List.set_cons_succ]
          refine wpAnyH_take (i := 8) (oi := ?oiu8) (v := ?vu8) ?hiu8 (by kernel_rfl) (by kernel_rfl) (by kernel_rfl) ?hQu8 (Or.inl ⟨?h1u8, ?hyu8⟩) hHeld ?restu8
          case hiu8 => (simp only [List.getElem?_toArray, List.getElem?_cons_succ, List.getElem?_cons_zero]; rfl)
          case hQu8 => exact fun _ _ _ h => h
          case h1u8 => rfl
          case hyu8 => intro V hSV; (try dsimp only at hSV); go_simp; (try with_reducible rfl)
          try simp only [Act.put, List.setIfInBounds_toArray, List.set_cons_zero, List.set_cons_succ]
          refine wpAnyH_done (by kernel_rfl) ?_ _
          clear hHeld
          have c0 : w8.cell? ⟨w.heap.size, 0, none⟩ = some (.int .i64 k) := HX8.out.1.cell 0
          have c1 : w8.cell? ⟨w.heap.size, 1, none⟩ = some (.int .i64 b) := HX8.out.1.cell 1
          have c2 : w8.cell? ⟨w.heap.size, 2, none⟩ = some (.int .i64 x) := HX8.out.1.cell 2
          have c3 : w8.cell? ⟨w.heap.size, 3, none⟩ = some (.int .i64 t) := HX8.out.1.cell 3
          have c4 : w8.cell? ⟨w.heap.size, 4, none⟩ = some (.int .i64 l) := HX8.out.1.cell 4
          go_wp2_with fail
          refine (HTO.out _).mono ?_
          rintro e1 w9 ⟨rfl, hb9⟩
          have HI9 := hide (HI8.out.then hb9 HZ8.out)
          have HZ9 := hide (Nat.le_trans HZ8.out hb9.size)
          clear hb9 c0 c1 c2 c3 c4
          go_wp2
          go_roundw
          case rel =>
            have RR : ∃ j' kk' : Nat, j' ≤ n ∧ Value.int .i64 ((j : Int) + 1) = .int .i64 j' ∧ Value.int .i64 (kk : Int) = .int .i64 kk' ∧ Hid (INV lo SD D G S 1 k b x e f t l sc rn pu bat W2 kk' w9 ∧ lo ≤ w9.heap.size) := ⟨j + 1, kk, by omega, by go_num, rfl, HI9.out, HZ9.out⟩
            first | exact RR | ((repeat apply Exists.intro); exact ⟨RR, rfl⟩)
          case measure => simp [intOf]; omega
      · have hkd1 : (pickZ dkd 2 == 0) = false := by simpa using hkd
        clear pk hkd
        have HST := hide (inv_state HI6.out HCA.out.1)
        have HPM := hide (fun V : World => pickR_any db 64 V (by omega) (by omega) HOK.out.2.1 HOK.out.2.2)
        have pm := pickZ_bd db 64 (by omega)
        obtain ⟨n0, hn0⟩ := Int.eq_ofNat_of_zero_le pm.1
        rw [hn0] at HPM pm
        obtain ⟨mm, hmm⟩ : ∃ mm : Nat, n0 + 1 = mm := ⟨_, rfl⟩
        have HMM := hide (show 1 ≤ mm ∧ mm ≤ 64 by omega)
        have hw1 : IntKind.i64.wrap ((n0 : Int) + 1) = (mm : Int) := by rw [IntKind.wrap_i64] <;> omega
        have hw2 : IntKind.i64.wrap ((bd : Int) + (mm : Int)) = (bd : Int) + (mm : Int) := by rw [IntKind.wrap_i64] <;> omega
        clear pm hn0 hmm
        go_wp2_with fail
        refine HST.out.mono ?_
        rintro e1 w7 ⟨rfl, hb7⟩
        obtain ⟨W7, hW7⟩ : ∃ W7, w7.alloc (.cells #[.int .i64 kk, .int .i64 bd, .int .i64 q, .bool false] 79) = W7 := ⟨_, rfl⟩
        obtain ⟨TB9, hTB9⟩ : ∃ TB9, w7.heap.size = TB9 := ⟨_, rfl⟩
        have HB7 := hide (show Below W6.heap.size W6 W7 by rw [← hW7]; exact hb7.alloc hb7.size _)
        have HT7 := hide (show Blk W7 TB9 [.int .i64 kk, .int .i64 bd, .int .i64 q, .bool false] 79 by rw [← hW7, ← hTB9]; exact Blk.new w7 _ _)
        have HC7 := hide (HC6.out.on HB7.out)
        have HI7 := hide (HI6.out.below HB7.out)
        have HZ7 := hide (Nat.le_trans HZ6.out HB7.out.size)
        have HBL7 := hide (HBL6.out.trans (HB7.out.mono HZ6.out))
        have HNT := hide (show ¬ (TB9 = S ∨ F TB9) by
          have z6 := HB6.out.size
          have z7 := hb7.size
          rw [← hTB9]
          rintro (e1 | e1)
          · have := HSL.out; omega
          · have := HFL.out _ e1; omega)
        have o2 : W7.cell? ⟨OB, 2, none⟩ = some (.int .i64 db) := (HO6.out.on HB7.out).cell 2
        rw [← hW7] at o2
        have HW7 := hide hW7
        have HTE := hide hTB9
        have HS23 := hide (fun (w10 : World) (h0 : Blk w10 w.heap.size [.int .i64 k, .int .i64 b, .int .i64 x, .int .i64 t, .int .i64 l] 26) (h1 : Blk w10 TB9 [.int .i64 kk, .int .i64 bd, .int .i64 q, .bool false] 79) => (fun V hV => by
          have q0 := h0.on hV
          have q1 := h1.on hV
          exact ⟨q0.cell 0, q0.cell 1, q0.cell 2, q0.cell 3, q0.cell 4, q1.cell 0, q1.cell 1⟩ : ∀ V, Below w10.heap.size w10 V → V.cell? ⟨w.heap.size, 0, none⟩ = some (.int .i64 k) ∧ V.cell? ⟨w.heap.size, 1, none⟩ = some (.int .i64 b) ∧ V.cell? ⟨w.heap.size, 2, none⟩ = some (.int .i64 x) ∧ V.cell? ⟨w.heap.size, 3, none⟩ = some (.int .i64 t) ∧ V.cell? ⟨w.heap.size, 4, none⟩ = some (.int .i64 l) ∧ V.cell? ⟨TB9, 0, none⟩ = some (.int .i64 kk) ∧ V.cell? ⟨TB9, 1, none⟩ = some (.int .i64 bd)))
        clear hb7 hW7 hTB9
        go_wp2_with fail
        rw [HW7.out, HTE.out]
        refine (HPM.out _).mono ?_
        rintro e1 w9 ⟨rfl, rfl⟩
        clear o2
        by_cases hbT : bd < 2 ^ (t * l)
        · have HRV := hide (inv_reserve (V := w9) (Wd := W2) HR.out HZZ.out.1 HZZ.out.2.2 mm HMM.out.1 HMM.out.2 HI7.out HBL7.out HZ7.out HCA.out.1 HCA.out.2.1 HCA.out.2.2.1 HCA.out.2.2.2.1 hbT)
          have HLE := hide (fun V : World => lesser_any ((bd : Int) + (mm : Int)) ((2 ^ (t * l) : Nat) : Int) V)
          rw [show (if (bd : Int) + (mm : Int) < ((2 ^ (t * l) : Nat) : Int) then (bd : Int) + (mm : Int) else ((2 ^ (t * l) : Nat) : Int)) = ((min (bd + mm) (2 ^ (t * l)) : Nat) : Int) by split <;> omega] at HLE
          have hdl : (bd : Int) < ((2 ^ (t * l) : Nat) : Int) := by omega
          generalize min (bd + mm) (2 ^ (t * l)) = NB at HRV HLE
          generalize 2 ^ (t * l) = TT at HTO hdl hbT HLE
          go_wp2_with fail
          refine HRV.out.mono ?_
          rintro e1 w10 ⟨rfl, hinv, hkp⟩
          have HS23 := hide (HS23.out w10 (hkp.blk HC7.out HNC.out) (hkp.blk HT7.out HNT.out))
          have HI10 := hide hinv
          have HZ10 := hide (Nat.le_trans HZ7.out hkp.size)
          clear hinv hkp
          go_wp2_with fail
          refine wp_region_held_drew (S := fun V => V.cell? ⟨w.heap.size, 0, none⟩ = some (.int .i64 k) ∧ V.cell? ⟨w.heap.size, 1, none⟩ = some (.int .i64 b) ∧ V.cell? ⟨w.heap.size, 2, none⟩ = some (.int .i64 x) ∧ V.cell? ⟨w.heap.size, 3, none⟩ = some (.int .i64 t) ∧ V.cell? ⟨w.heap.size, 4, none⟩ = some (.int .i64 l) ∧ V.cell? ⟨TB9, 0, none⟩ = some (.int .i64 kk) ∧ V.cell? ⟨TB9, 1, none⟩ = some (.int .i64 bd)) (by kernel_rfl) (HS23.out _ ((Below.refl w10.heap.size w10).drew)) (fun hHeld => ?_)
          refine wpAnyH_take (i := 0) (oi := ?oiy0) (v := ?vy0) ?hiy0 (by kernel_rfl) (by kernel_rfl) (by kernel_rfl) ?hQy0 (Or.inl ⟨?h1y0, ?hyy0⟩) hHeld ?resty0
          case hiy0 => (simp only [List.getElem?_toArray, List.getElem?_cons_zero]; rfl)
          case hQy0 => exact fun _ _ _ h => h
          case h1y0 => rfl
          case hyy0 => intro V hSV; (try dsimp only at hSV); go_simp; (try with_reducible rfl)
          try simp only [Act.put, List.setIfInBounds_toArray, List.set_cons_zero, List.set_cons_succ]
          refine wpAnyH_take (i := 1) (oi := ?oiy1) (v := ?vy1) ?hiy1 (by kernel_rfl) (by kernel_rfl) (by kernel_rfl) ?hQy1 (Or.inl ⟨?h1y1, ?hyy1⟩) hHeld ?resty1
          case hiy1 => (simp only [List.getElem?_toArray, List.getElem?_cons_succ, List.getElem?_cons_zero]; rfl)
          case hQy1 => exact fun _ _ _ h => h
          case h1y1 => rfl
          case hyy1 => intro V hSV; (try dsimp only at hSV); go_simp; (try with_reducible rfl)
          try simp only [Act.put, List.setIfInBounds_toArray, List.set_cons_zero, List.set_cons_succ]
          refine wpAnyH_take (i := 2) (oi := ?oiy2) (v := ?vy2) ?hiy2 (by kernel_rfl) (by kernel_rfl) (by kernel_rfl) ?hQy2 (Or.inl ⟨?h1y2, ?hyy2⟩) hHeld ?resty2
          case hiy2 => (simp only [List.getElem?_toArray, List.getElem?_cons_succ, List.getElem?_cons_zero]; rfl)
          case hQy2 => exact fun _ _ _ h => h
          case h1y2 => rfl
          case hyy2 => intro V hSV; (try dsimp only at hSV); go_simp; (try with_reducible rfl)
          try simp only [Act.put, List.setIfInBounds_toArray, List.set_cons_zero, List.set_cons_succ]
          refine wpAnyH_take (i := 3) (oi := ?oiy3) (v := ?vy3) ?hiy3 (by kernel_rfl) (by kernel_rfl) (by kernel_rfl) ?hQy3 (Or.inl ⟨?h1y3, ?hyy3⟩) hHeld ?resty3
          case hiy3 => (simp only [List.getElem?_toArray, List.getElem?_cons_succ, List.getElem?_cons_zero]; rfl)
          case hQy3 => exact fun _ _ _ h => h
          case h1y3 => rfl
          case hyy3 => intro V hSV; (try dsimp only at hSV); go_simp; (try with_reducible rfl)
          try simp only [Act.put, List.setIfInBounds_toArray, List.set_cons_zero, List.set_cons_succ]
          refine wpAnyH_take (i := 4) (oi := ?oiy4) (v := ?vy4) ?hiy4 (by kernel_rfl) (by kernel_rfl) (by kernel_rfl) ?hQy4 (Or.inl ⟨?h1y4, ?hyy4⟩) hHeld ?resty4
          case hiy4 => (simp only [List.getElem?_toArray, List.getElem?_cons_succ, List.getElem?_cons_zero]; rfl)
          case hQy4 => exact fun _ _ _ h => h
          case h1y4 => rfl
          case hyy4 => intro V hSV; (try dsimp only at hSV); go_simp; (try with_reducible rfl)
          try simp only [Act.put, List.setIfInBounds_toArray, List.set_cons_zero, List.set_cons_succ]
          refine wpAnyH_take (i := 5) (oi := ?oiy5) (v := ?vy5) ?hiy5 (by kernel_rfl) (by kernel_rfl) (by kernel_rfl) ?hQy5 (Or.inl ⟨?h1y5, ?hyy5⟩) hHeld ?resty5
          case hiy5 => (simp only [List.getElem?_toArray, List.getElem?_cons_succ, List.getElem?_cons_zero]; rfl)
          case hQy5 => exact fun _ _ _ h => h
          case h1y5 => rfl
          case hyy5 => intro V hSV; (try dsimp only at hSV); go_simp; (try with_reducible rfl)
          try simp only [Act.put, List.setIfInBounds_toArray, List.set_cons_zero, List.set_cons_succ]
          refine wpAnyH_take (i := 6) (oi := ?oiy6) (v := ?vy6) ?hiy6 (by kernel_rfl) (by kernel_rfl) (by kernel_rfl) ?hQy6 (Or.inl ⟨?h1y6, ?hyy6⟩) hHeld ?resty6
          case hiy6 => (simp only [List.getElem?_toArray, List.getElem?_cons_succ, List.getElem?_cons_zero]; rfl)
          case hQy6 => exact fun _ _ _ h => h
          case h1y6 => rfl
          case hyy6 => intro V hSV; (try dsimp only at hSV); go_simp; (try with_reducible rfl)
          try simp only [Act.put, List.setIfInBounds_toArray, List.set_cons_zero, List.set_cons_succ]
          refine wpAnyH_take (i := 7) (oi := ?oiy7) (v := ?vy7) ?hiy7 (by kernel_rfl) (by kernel_rfl) (by kernel_rfl) ?hQy7 (Or.inl ⟨?h1y7, ?hyy7⟩) hHeld ?resty7
          case hiy7 => (simp only [List.getElem?_toArray, List.getElem?_cons_succ, List.getElem?_cons_zero]; rfl)
          case hQy7 => exact fun _ _ _ h => h
          case h1y7 => rfl
          case hyy7 => intro V hSV; (try dsimp only at hSV); go_simp; (try with_reducible rfl)
          try simp only [Act.put, List.setIfInBounds_toArray, List.set_cons_zero, List.set_cons_succ]
          refine wpAnyH_take (i := 8) (oi := ?oiy8) (v := ?vy8) ?hiy8 (by kernel_rfl) (by kernel_rfl) (by kernel_rfl) ?hQy8 (Or.inl ⟨?h1y8, ?hyy8⟩) hHeld ?resty8
          case hiy8 => (simp only [List.getElem?_toArray, List.getElem?_cons_succ, List.getElem?_cons_zero]; rfl)
          case hQy8 => exact fun _ _ _ h => h
          case h1y8 => rfl
          case hyy8 => intro V hSV; (try dsimp only at hSV); go_simp; (try with_reducible rfl)
          try simp only [Act.put, List.setIfInBounds_toArray, List.set_cons_zero, List.set_cons_succ]
          refine wpAnyH_take (i := 9) (oi := ?oiy9) (v := ?vy9) ?hiy9 (by kernel_rfl) (by kernel_rfl) (by kernel_rfl) ?hQy9 (Or.inl ⟨?h1y9, ?hyy9⟩) hHeld ?resty9
          case hiy9 => (simp only [List.getElem?_toArray, List.getElem?_cons_succ, List.getElem?_cons_zero]; rfl)
          case hQy9 => exact fun _ _ _ h => h
          case h1y9 => rfl
          case hyy9 => intro V hSV; (try dsimp only at hSV); go_simp; (try with_reducible rfl)
          try simp only [Act.put, List.setIfInBounds_toArray, List.set_cons_zero, List.set_cons_succ]
          refine wpAnyH_ready (rs := [10]) (by kernel_rfl) (by simp) ?_
          refine AllReadyH.cons (o := ?oy10) ?hoy10 (fun K hK => ?hsy10) AllReadyH.nil
          case hoy10 => (simp only [List.getElem?_toArray, List.getElem?_cons_succ, List.getElem?_cons_zero]; rfl)
          go_simp
          go_at_call 29
          refine (HTO.out _).mono ?_
          rintro e wA ⟨rfl, hbA⟩
          have HBA := hide (heldB (Below.refl w10.heap.size w10).drew hbA (Nat.le_refl _))
          clear hbA
          try go_wp2_with fail
          refine hK.out _ _ (HS23.out _ (HBA.out)) (fun hHeld => ?_)
          clear hK K
          try simp only [Act.put, List.setIfInBounds_toArray, List.set_cons_zero, List.set_cons_succ]
          refine wpAnyH_take (i := 11) (oi := ?oiy11) (v := ?vy11) ?hiy11 (by kernel_rfl) (by kernel_rfl) (by kernel_rfl) ?hQy11 (Or.inl ⟨?h1y11, ?hyy11⟩) hHeld ?resty11
          case hiy11 => (simp only [List.getElem?_toArray, List.getElem?_cons_succ, List.getElem?_cons_zero]; rfl)
          case hQy11 => exact fun _ _ _ h => h
          case h1y11 => rfl
          case hyy11 => intro V hSV; (try dsimp only at hSV); go_simp; (try with_reducible rfl)
          try simp only [Act.put, List.setIfInBounds_toArray, List.set_cons_zero, List.set_cons_succ]
          refine wpAnyH_take (i := 12) (oi := ?oiy12) (v := ?vy12) ?hiy12 (by kernel_rfl) (by kernel_rfl) (by kernel_rfl) ?hQy12 (Or.inl ⟨?h1y12, ?hyy12⟩) hHeld ?resty12
          case hiy12 => (simp only [List.getElem?_toArray, List.getElem?_cons_succ, List.getElem?_cons_zero]; rfl)
          case hQy12 => exact fun _ _ _ h => h
          case h1y12 => rfl
          case hyy12 => intro V hSV; (try dsimp only at hSV); go_simp; (try with_reducible rfl)
          try simp only [Act.put, List.setIfInBounds_toArray, List.set_cons_zero, List.set_cons_succ]
          refine wpAnyH_take (i := 13) (oi := ?oiy13) (v := ?vy13) ?hiy13 (by kernel_rfl) (by kernel_rfl) (by kernel_rfl) ?hQy13 (Or.inl ⟨?h1y13, ?hyy13⟩) hHeld ?resty13
          case hiy13 => (simp only [List.getElem?_toArray, List.getElem?_cons_succ, List.getElem?_cons_zero]; rfl)
          case hQy13 => exact fun _ _ _ h => h
          case h1y13 => rfl
          case hyy13 => intro V hSV; (try dsimp only at hSV); go_simp; (try with_reducible rfl)
          try simp only [Act.put, List.setIfInBounds_toArray, List.set_cons_zero, List.set_cons_succ]
          refine wpAnyH_take (i := 14) (oi := ?oiy14) (v := ?vy14) ?hiy14 (by kernel_rfl) (by kernel_rfl) (by kernel_rfl) ?hQy14 (Or.inl ⟨?h1y14, ?hyy14⟩) hHeld ?resty14
          case hiy14 => (simp only [List.getElem?_toArray, List.getElem?_cons_succ, List.getElem?_cons_zero]; rfl)
          case hQy14 => exact fun _ _ _ h => h
          case h1y14 => rfl
          case hyy14 => intro V hSV; (try dsimp only at hSV); go_simp; (try with_reducible rfl)
          try simp only [Act.put, List.setIfInBounds_toArray, List.set_cons_zero, List.set_cons_succ]
          refine wpAnyH_take (i := 15) (oi := ?oiy15) (v := ?vy15) ?hiy15 (by kernel_rfl) (by kernel_rfl) (by kernel_rfl) ?hQy15 (Or.inl ⟨?h1y15, ?hyy15⟩) hHeld ?resty15
          case hiy15 => (simp only [List.getElem?_toArray, List.getElem?_cons_succ, List.getElem?_cons_zero]; rfl)
          case hQy15 => exact fun _ _ _ h => h
          case h1y15 => rfl
          case hyy15 => intro V hSV; (try dsimp only at hSV); go_simp; (try with_reducible rfl)
          try simp only [Act.put, List.setIfInBounds_toArray, List.set_cons_zero, List.set_cons_succ]
          refine wpAnyH_take (i := 16) (oi := ?oiy16) (v := ?vy16) ?hiy16 (by kernel_rfl) (by kernel_rfl) (by kernel_rfl) ?hQy16 (Or.inl ⟨?h1y16, ?hyy16⟩) hHeld ?resty16
          case hiy16 => (simp only [List.getElem?_toArray, List.getElem?_cons_succ, List.getElem?_cons_zero]; rfl)
          case hQy16 => exact fun _ _ _ h => h
          case h1y16 => rfl
          case hyy16 => intro V hSV; (try dsimp only at hSV); go_simp; (try with_reducible rfl)
          try simp only [Act.put, List.setIfInBounds_toArray, List.set_cons_zero, List.set_cons_succ]
          refine wpAnyH_take (i := 17) (oi := ?oiy17) (v := ?vy17) ?hiy17 (by kernel_rfl) (by kernel_rfl) (by kernel_rfl) ?hQy17 (Or.inl ⟨?h1y17, ?hyy17⟩) hHeld ?resty17
          case hiy17 => (simp only [List.getElem?_toArray, List.getElem?_cons_succ, List.getElem?_cons_zero]; rfl)
          case hQy17 => exact fun _ _ _ h => h
          case h1y17 => rfl
          case hyy17 => intro V hSV; (try dsimp only at hSV); go_simp; (try with_reducible rfl)
          try simp only [Act.put, List.setIfInBounds_toArray, List.set_cons_zero, List.set_cons_succ]
          refine wpAnyH_take (i := 18) (oi := ?oiy18) (v := ?vy18) ?hiy18 (by kernel_rfl) (by kernel_rfl) (by kernel_rfl) ?hQy18 (Or.inl ⟨?h1y18, ?hyy18⟩) hHeld ?resty18
          case hiy18 => (simp only [List.getElem?_toArray, List.getElem?_cons_succ, List.getElem?_cons_zero]; rfl)
          case hQy18 => exact fun _ _ _ h => h
          case h1y18 => rfl
          case hyy18 => intro V hSV; (try dsimp only at hSV); go_simp; (try with_reducible rfl)
          try simp only [Act.put, List.setIfInBounds_toArray, List.set_cons_zero, List.set_cons_succ]
          refine wpAnyH_take (i := 19) (oi := ?oiy19) (v := ?vy19) ?hiy19 (by kernel_rfl) (by kernel_rfl) (by kernel_rfl) ?hQy19 (Or.inl ⟨?h1y19, ?hyy19⟩) hHeld ?resty19
          case hiy19 => (simp only [List.getElem?_toArray, List.getElem?_cons_succ, List.getElem?_cons_zero]; rfl)
          case hQy19 => exact fun _ _ _ h => h
          case h1y19 => rfl
          case hyy19 => intro V hSV; (try dsimp only at hSV); go_simp; (try with_reducible rfl)
          try simp only [Act.put, List.setIfInBounds_toArray, List.set_cons_zero, List.set_cons_succ]
          refine wpAnyH_take (i := 20) (oi := ?oiy20) (v := ?vy20) ?hiy20 (by kernel_rfl) (by kernel_rfl) (by kernel_rfl) ?hQy20 (Or.inl ⟨?h1y20, ?hyy20⟩) hHeld ?resty20
          case hiy20 => (simp only [List.getElem?_toArray, List.getElem?_cons_succ, List.getElem?_cons_zero]; rfl)
          case hQy20 => exact fun _ _ _ h => h
          case h1y20 => rfl
          case hyy20 => intro V hSV; (try dsimp only at hSV); go_simp; (try with_reducible rfl)
          try simp only [Act.put, List.setIfInBounds_toArray, List.set_cons_zero, List.set_cons_succ]
          refine wpAnyH_take (i := 21) (oi := ?oiy21) (v := ?vy21) ?hiy21 (by kernel_rfl) (by kernel_rfl) (by kernel_rfl) ?hQy21 (Or.inl ⟨?h1y21, ?hyy21⟩) hHeld ?resty21
          case hiy21 => (simp only [List.getElem?_toArray, List.getElem?_cons_succ, List.getElem?_cons_zero]; rfl)
          case hQy21 => exact fun _ _ _ h => h
          case h1y21 => rfl
          case hyy21 => intro V hSV; (try dsimp only at hSV); go_simp; (try with_reducible rfl)
          try simp only [Act.put, List.setIfInBounds_toArray, List.set_cons_zero, List.set_cons_succ]
          refine wpAnyH_take (i := 22) (oi := ?oiy22) (v := ?vy22) ?hiy22 (by kernel_rfl) (by kernel_rfl) (by kernel_rfl) ?hQy22 (Or.inl ⟨?h1y22, ?hyy22⟩) hHeld ?resty22
          case hiy22 => (simp only [List.getElem?_toArray, List.getElem?_cons_succ, List.getElem?_cons_zero]; rfl)
          case hQy22 => exact fun _ _ _ h => h
          case h1y22 => rfl
          case hyy22 => intro V hSV; (try dsimp only at hSV); go_simp; (try with_reducible rfl)
          try simp only [Act.put, List.setIfInBounds_toArray, List.set_cons_zero, List.set_cons_succ]
          refine wpAnyH_take (i := 23) (oi := ?oiy23) (v := ?vy23) ?hiy23 (by kernel_rfl) (by kernel_rfl) (by kernel_rfl) ?hQy23 (Or.inl ⟨?h1y23, ?hyy23⟩) hHeld ?resty23
          case hiy23 => (simp only [List.getElem?_toArray, List.getElem?_cons_succ, List.getElem?_cons_zero]; rfl)
          case hQy23 => exact fun _ _ _ h => h
          case h1y23 => rfl
          case hyy23 => intro V hSV; (try dsimp only at hSV); go_simp; (try with_reducible rfl)
          try simp only [Act.put, List.setIfInBounds_toArray, List.set_cons_zero, List.set_cons_succ]
          refine wpAnyH_ready (rs := [24]) (by kernel_rfl) (by simp) ?_
          refine AllReadyH.cons (o := ?oy24) ?hoy24 (fun K hK => ?hsy24) AllReadyH.nil
          case hoy24 => (simp only [List.getElem?_toArray, List.getElem?_cons_succ, List.getElem?_cons_zero]; rfl)
          go_simp
          go_at_call 29
          refine (HTO.out _).mono ?_
          rintro e wB ⟨rfl, hbB⟩
          have HBB := hide (heldB HBA.out hbB (Nat.le_refl _))
          clear hbB
          try go_wp2_with fail
          refine hK.out _ _ (HS23.out _ (HBB.out)) (fun hHeld => ?_)
          clear hK K
          try simp only [Act.put, List.setIfInBounds_toArray, List.set_cons_zero, List.set_cons_succ]
          refine wpAnyH_ready (rs := [25]) (by kernel_rfl) (by simp) ?_
          refine AllReadyH.cons (o := ?oy25) ?hoy25 (fun K hK => ?hsy25) AllReadyH.nil
          case hoy25 => (simp only [List.getElem?_toArray, List.getElem?_cons_succ, List.getElem?_cons_zero]; rfl)
          go_simp
          go_at_call 32
          refine (HLE.out _).mono ?_
          rintro e wC ⟨rfl, hbC⟩
          have HBC := hide (heldB HBB.out hbC (Nat.le_refl _))
          clear hbC
          try go_wp2_with fail
          refine hK.out _ _ (HS23.out _ (HBC.out)) (fun hHeld => ?_)
          clear hK K
          try simp only [Act.put, List.setIfInBounds_toArray, List.set_cons_zero, List.set_cons_succ]
          refine wpAnyH_take (i := 26) (oi := ?oiy26) (v := ?vy26) ?hiy26 (by kernel_rfl) (by kernel_rfl) (by kernel_rfl) ?hQy26 (Or.inl ⟨?h1y26, ?hyy26⟩) hHeld ?resty26
          case hiy26 => (simp only [List.getElem?_toArray, List.getElem?_cons_succ, List.getElem?_cons_zero]; rfl)
          case hQy26 => exact fun _ _ _ h => h
          case h1y26 => rfl
          case hyy26 => intro V hSV; (try dsimp only at hSV); go_simp; (try with_reducible rfl)
          try simp only [Act.put, List.setIfInBounds_toArray, List.set_cons_zero, List.set_cons_succ]
          refine wpAnyH_take (i := 27) (oi := ?oiy27) (v := ?vy27) ?hiy27 (by kernel_rfl) (by kernel_rfl) (by kernel_rfl) ?hQy27 (Or.inl ⟨?h1y27, ?hyy27⟩) hHeld ?resty27
          case hiy27 => (simp only [List.getElem?_toArray, List.getElem?_cons_succ, List.getElem?_cons_zero]; rfl)
          case hQy27 => exact fun _ _ _ h => h
          case h1y27 => rfl
          case hyy27 => intro V hSV; (try dsimp only at hSV); go_simp; (try with_reducible rfl)
          try simp only [Act.put, List.setIfInBounds_toArray, List.set_cons_zero, List.set_cons_succ]
          refine wpAnyH_take (i := 28) (oi := ?oiy28) (v := ?vy28) ?hiy28 (by kernel_rfl) (by kernel_rfl) (by kernel_rfl) ?hQy28 (Or.inl ⟨?h1y28, ?hyy28⟩) hHeld ?resty28
          case hiy28 => (simp only [List.getElem?_toArray, List.getElem?_cons_succ, List.getElem?_cons_zero]; rfl)
          case hQy28 => exact fun _ _ _ h => h
          case h1y28 => rfl
          case hyy28 => intro V hSV; (try dsimp only at hSV); go_simp; (try with_reducible rfl)
          try simp only [Act.put, List.setIfInBounds_toArray, List.set_cons_zero, List.set_cons_succ]
          refine wpAnyH_done (by kernel_rfl) ?_ _
          clear hHeld
          have HI11 := hide (HI10.out.then HBC.out HZ10.out)
          have HZ11 := hide (Nat.le_trans HZ10.out HBC.out.size)
          go_wp2
          go_roundw
          case rel =>
            have RR : ∃ j' kk' : Nat, j' ≤ n ∧ Value.int .i64 ((j : Int) + 1) = .int .i64 j' ∧ Value.int .i64 (kk : Int) = .int .i64 kk' ∧ Hid (INV lo SD D G S 1 k b x e f t l sc rn pu bat W2 kk' wC ∧ lo ≤ wC.heap.size) := ⟨j + 1, kk, by omega, by go_num, rfl, HI11.out, HZ11.out⟩
            first | exact RR | ((repeat apply Exists.intro); exact ⟨RR, rfl⟩)
          case measure => simp [intOf]; omega
        · have hbE : bd = 2 ^ (t * l) := by have := HCA.out.2.2.2.2; omega
          have HRV := hide (inv_none mm HMM.out.1 HMM.out.2 HI7.out HCA.out.1 hbE)
          have HI7V := hide (show INV lo SD D G S 1 k b x e f t l sc rn pu bat W2 kk w9 from ⟨st, F, q, bd, HI7.out, HBL7.out, HCA.out.1, HCA.out.2.1, HCA.out.2.2.1, HCA.out.2.2.2.1, HCA.out.2.2.2.2⟩)
          have hdl : ((2 ^ (t * l) : Nat) : Int) ≤ (bd : Int) := by omega
          clear hbE
          generalize 2 ^ (t * l) = TT at HTO hdl hbT
          go_wp2_with fail
          refine HRV.out.mono ?_
          rintro e1 w10 ⟨rfl, hb10⟩
          have HS23 := hide (HS23.out w10 (HC7.out.on hb10) (HT7.out.on hb10))
          have HI10 := hide (HI7V.out.then hb10 HZ7.out)
          have HZ10 := hide (Nat.le_trans HZ7.out hb10.size)
          clear hb10
          go_wp2_with fail
          refine wp_region_held_drew (S := fun V => V.cell? ⟨w.heap.size, 0, none⟩ = some (.int .i64 k) ∧ V.cell? ⟨w.heap.size, 1, none⟩ = some (.int .i64 b) ∧ V.cell? ⟨w.heap.size, 2, none⟩ = some (.int .i64 x) ∧ V.cell? ⟨w.heap.size, 3, none⟩ = some (.int .i64 t) ∧ V.cell? ⟨w.heap.size, 4, none⟩ = some (.int .i64 l) ∧ V.cell? ⟨TB9, 0, none⟩ = some (.int .i64 kk) ∧ V.cell? ⟨TB9, 1, none⟩ = some (.int .i64 bd)) (by kernel_rfl) (HS23.out _ ((Below.refl w10.heap.size w10).drew)) (fun hHeld => ?_)
          refine wpAnyH_take (i := 0) (oi := ?oiz0) (v := ?vz0) ?hiz0 (by kernel_rfl) (by kernel_rfl) (by kernel_rfl) ?hQz0 (Or.inl ⟨?h1z0, ?hyz0⟩) hHeld ?restz0
          case hiz0 => (simp only [List.getElem?_toArray, List.getElem?_cons_zero]; rfl)
          case hQz0 => exact fun _ _ _ h => h
          case h1z0 => rfl
          case hyz0 => intro V hSV; (try dsimp only at hSV); go_simp; (try with_reducible rfl)
          try simp only [Act.put, List.setIfInBounds_toArray, List.set_cons_zero, List.set_cons_succ]
          refine wpAnyH_take (i := 1) (oi := ?oiz1) (v := ?vz1) ?hiz1 (by kernel_rfl) (by kernel_rfl) (by kernel_rfl) ?hQz1 (Or.inl ⟨?h1z1, ?hyz1⟩) hHeld ?restz1
          case hiz1 => (simp only [List.getElem?_toArray, List.getElem?_cons_succ, List.getElem?_cons_zero]; rfl)
          case hQz1 => exact fun _ _ _ h => h
          case h1z1 => rfl
          case hyz1 => intro V hSV; (try dsimp only at hSV); go_simp; (try with_reducible rfl)
          try simp only [Act.put, List.setIfInBounds_toArray, List.set_cons_zero, List.set_cons_succ]
          refine wpAnyH_take (i := 2) (oi := ?oiz2) (v := ?vz2) ?hiz2 (by kernel_rfl) (by kernel_rfl) (by kernel_rfl) ?hQz2 (Or.inl ⟨?h1z2, ?hyz2⟩) hHeld ?restz2
          case hiz2 => (simp only [List.getElem?_toArray, List.getElem?_cons_succ, List.getElem?_cons_zero]; rfl)
          case hQz2 => exact fun _ _ _ h => h
          case h1z2 => rfl
          case hyz2 => intro V hSV; (try dsimp only at hSV); go_simp; (try with_reducible rfl)
          try simp only [Act.put, List.setIfInBounds_toArray, List.set_cons_zero, List.set_cons_succ]
          refine wpAnyH_take (i := 3) (oi := ?oiz3) (v := ?vz3) ?hiz3 (by kernel_rfl) (by kernel_rfl) (by kernel_rfl) ?hQz3 (Or.inl ⟨?h1z3, ?hyz3⟩) hHeld ?restz3
          case hiz3 => (simp only [List.getElem?_toArray, List.getElem?_cons_succ, List.getElem?_cons_zero]; rfl)
          case hQz3 => exact fun _ _ _ h => h
          case h1z3 => rfl
          case hyz3 => intro V hSV; (try dsimp only at hSV); go_simp; (try with_reducible rfl)
          try simp only [Act.put, List.setIfInBounds_toArray, List.set_cons_zero, List.set_cons_succ]
          refine wpAnyH_take (i := 4) (oi := ?oiz4) (v := ?vz4) ?hiz4 (by kernel_rfl) (by kernel_rfl) (by kernel_rfl) ?hQz4 (Or.inl ⟨?h1z4, ?hyz4⟩) hHeld ?restz4
          case hiz4 => (simp only [List.getElem?_toArray, List.getElem?_cons_succ, List.getElem?_cons_zero]; rfl)
          case hQz4 => exact fun _ _ _ h => h
          case h1z4 => rfl
          case hyz4 => intro V hSV; (try dsimp only at hSV); go_simp; (try with_reducible rfl)
          try simp only [Act.put, List.setIfInBounds_toArray, List.set_cons_zero, List.set_cons_succ]
          refine wpAnyH_take (i := 5) (oi := ?oiz5) (v := ?vz5) ?hiz5 (by kernel_rfl) (by kernel_rfl) (by kernel_rfl) ?hQz5 (Or.inl ⟨?h1z5, ?hyz5⟩) hHeld ?restz5
          case hiz5 => (simp only [List.getElem?_toArray, List.getElem?_cons_succ, List.getElem?_cons_zero]; rfl)
          case hQz5 => exact fun _ _ _ h => h
          case h1z5 => rfl
          case hyz5 => intro V hSV; (try dsimp only at hSV); go_simp; (try with_reducible rfl)
          try simp only [Act.put, List.setIfInBounds_toArray, List.set_cons_zero, List.set_cons_succ]
          refine wpAnyH_take (i := 6) (oi := ?oiz6) (v := ?vz6) ?hiz6 (by kernel_rfl) (by kernel_rfl) (by kernel_rfl) ?hQz6 (Or.inl ⟨?h1z6, ?hyz6⟩) hHeld ?restz6
          case hiz6 => (simp only [List.getElem?_toArray, List.getElem?_cons_succ, List.getElem?_cons_zero]; rfl)
          case hQz6 => exact fun _ _ _ h => h
          case h1z6 => rfl
          case hyz6 => intro V hSV; (try dsimp only at hSV); go_simp; (try with_reducible rfl)
          try simp only [Act.put, List.setIfInBounds_toArray, List.set_cons_zero, List.set_cons_succ]
          refine wpAnyH_take (i := 7) (oi := ?oiz7) (v := ?vz7) ?hiz7 (by kernel_rfl) (by kernel_rfl) (by kernel_rfl) ?hQz7 (Or.inl ⟨?h1z7, ?hyz7⟩) hHeld ?restz7
          case hiz7 => (simp only [List.getElem?_toArray, List.getElem?_cons_succ, List.getElem?_cons_zero]; rfl)
          case hQz7 => exact fun _ _ _ h => h
          case h1z7 => rfl
          case hyz7 => intro V hSV; (try dsimp only at hSV); go_simp; (try with_reducible rfl)
          try simp only [Act.put, List.setIfInBounds_toArray, List.set_cons_zero, List.set_cons_succ]
          refine wpAnyH_take (i := 8) (oi := ?oiz8) (v := ?vz8) ?hiz8 (by kernel_rfl) (by kernel_rfl) (by kernel_rfl) ?hQz8 (Or.inl ⟨?h1z8, ?hyz8⟩) hHeld ?restz8
          case hiz8 => (simp only [List.getElem?_toArray, List.getElem?_cons_succ, List.getElem?_cons_zero]; rfl)
          case hQz8 => exact fun _ _ _ h => h
          case h1z8 => rfl
          case hyz8 => intro V hSV; (try dsimp only at hSV); go_simp; (try with_reducible rfl)
          try simp only [Act.put, List.setIfInBounds_toArray, List.set_cons_zero, List.set_cons_succ]
          refine wpAnyH_take (i := 9) (oi := ?oiz9) (v := ?vz9) ?hiz9 (by kernel_rfl) (by kernel_rfl) (by kernel_rfl) ?hQz9 (Or.inl ⟨?h1z9, ?hyz9⟩) hHeld ?restz9
          case hiz9 => (simp only [List.getElem?_toArray, List.getElem?_cons_succ, List.getElem?_cons_zero]; rfl)
          case hQz9 => exact fun _ _ _ h => h
          case h1z9 => rfl
          case hyz9 => intro V hSV; (try dsimp only at hSV); go_simp; (try with_reducible rfl)
          try simp only [Act.put, List.setIfInBounds_toArray, List.set_cons_zero, List.set_cons_succ]
          refine wpAnyH_ready (rs := [10]) (by kernel_rfl) (by simp) ?_
          refine AllReadyH.cons (o := ?oz10) ?hoz10 (fun K hK => ?hsz10) AllReadyH.nil
          case hoz10 => (simp only [List.getElem?_toArray, List.getElem?_cons_succ, List.getElem?_cons_zero]; rfl)
          go_simp
          go_at_call 29
          refine (HTO.out _).mono ?_
          rintro e wA ⟨rfl, hbA⟩
          have HBA := hide (heldB (Below.refl w10.heap.size w10).drew hbA (Nat.le_refl _))
          clear hbA
          try go_wp2_with fail
          refine hK.out _ _ (HS23.out _ (HBA.out)) (fun hHeld => ?_)
          clear hK K
          try simp only [Act.put, List.setIfInBounds_toArray, List.set_cons_zero, List.set_cons_succ]
          refine wpAnyH_take (i := 11) (oi := ?oiz11) (v := ?vz11) ?hiz11 (by kernel_rfl) (by kernel_rfl) (by kernel_rfl) ?hQz11 (Or.inl ⟨?h1z11, ?hyz11⟩) hHeld ?restz11
          case hiz11 => (simp only [List.getElem?_toArray, List.getElem?_cons_succ, List.getElem?_cons_zero]; rfl)
          case hQz11 => exact fun _ _ _ h => h
          case h1z11 => rfl
          case hyz11 => intro V hSV; (try dsimp only at hSV); go_simp; (try with_reducible rfl)
          try simp only [Act.put, List.setIfInBounds_toArray, List.set_cons_zero, List.set_cons_succ]
          refine wpAnyH_take (i := 12) (oi := ?oiz12) (v := ?vz12) ?hiz12 (by kernel_rfl) (by kernel_rfl) (by kernel_rfl) ?hQz12 (Or.inl ⟨?h1z12, ?hyz12⟩) hHeld ?restz12
          case hiz12 => (simp only [List.getElem?_toArray, List.getElem?_cons_succ, List.getElem?_cons_zero]; rfl)
          case hQz12 => exact fun _ _ _ h => h
          case h1z12 => rfl
          case hyz12 => intro V hSV; (try dsimp only at hSV); go_simp; (try with_reducible rfl)
          try simp only [Act.put, List.setIfInBounds_toArray, List.set_cons_zero, List.set_cons_succ]
          refine wpAnyH_take (i := 13) (oi := ?oiz13) (v := ?vz13) ?hiz13 (by kernel_rfl) (by kernel_rfl) (by kernel_rfl) ?hQz13 (Or.inl ⟨?h1z13, ?hyz13⟩) hHeld ?restz13
          case hiz13 => (simp only [List.getElem?_toArray, List.getElem?_cons_succ, List.getElem?_cons_zero]; rfl)
          case hQz13 => exact fun _ _ _ h => h
          case h1z13 => rfl
          case hyz13 => intro V hSV; (try dsimp only at hSV); go_simp; (try with_reducible rfl)
          try simp only [Act.put, List.setIfInBounds_toArray, List.set_cons_zero, List.set_cons_succ]
          refine wpAnyH_take (i := 14) (oi := ?oiz14) (v := ?vz14) ?hiz14 (by kernel_rfl) (by kernel_rfl) (by kernel_rfl) ?hQz14 (Or.inl ⟨?h1z14, ?hyz14⟩) hHeld ?restz14
          case hiz14 => (simp only [List.getElem?_toArray, List.getElem?_cons_succ, List.getElem?_cons_zero]; rfl)
          case hQz14 => exact fun _ _ _ h => h
          case h1z14 => rfl
          case hyz14 => intro V hSV; (try dsimp only at hSV); go_simp; (try with_reducible rfl)
          try simp only [Act.put, List.setIfInBounds_toArray, List.set_cons_zero, List.set_cons_succ]
          refine wpAnyH_take (i := 15) (oi := ?oiz15) (v := ?vz15) ?hiz15 (by kernel_rfl) (by kernel_rfl) (by kernel_rfl) ?hQz15 (Or.inl ⟨?h1z15, ?hyz15⟩) hHeld ?restz15
          case hiz15 => (simp only [List.getElem?_toArray, List.getElem?_cons_succ, List.getElem?_cons_zero]; rfl)
          case hQz15 => exact fun _ _ _ h => h
          case h1z15 => rfl
          case hyz15 => intro V hSV; (try dsimp only at hSV); go_simp; (try with_reducible rfl)
          try simp only [Act.put, List.setIfInBounds_toArray, List.set_cons_zero, List.set_cons_succ]
          refine wpAnyH_take (i := 16) (oi := ?oiz16) (v := ?vz16) ?hiz16 (by kernel_rfl) (by kernel_rfl) (by kernel_rfl) ?hQz16 (Or.inl ⟨?h1z16, ?hyz16⟩) hHeld ?restz16
          case hiz16 => (simp only [List.getElem?_toArray, List.getElem?_cons_succ, List.getElem?_cons_zero]; rfl)
          case hQz16 => exact fun _ _ _ h => h
          case h1z16 => rfl
          case hyz16 => intro V hSV; (try dsimp only at hSV); go_simp; (try with_reducible rfl)
          try simp only [Act.put, List.setIfInBounds_toArray, List.set_cons_zero, List.set_cons_succ]
          refine wpAnyH_take (i := 17) (oi := ?oiz17) (v := ?vz17) ?hiz17 (by kernel_rfl) (by kernel_rfl) (by kernel_rfl) ?hQz17 (Or.inl ⟨?h1z17, ?hyz17⟩) hHeld ?restz17
          case hiz17 => (simp only [List.getElem?_toArray, List.getElem?_cons_succ, List.getElem?_cons_zero]; rfl)
          case hQz17 => exact fun _ _ _ h => h
          case h1z17 => rfl
          case hyz17 => intro V hSV; (try dsimp only at hSV); go_simp; (try with_reducible rfl)
          try simp only [Act.put, List.setIfInBounds_toArray, List.set_cons_zero, List.set_cons_succ]
          refine wpAnyH_take (i := 18) (oi := ?oiz18) (v := undef) ?hiz18 (by kernel_rfl) (by kernel_rfl) (by kernel_rfl) ?hQz18 (Or.inr ⟨?h1z18, rfl⟩) hHeld ?restz18
          case hiz18 => (simp only [List.getElem?_toArray, List.getElem?_cons_succ, List.getElem?_cons_zero]; rfl)
          case hQz18 => exact fun _ _ _ h => h
          case h1z18 => rfl
          try simp only [Act.put, List.setIfInBounds_toArray, List.set_cons_zero, List.set_cons_succ]
          refine wpAnyH_take (i := 19) (oi := ?oiz19) (v := undef) ?hiz19 (by kernel_rfl) (by kernel_rfl) (by kernel_rfl) ?hQz19 (Or.inr ⟨?h1z19, rfl⟩) hHeld ?restz19
          case hiz19 => (simp only [List.getElem?_toArray, List.getElem?_cons_succ, List.getElem?_cons_zero]; rfl)
          case hQz19 => exact fun _ _ _ h => h
          case h1z19 => rfl
          try simp only [Act.put, List.setIfInBounds_toArray, List.set_cons_zero, List.set_cons_succ]
          refine wpAnyH_take (i := 20) (oi := ?oiz20) (v := undef) ?hiz20 (by kernel_rfl) (by kernel_rfl) (by kernel_rfl) ?hQz20 (Or.inr ⟨?h1z20, rfl⟩) hHeld ?restz20
          case hiz20 => (simp only [List.getElem?_toArray, List.getElem?_cons_succ, List.getElem?_cons_zero]; rfl)
          case hQz20 => exact fun _ _ _ h => h
          case h1z20 => rfl
          try simp only [Act.put, List.setIfInBounds_toArray, List.set_cons_zero, List.set_cons_succ]
          refine wpAnyH_take (i := 21) (oi := ?oiz21) (v := undef) ?hiz21 (by kernel_rfl) (by kernel_rfl) (by kernel_rfl) ?hQz21 (Or.inr ⟨?h1z21, rfl⟩) hHeld ?restz21
          case hiz21 => (simp only [List.getElem?_toArray, List.getElem?_cons_succ, List.getElem?_cons_zero]; rfl)
          case hQz21 => exact fun _ _ _ h => h
          case h1z21 => rfl
          try simp only [Act.put, List.setIfInBounds_toArray, List.set_cons_zero, List.set_cons_succ]
          refine wpAnyH_take (i := 22) (oi := ?oiz22) (v := undef) ?hiz22 (by kernel_rfl) (by kernel_rfl) (by kernel_rfl) ?hQz22 (Or.inr ⟨?h1z22, rfl⟩) hHeld ?restz22
          case hiz22 => (simp only [List.getElem?_toArray, List.getElem?_cons_succ, List.getElem?_cons_zero]; rfl)
          case hQz22 => exact fun _ _ _ h => h
          case h1z22 => rfl
          try simp only [Act.put, List.setIfInBounds_toArray, List.set_cons_zero, List.set_cons_succ]
          refine wpAnyH_take (i := 23) (oi := ?oiz23) (v := undef) ?hiz23 (by kernel_rfl) (by kernel_rfl) (by kernel_rfl) ?hQz23 (Or.inr ⟨?h1z23, rfl⟩) hHeld ?restz23
          case hiz23 => (simp only [List.getElem?_toArray, List.getElem?_cons_succ, List.getElem?_cons_zero]; rfl)
          case hQz23 => exact fun _ _ _ h => h
          case h1z23 => rfl
          try simp only [Act.put, List.setIfInBounds_toArray, List.set_cons_zero, List.set_cons_succ]
          refine wpAnyH_take (i := 24) (oi := ?oiz24) (v := undef) ?hiz24 (by kernel_rfl) (by kernel_rfl) (by kernel_rfl) ?hQz24 (Or.inr ⟨?h1z24, rfl⟩) hHeld ?restz24
          case hiz24 => (simp only [List.getElem?_toArray, List.getElem?_cons_succ, List.getElem?_cons_zero]; rfl)
          case hQz24 => exact fun _ _ _ h => h
          case h1z24 => rfl
          try simp only [Act.put, List.setIfInBounds_toArray, List.set_cons_zero, List.set_cons_succ]
          refine wpAnyH_take (i := 25) (oi := ?oiz25) (v := undef) ?hiz25 (by kernel_rfl) (by kernel_rfl) (by kernel_rfl) ?hQz25 (Or.inr ⟨?h1z25, rfl⟩) hHeld ?restz25
          case hiz25 => (simp only [List.getElem?_toArray, List.getElem?_cons_succ, List.getElem?_cons_zero]; rfl)
          case hQz25 => exact fun _ _ _ h => h
          case h1z25 => rfl
          try simp only [Act.put, List.setIfInBounds_toArray, List.set_cons_zero, List.set_cons_succ]
          refine wpAnyH_take (i := 26) (oi := ?oiz26) (v := undef) ?hiz26 (by kernel_rfl) (by kernel_rfl) (by kernel_rfl) ?hQz26 (Or.inr ⟨?h1z26, rfl⟩) hHeld ?restz26
          case hiz26 => (simp only [List.getElem?_toArray, List.getElem?_cons_succ, List.getElem?_cons_zero]; rfl)
          case hQz26 => exact fun _ _ _ h => h
          case h1z26 => rfl
          try simp only [Act.put, List.setIfInBounds_toArray, List.set_cons_zero, List.set_cons_succ]
          refine wpAnyH_take (i := 27) (oi := ?oiz27) (v := ?vz27) ?hiz27 (by kernel_rfl) (by kernel_rfl) (by kernel_rfl) ?hQz27 (Or.inl ⟨?h1z27, ?hyz27⟩) hHeld ?restz27
          case hiz27 => (simp only [List.getElem?_toArray, List.getElem?_cons_succ, List.getElem?_cons_zero]; rfl)
          case hQz27 => exact fun _ _ _ h => h
          case h1z27 => rfl
          case hyz27 => intro V hSV; (try dsimp only at hSV); go_simp; (try with_reducible rfl)
          try simp only [Act.put, List.setIfInBounds_toArray, List.set_cons_zero, List.set_cons_succ]
          refine wpAnyH_take (i := 28) (oi := ?oiz28) (v := ?vz28) ?hiz28 (by kernel_rfl) (by kernel_rfl) (by kernel_rfl) ?hQz28 (Or.inl ⟨?h1z28, ?hyz28⟩) hHeld ?restz28
          case hiz28 => (simp only [List.getElem?_toArray, List.getElem?_cons_succ, List.getElem?_cons_zero]; rfl)
          case hQz28 => exact fun _ _ _ h => h
          case h1z28 => rfl
          case hyz28 => intro V hSV; (try dsimp only at hSV); go_simp; (try with_reducible rfl)
          try simp only [Act.put, List.setIfInBounds_toArray, List.set_cons_zero, List.set_cons_succ]
          refine wpAnyH_done (by kernel_rfl) ?_ _
          clear hHeld
          have HI11 := hide (HI10.out.then HBA.out HZ10.out)
          have HZ11 := hide (Nat.le_trans HZ10.out HBA.out.size)
          go_wp2
          go_roundw
          case rel =>
            have RR : ∃ j' kk' : Nat, j' ≤ n ∧ Value.int .i64 ((j : Int) + 1) = .int .i64 j' ∧ Value.int .i64 (kk : Int) = .int .i64 kk' ∧ Hid (INV lo SD D G S 1 k b x e f t l sc rn pu bat W2 kk' wA ∧ lo ≤ wA.heap.size) := ⟨j + 1, kk, by omega, by go_num, rfl, HI11.out, HZ11.out⟩
            first | exact RR | ((repeat apply Exists.intro); exact ⟨RR, rfl⟩)
          case measure => simp [intOf]; omega
    · obtain rfl : j = n := by omega
      have HST := hide (inv_state HI.out HCA.out.1)
      have hkb : (kk : Int) ≤ (bd : Int) := by have := HCA.out.2.2.2.1; omega
      have HFB := hide (show Below w.heap.size w wr from HBY.out.trans (HBL.out.mono (Nat.le_of_lt HL1.out)))
      clear hj hlt
      go_wp2_with fail
      refine HST.out.mono ?_
      rintro e1 w7 ⟨rfl, hb7⟩
      have HB7 := hide (HFB.out.trans (hb7.mono HFB.out.size))
      clear hb7
      go_wp2
      go_ret
      exact ⟨rfl, HB7.out.alloc HB7.out.size _⟩
end Go.Proofs.YtgaoeoijdpdjiabGreatDoor
