/-
  The statement's looks: all lists of the book still read as marks.
-/
import Derived.Test.YtgaoeoijdpdjiaaGreatDoorPart49
import Derived.Test.YtgaoeoijdpdjiaaGreatDoorPart27
import Derived.Test.YtgaoeoijdpdjiaaGreatDoorPart4
namespace Go.Proofs.YtgaoeoijdpdjiaaGreatDoor
open Go.RowKit
/-- A list of marks, wherever it lies. -/
def MkC (w : World) (s : Value) (mc : List Value) : Prop := ∃ ao n c, s = .slice ao n c ∧ n ≤ 1000 ∧ (0 < n → ∃ g, ao = some ⟨g, 0, none⟩ ∧ g < w.heap.size ∧ ∀ j, j < n → ∀ i, i < mc.length → w.cell? ⟨g, j * mc.length + i, none⟩ = mc[i]?)
theorem mkC_of {w : World} {lo : Nat} {e : TypeId} {sz : Nat} {v : Value} {n : Nat} {mc : List Value} (h : w.ownsRow lo e sz v n (rowM mc n)) (hm : mc.length = sz) (hn : n ≤ 1000) : MkC w v mc := by
  rcases Nat.eq_zero_or_pos n with h0 | h0
  · obtain ⟨ao, c, rfl⟩ := owns_shape h
    exact ⟨ao, n, c, rfl, hn, fun h => by omega⟩
  · obtain ⟨g, c, rfl, -, hg⟩ := h.form h0
    refine ⟨_, n, c, rfl, hn, fun _ => ⟨g, rfl, hg, fun j hj i hi => ?_⟩⟩
    have hlt : j * mc.length + i < n * mc.length := by
      have := Nat.mul_le_mul_right mc.length (show j + 1 ≤ n from hj)
      rw [Nat.add_mul, Nat.one_mul] at this
      omega
    rw [h.cellAt (j * mc.length + i) (by rw [← hm]; exact hlt), rowM_get mc n _ hlt]
    congr 1
    rw [Nat.add_comm, Nat.add_mul_mod_self_right, Nat.mod_eq_of_lt hi]
/-- A row of lists of marks. -/
def BkR (w : World) (v : Value) (S : List Value) (mk : Nat → List Value) : Prop := ∃ ao c, v = .slice ao S.length c ∧ (0 < S.length → ∃ g, ao = some ⟨g, 0, none⟩ ∧ g < w.heap.size ∧ ∀ i s, S[i]? = some s → w.cell? ⟨g, i, none⟩ = some s) ∧ ∀ i s, S[i]? = some s → MkC w s (mk (i / 4 * 4))
theorem BkR.nil (w : World) (mk : Nat → List Value) : BkR w (.slice none 0 0) [] mk := ⟨none, 0, rfl, fun h => by simp at h, fun i s h => by simp at h⟩
def mkT (n : Nat) : List Value := [.string (markS n)]
def mkN (n : Nat) : List Value := [.int .i64 (-1000 - (n : Int)), .int .i64 (-1000 - (n : Int)), .string (markS n)]
def mkI (n : Nat) : List Value := [.int .i64 (-1000 - (n : Int))]
set_option maxRecDepth 20000 in
set_option maxHeartbeats 8000000 in
theorem looks_on (Wb : Nat) (C : List Value) (vI vT vN : Value) (SI ST SN : List Value) (w : World) (hW : Blk w Wb C 74) (h0 : C[0]? = some vI) (h1 : C[1]? = some vT) (h2 : C[2]? = some vN) (hI : BkR w vI SI mkI) (hT : BkR w vT ST mkT) (hN : BkR w vN SN mkN) (lI : SI.length ≤ 4398046511104) (lT : ST.length ≤ 4398046511104) (lN : SN.length ≤ 4398046511104) :
    Calls Tryz.prog 33 #[.pointer (some ⟨Wb, 0, none⟩)] w fun r w' => r = .returned (.bool true) ∧ Below w.heap.size w w' := by
  obtain ⟨aI, cI, rfl, rI, eI⟩ := hI
  obtain ⟨aT, cT, rfl, rT, eT⟩ := hT
  obtain ⟨aN, cN, rfl, rN, eN⟩ := hN
  have HRI := hide rI
  have HRT := hide rT
  have HRN := hide rN
  have HEI := hide eI
  have HET := hide eT
  have HEN := hide eN
  have HBK := hide (fun (V : World) (h : Below w.heap.size w V) => (⟨((hW.on h).cell 0).trans h0, ((hW.on h).cell 1).trans h1, ((hW.on h).cell 2).trans h2⟩ : V.cell? ⟨Wb, 0, none⟩ = some (.slice aI SI.length cI) ∧ V.cell? ⟨Wb, 1, none⟩ = some (.slice aT ST.length cT) ∧ V.cell? ⟨Wb, 2, none⟩ = some (.slice aN SN.length cN)))
  clear hW h0 h1 h2 rI rT rN eI eT eN
  obtain ⟨nI, hnI⟩ : ∃ n, SI.length = n := ⟨_, rfl⟩
  obtain ⟨nT, hnT⟩ : ∃ n, ST.length = n := ⟨_, rfl⟩
  obtain ⟨nN, hnN⟩ : ∃ n, SN.length = n := ⟨_, rfl⟩
  have HNI := hide hnI
  have HNT := hide hnT
  have HNN := hide hnN
  rw [hnI] at lI HRI HBK
  rw [hnT] at lT HRT HBK
  rw [hnN] at lN HRN HBK
  clear hnI hnT hnN
  go_enter Tryz.func33, Tryz.ntmps33
  go_wp2_with fail
  go_loopw [3] (fun i wr => ∃ a : Nat, a ≤ nI ∧ i = .int .i64 a ∧ Hid (Below w.heap.size w wr)) (fun i _ => nI - (intOf i).toNat)
  case atStart => exact ⟨0, by omega, rfl, Below.refl _ _⟩
  case round =>
    obtain ⟨a, ha, rfl, hw⟩ := hrel
    obtain ⟨k0, k1, k2⟩ := HBK.out wr hw.out
    by_cases hlt : a < nI
    · obtain ⟨gv, hgv, hgl, hrow⟩ := HRI.out (by omega)
      subst hgv
      obtain ⟨wo, hwo⟩ : ∃ wo : World, wo = wr := ⟨_, rfl⟩
      rw [← hwo] at hw k0 k1 k2 ⊢
      clear hwo
      obtain ⟨sv, hs⟩ : ∃ sv, SI[a]? = some sv := ⟨_, List.getElem?_eq_getElem (by rw [HNI.out]; exact hlt)⟩
      have HC := hide (hrow a _ hs)
      obtain ⟨ao, n, c, rfl, hn, hm⟩ := HEI.out a _ hs
      have HGL := hide hgl
      clear hs hrow hgl
      have hai : (a : Int) < (nI : Int) := by omega
      have ks : wo.cell? ⟨gv, a, none⟩ = some (.slice ao n c) := (hw.out.cell (p := ⟨gv, a, none⟩) HGL.out).trans HC.out
      have HM := hide hm
      clear hm
      obtain ⟨A4, hA4⟩ : ∃ A4, a / 4 = A4 := ⟨_, rfl⟩
      obtain ⟨A16, hA16⟩ : ∃ A16, A4 * 4 = A16 := ⟨_, rfl⟩
      rw [hA4, hA16] at HM
      have q1 : Int.tdiv (a : Int) 4 = (A4 : Int) := by rw [← hA4, Int.tdiv_eq_ediv_of_nonneg (by omega)]; omega
      have q2 : IntKind.i64.wrap (A4 : Int) = (A4 : Int) := by rw [IntKind.wrap_i64] <;> omega
      have q3 : IntKind.i64.wrap ((A4 : Int) * 4) = (A16 : Int) := by
        rw [show (A4 : Int) * 4 = (A16 : Int) by omega, IntKind.wrap_i64] <;> omega
      have HMT := hide (fun V : World => markIntZ_any A16 V (by omega))
      have HA := hide (And.intro hA4 hA16)
      clear hA4 hA16
      go_wp2_with fail
      go_loopw [4] (fun i wr => ∃ j : Nat, j ≤ n ∧ i = .int .i64 j ∧ Hid (Below w.heap.size w wr)) (fun i _ => n - (intOf i).toNat)
      case atStart => exact ⟨0, by omega, rfl, hw⟩
      case round =>
        clear k0 k1 k2 ks
        obtain ⟨j, hj, rfl, hw2⟩ := hrel
        obtain ⟨k0, k1, k2⟩ := HBK.out wr hw2.out
        have ks : wr.cell? ⟨gv, a, none⟩ = some (.slice ao n c) := (hw2.out.cell (p := ⟨gv, a, none⟩) HGL.out).trans HC.out
        by_cases hlt2 : j < n
        · obtain ⟨g, hag, hg, hcell⟩ := HM.out (by omega)
          subst hag
          obtain ⟨z1, hz1⟩ : ∃ z1 : Int, -1000 - (A16 : Int) = z1 := ⟨_, rfl⟩
          rw [hz1] at HMT
          have HE1 := hide (show ∀ V, Below w.heap.size w V → ∀ j, j < n → V.cell? ⟨g, j, none⟩ = some (.int .i64 z1) from fun V hV j hj => by
            have h := hcell j hj 0 (by simp [mkI])
            rw [show j * List.length (mkI A16) + 0 = j from Nat.mul_one j] at h
            rw [(hV.cell (p := ⟨g, j, none⟩) hg)]
            rw [h, ← hz1]
            rfl)
          clear hz1
          have HSV := hide (fun (V : World) (h : Below wr.heap.size wr V) => (by
            have hk := heldN hw2.out h (Nat.le_refl _)
            exact ⟨(HBK.out V hk).1, (hk.cell (p := ⟨gv, a, none⟩) HGL.out).trans HC.out, HE1.out V hk j hlt2⟩ : V.cell? ⟨Wb, 0, none⟩ = some (.slice (some ⟨gv, 0, none⟩) nI cI) ∧ V.cell? ⟨gv, a, none⟩ = some (.slice (some ⟨g, 0, none⟩) n c) ∧ V.cell? ⟨g, j, none⟩ = some (.int .i64 z1)))
          have hji : (j : Int) < (n : Int) := by omega
          have q9 : (z1 != z1) = false := bne_self_eq_false _
          clear hcell
          go_wp2_with fail
          go_region_held3 (fun V => V.cell? ⟨Wb, 0, none⟩ = some (.slice (some ⟨gv, 0, none⟩) nI cI) ∧ V.cell? ⟨gv, a, none⟩ = some (.slice (some ⟨g, 0, none⟩) n c) ∧ V.cell? ⟨g, j, none⟩ = some (.int .i64 z1)) (exact HSV.out _ (Below.refl wr.heap.size wr).drew) ((go_at_call 65; refine (HMT.out _).mono ?_; rintro e w5 ⟨rfl, hw5⟩; obtain rfl := hw5.symm; clear hw5))
          have HW5 := hide (heldN hw2.out (Below.refl wr.heap.size wr).drew (Nat.le_refl _))
          clear k0 k1 k2 ks
          go_wp2
          go_roundw
          case rel =>
            have R : ∃ j' : Nat, j' ≤ n ∧ Value.int .i64 ((j : Int) + 1) = .int .i64 j' ∧ Hid (Below w.heap.size w wr.drew) := ⟨j + 1, by omega, by go_num, HW5.out⟩
            first | exact R | ((repeat apply Exists.intro); exact ⟨R, rfl⟩)
          case measure => simp [intOf]; omega
        · have hji : ¬ (j : Int) < (n : Int) := by omega
          go_wp2
          go_roundw
          case rel =>
            have R : ∃ a' : Nat, a' ≤ nI ∧ Value.int .i64 ((a : Int) + 1) = .int .i64 a' ∧ Hid (Below w.heap.size w wr) := ⟨a + 1, by omega, by go_num, hw2⟩
            first | exact R | ((repeat apply Exists.intro); exact ⟨R, rfl⟩)
          case measure => simp [intOf]; omega
    · have hai : ¬ (a : Int) < (nI : Int) := by omega
      have HWL := hide hw.out
      clear hlt hw ha
      go_wp2_with fail
      clear k0 k1 k2
      go_loopw [5] (fun i wr => ∃ a : Nat, a ≤ nT ∧ i = .int .i64 a ∧ Hid (Below w.heap.size w wr)) (fun i _ => nT - (intOf i).toNat)
      case atStart => exact ⟨0, by omega, rfl, HWL.out⟩
      case round =>
        obtain ⟨a, ha, rfl, hw⟩ := hrel
        obtain ⟨k0, k1, k2⟩ := HBK.out wr hw.out
        by_cases hlt : a < nT
        · obtain ⟨gv, hgv, hgl, hrow⟩ := HRT.out (by omega)
          subst hgv
          obtain ⟨wo, hwo⟩ : ∃ wo : World, wo = wr := ⟨_, rfl⟩
          rw [← hwo] at hw k0 k1 k2 ⊢
          clear hwo
          obtain ⟨sv, hs⟩ : ∃ sv, ST[a]? = some sv := ⟨_, List.getElem?_eq_getElem (by rw [HNT.out]; exact hlt)⟩
          have HC := hide (hrow a _ hs)
          obtain ⟨ao, n, c, rfl, hn, hm⟩ := HET.out a _ hs
          have HGL := hide hgl
          clear hs hrow hgl
          have hai : (a : Int) < (nT : Int) := by omega
          have ks : wo.cell? ⟨gv, a, none⟩ = some (.slice ao n c) := (hw.out.cell (p := ⟨gv, a, none⟩) HGL.out).trans HC.out
          have HM := hide hm
          clear hm
          obtain ⟨A4, hA4⟩ : ∃ A4, a / 4 = A4 := ⟨_, rfl⟩
          obtain ⟨A16, hA16⟩ : ∃ A16, A4 * 4 = A16 := ⟨_, rfl⟩
          rw [hA4, hA16] at HM
          have q1 : Int.tdiv (a : Int) 4 = (A4 : Int) := by rw [← hA4, Int.tdiv_eq_ediv_of_nonneg (by omega)]; omega
          have q2 : IntKind.i64.wrap (A4 : Int) = (A4 : Int) := by rw [IntKind.wrap_i64] <;> omega
          have q3 : IntKind.i64.wrap ((A4 : Int) * 4) = (A16 : Int) := by
            rw [show (A4 : Int) * 4 = (A16 : Int) by omega, IntKind.wrap_i64] <;> omega
          have HMT := hide (fun V : World => markTextZ_any A16 V (by omega))
          have HA := hide (And.intro hA4 hA16)
          clear hA4 hA16
          go_wp2_with fail
          go_loopw [6] (fun i wr => ∃ j : Nat, j ≤ n ∧ i = .int .i64 j ∧ Hid (Below w.heap.size w wr)) (fun i _ => n - (intOf i).toNat)
          case atStart => exact ⟨0, by omega, rfl, hw⟩
          case round =>
            clear k0 k1 k2 ks
            obtain ⟨j, hj, rfl, hw2⟩ := hrel
            obtain ⟨k0, k1, k2⟩ := HBK.out wr hw2.out
            have ks : wr.cell? ⟨gv, a, none⟩ = some (.slice ao n c) := (hw2.out.cell (p := ⟨gv, a, none⟩) HGL.out).trans HC.out
            by_cases hlt2 : j < n
            · obtain ⟨g, hag, hg, hcell⟩ := HM.out (by omega)
              subst hag
              obtain ⟨z2, hz2⟩ : ∃ z2, markS A16 = z2 := ⟨_, rfl⟩
              rw [hz2] at HMT
              have HE1 := hide (show ∀ V, Below w.heap.size w V → ∀ j, j < n → V.cell? ⟨g, j, none⟩ = some (.string z2) from fun V hV j hj => by
                have h := hcell j hj 0 (by simp [mkT])
                rw [show j * List.length (mkT A16) + 0 = j from Nat.mul_one j] at h
                rw [(hV.cell (p := ⟨g, j, none⟩) hg)]
                rw [h, ← hz2]
                rfl)
              clear hz2
              have HSV := hide (fun (V : World) (h : Below wr.heap.size wr V) => (by
                have hk := heldN hw2.out h (Nat.le_refl _)
                exact ⟨(HBK.out V hk).2.1, (hk.cell (p := ⟨gv, a, none⟩) HGL.out).trans HC.out, HE1.out V hk j hlt2⟩ : V.cell? ⟨Wb, 1, none⟩ = some (.slice (some ⟨gv, 0, none⟩) nT cT) ∧ V.cell? ⟨gv, a, none⟩ = some (.slice (some ⟨g, 0, none⟩) n c) ∧ V.cell? ⟨g, j, none⟩ = some (.string z2)))
              have hji : (j : Int) < (n : Int) := by omega
              have q9 : (z2.toList != z2.toList) = false := bne_self_eq_false _
              clear hcell
              go_wp2_with fail
              go_region_held3 (fun V => V.cell? ⟨Wb, 1, none⟩ = some (.slice (some ⟨gv, 0, none⟩) nT cT) ∧ V.cell? ⟨gv, a, none⟩ = some (.slice (some ⟨g, 0, none⟩) n c) ∧ V.cell? ⟨g, j, none⟩ = some (.string z2)) (first | exact HSV.out _ hS1 | exact HSV.out _ (Below.refl wr.heap.size wr).drew) ((go_at_call 66; refine (HMT.out _).mono ?_; rintro e w5 ⟨rfl, hb5⟩; have hS1 := heldB (Below.refl wr.heap.size wr).drew hb5 (Nat.le_refl _)))
              have HW5 := hide (heldN hw2.out hS1 (Nat.le_refl _))
              clear hS1 hb5 k0 k1 k2 ks
              go_wp2
              go_roundw
              case rel =>
                have R : ∃ j' : Nat, j' ≤ n ∧ Value.int .i64 ((j : Int) + 1) = .int .i64 j' ∧ Hid (Below w.heap.size w w5) := ⟨j + 1, by omega, by go_num, HW5.out⟩
                first | exact R | ((repeat apply Exists.intro); exact ⟨R, rfl⟩)
              case measure => simp [intOf]; omega
            · have hji : ¬ (j : Int) < (n : Int) := by omega
              go_wp2
              go_roundw
              case rel =>
                have R : ∃ a' : Nat, a' ≤ nT ∧ Value.int .i64 ((a : Int) + 1) = .int .i64 a' ∧ Hid (Below w.heap.size w wr) := ⟨a + 1, by omega, by go_num, hw2⟩
                first | exact R | ((repeat apply Exists.intro); exact ⟨R, rfl⟩)
              case measure => simp [intOf]; omega
        · have hai : ¬ (a : Int) < (nT : Int) := by omega
          have HWL := hide hw.out
          clear hlt hw ha
          go_wp2_with fail
          clear k0 k1 k2
          go_loopw [7] (fun i wr => ∃ a : Nat, a ≤ nN ∧ i = .int .i64 a ∧ Hid (Below w.heap.size w wr)) (fun i _ => nN - (intOf i).toNat)
          case atStart => exact ⟨0, by omega, rfl, HWL.out⟩
          case round =>
            obtain ⟨a, ha, rfl, hw⟩ := hrel
            obtain ⟨k0, k1, k2⟩ := HBK.out wr hw.out
            by_cases hlt : a < nN
            · obtain ⟨gv, hgv, hgl, hrow⟩ := HRN.out (by omega)
              subst hgv
              obtain ⟨wo, hwo⟩ : ∃ wo : World, wo = wr := ⟨_, rfl⟩
              rw [← hwo] at hw k0 k1 k2 ⊢
              clear hwo
              obtain ⟨sv, hs⟩ : ∃ sv, SN[a]? = some sv := ⟨_, List.getElem?_eq_getElem (by rw [HNN.out]; exact hlt)⟩
              have HC := hide (hrow a _ hs)
              obtain ⟨ao, n, c, rfl, hn, hm⟩ := HEN.out a _ hs
              have HGL := hide hgl
              clear hs hrow hgl
              have hai : (a : Int) < (nN : Int) := by omega
              have ks : wo.cell? ⟨gv, a, none⟩ = some (.slice ao n c) := (hw.out.cell (p := ⟨gv, a, none⟩) HGL.out).trans HC.out
              have HM := hide hm
              clear hm
              obtain ⟨A4, hA4⟩ : ∃ A4, a / 4 = A4 := ⟨_, rfl⟩
              obtain ⟨A16, hA16⟩ : ∃ A16, A4 * 4 = A16 := ⟨_, rfl⟩
              rw [hA4, hA16] at HM
              have q1 : Int.tdiv (a : Int) 4 = (A4 : Int) := by rw [← hA4, Int.tdiv_eq_ediv_of_nonneg (by omega)]; omega
              have q2 : IntKind.i64.wrap (A4 : Int) = (A4 : Int) := by rw [IntKind.wrap_i64] <;> omega
              have q3 : IntKind.i64.wrap ((A4 : Int) * 4) = (A16 : Int) := by
                rw [show (A4 : Int) * 4 = (A16 : Int) by omega, IntKind.wrap_i64] <;> omega
              have HMT := hide (fun V : World => markNode_any A16 V (by omega))
              have HA := hide (And.intro hA4 hA16)
              clear hA4 hA16
              go_wp2_with fail
              go_loopw [8] (fun i wr => ∃ j : Nat, j ≤ n ∧ i = .int .i64 j ∧ Hid (Below w.heap.size w wr)) (fun i _ => n - (intOf i).toNat)
              case atStart => exact ⟨0, by omega, rfl, hw⟩
              case round =>
                clear k0 k1 k2 ks
                obtain ⟨j, hj, rfl, hw2⟩ := hrel
                obtain ⟨k0, k1, k2⟩ := HBK.out wr hw2.out
                have ks : wr.cell? ⟨gv, a, none⟩ = some (.slice ao n c) := (hw2.out.cell (p := ⟨gv, a, none⟩) HGL.out).trans HC.out
                by_cases hlt2 : j < n
                · obtain ⟨g, hag, hg, hcell⟩ := HM.out (by omega)
                  subst hag
                  obtain ⟨z1, hz1⟩ : ∃ z1 : Int, -1000 - (A16 : Int) = z1 := ⟨_, rfl⟩
                  obtain ⟨z2, hz2⟩ : ∃ z2, markS A16 = z2 := ⟨_, rfl⟩
                  rw [hz1, hz2] at HMT
                  have HE1 := hide (show ∀ V, Below w.heap.size w V → ∀ j, j < n → V.cell? ⟨g, j * 3, none⟩ = some (.int .i64 z1) ∧ V.cell? ⟨g, j * 3 + 1, none⟩ = some (.int .i64 z1) ∧ V.cell? ⟨g, j * 3 + 2, none⟩ = some (.string z2) from fun V hV j hj => by
                    have h0 := hcell j hj 0 (by simp [mkN])
                    have h1 := hcell j hj 1 (by simp [mkN])
                    have h2 := hcell j hj 2 (by simp [mkN])
                    refine ⟨?_, ?_, ?_⟩
                    · rw [(hV.cell (p := ⟨g, j * 3, none⟩) hg), ← hz1]
                      exact h0
                    · rw [(hV.cell (p := ⟨g, j * 3 + 1, none⟩) hg), ← hz1]
                      exact h1
                    · rw [(hV.cell (p := ⟨g, j * 3 + 2, none⟩) hg), ← hz2]
                      exact h2)
                  clear hz1 hz2
                  have HSV := hide (fun (V : World) (h : Below wr.heap.size wr V) => (by
                    have hk := heldN hw2.out h (Nat.le_refl _)
                    exact ⟨(HBK.out V hk).2.2, (hk.cell (p := ⟨gv, a, none⟩) HGL.out).trans HC.out, HE1.out V hk j hlt2⟩ : V.cell? ⟨Wb, 2, none⟩ = some (.slice (some ⟨gv, 0, none⟩) nN cN) ∧ V.cell? ⟨gv, a, none⟩ = some (.slice (some ⟨g, 0, none⟩) n c) ∧ V.cell? ⟨g, j * 3, none⟩ = some (.int .i64 z1) ∧ V.cell? ⟨g, j * 3 + 1, none⟩ = some (.int .i64 z1) ∧ V.cell? ⟨g, j * 3 + 2, none⟩ = some (.string z2)))
                  have hji : (j : Int) < (n : Int) := by omega
                  have q9 : (z1 != z1) = false := bne_self_eq_false _
                  have q8 : (z2.toList != z2.toList) = false := bne_self_eq_false _
                  have q7 : (z1 == z1) = true := beq_self_eq_true _
                  have q6 : (z2.toList == z2.toList) = true := beq_self_eq_true _
                  clear hcell
                  go_wp2_with fail
                  go_region_held3 (fun V => V.cell? ⟨Wb, 2, none⟩ = some (.slice (some ⟨gv, 0, none⟩) nN cN) ∧ V.cell? ⟨gv, a, none⟩ = some (.slice (some ⟨g, 0, none⟩) n c) ∧ V.cell? ⟨g, j * 3, none⟩ = some (.int .i64 z1) ∧ V.cell? ⟨g, j * 3 + 1, none⟩ = some (.int .i64 z1) ∧ V.cell? ⟨g, j * 3 + 2, none⟩ = some (.string z2)) (first | exact HSV.out _ hS1 | exact HSV.out _ (Below.refl wr.heap.size wr).drew) ((go_at_call 67; refine (HMT.out _).mono ?_; rintro e w5 ⟨rfl, hb5⟩; have hS1 := heldB (Below.refl wr.heap.size wr).drew hb5 (Nat.le_refl _)))
                  have HW5 := hide (heldN hw2.out hS1 (Nat.le_refl _))
                  clear hS1 hb5 k0 k1 k2 ks
                  go_wp2
                  go_roundw
                  case rel =>
                    have R : ∃ j' : Nat, j' ≤ n ∧ Value.int .i64 ((j : Int) + 1) = .int .i64 j' ∧ Hid (Below w.heap.size w w5) := ⟨j + 1, by omega, by go_num, HW5.out⟩
                    first | exact R | ((repeat apply Exists.intro); exact ⟨R, rfl⟩)
                  case measure => simp [intOf]; omega
                · have hji : ¬ (j : Int) < (n : Int) := by omega
                  go_wp2
                  go_roundw
                  case rel =>
                    have R : ∃ a' : Nat, a' ≤ nN ∧ Value.int .i64 ((a : Int) + 1) = .int .i64 a' ∧ Hid (Below w.heap.size w wr) := ⟨a + 1, by omega, by go_num, hw2⟩
                    first | exact R | ((repeat apply Exists.intro); exact ⟨R, rfl⟩)
                  case measure => simp [intOf]; omega
            · have hai : ¬ (a : Int) < (nN : Int) := by omega
              have HWL := hide hw.out
              clear hlt hw ha
              go_wp2
              go_ret
              exact ⟨rfl, HWL.out⟩
end Go.Proofs.YtgaoeoijdpdjiaaGreatDoor
