/-
  The document's disk: Sync, Crash.
-/
import Derived.Test.YtgaoeoijdpdjiaaGreatDoorPart27
import Derived.Test.YtgaoeoijdpdjiaaGreatDoorPart21
namespace Go.Proofs.YtgaoeoijdpdjiaaGreatDoor
open Go.RowKit
/-- The document's disk in the middle of a loop over its writes. -/
structure RdJ (lo R : Nat) (n : Int) (lv : Value) (due sy en : Int) (m : Nat) (X : List LogW) (w1 w : World) : Prop where
  b : Blk w R (rdC n lv due sy en) 259
  r : w.ownsRow lo 261 3 lv m (logC X)
  k : Kept (fun q => lv.ownBlock = some q) w1 w
theorem RdJ.set {lo R g : Nat} {n : Int} {m c : Nat} {due sy en : Int} {X : List LogW} {w1 w : World} (h : RdJ lo R n (.slice (some ⟨g, 0, none⟩) m c) due sy en m X w1 w) {j : Nat} {p : LogW} (hp : X[j]? = some p) (z : Nat) : RdJ lo R n (.slice (some ⟨g, 0, none⟩) m c) due sy en m (X.set j (p.1, p.2.1, z)) w1 (w.setCell ⟨g, j * 3 + 2, none⟩ (.int .i64 (z : Int))) := by
  have hne := owns_neQ h.r h.b (by decide)
  refine ⟨h.b.other _ (fun e => hne (by show some g = some R; rw [e])), ?_, h.k.setCell (p := ⟨g, j * 3 + 2, none⟩) (.inl rfl) _⟩
  rw [← logC_set hp]
  exact owns_set h.r _ _
theorem RdJ.cells {lo R g : Nat} {n : Int} {m c : Nat} {due sy en : Int} {X : List LogW} {w1 w : World} (h : RdJ lo R n (.slice (some ⟨g, 0, none⟩) m c) due sy en m X w1 w) {j : Nat} {p : LogW} (hp : X[j]? = some p) (hj : j < m) : w.cell? ⟨g, j * 3 + 2, none⟩ = some (.int .i64 (p.2.2 : Int)) ∧ w.frozen? ⟨g, j * 3 + 2, none⟩ = false := by
  refine ⟨?_, owns_free h.r _⟩
  rw [h.r.cellAt (j * 3 + 2) (by omega)]
  exact logC_get hp 2 (by decide)
set_option maxRecDepth 20000 in
set_option maxHeartbeats 2000000 in
theorem rsync_yes (lo R : Nat) (n : Int) (la : Option Addr) (lc : Nat) (due sy en : Int) (L : List LogW) (w : World) (hB : Blk w R (rdC n (.slice la L.length lc) due sy en) 259) (hr : w.ownsRow lo 261 3 (.slice la L.length lc) L.length (logC L)) (hL : L.length ≤ 2199023255552) (hd0 : 0 ≤ due) (hd2 : due ≤ 9223372036854775807) (hd : due ≠ 1) (hs0 : 0 ≤ sy) (hs1 : sy < 9223372036854775807) :
    Calls Tryz.prog 125 #[.pointer (some ⟨R, 0, none⟩)] w fun e w' => e = .returned (.int .i64 0) ∧ Blk w' R (rdC n (.slice la L.length lc) (tickR due) (sy + 1) en) 259 ∧ w'.ownsRow lo 261 3 (.slice la L.length lc) L.length (logC (crL (fun _ => true) 0 L)) ∧ Kept (fun q => q = R ∨ (Value.slice la L.length lc).ownBlock = some q) w w' := by
  have HF := hide (rfails_any R n (.slice la L.length lc) due sy en w hB hd0 hd2)
  have hne := owns_neQ hr hB (by decide)
  have HNE := hide hne
  have HRO := hide (fun (V : World) (hk : Kept (fun q => q = R) w V) => owns_kept hr hk (fun q e e2 => hne (by rw [e, e2])))
  have hde : (due == 1) = false := by simpa using hd
  have hsw : IntKind.i64.wrap (sy + 1) = sy + 1 := by rw [IntKind.wrap_i64] <;> omega
  obtain ⟨m, hm⟩ : ∃ m, L.length = m := ⟨_, rfl⟩
  have HAL := hide (crJ_all (fun _ => true) L)
  rw [hm] at hB hr hL HF hne HNE HRO HAL ⊢
  have HM := hide hm
  have HL := hide hL
  clear hB hr hL hm hne hd0 hd2 hd hs0 hs1
  go_enter Tryz.func125, Tryz.ntmps125
  go_wp2_with fail
  refine HF.out.mono ?_
  rintro e w1 ⟨rfl, hb, hk⟩
  have HK1 := hide hk
  have HJ0 := hide (show RdJ lo R n (.slice la m lc) (tickR due) sy en m (crJ (fun _ => true) L 0) w1 w1 from ⟨hb, by rw [crJ_zero]; exact HRO.out _ hk, Kept.refl _ _⟩)
  clear hb hk
  go_wp2_with fail
  go_loopw [4] (fun i wr => ∃ j : Nat, j ≤ m ∧ i = .int .i64 j ∧ Hid (RdJ lo R n (.slice la m lc) (tickR due) sy en m (crJ (fun _ => true) L j) w1 wr)) (fun i _ => m - (intOf i).toNat)
  case atStart => exact ⟨0, Nat.zero_le _, rfl, HJ0.out⟩
  case round =>
    obtain ⟨j, hj, rfl, HJ⟩ := hrel
    have c1 : wr.cell? ⟨R, 1, none⟩ = some (.slice la m lc) := HJ.out.b.cell 1
    by_cases hlt : j < m
    · obtain ⟨p, hp⟩ : ∃ p, L[j]? = some p := ⟨_, List.getElem?_eq_getElem (by rw [HM.out]; exact hlt)⟩
      obtain ⟨g, cap, hgv, _, _⟩ := HJ.out.r.form (by omega)
      simp only [Value.slice.injEq] at hgv
      obtain ⟨rfl, _, rfl⟩ := hgv
      obtain ⟨y2, f2⟩ := HJ.out.cells (crJ_get hp) hlt
      have hms : (j : Int) < (m : Int) := by omega
      have hjm : (j : Int) < 2199023255552 := by have := HL.out; omega
      have HP := hide hp
      clear hp
      by_cases h0 : p.2.2 = 0
      · have e1 : ((p.2.2 : Int) == 0) = true := by simp [h0]
        have HS := hide (HJ.out.set (crJ_get HP.out) 1)
        have HE : Hid (crJ (fun _ => true) L (j + 1) = (crJ (fun _ => true) L j).set j (p.1, p.2.1, 1)) := by
          show _ = _
          rw [crJ_succ HP.out]
          unfold stC
          rw [if_pos h0]
          rfl
        clear h0
        go_wp2
        go_roundw
        case rel => exact ⟨j + 1, by omega, by go_num, by show RdJ _ _ _ _ _ _ _ _ _ _ _; rw [HE.out]; exact HS.out⟩
        case measure => simp [intOf]; omega
      · have e1 : ((p.2.2 : Int) == 0) = false := by simpa using h0
        have HE := hide (crJ_same (κ := fun _ => true) HP.out h0)
        clear h0
        go_wp2
        go_roundw
        case rel => exact ⟨j + 1, by omega, by go_num, by show RdJ _ _ _ _ _ _ _ _ _ _ _; rw [HE.out]; exact HJ.out⟩
        case measure => simp [intOf]; omega
    · obtain rfl : j = m := by omega
      have hms : ¬ (j : Int) < (j : Int) := by omega
      have c3 : wr.cell? ⟨R, 3, none⟩ = some (.int .i64 sy) := HJ.out.b.cell 3
      have f3 : wr.frozen? ⟨R, 3, none⟩ = false := HJ.out.b.free 3
      have HS := hide (HJ.out.b.set 3 (.int .i64 (sy + 1)))
      have HR2 := hide (owns_kept HJ.out.r (kept_set wr ⟨R, 3, none⟩ (.int .i64 (sy + 1))) (fun q e e2 => HNE.out (by rw [e, e2])))
      have HKF := hide (show Kept (fun q => q = R ∨ (Value.slice la j lc).ownBlock = some q) w (wr.setCell ⟨R, 3, none⟩ (.int .i64 (sy + 1))) from ((HK1.out.mono (fun q _ e => .inl e)).trans HJ.out.k (fun q e => .inl (.inr e))).setCell (.inl (.inl rfl)) _)
      rw [HAL.out] at HR2
      clear HJ
      go_wp2
      go_ret
      exact ⟨rfl, HS.out, HR2.out, HKF.out⟩
set_option maxRecDepth 20000 in
set_option maxHeartbeats 4000000 in
theorem rcrash_any (lo R : Nat) (n : Int) (la : Option Addr) (lc : Nat) (due sy en : Int) (L : List LogW) (kv : Value) (K : List Bool) (w : World) (hB : Blk w R (rdC n (.slice la L.length lc) due sy en) 259) (hr : w.ownsRow lo 261 3 (.slice la L.length lc) L.length (logC L)) (hL : L.length ≤ 2199023255552) (hK : BoolsAt w kv K) (hKL : K.length ≤ maxLen) (hKF : ∀ b o l c, kv = .slice (some ⟨b, o, none⟩) l c → 0 < l → b < w.heap.size ∧ (Value.slice la L.length lc).ownBlock ≠ some b) (he0 : 0 ≤ en) (he1 : en < 9223372036854775807) :
    Calls Tryz.prog 130 #[.pointer (some ⟨R, 0, none⟩), kv] w fun e w' => e = .returned (.tuple #[]) ∧ Blk w' R (rdC n (.slice la L.length lc) 0 sy (en + 1)) 259 ∧ w'.ownsRow lo 261 3 (.slice la L.length lc) L.length (logC (crL (fun c => K.getD c false) 0 L)) ∧ Kept (fun q => q = R ∨ (Value.slice la L.length lc).ownBlock = some q) w w' := by
  have hne := owns_neQ hr hB (by decide)
  have HNE := hide hne
  have hsw : IntKind.i64.wrap (en + 1) = en + 1 := by rw [IntKind.wrap_i64] <;> omega
  obtain ⟨κ, hκ⟩ : ∃ κ : Nat → Bool, (fun c => K.getD c false) = κ := ⟨_, rfl⟩
  have HKA := hide hκ
  rw [hκ]
  obtain ⟨m, hm⟩ : ∃ m, L.length = m := ⟨_, rfl⟩
  have HAL := hide (crJ_all κ L)
  rw [hm] at hB hr hL hne HNE HAL hKF ⊢
  have HM := hide hm
  have HL := hide hL
  have HJ0 := hide (show RdJ lo R n (.slice la m lc) due sy en m (crJ κ L 0) w w from ⟨hB, by rw [crJ_zero]; exact hr, Kept.refl _ _⟩)
  obtain ⟨ka, kc, hkv⟩ := hK.len
  have HKB := hide hK
  have HKF := hide hKF
  obtain ⟨kl, hkl⟩ : ∃ kl, K.length = kl := ⟨_, rfl⟩
  rw [hkl] at hkv hKL
  have HKL := hide hkl
  have HKM := hide hKL
  subst hkv
  clear hB hr hL hm hne he0 he1 hκ hK hKF hKL hkl
  go_enter Tryz.func130, Tryz.ntmps130
  go_wp2_with fail
  go_loopw [4, 5] (fun c i wr => ∃ j : Nat, j ≤ m ∧ c = .int .i64 (pendN (L.take j) : Int) ∧ i = .int .i64 j ∧ Hid (RdJ lo R n (.slice la m lc) due sy en m (crJ κ L j) w wr)) (fun _ i _ => m - (intOf i).toNat)
  case atStart => exact ⟨0, Nat.zero_le _, rfl, rfl, HJ0.out⟩
  case round =>
    obtain ⟨j, hj, rfl, rfl, HJ⟩ := hrel
    have c1 : wr.cell? ⟨R, 1, none⟩ = some (.slice la m lc) := HJ.out.b.cell 1
    by_cases hlt : j < m
    · obtain ⟨p, hp⟩ : ∃ p, L[j]? = some p := ⟨_, List.getElem?_eq_getElem (by rw [HM.out]; exact hlt)⟩
      obtain ⟨g, cap, hgv, _, _⟩ := HJ.out.r.form (by omega)
      simp only [Value.slice.injEq] at hgv
      obtain ⟨rfl, _, rfl⟩ := hgv
      obtain ⟨y2, f2⟩ := HJ.out.cells (crJ_get hp) hlt
      have hpt := pendN_take hp
      have hms : (j : Int) < (m : Int) := by omega
      have hjm : (j : Int) < 2199023255552 := by have := HL.out; omega
      have hpl : pendN (L.take j) ≤ j := Nat.le_trans (pendN_le _) (by simp; omega)
      have HP := hide hp
      have HSU := hide (crJ_succ (κ := κ) hp)
      obtain ⟨c, hc⟩ : ∃ c, pendN (L.take j) = c := ⟨_, rfl⟩
      rw [hc] at hpt hpl HSU ⊢
      have hcw : IntKind.i64.wrap ((c : Int) + 1) = (c : Int) + 1 := by rw [IntKind.wrap_i64] <;> omega
      have HPT := hide hpt
      clear hp hpt hc
      by_cases h0 : p.2.2 = 0
      · have e1 : ((p.2.2 : Int) != 0) = false := by simp [h0]
        have e2 : (p.2.2 == 0) = true := by simp [h0]
        have HS := hide (HJ.out.set (crJ_get HP.out) 2)
        obtain ⟨W2, hW2⟩ : ∃ W2, wr.setCell ⟨g, j * 3 + 2, none⟩ (.int .i64 ((2 : Nat) : Int)) = W2 := ⟨_, rfl⟩
        rw [hW2] at HS
        have HW2 := hide hW2
        have b1 : (wr.setCell ⟨g, j * 3 + 2, none⟩ (.int .i64 2)).cell? ⟨R, 1, none⟩ = some (.slice (some ⟨g, 0, none⟩) m lc) := by
          have := HS.out.b.cell 1
          rw [← hW2] at this
          exact this
        have hXg : ((crJ κ L j).set j (p.1, p.2.1, 2))[j]? = some (p.1, p.2.1, 2) := List.getElem?_set_self (by rw [crJ_length, HM.out]; exact hlt)
        obtain ⟨y3, f3⟩ := HS.out.cells hXg hlt
        have y3' : (wr.setCell ⟨g, j * 3 + 2, none⟩ (.int .i64 2)).cell? ⟨g, j * 3 + 2, none⟩ = some (.int .i64 2) := by
          rw [← hW2] at y3
          exact y3
        have f3' : (wr.setCell ⟨g, j * 3 + 2, none⟩ (.int .i64 2)).frozen? ⟨g, j * 3 + 2, none⟩ = false := by
          rw [← hW2] at f3
          exact f3
        by_cases hkc : c < kl
        · obtain ⟨y, hy⟩ : ∃ y, K[c]? = some y := ⟨_, List.getElem?_eq_getElem (by rw [HKL.out]; exact hkc)⟩
          obtain ⟨kb, ko, hkav, hcap2, hkcell⟩ : ∃ kb ko, ka = some ⟨kb, ko, none⟩ ∧ kl ≤ kc ∧ (wr.setCell ⟨g, j * 3 + 2, none⟩ (.int .i64 2)).cell? ⟨kb, ko + c, none⟩ = some (.bool y) := by
            rcases HKB.out with ⟨_, e0⟩ | ⟨kb, ko, cap, e0, hcp, hall⟩
            · rw [e0] at hy
              simp at hy
            · simp only [Value.slice.injEq] at e0
              obtain ⟨q1, q2⟩ := HKF.out kb ko kl kc (by rw [e0.1]) (by omega)
              have hk := HS.out.k
              rw [← hW2] at hk
              exact ⟨kb, ko, e0.1, by rw [← HKL.out, e0.2.2]; exact hcp, (hk.cell (p := ⟨kb, ko + c, none⟩) q1 q2).trans (hall c y hy)⟩
          subst hkav
          have HY := hide hy
          have hkc' : (c : Int) < (kl : Int) := by omega
          have hkm : (kl : Int) ≤ 9223372036854775807 := by have := HKM.out; unfold maxLen at this; omega
          have HKV : Hid (κ c = y) := by
            show κ c = y
            rw [← HKA.out]
            show K.getD c false = y
            rw [List.getD_eq_getElem?_getD, HY.out]
            rfl
          clear hy hW2 hXg y3 f3
          cases y with
          | true =>
            have HS2 := hide (HS.out.set (p := (p.1, p.2.1, 2)) (List.getElem?_set_self (by rw [crJ_length, HM.out]; exact hlt)) 1)
            have HE : Hid (crJ κ L (j + 1) = ((crJ κ L j).set j (p.1, p.2.1, 2)).set j (p.1, p.2.1, 1)) := by
              show _ = _
              rw [HSU.out, List.set_set]
              unfold stC
              rw [if_pos h0, HKV.out]
              rfl
            rw [← HW2.out] at HS2
            clear h0 HW2 HS
            go_wp2
            go_roundw
            case rel => exact ⟨j + 1, by omega, by rw [HPT.out, e2]; rfl, by go_num, by show RdJ _ _ _ _ _ _ _ _ _ _ _; rw [HE.out]; exact HS2.out⟩
            case measure => simp [intOf]; omega
          | false =>
            have HE : Hid (crJ κ L (j + 1) = (crJ κ L j).set j (p.1, p.2.1, 2)) := by
              show _ = _
              rw [HSU.out]
              unfold stC
              rw [if_pos h0, HKV.out]
              rfl
            rw [← HW2.out] at HS
            clear h0 HW2
            go_wp2
            go_roundw
            case rel => exact ⟨j + 1, by omega, by rw [HPT.out, e2]; rfl, by go_num, by show RdJ _ _ _ _ _ _ _ _ _ _ _; rw [HE.out]; exact HS.out⟩
            case measure => simp [intOf]; omega
        · have hkc' : ¬ (c : Int) < (kl : Int) := by omega
          have HKV : Hid (κ c = false) := by
            show κ c = false
            rw [← HKA.out]
            show K.getD c false = false
            rw [List.getD_eq_getElem?_getD, List.getElem?_eq_none (by rw [HKL.out]; omega)]
            rfl
          have HE : Hid (crJ κ L (j + 1) = (crJ κ L j).set j (p.1, p.2.1, 2)) := by
            show _ = _
            rw [HSU.out]
            unfold stC
            rw [if_pos h0, HKV.out]
            rfl
          rw [← HW2.out] at HS
          clear h0 HW2 hW2 hXg y3 f3
          go_wp2
          go_roundw
          case rel => exact ⟨j + 1, by omega, by rw [HPT.out, e2]; rfl, by go_num, by show RdJ _ _ _ _ _ _ _ _ _ _ _; rw [HE.out]; exact HS.out⟩
          case measure => simp [intOf]; omega
      · have e1 : ((p.2.2 : Int) != 0) = true := by
          have : (p.2.2 : Int) ≠ 0 := by omega
          simpa using this
        have e2 : (p.2.2 == 0) = false := by simpa using h0
        have HE := hide (crJ_same (κ := κ) HP.out h0)
        clear h0
        go_wp2
        go_roundw
        case rel => exact ⟨j + 1, by omega, by rw [HPT.out, e2]; rfl, by go_num, by show RdJ _ _ _ _ _ _ _ _ _ _ _; rw [HE.out]; exact HJ.out⟩
        case measure => simp [intOf]; omega
    · obtain rfl : j = m := by omega
      have hms : ¬ (j : Int) < (j : Int) := by omega
      have c2 : wr.cell? ⟨R, 2, none⟩ = some (.int .i64 due) := HJ.out.b.cell 2
      have f2 : wr.frozen? ⟨R, 2, none⟩ = false := HJ.out.b.free 2
      have hB2 := HJ.out.b.set 2 (.int .i64 0)
      have c4 : (wr.setCell ⟨R, 2, none⟩ (.int .i64 0)).cell? ⟨R, 4, none⟩ = some (.int .i64 en) := hB2.cell 4
      have f4 : (wr.setCell ⟨R, 2, none⟩ (.int .i64 0)).frozen? ⟨R, 4, none⟩ = false := hB2.free 4
      have HS := hide (hB2.set 4 (.int .i64 (en + 1)))
      have HR2 := hide (owns_kept (owns_kept HJ.out.r (kept_set wr ⟨R, 2, none⟩ (.int .i64 0)) (fun q e e2 => HNE.out (by rw [e, e2]))) (kept_set _ ⟨R, 4, none⟩ (.int .i64 (en + 1))) (fun q e e2 => HNE.out (by rw [e, e2])))
      have HKF2 := hide (show Kept (fun q => q = R ∨ (Value.slice la j lc).ownBlock = some q) w ((wr.setCell ⟨R, 2, none⟩ (.int .i64 0)).setCell ⟨R, 4, none⟩ (.int .i64 (en + 1))) from ((HJ.out.k.mono (fun q _ e => .inr e)).setCell (.inl (.inl rfl)) _).setCell (.inl (.inl rfl)) _)
      rw [HAL.out] at HR2
      clear HJ hB2
      go_wp2
      go_end0
      exact ⟨rfl, HS.out, HR2.out, HKF2.out⟩
end Go.Proofs.YtgaoeoijdpdjiaaGreatDoor
