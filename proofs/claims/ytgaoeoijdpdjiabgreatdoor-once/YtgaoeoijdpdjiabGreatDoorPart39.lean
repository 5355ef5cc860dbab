/-
  A signer signs, in the hall: the index is one that was never given away. The hall moves to a new disk.
-/
import Derived.Test.YtgaoeoijdpdjiabGreatDoorPart38
import Derived.Test.YtgaoeoijdpdjiabGreatDoorPart27
import Derived.Test.YtgaoeoijdpdjiabGreatDoorPart36
namespace Go.Proofs.YtgaoeoijdpdjiabGreatDoor
open Go.RowKit

/-- What was given away, as cells. -/
def givC (L : List (ByteArray × Int)) : List Value := L.flatMap fun p => [.string p.1, .int .i64 p.2]
theorem givC_length (L : List (ByteArray × Int)) : (givC L).length = L.length * 2 := flat_length (fun p : ByteArray × Int => [Value.string p.1, .int .i64 p.2]) 2 L (fun _ _ => rfl)
theorem givC_snoc (L : List (ByteArray × Int)) (p : ByteArray × Int) : givC (L ++ [p]) = givC L ++ [.string p.1, .int .i64 p.2] := by simp [givC]
theorem infoGiv : (Tryz.prog.info? 173).map (fun i => (i.zero, i.size, i.bytes)) = some (some (.agg #[.string ⟨#[]⟩, .int .i64 0]), 2, 24) := by kernel_rfl

set_option maxRecDepth 20000 in
theorem signs_no (H G : Nat) (msg : ByteArray) (c : Int) (Q : World → Prop) (w : World) (hc : c ≠ 0)
    (hS : Calls Tryz.prog 52 #[.pointer (some ⟨G, 0, none⟩), .string msg] w fun e w' => e = .returned (.tuple #[.string ⟨#[]⟩, .int .i64 c]) ∧ Q w') :
    Calls Tryz.prog 57 #[.pointer (some ⟨H, 0, none⟩), .pointer (some ⟨G, 0, none⟩), .string msg] w fun e w' => e = .returned (.bool true) ∧ Q w' := by
  have e1 : (c == 0) = false := by simpa using hc
  have HS := hide hS
  clear hS hc
  go_enter Tryz.func57, Tryz.ntmps57
  go_wp2_with fail
  refine HS.out.mono ?_
  rintro e w1 ⟨rfl, hq⟩
  have HQ := hide hq
  clear hq
  go_wp2
  go_ret
  exact ⟨rfl, HQ.out⟩

set_option maxRecDepth 200000 in
set_option maxHeartbeats 20000000 in
theorem signs_yes (lo H G SD : Nat) (k b x : Int) (t l : Nat) (s1 s2 s3 o1 o2 o3 : ByteArray) (sv bv : Value) (ga : Option Addr) (m gc : Nat) (L : List (ByteArray × Int)) (msg sig key : ByteArray) (idx : Nat) (Q : World → Prop) (w : World)
    (ht : t ≤ 4) (hl : l ≤ 3) (hz : 4 ≤ sig.size) (hv : valN sig 0 4 = idx) (hi : idx < 2 ^ (t * l)) (hm : L.length = m) (hmb : m ≤ 2199023255552) (hL : ∀ p ∈ L, p.2 ≠ idx) (hown : (Value.slice ga m gc).ownBlock ≠ some H)
    (hQ : ∀ V, Q V → Blk V H (hallC SD k b x t l s1 s2 s3 o1 o2 o3 sv bv (.slice ga m gc)) 65 ∧ V.ownsRow lo 173 2 (.slice ga m gc) m (givC L) ∧ lo ≤ V.heap.size)
    (hT : ∀ V V', Q V → Kept (fun q => q = H ∨ (Value.slice ga m gc).ownBlock = some q) V V' → Tn V')
    (hS : Calls Tryz.prog 52 #[.pointer (some ⟨G, 0, none⟩), .string msg] w fun e w' => e = .returned (.tuple #[.string sig, .int .i64 0]) ∧ Q w')
    (hK : ∀ V, Q V → Calls Tryz.prog 51 #[.pointer (some ⟨G, 0, none⟩)] V fun e w' => e = .returned (.string key) ∧ Below V.heap.size V w')
    (hVe : ∀ V, Tn V → Calls Tryz.prog 44 #[.string key, .string msg, .string sig] V fun e w' => e = .returned (.int .i64 0) ∧ Below V.heap.size V w') :
    Calls Tryz.prog 57 #[.pointer (some ⟨H, 0, none⟩), .pointer (some ⟨G, 0, none⟩), .string msg] w fun e w' => e = .returned (.bool true) ∧
      ∃ V g cap, Q V ∧ w'.ownsRow lo 173 2 (.slice (some ⟨g, 0, none⟩) (m + 1) cap) (m + 1) (givC (L ++ [(key, (idx : Int))])) ∧ Blk w' H (hallC SD k b x t l s1 s2 s3 o1 o2 o3 sv bv (.slice (some ⟨g, 0, none⟩) (m + 1) cap)) 65 ∧
        Kept (fun q => q = H ∨ (Value.slice ga m gc).ownBlock = some q) V w' ∧ ((Value.slice ga m gc).ownBlock = some g ∨ V.heap.size ≤ g) := by
  obtain ⟨i0, hi0, hz0, hz1, hz2⟩ := info_parts infoGiv
  have HS := hide hS
  have HK := hide hK
  have HV := hide (fun V : World => kvalue_on sig V hz)
  rw [hv] at HV
  have HTO := hide (fun V : World => keepTotal_any k b x t l V ht hl)
  have HVE := hide hVe
  have HQ := hide hQ
  have HT := hide hT
  have HNO := hide hown
  have HL := hide hL
  have HM := hide hm
  have HMB := hide hmb
  have hz' : decide ((sig.size : Int) < 4) = false := decide_eq_false (by omega)
  have hi' : (idx : Int) < ((2 ^ (t * l) : Nat) : Int) := by exact_mod_cast hi
  have N1 : Hid (m + 1 ≤ maxLen) := by show _ ≤ _; unfold maxLen; omega
  have N2 : Hid ((m + 1) * 24 ≤ 140737488355328) := by show _ ≤ _; omega
  generalize 2 ^ (t * l) = tot at HTO hi'
  have hi2 : decide (tot ≤ idx) = false := decide_eq_false (by omega)
  clear hS hK hz hv hVe hQ hT hown hL hm hi ht hl hmb hi'
  go_enter Tryz.func57, Tryz.ntmps57
  go_wp2_with fail
  refine HS.out.mono ?_
  rintro e w1 ⟨rfl, hq⟩
  have HQ1 := hide hq
  have HK1 := hide (HK.out _ hq)
  obtain ⟨hH1, hR1, hl1⟩ := HQ.out _ hq
  have HH1 := hide hH1
  have HR1 := hide hR1
  have HLO := hide hl1
  clear hq hH1 hR1 hl1
  go_wp2_with fail
  refine HK1.out.mono ?_
  rintro e w2 ⟨rfl, hb2⟩
  have HB2 := hide hb2
  clear hb2
  go_wp2_with fail
  refine (HV.out _).mono ?_
  rintro e w3 ⟨rfl, hb3⟩
  have HB3 := hide (heldB HB2.out hb3 (Nat.le_refl _))
  have hH3 := HH1.out.on HB3.out
  have c0 : w3.cell? ⟨H, 0, none⟩ = some (.int .i64 k) := hH3.cell 0
  have c1 : w3.cell? ⟨H, 1, none⟩ = some (.int .i64 b) := hH3.cell 1
  have c2 : w3.cell? ⟨H, 2, none⟩ = some (.int .i64 x) := hH3.cell 2
  have c3 : w3.cell? ⟨H, 3, none⟩ = some (.int .i64 t) := hH3.cell 3
  have c4 : w3.cell? ⟨H, 4, none⟩ = some (.int .i64 l) := hH3.cell 4
  clear hb3 hH3
  go_wp2_with fail
  refine (HTO.out _).mono ?_
  rintro e w4 ⟨rfl, hb4⟩
  have HB4 := hide (heldB HB3.out hb4 (Nat.le_refl _))
  have HH4 := hide (HH1.out.on HB4.out)
  have HR4 := hide (owns_kept HR1.out (Kept.of_below (F := fun _ => False) HB4.out) (fun _ _ h => h))
  have c14 : w4.cell? ⟨H, 14, none⟩ = some (.slice ga m gc) := HH4.out.cell 14
  have HC14 := hide c14
  clear hb4 c0 c1 c2 c3 c4
  go_wp2_with fail
  clear c14
  go_loopw [11] (fun i wr => ∃ j : Nat, j ≤ m ∧ i = .int .i64 j ∧ wr = w4) (fun i _ => m - (intOf i).toNat)
  case atStart => exact ⟨0, Nat.zero_le _, rfl, rfl⟩
  case round =>
    obtain ⟨j, hj, rfl, rfl⟩ := hrel
    have c14 := HC14.out
    by_cases hlt : j < m
    · obtain ⟨p, hp⟩ : ∃ p, L[j]? = some p := ⟨_, List.getElem?_eq_getElem (by rw [HM.out]; exact hlt)⟩
      obtain ⟨g, cap, hgv, _, _⟩ := HR4.out.form (by omega)
      simp only [Value.slice.injEq] at hgv
      obtain ⟨rfl, _, rfl⟩ := hgv
      have y0 : wr.cell? ⟨g, j * 2, none⟩ = some (.string p.1) := by
        rw [HR4.out.cellAt (j * 2) (by omega)]
        exact flat_get (fun p : ByteArray × Int => [Value.string p.1, .int .i64 p.2]) 2 L j p 0 (fun _ _ => rfl) hp (by decide)
      have y1 : wr.cell? ⟨g, j * 2 + 1, none⟩ = some (.int .i64 p.2) := by
        rw [HR4.out.cellAt (j * 2 + 1) (by omega)]
        exact flat_get (fun p : ByteArray × Int => [Value.string p.1, .int .i64 p.2]) 2 L j p 1 (fun _ _ => rfl) hp (by decide)
      have hne : (p.2 == (idx : Int)) = false := by simpa using HL.out p (List.mem_of_getElem? hp)
      have hms : (j : Int) < (m : Int) := by omega
      have hjm : (j : Int) < 2199023255552 := by have := HMB.out; omega
      obtain ⟨pk, pi⟩ := p
      dsimp only at y0 y1 hne
      clear hp
      by_cases hk : pk = key
      · have e1 : (pk.toList == key.toList) = true := by rw [hk]; simp
        clear hk
        go_wp2
        go_roundw
        case rel => exact ⟨j + 1, by omega, by go_num, by trivial⟩
        case measure => simp [intOf]; omega
      · have e1 : (pk.toList == key.toList) = false := toList_ne hk
        clear hk
        go_wp2
        go_roundw
        case rel => exact ⟨j + 1, by omega, by go_num, by trivial⟩
        case measure => simp [intOf]; omega
    · obtain rfl : j = m := by omega
      have hms : ¬ (j : Int) < (j : Int) := by omega
      have hHl := HH4.out.lt
      have c14' : ∀ o, (wr.alloc o).cell? ⟨H, 14, none⟩ = some (.slice ga j gc) := fun o => (World.cell?_alloc_lt _ _ _ hHl).trans (HH4.out.cell 14)
      clear hHl
      go_wp2_with (at_builtin; refine wpList_append_lies _ rfl _ _ 63 rfl lo 173 i0 (.agg #[.string ⟨#[]⟩, .int .i64 0]) 2 24 Tryz.underlying63 hi0 hz0 hz1 hz2 rfl (by decide) (.slice ga j gc) j (givC L) rfl (HR4.out.alloc _) ⟨wr.heap.size, 0, none⟩ 1 1 [.string key, .int .i64 (idx : Int)] rfl rfl (World.news_of_block (heap_alloc_new wr _)) (fun u hu => by simp at hu; rcases hu with rfl | rfl <;> rfl) (by decide) N1.out N2.out (by rw [World.size_alloc]; exact Nat.le_succ_of_le (Nat.le_trans HLO.out HB4.out.size)) (wr.heap.size + 1) (World.size_alloc _ _) ?_)
      intro g c2 w5 hown hgrow hat hlt5
      have nH : (Value.slice ga j gc).ownBlock ≠ some H := HNO.out
      have gH : g ≠ H := by
        rcases hat with e | e
        · intro e2; subst e2; exact nH e
        · have := HH4.out.lt; omega
      have hgH := hgrow.block H (by rw [World.size_alloc]; exact Nat.lt_succ_of_lt HH4.out.lt) (fun e => nH e.symm)
      have hB5 : Blk w5 H (hallC SD k b x t l s1 s2 s3 o1 o2 o3 sv bv (.slice ga j gc)) 65 := by
        unfold Blk
        rw [hgH]
        exact (HH4.out.alloc _ : Blk (wr.alloc _) H _ _)
      have f14 : w5.frozen? ⟨H, 14, none⟩ = false := hB5.free 14
      have e14 : w5.cell? ⟨H, 14, none⟩ = some (.slice ga j gc) := hB5.cell 14
      have HBF := hide (hB5.set 14 (.slice (some ⟨g, 0, none⟩) (j + 1) c2))
      have HOF := hide (owns_kept hown (kept_set w5 ⟨H, 14, none⟩ (.slice (some ⟨g, 0, none⟩) (j + 1) c2)) (fun q e hk => by
        have e' : g = q := by simpa [Value.ownBlock] using e
        exact gH (e'.trans hk)))
      have HKF := hide (show Kept (fun q => q = H ∨ (Value.slice ga j gc).ownBlock = some q) w1 (w5.setCell ⟨H, 14, none⟩ (.slice (some ⟨g, 0, none⟩) (j + 1) c2)) from
        (Kept.grown (w := wr.alloc _) ((Kept.of_below HB4.out).alloc _) hgrow (fun q e => .inl (.inr e))).setCell (.inl (.inl rfl)) _)
      have HAT := hide (show (Value.slice ga j gc).ownBlock = some g ∨ w1.heap.size ≤ g by
        rcases hat with e | e
        · exact .inl e
        · have := HB4.out.size; exact .inr (by omega))
      have HT5 := hide (HT.out _ _ HQ1.out HKF.out)
      obtain ⟨W6, hW6⟩ : ∃ W6, w5.setCell ⟨H, 14, none⟩ (.slice (some ⟨g, 0, none⟩) (j + 1) c2) = W6 := ⟨_, rfl⟩
      rw [hW6] at HBF HOF HKF HT5
      have HWE := hide hW6
      clear hown hgrow hat hlt5 hgH hB5 gH nH hW6 c14 c14'
      go_wp2_with fail
      rw [HWE.out]
      refine (HVE.out _ HT5.out).mono ?_
      rintro e w7 ⟨rfl, hb7⟩
      have HB7 := hide hb7
      clear hb7 f14 e14
      go_wp2
      go_ret
      refine ⟨rfl, w1, g, c2, HQ1.out, ?_, HBF.out.on HB7.out, HKF.out.after HB7.out, HAT.out⟩
      rw [givC_snoc]
      exact owns_kept HOF.out (Kept.of_below (F := fun _ => False) HB7.out) (fun _ _ h => h)
end Go.Proofs.YtgaoeoijdpdjiabGreatDoor

namespace Go.Proofs.YtgaoeoijdpdjiabGreatDoor
open Go.RowKit

set_option maxRecDepth 20000 in
set_option maxHeartbeats 2000000 in
theorem moves_on (lo H SD D : Nat) (k b x t l : Int) (s1 s2 s3 o1 o2 o3 : ByteArray) (sv bv gv : Value) (st : DSt) (F : Nat → Prop) (ka : Option Addr) (kn kc : Nat) (K : List Bool) (w : World)
    (hH : Blk w H (hallC SD k b x t l s1 s2 s3 o1 o2 o3 sv bv gv) 65) (hSD : Blk w SD [.pointer (some ⟨D, 0, none⟩)] 135) (hD : DSk lo D st w F) (nH : ¬ F H) (nS : ¬ F SD) (hlo : lo ≤ w.heap.size)
    (hK : BoolsAt w (.slice ka kn kc) K) (hKL : K.length ≤ maxLen) (hKF : ∀ b o l c, Value.slice ka kn kc = .slice (some ⟨b, o, none⟩) l c → 0 < l → b < w.heap.size ∧ ¬ F b) (ht0 : 0 ≤ st.term) (ht1 : st.term < 9223372036854775807) :
    Calls Tryz.prog 21 #[.pointer (some ⟨H, 0, none⟩), .slice ka kn kc, .int .i64 st.n] w fun e w' => e = .returned (.bool true) ∧
      ∃ SD2 D2 F2, Blk w' H (hallC SD2 k b x t l s1 s2 s3 o1 o2 o3 sv bv gv) 65 ∧ Blk w' SD2 [.pointer (some ⟨D2, 0, none⟩)] 135 ∧ DSk lo D2 (mvSt st K) w' F2 ∧ (∀ q, F2 q → w.heap.size ≤ q) ∧ w.heap.size ≤ SD2 ∧ ¬ F2 SD2 ∧ Kept (fun q => q = H ∨ F q) w w' ∧ w'.cell? ⟨D, 5, none⟩ = some (.int .i64 (st.term + 1)) := by
  have hok := hD.ok
  have hn1 := hok.lo
  have hn8 := hok.hi
  have hlen : (keptJ st K st.pend.length).length = st.n := by rw [keptJ_len]; exact hok.len
  have HL32 := hide (hD.ok)
  have HCR := hide (skCrash_on SD D ka kn kc (fun w' => DL lo D (crSt st K) F w w') w hSD (dcrash_any lo D st F (.slice ka kn kc) K w hD hK hKL hKF ht0 ht1))
  have HND := hide (fun (V : World) (h : lo ≤ V.heap.size) => snew_yes st.n V lo hn1 hn8 h)
  have HHL := hide hH.lt
  have HSL := hide hSD.lt
  have HH := hide hH
  have HS := hide hSD
  have HNH := hide nH
  have HNS := hide nS
  have HLO := hide hlo
  have HLEN := hide hlen
  have HDF := hide hD
  have c11 : w.cell? ⟨H, 11, none⟩ = some (.pointer (some ⟨SD, 0, none⟩)) := hH.cell 11
  have hnn : (st.n : Int) ≤ 8 := by omega
  clear hH hSD hD nH nS hlo hK hKL hKF ht0 ht1 hok hlen
  go_enter Tryz.func21, Tryz.ntmps21
  go_wp2_with fail
  refine HCR.out.mono ?_
  rintro e w1 ⟨rfl, hl1⟩
  have hbH := hl1.blk HH.out HNH.out
  have hbS := hl1.blk HS.out HNS.out
  obtain ⟨F1, d1, k1, f1⟩ := hl1
  have HD1 := hide d1
  have HK1 := hide k1
  have HF1 := hide f1
  have HH1 := hide hbH
  have HS1 := hide hbS
  have HND1 := hide (HND.out w1 (Nat.le_trans HLO.out k1.size))
  clear d1 k1 f1 hbH hbS c11
  go_wp2_with fail
  refine HND1.out.mono ?_
  rintro e w2 ⟨SD2, F0, rfl, hs2, hf2, hb2⟩
  obtain ⟨D2, E2, pv2, hbS2, hd2, n1, n2, n3, hloS2, rfl⟩ := hs2
  have HMV : Hid (MV lo H SD D SD2 D2 (hallC SD k b x t l s1 s2 s3 o1 o2 o3 sv bv gv) (crSt st K) (cpSt st.n (keptJ st K st.pend.length) 0) F w w2) := by
    have hge : w1.heap.size ≤ SD2 := hf2 SD2 (.inl rfl)
    refine ⟨F1, DFoot D2 E2 pv2, HD1.out.below hb2, ⟨E2, pv2, hd2, rfl⟩, fun q e e2 => ?_, HF1.out, fun q e => ?_, fun e => ?_, ?_, HH1.out.on hb2, HS1.out.on hb2, hbS2, HK1.out.after hb2⟩
    · have := (HD1.out.lt q e).2
      have := hf2 q (.inr e2)
      omega
    · exact Nat.le_trans HK1.out.size (hf2 q (.inr e))
    · have := (HD1.out.lt SD2 e).2
      omega
    · rintro (e | e | e) <;> first | exact n1 e | exact n2 e | exact n3 e
  have HGE := hide (show w.heap.size ≤ SD2 from Nat.le_trans HK1.out.size (hf2 SD2 (.inl rfl)))
  clear hf2 hb2 hbS2 hd2 n1 n2 n3 hloS2
  go_wp2_with fail
  go_loopw [9] (fun i wr => ∃ j : Nat, j ≤ st.n ∧ i = .int .i64 j ∧ Hid (MV lo H SD D SD2 D2 (hallC SD k b x t l s1 s2 s3 o1 o2 o3 sv bv gv) (crSt st K) (cpSt st.n (keptJ st K st.pend.length) j) F w wr)) (fun i _ => st.n - (intOf i).toNat)
  case atStart => exact ⟨0, Nat.zero_le _, rfl, HMV.out⟩
  case round =>
    obtain ⟨j, hj, rfl, hmv⟩ := hrel
    by_cases hlt : j < st.n
    · obtain ⟨G1, G2, e1, e2, h12, g1, g2, m1, m2, bH, bS, b2, hk⟩ := hmv.out
      have hra : rdAns (crSt st K) j = ((keptJ st K st.pend.length).getD j ⟨#[]⟩, 0) := rda_calm (crSt st K) j hlt rfl rfl
      have hrs : rdSt (crSt st K) j = crSt st K := rd_calm (crSt st K) j hlt rfl
      have HRD := hide (skRead_on SD D j _ _ (fun w' => MV lo H SD D SD2 D2 (hallC SD k b x t l s1 s2 s3 o1 o2 o3 sv bv gv) (crSt st K) (cpSt st.n (keptJ st K st.pend.length) j) F w w') wr bS ((dread_any lo D (crSt st K) G1 j wr e1).mono (by
        rintro e w' ⟨rfl, hl⟩
        rw [hrs] at hl
        exact ⟨rfl, MV.old HHL.out HSL.out HNH.out HNS.out e2 h12 g1 g2 m1 m2 bH bS b2 hk hl⟩)))
      rw [hra] at HRD
      have c11 : wr.cell? ⟨H, 11, none⟩ = some (.pointer (some ⟨SD, 0, none⟩)) := bH.cell 11
      have hx32 : ∀ y ∈ keptJ st K st.pend.length, y.size = 32 := fun y hy => by
        obtain ⟨s, hs⟩ := List.getElem?_of_mem hy
        rcases (kept_cand hs).1 with h | h
        · exact HL32.out.sec y (List.mem_of_getElem? h)
        · exact (HL32.out.pen _ h).2
      obtain ⟨wa, ws⟩ := cp_write st.n (keptJ st K st.pend.length) j (by omega) HLEN.out hx32 hlt
      have HWR := hide (fun (V : World) (h : MV lo H SD D SD2 D2 (hallC SD k b x t l s1 s2 s3 o1 o2 o3 sv bv gv) (crSt st K) (cpSt st.n (keptJ st K st.pend.length) j) F w V) => (by
        obtain ⟨G1, G2, e1, e2, h12, g1, g2, m1, m2, bH, bS, b2, hk⟩ := h
        have := skWrite_on SD2 D2 j ((keptJ st K st.pend.length).getD j ⟨#[]⟩) _ (fun w' => MV lo H SD D SD2 D2 (hallC SD k b x t l s1 s2 s3 o1 o2 o3 sv bv gv) (crSt st K) (cpSt st.n (keptJ st K st.pend.length) (j + 1)) F w w') V b2 ((dwrite_any lo D2 _ G2 j ((keptJ st K st.pend.length).getD j ⟨#[]⟩) V e2 (Nat.le_trans HLO.out hk.size) (by show (0 : Int) ≤ (j : Int); omega) (by show (j : Int) < _; omega)).mono (by
          rintro e w' ⟨rfl, hl⟩
          rw [ws] at hl
          exact ⟨rfl, MV.new HHL.out HSL.out e1 h12 g1 g2 m1 m2 bH bS b2 hk hl⟩))
        rw [wa] at this
        exact this : Calls Tryz.prog 62 #[.pointer (some ⟨SD2, 0, none⟩), .int .i64 j, .string ((keptJ st K st.pend.length).getD j ⟨#[]⟩)] V fun e w' => e = .returned (.int .i64 0) ∧ MV lo H SD D SD2 D2 (hallC SD k b x t l s1 s2 s3 o1 o2 o3 sv bv gv) (crSt st K) (cpSt st.n (keptJ st K st.pend.length) (j + 1)) F w w'))
      have hms : (j : Int) < (st.n : Int) := by omega
      generalize (keptJ st K st.pend.length).getD j ⟨#[]⟩ = z at HRD HWR
      clear hra hrs hx32 wa ws e1 e2 h12 g1 g2 m1 m2 bH bS b2 hk hmv
      go_wp2_with fail
      refine HRD.out.mono ?_
      rintro e w3 ⟨rfl, hm3⟩
      have HW3 := hide (HWR.out _ hm3)
      clear hm3 c11
      go_wp2_with fail
      refine HW3.out.mono ?_
      rintro e w4 ⟨rfl, hm4⟩
      have HM4 := hide hm4
      clear hm4
      go_wp2
      go_roundw
      case rel => exact ⟨j + 1, by omega, by go_num, HM4.out⟩
      case measure => simp [intOf]; omega
    · have hjn : j = st.n := by omega
      subst hjn
      have hms : ¬ (st.n : Int) < (st.n : Int) := by omega
      obtain ⟨G1, G2, e1, e2, h12, g1, g2, m1, m2, bH, bS, b2, hk⟩ := hmv.out
      obtain ⟨ya, ys⟩ := cp_sync st K HLEN.out
      have HSY := hide (skSync_on SD2 D2 _ (fun w' => MV lo H SD D SD2 D2 (hallC SD k b x t l s1 s2 s3 o1 o2 o3 sv bv gv) (crSt st K) (mvSt st K) F w w') wr b2 ((dsync_any lo D2 _ G2 wr e2 (by show (0 : Int) ≤ 0; decide) (by show (0 : Int) < _; decide)).mono (by
        rintro e w' ⟨rfl, hl⟩
        rw [ys] at hl
        exact ⟨rfl, MV.new HHL.out HSL.out e1 h12 g1 g2 m1 m2 bH bS b2 hk hl⟩)))
      rw [ya] at HSY
      clear ya ys e1 e2 h12 g1 g2 m1 m2 bH bS b2 hk hmv
      go_wp2_with fail
      refine HSY.out.mono ?_
      rintro e w3 ⟨rfl, hm3⟩
      obtain ⟨G1, G2, e1, e2, h12, g1, g2, m1, m2, bH, bS, b2, hk⟩ := hm3
      have f11 : w3.frozen? ⟨H, 11, none⟩ = false := bH.free 11
      have c11 : w3.cell? ⟨H, 11, none⟩ = some (.pointer (some ⟨SD, 0, none⟩)) := bH.cell 11
      have nG1 : ¬ G1 H := fun e => by rcases g1 H e with e | e <;> first | exact HNH.out e | (have := HHL.out; omega)
      have nG2 : ¬ G2 H := fun e => by have := g2 H e; have := HHL.out; omega
      have HSH := hide (show SD2 ≠ H by have := HGE.out; have := HHL.out; omega)
      have HF := hide (And.intro (bH.set 11 (.pointer (some ⟨SD2, 0, none⟩))) (And.intro e1.term (And.intro e1.self nG1)))
      have HX := hide (And.intro (e2.kept (kept_set w3 ⟨H, 11, none⟩ (.pointer (some ⟨SD2, 0, none⟩))) (fun q e hq => nG2 (by have hq' : q = H := hq; rw [← hq']; exact e))) (And.intro g2 m2))
      have HY := hide (And.intro b2 (And.intro hk e1.ltD))
      clear e1 e2 h12 g1 g2 m1 m2 bH bS b2 hk nG1 nG2
      go_wp2
      go_ret
      refine ⟨rfl, SD2, D2, G2, HF.out.1, ?_, HX.out.1, HX.out.2.1, HGE.out, HX.out.2.2, (HY.out.2.1.mono (fun q _ e => .inr e)).setCell (.inl (.inl rfl)) _, ?_⟩
      · have hb := HY.out.1
        unfold Blk at hb ⊢
        rw [(kept_set w3 ⟨H, 11, none⟩ (.pointer (some ⟨SD2, 0, none⟩))).block SD2 (Blk.lt hb) HSH.out]
        exact hb
      · rw [(kept_set w3 ⟨H, 11, none⟩ (.pointer (some ⟨SD2, 0, none⟩))).cell (p := ⟨D, 5, none⟩) HY.out.2.2 (fun e => HF.out.2.2.2 (by have e' : D = H := e; rw [← e']; exact HF.out.2.2.1))]
        exact HF.out.2.1
end Go.Proofs.YtgaoeoijdpdjiabGreatDoor
