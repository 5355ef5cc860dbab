/-
  The statement Reread answers true.
-/
import Derived.Test.YtgaoeoijdpdjiaaRPick
import Derived.Test.YtgaoeoijdpdjiaaRLaw
import Derived.Test.YtgaoeoijdpdjiaaRSome
namespace Go.Proofs.Ytgaoeoijdpdjiaa
open Go.RowKit

set_option maxRecDepth 20000 in
set_option maxHeartbeats 4000000 in
theorem reread_true (sq bd at0 v : Int) (c s : ByteArray) (w : World) (hq : -9223372036854775808 ≤ sq ∧ sq ≤ 9223372036854775807) (hb : -9223372036854775808 ≤ bd ∧ bd ≤ 9223372036854775807) (hc : c.size ≤ maxLen) (ha : -9223372036854775808 ≤ at0 ∧ at0 ≤ 9223372036854775807) (hv : -9223372036854775808 ≤ v ∧ v ≤ 9223372036854775807) :
    Calls Try.prog 7 #[.agg #[.int .i64 sq, .int .i64 bd, .string c], .int .i64 at0, .int .i64 v, .string s] w fun e w' => e = .returned (.bool true) ∧ Below w.heap.size w w' := by
  have P1 := hide (fun V : World => pickR_any sq 2147483647 V (by omega) (by omega) hq.1 hq.2)
  have P2 := hide (fun V : World => pickR_any bd 4097 V (by omega) (by omega) hb.1 hb.2)
  have P3 := hide (fun V : World => pickR_any at0 32 V (by omega) (by omega) ha.1 ha.2)
  have P4 := hide (fun V : World => pickR_any v 255 V (by omega) (by omega) hv.1 hv.2)
  have PS := hide (fun V : World => someN_any c 8 V hc (by omega))
  have hd := someB_size c 8
  have b1 := pickZ_bd sq 2147483647 (by omega)
  have b2 := pickZ_bd bd 4097 (by omega)
  have b3 := pickZ_bd at0 32 (by omega)
  have b4 := pickZ_bd v 255 (by omega)
  have hR : RecR (pickZ sq 2147483647 + 1) (pickZ bd 4097) (someB c 8) := ⟨by omega, by omega, by omega, by omega, hd⟩
  clear hq hb hc ha hv hd
  generalize someB c 8 = d at *
  generalize pickZ sq 2147483647 = q at *
  generalize pickZ bd 4097 = b at *
  generalize pickZ at0 32 = a at *
  generalize pickZ v 255 = x at *
  obtain ⟨k, hk⟩ := Int.eq_ofNat_of_zero_le b3.1
  obtain ⟨m, hm⟩ : ∃ m : Nat, x + 1 = (m : Int) := ⟨(x + 1).toNat, by omega⟩
  have hk32 : k < 32 := by omega
  have hm1 : 1 ≤ m := by omega
  have hm2 : m ≤ 255 := by omega
  have HSL := hide (fun V : World => sseal_any (q + 1) b d V)
  rw [show sealV (q + 1) b d = (sealS (q + 1) b d, 0) by rw [sealV, if_pos hR]] at HSL
  have HU1 := hide (fun V : World => suns_yes (sealS (q + 1) b d) V (isRec_seal _ _ _ hR))
  obtain ⟨g1, g2, g3⟩ := seq_seal _ _ _ hR
  rw [g1, g2, g3] at HU1
  have hts := sealS_size (q + 1) b d hR.2.2.2.2
  have hd1 : ((((sealS (q + 1) b d).size : Nat) : Int) == 32) = true := by rw [hts]; rfl
  have hd2 : ((((sealS (q + 1) b d).size : Nat) : Int) != 32) = false := by rw [hts]; rfl
  have hbl := byt_lt (sealS (q + 1) b d) k
  have hxl : byt (sealS (q + 1) b d) k ^^^ m < 256 := Nat.xor_lt_two_pow (n := 8) hbl (by omega)
  have HU2 := hide (fun V : World => suns_no (spoilt (sealS (q + 1) b d) k (byt (sealS (q + 1) b d) k ^^^ m)) V (isRec_spoilt _ _ _ hR k _ hk32 hxl (xor_ne _ _ (by omega))))
  have HXO := hide (u8_xor_nat (byt (sealS (q + 1) b d) k) m hbl (by omega))
  have HTS := hide hts
  clear g1 g2 g3 hR hts
  have HK := hide hk
  have HM := hide hm
  subst hk
  clear HK hm
  generalize sealS (q + 1) b d = t at *
  go_enter Try.func7, Try.ntmps7
  go_wp2_with fail
  refine (P1.out _).mono ?_
  rintro e w1 ⟨rfl, rfl⟩
  go_wp2_with fail
  refine (P2.out _).mono ?_
  rintro e w1 ⟨rfl, rfl⟩
  go_wp2_with fail
  refine (PS.out _).mono ?_
  rintro e w3 ⟨rfl, hb3⟩
  have B3 := hide ((Below.refl w.heap.size w).alloc (Nat.le_refl _) _ |>.trans (hb3.mono (by simp)))
  have hz3 : w.heap.size < w3.heap.size := by have := hb3.size; simp at this; omega
  have c0 : w3.cell? ⟨w.heap.size, 0, none⟩ = some (.int .i64 (q + 1)) := (hb3.cell (p := ⟨w.heap.size, 0, none⟩) (by simp)).trans (by simp [go_sem])
  have c1 : w3.cell? ⟨w.heap.size, 1, none⟩ = some (.int .i64 b) := (hb3.cell (p := ⟨w.heap.size, 1, none⟩) (by simp)).trans (by simp [go_sem])
  have c2 : w3.cell? ⟨w.heap.size, 2, none⟩ = some (.string c) := (hb3.cell (p := ⟨w.heap.size, 2, none⟩) (by simp)).trans (by simp [go_sem])
  have cf : w3.frozen? ⟨w.heap.size, 2, none⟩ = false := (hb3.frozen (p := ⟨w.heap.size, 2, none⟩) (by simp)).trans (by simp [go_sem])
  clear hb3 PS P1 P2
  have HZ3 := hide hz3
  clear hz3
  go_wp2_with fail
  refine (HSL.out _).mono ?_
  rintro e w4 ⟨rfl, hb4⟩
  have d0 : w4.cell? ⟨w.heap.size, 0, none⟩ = some (.int .i64 (q + 1)) := (hb4.cell (p := ⟨w.heap.size, 0, none⟩) (by have := HZ3.out; simpa using this)).trans (by simp [go_sem, c0])
  have d1 : w4.cell? ⟨w.heap.size, 1, none⟩ = some (.int .i64 b) := (hb4.cell (p := ⟨w.heap.size, 1, none⟩) (by have := HZ3.out; simpa using this)).trans (by simp [go_sem, c1])
  have d2 : w4.cell? ⟨w.heap.size, 2, none⟩ = some (.string d) := (hb4.cell (p := ⟨w.heap.size, 2, none⟩) (by have := HZ3.out; simpa using this)).trans (World.cell?_setCell_same _ _ _ c2)
  have B4 := hide ((B3.out.setCell (p := ⟨w.heap.size, 2, none⟩) (Nat.le_refl _) (.string d)).trans (hb4.mono (by have := HZ3.out; simp; omega)))
  have HZ4 := hide (show w.heap.size < w4.heap.size by have h1 := hb4.size; have h2 := HZ3.out; simp at h1; omega)
  clear hb4 c0 c1 c2 cf B3 HSL HZ3
  go_wp2_with fail
  refine (HU1.out _).mono ?_
  rintro e w5 ⟨rfl, hb5⟩
  have c0 : w5.cell? ⟨w.heap.size, 0, none⟩ = some (.int .i64 (q + 1)) := (hb5.cell (p := ⟨w.heap.size, 0, none⟩) HZ4.out).trans d0
  have c1 : w5.cell? ⟨w.heap.size, 1, none⟩ = some (.int .i64 b) := (hb5.cell (p := ⟨w.heap.size, 1, none⟩) HZ4.out).trans d1
  have c2 : w5.cell? ⟨w.heap.size, 2, none⟩ = some (.string d) := (hb5.cell (p := ⟨w.heap.size, 2, none⟩) HZ4.out).trans d2
  have B5 := hide (B4.out.trans (hb5.mono (Nat.le_of_lt HZ4.out)))
  have hz5 : w.heap.size < w5.heap.size := Nat.lt_of_lt_of_le HZ4.out hb5.size
  clear hb5 d0 d1 d2 B4 HU1 HZ4
  go_wp2_with fail
  refine (P3.out _).mono ?_
  rintro e w6 ⟨rfl, hw⟩
  have HB : Hid (w5.heap.size + 1 = w6.heap.size) := by rw [hw]; show _ = _; simp
  have p0 : w6.cell? ⟨w5.heap.size, 0, none⟩ = some (.int .i64 (q + 1)) := by rw [hw]; simp [go_sem]
  have p1 : w6.cell? ⟨w5.heap.size, 1, none⟩ = some (.int .i64 b) := by rw [hw]; simp [go_sem]
  have p2 : w6.cell? ⟨w5.heap.size, 2, none⟩ = some (.string d) := by rw [hw]; simp [go_sem]
  have pf : ∀ i, w6.frozen? ⟨w5.heap.size, i, none⟩ = false := by intro i; rw [hw]; simp [go_sem]
  have B6 := hide (show Below w.heap.size w w6 by rw [hw]; exact B5.out.alloc B5.out.size _)
  have hB2 : w.heap.size ≤ w5.heap.size := B5.out.size
  clear hw c0 c1 c2 B5 P3 hz5
  generalize w5.heap.size = B at *
  obtain ⟨cap, w7, hcv, hb7, hz7, hcell, hfr⟩ := bytes_of t w6
  rw [HTS.out] at hcv hcell hfr
  have ck := hcell k hk32
  have fk := hfr k hk32
  have r0 : w7.cell? ⟨B, 0, none⟩ = some (.int .i64 (q + 1)) := (hb7.cell (p := ⟨B, 0, none⟩) (by have := HB.out; show B < _; omega)).trans p0
  have r1 : w7.cell? ⟨B, 1, none⟩ = some (.int .i64 b) := (hb7.cell (p := ⟨B, 1, none⟩) (by have := HB.out; show B < _; omega)).trans p1
  have r2 : w7.cell? ⟨B, 2, none⟩ = some (.string d) := (hb7.cell (p := ⟨B, 2, none⟩) (by have := HB.out; show B < _; omega)).trans p2
  have rf : ∀ i, w7.frozen? ⟨B, i, none⟩ = false := fun i => (hb7.frozen (p := ⟨B, i, none⟩) (by have := HB.out; show B < _; omega)).trans (pf i)
  have HROW : Hid (∀ j, j < 32 → w7.cell? ⟨w6.heap.size, j, none⟩ = some (.int .u8 ((byt t j : Nat) : Int))) := hcell
  have B7 := hide (B6.out.trans (hb7.mono B6.out.size))
  have HG := hide (show w.heap.size ≤ w6.heap.size from B6.out.size)
  have HZ7 := hide hz7
  clear hcell hfr p0 p1 p2 pf hb7 B6 hz7
  have HB7 : Hid (B < w6.heap.size) := by have := HB.out; show B < _; omega
  have hne : ¬ w6.heap.size = B := by have := HB7.out; omega
  have hne2 : ¬ B = w6.heap.size := by have := HB7.out; omega
  have i0 : (0 : Int) ≤ (k : Int) := by omega
  have i1 : (k : Int) < 32 := by omega
  clear HB
  have hx1 : IntKind.i64.wrap (x + 1) = x + 1 := by rw [IntKind.wrap_i64]; omega
  have hx2 : IntKind.u8.wrap (x + 1) = (m : Int) := by have := HM.out; show (x + 1) % 256 = _; omega
  go_wp2_with fail
  clear hcv
  generalize w6.heap.size = G at *
  go_region_with ((go_at_call 16; refine (P4.out _).mono ?_; rintro e w' ⟨rfl, rfl⟩))
  all_goals
    rw [HXO.out]
    generalize hV : World.drew (w7.setCell { block := G, off := k } (Value.int IntKind.u8 ((byt t k ^^^ m : Nat) : Int))) = V
    have hcell : ∀ j (hj : j < ((nats t).set k (byt t k ^^^ m)).length), V.cell? ⟨G, j, none⟩ = some (.int .u8 ((((nats t).set k (byt t k ^^^ m))[j] : Nat) : Int)) := by
      intro j hj
      have hj2 : j < (nats t).length := by simpa using hj
      have hj3 : j < 32 := by rw [nats_length, HTS.out] at hj2; exact hj2
      subst hV
      by_cases e : k = j
      · subst e
        rw [List.getElem_set_self]
        exact World.cell?_setCell_same _ _ _ ck
      · rw [List.getElem_set_ne e]
        refine (World.cell?_setCell_other w7 _ _ _ (fun h => e (congrArg Addr.off h))).trans ?_
        rw [HROW.out j hj3, byt_nats, List.getD_eq_getElem?_getD, List.getElem?_eq_getElem hj2]
        rfl
    have HCV := textCells V G cap ((nats t).set k (byt t k ^^^ m)) (by
      intro y hy
      rcases List.mem_or_eq_of_mem_set hy with h | h
      · exact nats_lt t y h
      · rw [h]; exact hxl) hcell
    rw [List.length_set, nats_length, HTS.out] at HCV
    change _ = Result.ok (Value.string (spoilt t k (byt t k ^^^ m))) V at HCV
    have q0 : V.cell? ⟨B, 0, none⟩ = some (.int .i64 (q + 1)) := by subst hV; exact (World.cell?_setCell_other w7 _ _ _ (fun h => hne (congrArg Addr.block h))).trans r0
    have q1 : V.cell? ⟨B, 1, none⟩ = some (.int .i64 b) := by subst hV; exact (World.cell?_setCell_other w7 _ _ _ (fun h => hne (congrArg Addr.block h))).trans r1
    have q2 : V.cell? ⟨B, 2, none⟩ = some (.string d) := by subst hV; exact (World.cell?_setCell_other w7 _ _ _ (fun h => hne (congrArg Addr.block h))).trans r2
    have qf : ∀ i, V.frozen? ⟨B, i, none⟩ = false := by intro i; subst hV; simpa [go_sem] using rf i
    have BV := hide (show Below w.heap.size w V by subst hV; exact (B7.out.setCell (p := ⟨G, k, none⟩) HG.out _).drew)
    have HZV := hide (show B < V.heap.size by subst hV; have h1 := HB7.out; have h2 := HZ7.out; show B < (w7.setCell _ _).heap.size; simp; omega)
    clear hV hcell r0 r1 r2 rf ck fk HROW B7 HZ7 HB7
    generalize spoilt t k (byt t k ^^^ m) = t' at *
    go_wp2_with fail
    refine (HU2.out _).mono ?_
    rintro e w8 ⟨rfl, hb8⟩
    have c0 : w8.cell? ⟨B, 0, none⟩ = some (.int .i64 (q + 1)) := (hb8.cell (p := ⟨B, 0, none⟩) HZV.out).trans q0
    have c1 : w8.cell? ⟨B, 1, none⟩ = some (.int .i64 b) := (hb8.cell (p := ⟨B, 1, none⟩) HZV.out).trans q1
    have c2 : w8.cell? ⟨B, 2, none⟩ = some (.string d) := (hb8.cell (p := ⟨B, 2, none⟩) HZV.out).trans q2
    have cf : ∀ i, w8.frozen? ⟨B, i, none⟩ = false := fun i => (hb8.frozen (p := ⟨B, i, none⟩) HZV.out).trans (qf i)
    have B8 := hide (BV.out.trans (hb8.mono BV.out.size))
    have HZ8 := hide (Nat.lt_of_lt_of_le HZV.out hb8.size)
    clear hb8 q0 q1 q2 qf BV HZV HU2 HCV
    go_wp2_with fail
    cases hI : isRec s
    · refine (suns_no s _ hI).mono ?_
      rintro e w9 ⟨rfl, hb9⟩
      obtain ⟨z0, z1, z2⟩ := three_set (.int .i64 0) (.int .i64 0) (.string ⟨#[]⟩) c0 c1 c2
      have e0 := (hb9.cell (p := ⟨B, 0, none⟩) (by have := HZ8.out; simpa using this)).trans z0
      have e1 := (hb9.cell (p := ⟨B, 1, none⟩) (by have := HZ8.out; simpa using this)).trans z1
      have e2 := (hb9.cell (p := ⟨B, 2, none⟩) (by have := HZ8.out; simpa using this)).trans z2
      have ef : ∀ i, w9.frozen? ⟨B, i, none⟩ = false := fun i => (hb9.frozen (p := ⟨B, i, none⟩) (by have := HZ8.out; simpa using this)).trans (by simpa [go_sem] using cf i)
      have B9 := hide ((((B8.out.setCell (p := ⟨B, 0, none⟩) hB2 (.int .i64 0)).setCell (p := ⟨B, 1, none⟩) hB2 (.int .i64 0)).setCell (p := ⟨B, 2, none⟩) hB2 (.string ⟨#[]⟩)).trans (hb9.mono (by have := B8.out.size; simpa using this)))
      have HZ9 := hide (show B < w9.heap.size by have h1 := hb9.size; have h2 := HZ8.out; simp at h1; omega)
      clear hb9 z0 z1 z2 c0 c1 c2 cf B8 HZ8
      go_wp2
      go_ret
      exact ⟨rfl, ((B9.out.setCell (p := ⟨B, 0, none⟩) hB2 _).setCell (p := ⟨B, 1, none⟩) hB2 _).setCell (p := ⟨B, 2, none⟩) hB2 _⟩
    · have hI2 := (isRec_iff s).1 hI
      have HS2 := hide (fun V : World => sseal_any (seqOf s) (boundOf s) (idOf s) V)
      rw [show sealV (seqOf s) (boundOf s) (idOf s) = (s, 0) by rw [sealV, if_pos hI2.2.1, hI2.2.2]] at HS2
      refine (suns_yes s _ hI).mono ?_
      rintro e w9 ⟨rfl, hb9⟩
      obtain ⟨z0, z1, z2⟩ := three_set (.int .i64 0) (.int .i64 0) (.string ⟨#[]⟩) c0 c1 c2
      have e0 := (hb9.cell (p := ⟨B, 0, none⟩) (by have := HZ8.out; simpa using this)).trans z0
      have e1 := (hb9.cell (p := ⟨B, 1, none⟩) (by have := HZ8.out; simpa using this)).trans z1
      have e2 := (hb9.cell (p := ⟨B, 2, none⟩) (by have := HZ8.out; simpa using this)).trans z2
      have ef : ∀ i, w9.frozen? ⟨B, i, none⟩ = false := fun i => (hb9.frozen (p := ⟨B, i, none⟩) (by have := HZ8.out; simpa using this)).trans (by simpa [go_sem] using cf i)
      have B9 := hide ((((B8.out.setCell (p := ⟨B, 0, none⟩) hB2 (.int .i64 0)).setCell (p := ⟨B, 1, none⟩) hB2 (.int .i64 0)).setCell (p := ⟨B, 2, none⟩) hB2 (.string ⟨#[]⟩)).trans (hb9.mono (by have := B8.out.size; simpa using this)))
      have HZ9 := hide (show B < w9.heap.size by have h1 := hb9.size; have h2 := HZ8.out; simp at h1; omega)
      clear hb9 z0 z1 z2 c0 c1 c2 cf B8 HZ8
      clear hI hI2
      generalize seqOf s = sq' at *
      generalize boundOf s = bd' at *
      generalize idOf s = id' at *
      go_wp2_with fail
      refine (HS2.out _).mono ?_
      rintro e w10 ⟨rfl, hb10⟩
      have B10 := hide ((((B9.out.setCell (p := ⟨B, 0, none⟩) hB2 (.int .i64 sq')).setCell (p := ⟨B, 1, none⟩) hB2 (.int .i64 bd')).setCell (p := ⟨B, 2, none⟩) hB2 (.string id')).trans (hb10.mono (by have := B9.out.size; simpa using this)))
      clear hb10
      go_wp2
      go_ret
      exact ⟨rfl, B10.out⟩
end Go.Proofs.Ytgaoeoijdpdjiaa
