/-
  The document's stirring of words of 32 bits. The document's stirring of words of 64 bits. The document's digested over words of 64 bits.
-/
import Derived.Test.YtgaoeoijdpdjiaaGreatDoorPart6
import Derived.Test.YtgaoeoijdpdjiaaGreatDoorPart13
import Derived.Handy
namespace Go.Proofs.YtgaoeoijdpdjiaaGreatDoor
open Go.RowKit
theorem tor32 (i : Nat) (h : i < 4) : turnN i = 5 ∨ turnN i = 11 ∨ turnN i = 19 ∨ turnN i = 26 := by
  rcases (show i = 0 ∨ i = 1 ∨ i = 2 ∨ i = 3 by omega) with rfl | rfl | rfl | rfl <;> simp [turnN]
set_option maxHeartbeats 400000 in
theorem kept_32z (g : Nat) (x : Int) (w : World) (hc : w.cell? ⟨g, 8, none⟩ = some (.int .i64 32)) (h0 : 0 ≤ x) (h1 : x < 18446744073709551616) :
    Calls Tryz.prog 279 #[.pointer (some ⟨g, 0, none⟩), .int .u64 x] w fun e w' => e = .returned (.int .u64 (x % 4294967296)) ∧ w' = w := by
  obtain ⟨n, rfl⟩ := Int.eq_ofNat_of_zero_le h0
  exact kept_32 g n w hc (by omega)
set_option maxHeartbeats 4000000 in
theorem stirred_32 (g : Nat) (L : List Nat) (w : World) (hr : PoolAt w g 32 L) (hL : L.length = 8) (hW : Words 32 L) :
    Calls Tryz.prog 238 #[.pointer (some ⟨g, 0, none⟩)] w fun e w' => e = .returned (.tuple #[]) ∧ PoolAt w' g 32 (refTo 32 L 8) ∧ Only g w w' := by
  have HR := hide hr
  have HL := hide hL
  have HW := hide hW
  clear hr hL hW
  go_enter Tryz.func238, Tryz.ntmps238
  go_wp2
  go_loopw [2] (fun i wr => ∃ r : Nat, r ≤ 8 ∧ i = .int .i64 r ∧ Hid (PoolAt wr g 32 (refTo 32 L r)) ∧ Hid (Only g w wr)) (fun i _ => 8 - (intOf i).toNat)
  case atStart => exact ⟨0, by omega, rfl, HR, Only.refl _ _⟩
  case round =>
    obtain ⟨r, hr8, rfl, hp, ho⟩ := hrel
    by_cases hlt : r < 8
    · have hlen : (refTo 32 L r).length = 8 := by rw [refTo_length]; exact HL.out
      have hwd := refTo_words 32 L r HW.out
      have HS : Hid (refTo 32 L (r + 1) = (mixRef 32 r (refTo 32 L r) 4).set 0 (at0 (mixRef 32 r (refTo 32 L r) 4) 0 ^^^ (r + 1))) := rfl
      generalize refTo 32 L r = Q at hp hlen hwd HS
      have HQL := hide hlen
      have HQW := hide hwd
      clear hlen hwd
      obtain ⟨wo, rfl⟩ : ∃ wo : World, wo = wr := ⟨_, rfl⟩
      go_wp2
      go_loopw [3] (fun i wr => ∃ j : Nat, j ≤ 4 ∧ i = .int .i64 j ∧ Hid (PoolAt wr g 32 (mixRef 32 r Q j)) ∧ Hid (Only g w wr)) (fun i _ => 4 - (intOf i).toNat)
      case atStart => exact ⟨0, by omega, rfl, hp, ho⟩
      case round =>
        obtain ⟨j, hj, rfl, hp, ho⟩ := hrel
        by_cases hlt4 : j < 4
        · have hlen : (mixRef 32 r Q j).length = 8 := by rw [mixRef_length]; exact HQL.out
          have hwd := mixRef_words 32 r Q j HQW.out
          have HS4 : Hid (mixRef 32 r Q (j + 1) = colW 32 j (4 + (j + r) % 4) (mixRef 32 r Q j)) := rfl
          generalize mixRef 32 r Q j = K at hp hlen hwd HS4
          have hjr : 4 + (j + r) % 4 < 8 := by omega
          have d1 := hp.out.cell (i := j) (by omega)
          have d2 := hp.out.cell (i := 4 + (j + r) % 4) (by omega)
          have d8 := hp.out.bits hlen
          have x1 := hwd.at j
          have x2 := hwd.at (4 + (j + r) % 4)
          have HJ : Hid ((4 : Int) + ((j : Int) + (r : Int)) % 4 = ((4 + (j + r) % 4 : Nat) : Int)) := by show (4 : Int) + ((j : Int) + (r : Int)) % 4 = _; omega
          have HCO : Hid (colW 32 j (4 + (j + r) % 4) K = (K.set j (addW 32 (at0 K j) (at0 K (4 + (j + r) % 4)))).set (4 + (j + r) % 4) (rotW 32 (at0 K (4 + (j + r) % 4)) (turnN j) ^^^ addW 32 (at0 K j) (at0 K (4 + (j + r) % 4)))) := rfl
          have hJ4 : 4 ≤ 4 + (j + r) % 4 := by omega
          generalize 4 + (j + r) % 4 = J at hjr d2 x2 HJ HS4 HCO hJ4
          have q0 : (0 : Int) ≤ (J : Int) := by omega
          have q1 : (J : Int) < 8 := by omega
          have q2 : (j : Int) < 8 := by omega
          have HLK := hide hlen
          have z1 : at0 K j < 4294967296 := by simpa using x1
          have z2 : at0 K J < 4294967296 := by simpa using x2
          have y1 : ((at0 K j : Nat) : Int) < 4294967296 := by omega
          have y2 : ((at0 K J : Nat) : Int) < 4294967296 := by omega
          have hwr : IntKind.u64.wrap (((at0 K j : Nat) : Int) + ((at0 K J : Nat) : Int)) = ((at0 K j : Nat) : Int) + ((at0 K J : Nat) : Int) := by rw [IntKind.wrap_u64]; omega
          have HP : Hid (0 ≤ ((at0 K j : Nat) : Int) + ((at0 K J : Nat) : Int) ∧ ((at0 K j : Nat) : Int) + ((at0 K J : Nat) : Int) < 18446744073709551616) := ⟨by omega, by omega⟩
          clear z1 z2 y1 y2
          have HRT := hide (fun w' h1 => rturned_32 g (at0 K J) (turnN j) w' h1 (by simpa using x2) (tor32 j hlt4))
          have HTN := hide (fun w' : World => turn_any j w' hlt4)
          have HAD : Hid ((((at0 K j : Nat) : Int) + ((at0 K J : Nat) : Int)) % 4294967296 = ((addW 32 (at0 K j) (at0 K J) : Nat) : Int)) := by
            show (((at0 K j : Nat) : Int) + ((at0 K J : Nat) : Int)) % 4294967296 = _
            unfold addW
            rw [Int.natCast_emod, Int.natCast_add]
            rfl
          have HXL := hide (show rotW 32 (at0 K J) (turnN j) < 18446744073709551616 from Nat.lt_of_lt_of_le (rotW_lt 32 (at0 K J) (turnN j) x2) (by decide))
          have HAL := hide (show addW 32 (at0 K j) (at0 K J) < 18446744073709551616 from Nat.lt_of_lt_of_le (addW_lt 32 (at0 K j) (at0 K J)) (by decide))
          generalize at0 K j = a at d1 x1 HAD HCO hwr HP HAL
          generalize at0 K J = c at d2 x2 HAD HCO hwr HP HRT HXL HAL
          generalize turnN j = tn at HRT HTN HCO HXL
          generalize rotW 32 c tn = rt at HRT HCO HXL
          generalize addW 32 a c = A at HAD HCO HAL
          clear hlen hwd x1 x2
          go_wp2
          rw [HJ.out]
          go_quiet ((go_at_call 279; exact Calls.quiet_of_same (kept_32z g _ _ (by simpa [go_sem] using d8) HP.out.1 HP.out.2)))
          have HXO := hide (u64_xor_nat rt A HXL.out HAL.out)
          have HPV := hide (hp.out.drewN nq)
          have HOV := hide (ho.out.drewN nq)
          generalize hV : wr.drewN nq = V at HPV HOV ⊢
          have fj : V.frozen? ⟨g, j, none⟩ = false := HPV.out.free j
          have fJ : V.frozen? ⟨g, J, none⟩ = false := HPV.out.free J
          have e1 : V.cell? ⟨g, j, none⟩ = some (.int .u64 ((a : Nat) : Int)) := by rw [← hV]; exact d1
          have e2 : V.cell? ⟨g, J, none⟩ = some (.int .u64 ((c : Nat) : Int)) := by rw [← hV]; exact d2
          have e8 : V.cell? ⟨g, 8, none⟩ = some (.int .i64 32) := by rw [← hV]; exact d8
          clear hwr hV d1 d2 d8
          go_wp2
          rw [HAD.out]
          go_quiet (first | (go_at_call 281; exact Calls.quiet_of_same (HTN.out _)) | (go_at_call 280; exact Calls.quiet_of_same (HRT.out _ (by simpa [go_sem] using e8))))
          go_wp2
          rw [HXO.out]
          go_roundw
          case rel =>
            refine ⟨j + 1, by omega, by go_num, ?_, ?_⟩
            · have h := (HPV.out.set j A (by have := HLK.out; omega)).set J (rt ^^^ A) (by rw [List.length_set]; have := HLK.out; omega)
              rw [← HCO.out, ← HS4.out] at h
              exact h
            · unfold Hid
              repeat (first | refine Only.drew ?_ | refine Only.drewN ?_ _ | refine Only.setCell ?_ _ _)
              exact HOV.out
          case measure => simp [intOf]; omega
        · obtain rfl : j = 4 := by omega
          have hlen : (mixRef 32 r Q 4).length = 8 := by rw [mixRef_length]; exact HQL.out
          have hwd := mixRef_words 32 r Q 4 HQW.out
          generalize mixRef 32 r Q 4 = K at hp hlen hwd HS
          have d0 := hp.out.cell (i := 0) (by omega)
          have f0 := hp.out.free 0
          have HXO : Hid (bits BinOp.xor IntKind.u64 ((at0 K 0 : Nat) : Int) ((r : Int) + 1) = ((at0 K 0 ^^^ (r + 1) : Nat) : Int)) := u64_xor_nat (at0 K 0) (r + 1) (Nat.lt_of_lt_of_le (hwd.at 0) (by decide)) (by omega)
          have HLK := hide hlen
          generalize at0 K 0 = a at d0 HXO HS
          clear hlen hwd
          go_wp2
          go_region
          go_wp2
          rw [HXO.out]
          go_roundw
          case rel =>
            refine ⟨r + 1, by omega, by go_num, ?_, ?_⟩
            · have h := hp.out.set 0 (a ^^^ (r + 1)) (by have := HLK.out; omega)
              rw [← HS.out] at h
              exact h
            · unfold Hid
              repeat (first | refine Only.drew ?_ | refine Only.drewN ?_ _ | refine Only.setCell ?_ _ _)
              exact ho.out
          case measure => simp [intOf]; omega
    · obtain rfl : r = 8 := by omega
      go_wp2
      go_end0
      exact ⟨rfl, hp.out, ho.out⟩
end Go.Proofs.YtgaoeoijdpdjiaaGreatDoor

namespace Go.Proofs.YtgaoeoijdpdjiaaGreatDoor
open Go.RowKit
theorem tor64 (i : Nat) (h : i < 4) : turnN i = 5 ∨ turnN i = 11 ∨ turnN i = 19 ∨ turnN i = 26 := by
  rcases (show i = 0 ∨ i = 1 ∨ i = 2 ∨ i = 3 by omega) with rfl | rfl | rfl | rfl <;> simp [turnN]
set_option maxHeartbeats 400000 in
theorem kept_64z (g : Nat) (x : Int) (w : World) (hc : w.cell? ⟨g, 8, none⟩ = some (.int .i64 64)) (h0 : 0 ≤ x) (h1 : x < 18446744073709551616) :
    Calls Tryz.prog 279 #[.pointer (some ⟨g, 0, none⟩), .int .u64 x] w fun e w' => e = .returned (.int .u64 (x)) ∧ w' = w := by
  obtain ⟨n, rfl⟩ := Int.eq_ofNat_of_zero_le h0
  exact kept_64 g n w hc (by omega)
set_option maxHeartbeats 4000000 in
theorem stirred_64 (g : Nat) (L : List Nat) (w : World) (hr : PoolAt w g 64 L) (hL : L.length = 8) (hW : Words 64 L) :
    Calls Tryz.prog 238 #[.pointer (some ⟨g, 0, none⟩)] w fun e w' => e = .returned (.tuple #[]) ∧ PoolAt w' g 64 (refTo 64 L 8) ∧ Only g w w' := by
  have HR := hide hr
  have HL := hide hL
  have HW := hide hW
  clear hr hL hW
  go_enter Tryz.func238, Tryz.ntmps238
  go_wp2
  go_loopw [2] (fun i wr => ∃ r : Nat, r ≤ 8 ∧ i = .int .i64 r ∧ Hid (PoolAt wr g 64 (refTo 64 L r)) ∧ Hid (Only g w wr)) (fun i _ => 8 - (intOf i).toNat)
  case atStart => exact ⟨0, by omega, rfl, HR, Only.refl _ _⟩
  case round =>
    obtain ⟨r, hr8, rfl, hp, ho⟩ := hrel
    by_cases hlt : r < 8
    · have hlen : (refTo 64 L r).length = 8 := by rw [refTo_length]; exact HL.out
      have hwd := refTo_words 64 L r HW.out
      have HS : Hid (refTo 64 L (r + 1) = (mixRef 64 r (refTo 64 L r) 4).set 0 (at0 (mixRef 64 r (refTo 64 L r) 4) 0 ^^^ (r + 1))) := rfl
      generalize refTo 64 L r = Q at hp hlen hwd HS
      have HQL := hide hlen
      have HQW := hide hwd
      clear hlen hwd
      obtain ⟨wo, rfl⟩ : ∃ wo : World, wo = wr := ⟨_, rfl⟩
      go_wp2
      go_loopw [3] (fun i wr => ∃ j : Nat, j ≤ 4 ∧ i = .int .i64 j ∧ Hid (PoolAt wr g 64 (mixRef 64 r Q j)) ∧ Hid (Only g w wr)) (fun i _ => 4 - (intOf i).toNat)
      case atStart => exact ⟨0, by omega, rfl, hp, ho⟩
      case round =>
        obtain ⟨j, hj, rfl, hp, ho⟩ := hrel
        by_cases hlt4 : j < 4
        · have hlen : (mixRef 64 r Q j).length = 8 := by rw [mixRef_length]; exact HQL.out
          have hwd := mixRef_words 64 r Q j HQW.out
          have HS4 : Hid (mixRef 64 r Q (j + 1) = colW 64 j (4 + (j + r) % 4) (mixRef 64 r Q j)) := rfl
          generalize mixRef 64 r Q j = K at hp hlen hwd HS4
          have hjr : 4 + (j + r) % 4 < 8 := by omega
          have d1 := hp.out.cell (i := j) (by omega)
          have d2 := hp.out.cell (i := 4 + (j + r) % 4) (by omega)
          have d8 := hp.out.bits hlen
          have x1 := hwd.at j
          have x2 := hwd.at (4 + (j + r) % 4)
          have HJ : Hid ((4 : Int) + ((j : Int) + (r : Int)) % 4 = ((4 + (j + r) % 4 : Nat) : Int)) := by show (4 : Int) + ((j : Int) + (r : Int)) % 4 = _; omega
          have HCO : Hid (colW 64 j (4 + (j + r) % 4) K = (K.set j (addW 64 (at0 K j) (at0 K (4 + (j + r) % 4)))).set (4 + (j + r) % 4) (rotW 64 (at0 K (4 + (j + r) % 4)) (turnN j) ^^^ addW 64 (at0 K j) (at0 K (4 + (j + r) % 4)))) := rfl
          have hJ4 : 4 ≤ 4 + (j + r) % 4 := by omega
          generalize 4 + (j + r) % 4 = J at hjr d2 x2 HJ HS4 HCO hJ4
          have q0 : (0 : Int) ≤ (J : Int) := by omega
          have q1 : (J : Int) < 8 := by omega
          have q2 : (j : Int) < 8 := by omega
          have HLK := hide hlen
          have z1 : at0 K j < 18446744073709551616 := by simpa using x1
          have z2 : at0 K J < 18446744073709551616 := by simpa using x2
          have y1 : ((at0 K j : Nat) : Int) < 18446744073709551616 := by omega
          have y2 : ((at0 K J : Nat) : Int) < 18446744073709551616 := by omega
          have hwr : IntKind.u64.wrap (((at0 K j : Nat) : Int) + ((at0 K J : Nat) : Int)) = (((at0 K j : Nat) : Int) + ((at0 K J : Nat) : Int)) % 18446744073709551616 := by rw [IntKind.wrap_u64]
          have HP : Hid (0 ≤ (((at0 K j : Nat) : Int) + ((at0 K J : Nat) : Int)) % 18446744073709551616 ∧ (((at0 K j : Nat) : Int) + ((at0 K J : Nat) : Int)) % 18446744073709551616 < 18446744073709551616) := ⟨by omega, by omega⟩
          clear z1 z2 y1 y2
          have HRT := hide (fun w' h1 => rturned_64 g (at0 K J) (turnN j) w' h1 (by simpa using x2) (tor64 j hlt4))
          have HTN := hide (fun w' : World => turn_any j w' hlt4)
          have HAD : Hid ((((at0 K j : Nat) : Int) + ((at0 K J : Nat) : Int)) % 18446744073709551616 = ((addW 64 (at0 K j) (at0 K J) : Nat) : Int)) := by
            show (((at0 K j : Nat) : Int) + ((at0 K J : Nat) : Int)) % 18446744073709551616 = _
            unfold addW
            rw [Int.natCast_emod, Int.natCast_add]
            rfl
          have HXL := hide (show rotW 64 (at0 K J) (turnN j) < 18446744073709551616 from Nat.lt_of_lt_of_le (rotW_lt 64 (at0 K J) (turnN j) x2) (by decide))
          have HAL := hide (show addW 64 (at0 K j) (at0 K J) < 18446744073709551616 from Nat.lt_of_lt_of_le (addW_lt 64 (at0 K j) (at0 K J)) (by decide))
          generalize at0 K j = a at d1 x1 HAD HCO hwr HP HAL
          generalize at0 K J = c at d2 x2 HAD HCO hwr HP HRT HXL HAL
          generalize turnN j = tn at HRT HTN HCO HXL
          generalize rotW 64 c tn = rt at HRT HCO HXL
          generalize addW 64 a c = A at HAD HCO HAL
          clear hlen hwd x1 x2
          go_wp2
          rw [HJ.out]
          go_quiet ((go_at_call 279; exact Calls.quiet_of_same (kept_64z g _ _ (by simpa [go_sem] using d8) HP.out.1 HP.out.2)))
          have HXO := hide (u64_xor_nat rt A HXL.out HAL.out)
          have HPV := hide (hp.out.drewN nq)
          have HOV := hide (ho.out.drewN nq)
          generalize hV : wr.drewN nq = V at HPV HOV ⊢
          have fj : V.frozen? ⟨g, j, none⟩ = false := HPV.out.free j
          have fJ : V.frozen? ⟨g, J, none⟩ = false := HPV.out.free J
          have e1 : V.cell? ⟨g, j, none⟩ = some (.int .u64 ((a : Nat) : Int)) := by rw [← hV]; exact d1
          have e2 : V.cell? ⟨g, J, none⟩ = some (.int .u64 ((c : Nat) : Int)) := by rw [← hV]; exact d2
          have e8 : V.cell? ⟨g, 8, none⟩ = some (.int .i64 64) := by rw [← hV]; exact d8
          clear hwr hV d1 d2 d8
          go_wp2
          rw [HAD.out]
          go_quiet (first | (go_at_call 281; exact Calls.quiet_of_same (HTN.out _)) | (go_at_call 280; exact Calls.quiet_of_same (HRT.out _ (by simpa [go_sem] using e8))))
          go_wp2
          rw [HXO.out]
          go_roundw
          case rel =>
            refine ⟨j + 1, by omega, by go_num, ?_, ?_⟩
            · have h := (HPV.out.set j A (by have := HLK.out; omega)).set J (rt ^^^ A) (by rw [List.length_set]; have := HLK.out; omega)
              rw [← HCO.out, ← HS4.out] at h
              exact h
            · unfold Hid
              repeat (first | refine Only.drew ?_ | refine Only.drewN ?_ _ | refine Only.setCell ?_ _ _)
              exact HOV.out
          case measure => simp [intOf]; omega
        · obtain rfl : j = 4 := by omega
          have hlen : (mixRef 64 r Q 4).length = 8 := by rw [mixRef_length]; exact HQL.out
          have hwd := mixRef_words 64 r Q 4 HQW.out
          generalize mixRef 64 r Q 4 = K at hp hlen hwd HS
          have d0 := hp.out.cell (i := 0) (by omega)
          have f0 := hp.out.free 0
          have HXO : Hid (bits BinOp.xor IntKind.u64 ((at0 K 0 : Nat) : Int) ((r : Int) + 1) = ((at0 K 0 ^^^ (r + 1) : Nat) : Int)) := u64_xor_nat (at0 K 0) (r + 1) (Nat.lt_of_lt_of_le (hwd.at 0) (by decide)) (by omega)
          have HLK := hide hlen
          generalize at0 K 0 = a at d0 HXO HS
          clear hlen hwd
          go_wp2
          go_region
          go_wp2
          rw [HXO.out]
          go_roundw
          case rel =>
            refine ⟨r + 1, by omega, by go_num, ?_, ?_⟩
            · have h := hp.out.set 0 (a ^^^ (r + 1)) (by have := HLK.out; omega)
              rw [← HS.out] at h
              exact h
            · unfold Hid
              repeat (first | refine Only.drew ?_ | refine Only.drewN ?_ _ | refine Only.setCell ?_ _ _)
              exact ho.out
          case measure => simp [intOf]; omega
    · obtain rfl : r = 8 := by omega
      go_wp2
      go_end0
      exact ⟨rfl, hp.out, ho.out⟩
end Go.Proofs.YtgaoeoijdpdjiaaGreatDoor

namespace Go.Proofs.YtgaoeoijdpdjiaaGreatDoor
open Go.RowKit
theorem take64_succ (BL : List Nat) (o : Nat) (L : List Nat) (j : Nat) : take64 BL o L (j + 1) = (take64 BL o L j).set j (at0 (take64 BL o L j) j ^^^ beN BL (o + j * 8) 8) := by rw [take64]
theorem take64_zero (BL : List Nat) (o : Nat) (L : List Nat) : take64 BL o L 0 = L := by rw [take64]
theorem stirRef64 (L : List Nat) (hL : L.length = 8) : refTo 64 L 8 = stirTo 64 L 8 := stir_same 64 L hL
set_option maxRecDepth 20000 in
set_option maxHeartbeats 4000000 in
theorem digested_64 (n : Nat) (s : ByteArray) (w : World) (hn : 1 ≤ n) (hn2 : n ≤ 16) (hs : s.size ≤ 400) :
    Calls Tryz.prog 166 #[.int .i64 2, .int .i64 (n : Int), .string s] w fun e w' => e = .returned (.string (textOf (outs 8 (soak64 (padL s) (s.size / 32 + 1)) n))) ∧ Below w.heap.size w w' := by
  have HS := hide hs
  have HN := hide hn
  have HN2 := hide hn2
  clear hs hn hn2
  obtain ⟨sk, HSK⟩ : ∃ F, Hid (soak64 = F) := ⟨_, rfl⟩
  obtain ⟨tk, HTK⟩ : ∃ F, Hid (take64 = F) := ⟨_, rfl⟩
  obtain ⟨ou, HOU⟩ : ∃ F, Hid (outs = F) := ⟨_, rfl⟩
  have HS0 : Hid (∀ BL, sk BL 0 = [1, 2, 3, 4, 5, 6, 7, 8]) := fun BL => by rw [← HSK.out]; exact soak64_zero BL
  have HSS : Hid (∀ BL m, sk BL (m + 1) = stirTo 64 (tk BL (m * 32) (sk BL m) 4) 8) := fun BL m => by rw [← HSK.out, ← HTK.out]; exact soak64_succ BL m
  have HSL : Hid (∀ BL m, (sk BL m).length = 8) := fun BL m => by rw [← HSK.out]; exact soak64_length BL m
  have HSW : Hid (∀ BL, (∀ i, at0 BL i < 256) → ∀ m, Words 64 (sk BL m)) := fun BL h m => by rw [← HSK.out]; exact soak64_words BL h m
  have HT0 : Hid (∀ BL o L, tk BL o L 0 = L) := fun BL o L => by rw [← HTK.out]; exact take64_zero BL o L
  have HT1 : Hid (∀ BL o L j, tk BL o L (j + 1) = (tk BL o L j).set j (at0 (tk BL o L j) j ^^^ beN BL (o + j * 8) 8)) := fun BL o L j => by rw [← HTK.out]; exact take64_succ BL o L j
  have HTL : Hid (∀ BL o L j, (tk BL o L j).length = L.length) := fun BL o L j => by rw [← HTK.out]; exact take64_length BL o L j
  have HTW : Hid (∀ BL o L j, Words 64 L → (∀ i, at0 BL i < 256) → Words 64 (tk BL o L j)) := fun BL o L j h hB => by rw [← HTK.out]; exact take64_words BL o L j h hB
  have HOL : Hid (∀ n L m, (ou n L m).length = m) := fun n L m => by rw [← HOU.out]; exact outs_length n L m
  have HOS : Hid (∀ n L m, ou n L (m + 1) = ou n L m ++ [outB n L m]) := fun n L m => by rw [← HOU.out]; exact outs_succ n L m
  rw [HSK.out, HOU.out]
  go_enter Tryz.func166, Tryz.ntmps166
  go_wp2
  go_rounds 9
  have R0 : Hid (PoolAt (w.alloc (.cells #[.int .u64 1, .int .u64 2, .int .u64 3, .int .u64 4, .int .u64 5, .int .u64 6, .int .u64 7, .int .u64 8, .int .i64 64] 296)) w.heap.size 64 (sk (padL s) 0)) := by
    rw [HS0.out]; exact heap_alloc_new _ _
  have B0 := hide ((Below.refl w.heap.size w).alloc (Nat.le_refl _) (.cells #[.int .u64 1, .int .u64 2, .int .u64 3, .int .u64 4, .int .u64 5, .int .u64 6, .int .u64 7, .int .u64 8, .int .i64 64] 296))
  generalize hW0 : w.alloc (.cells #[.int .u64 1, .int .u64 2, .int .u64 3, .int .u64 4, .int .u64 5, .int .u64 6, .int .u64 7, .int .u64 8, .int .i64 64] 296) = W0 at R0 B0 ⊢
  clear hW0
  obtain ⟨g, hg⟩ : ∃ g, g = w.heap.size := ⟨_, rfl⟩
  rw [← hg] at R0 B0
  rw [← hg]
  have HGE := hide hg
  clear hg
  have HB8 := hide (fun i => padL_lt s i)
  have hz := HS.out
  go_loopw [10] (fun a wr => ∃ m : Nat, m ≤ s.size / 32 + 1 ∧ a = .int .i64 ((m : Int) * 4) ∧ Hid (PoolAt wr g 64 (sk (padL s) m)) ∧ Hid (Below g w wr)) (fun a _ => 500 - (intOf a).toNat)
  case atStart => exact ⟨0, by omega, by simp, R0, B0⟩
  case round =>
    obtain ⟨m, hm, rfl, hp, hb⟩ := hrel
    by_cases hlt : m ≤ s.size / 32
    · obtain ⟨wo, rfl⟩ : ∃ wo : World, wo = wr := ⟨_, rfl⟩
      have hda : decide ((m : Int) * 4 * 8 ≤ (s.size : Int)) = true := by simp; omega
      have hl := HSL.out (padL s) m
      have hwd := HSW.out (padL s) HB8.out m
      have HSM := hide (HSS.out (padL s) m)
      generalize sk (padL s) m = A at hp hl hwd HSM
      have HL := hide hl
      have HWD := hide hwd
      clear hl hwd
      go_wp2
      go_loopw [11] (fun i wr => ∃ j : Nat, j ≤ 4 ∧ i = .int .i64 j ∧ Hid (PoolAt wr g 64 (tk (padL s) (m * 32) A j)) ∧ Hid (Below g w wr)) (fun i _ => 4 - (intOf i).toNat)
      case atStart => exact ⟨0, by omega, rfl, by rw [HT0.out]; exact hp, hb⟩
      case round =>
        obtain ⟨j, hj, rfl, hp, hb⟩ := hrel
        by_cases hlt4 : j < 4
        · have hlen : (tk (padL s) (m * 32) A j).length = 8 := by rw [HTL.out]; exact HL.out
          have hwd := HTW.out (padL s) (m * 32) A j HWD.out HB8.out
          have HS4 := hide (HT1.out (padL s) (m * 32) A j)
          generalize tk (padL s) (m * 32) A j = K at hp hlen hwd HS4
          have HW := hide (fun w' : World => word_8 s (m * 4 + j) w' (by omega) (by omega))
          rw [show (m * 4 + j) * 8 = m * 32 + j * 8 by omega] at HW
          have d1 := hp.out.cell (i := j) (by omega)
          have f1 := hp.out.free j
          have x1 : at0 K j < 18446744073709551616 := Nat.lt_of_lt_of_le (hwd.at j) (by decide)
          have y1 : beN (padL s) (m * 32 + j * 8) 8 < 18446744073709551616 := Nat.lt_of_lt_of_le (beN_lt (padL s) (m * 32 + j * 8) 8 HB8.out) (by decide)
          have HXO := hide (u64_xor_nat (at0 K j) (beN (padL s) (m * 32 + j * 8) 8) x1 y1)
          have HLE := hide hlen
          generalize beN (padL s) (m * 32 + j * 8) 8 = v at HS4 HW y1 HXO
          generalize at0 K j = u at d1 x1 HXO HS4
          clear hlen hwd x1 y1
          have q1 : (j : Int) < 8 := by omega
          have hc : ((m * 4 + j : Nat) : Int) = (m : Int) * 4 + (j : Int) := by omega
          rw [hc] at HW
          clear hc
          go_wp2_with fail
          refine (HW.out _).mono ?_
          rintro e w3 ⟨rfl, rfl⟩
          clear HW
          go_wp2
          go_region
          go_wp2
          rw [HXO.out]
          go_roundw
          case rel =>
            refine ⟨j + 1, by omega, by go_num, ?_, ?_⟩
            · have h := hp.out.set j (u ^^^ v) (by have := HLE.out; omega)
              rw [← HS4.out] at h
              exact h
            · unfold Hid
              repeat (first | refine Below.drew ?_ | refine Below.setCell ?_ (Nat.le_refl g) _)
              exact hb.out
          case measure => simp [intOf]; omega
        · obtain rfl : j = 4 := by omega
          have HST := hide (stirred_64 g (tk (padL s) (m * 32) A 4) wr hp.out (by rw [HTL.out]; exact HL.out) (HTW.out (padL s) (m * 32) A 4 HWD.out HB8.out))
          go_wp2_with fail
          refine HST.out.mono ?_
          rintro e w4 ⟨rfl, hp4, ho4⟩
          clear HST
          rw [stirRef64 _ (by rw [HTL.out]; exact HL.out), ← HSM.out] at hp4
          have P4 := hide hp4
          have B4 := hide (ho4.below hb.out (Nat.le_refl g))
          clear hp4 ho4
          go_wp2
          go_roundw
          case rel => exact ⟨m + 1, by omega, by go_num, P4, B4⟩
          case measure => simp [intOf]; omega
    · obtain rfl : m = s.size / 32 + 1 := by omega
      have hl := HSL.out (padL s) (s.size / 32 + 1)
      have hwd := HSW.out (padL s) HB8.out (s.size / 32 + 1)
      generalize hLq : sk (padL s) (s.size / 32 + 1) = L at hp hl hwd ⊢
      have HLQ := hide hLq
      have HLL := hide hl
      have HWW := hide hwd
      clear hLq hl hwd
      have HGL := hide hp.out.lt
      obtain ⟨wo, rfl⟩ : ∃ wo : World, wo = wr := ⟨_, rfl⟩
      obtain ⟨i0, hi, hz0, hz1, hz2⟩ := info_parts infoByte
      go_wp2
      go_loopw [13, 14] (fun v i wr => ∃ a : Nat, a ≤ n ∧ i = .int .i64 a ∧ Hid (wr.ownsRow wo.heap.size 5 1 v a (cells8 (ou 8 L a))) ∧ Hid (Below wo.heap.size wo wr)) (fun _ i _ => 16 - (intOf i).toNat)
      case atStart => exact ⟨0, by omega, rfl, ⟨by simp [cells8, HOL.out], Or.inl ⟨rfl, rfl⟩⟩, Below.refl _ _⟩
      case round =>
        obtain ⟨a, ha, rfl, ho, hb2⟩ := hrel
        by_cases hlt2 : a < n
        · have hn2 := HN2.out
          have c := (hp.out.below hb2.out HGL.out).cell (i := a / 8) (by have := HLL.out; omega)
          have HX := hide (HWW.out.at (a / 8))
          have HOB : Hid (outB 8 L a = at0 L (a / 8) / 2 ^ (8 * (8 - 1 - a % 8)) % 256) := rfl
          have HSU := hide (HOS.out 8 L a)
          generalize at0 L (a / 8) = u at c HX HOB
          obtain ⟨d, hd⟩ : ∃ d, d = a / 8 := ⟨_, rfl⟩
          obtain ⟨q, hq⟩ : ∃ q, q = a % 8 := ⟨_, rfl⟩
          rw [← hd] at c
          rw [← hq] at HOB
          have e1 : (a : Int).tdiv 8 = (d : Int) := by rw [Int.tdiv_eq_ediv_of_nonneg (by omega)]; omega
          have e2 : (a : Int) / 8 = (d : Int) := by omega
          have e3 : (a : Int).tmod 8 = (q : Int) := by rw [Int.tmod_eq_emod_of_nonneg (by omega)]; omega
          have e4 : (a : Int) % 8 = (q : Int) := by omega
          have d8 : (d : Int) < 8 := by omega
          have q8 : (q : Int) < 8 := by omega
          clear hd hq
          go_wp2
          go_region
          have HOV := hide (show wr.drew.ownsRow wo.heap.size 5 1 u13 a (cells8 (ou 8 L a)) from ho.out)
          have HBV := hide hb2.out.drew
          generalize hV : wr.drew = V at HOV HBV ⊢
          clear hV c
          go_wp2_with (at_builtin; refine wpList_append_own _ rfl _ _ 125 rfl wo.heap.size 5 i0 (.int .u8 0) 1 1 Tryz.underlying125 hi hz0 hz1 hz2 rfl (by decide) _ _ _ rfl (HOV.out.alloc _) ⟨V.heap.size, 0, none⟩ 1 1 [_] rfl rfl (one_new _ _ _) ?c2 ?c3 ?c4 ?c5 ?_)
          case c2 => intro y hy; simp at hy; subst hy; rfl
          case c3 => unfold maxLen; omega
          case c4 => omega
          case c5 => have := HBV.out.size; simp; omega
          intro v' w3 ho3 hgrow _
          have HB3 := hide ((HBV.out.alloc HBV.out.size _).grown hgrow (by have := HBV.out.size; simp; omega) (fun p hp => (owns_lt HOV.out p hp).1))
          have HO3 := hide ho3
          clear ho3 hgrow
          go_wp2
          go_roundw
          case rel =>
            have hcs : cells8 (ou 8 L (a + 1)) = cells8 (ou 8 L a) ++ [.int .u8 ((u : Int) / 2 ^ (8 * (8 - 1 - q)) % 256)] := by
              rw [HSU.out, cells8_snoc, HOB.out, Int.natCast_emod, Int.natCast_ediv, Int.natCast_pow]
              rfl
            have R : ∃ p : Nat, p ≤ n ∧ Value.int .i64 ((a : Int) + 1) = .int .i64 (p : Int) ∧ Hid (w3.ownsRow wo.heap.size 5 1 v' p (cells8 (ou 8 L p))) ∧ Hid (Below wo.heap.size wo w3) :=
              ⟨a + 1, by omega, by go_num, by rw [hcs]; exact HO3.out, HB3.out⟩
            first | exact R | ((repeat apply Exists.intro); exact ⟨R, rfl⟩)
          case measure => simp [intOf]; omega
        · obtain rfl : a = n := by omega
          have HT := hide (run_text wr wo.heap.size _ (ou 8 L a) (fun d hd => by rw [← HOU.out] at hd; simp only [outs, List.mem_map] at hd; obtain ⟨i, _, rfl⟩ := hd; exact outB_lt _ _ _) (by rw [HOL.out]; exact ho.out) (by rw [HOL.out]; exact HN.out))
          have hT := HT.out
          go_wp2
          go_ret
          refine ⟨by rw [HLQ.out]; rfl, ?_⟩
          rw [← HGE.out]
          exact hb.out.trans (hb2.out.mono (Nat.le_of_lt HGL.out))
end Go.Proofs.YtgaoeoijdpdjiaaGreatDoor
