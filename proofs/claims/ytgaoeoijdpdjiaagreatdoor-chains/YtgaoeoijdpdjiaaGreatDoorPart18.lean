/-
  The document's stirring of words of 32 bits. The document's stirring of words of 64 bits. The program's whole over words of 32 bits. The program's whole over words of 64 bits.
-/
import Derived.Test.YtgaoeoijdpdjiaaGreatDoorPart17
import Derived.Test.YtgaoeoijdpdjiaaGreatDoorPart14
import Derived.Test.YtgaoeoijdpdjiaaGreatDoorPart16
import Derived.Test.YtgaoeoijdpdjiaaGreatDoorPart15
namespace Go.Proofs.YtgaoeoijdpdjiaaGreatDoor
open Go.RowKit

theorem tor32 (i : Nat) (h : i < 4) : turnN i = 5 ∨ turnN i = 11 ∨ turnN i = 19 ∨ turnN i = 26 := by
  rcases (show i = 0 ∨ i = 1 ∨ i = 2 ∨ i = 3 by omega) with rfl | rfl | rfl | rfl <;> simp [turnN]

set_option maxHeartbeats 400000 in
theorem kept_32z (g : Nat) (x : Int) (w : World) (hc : w.cell? ⟨g, 8, none⟩ = some (.int .i64 32)) (h0 : 0 ≤ x) (h1 : x < 18446744073709551616) :
    Calls Tryz.prog 279 #[.pointer (some ⟨g, 0, none⟩), .int .u64 x] w fun e w' => e = .returned (.int .u64 (x % 4294967296)) ∧ w' = w := by
  obtain ⟨n, rfl⟩ := Int.eq_ofNat_of_zero_le h0
  exact kept_32 g n w hc (by omega)

set_option maxHeartbeats 4000000 in
theorem stirred_32 (g : Nat) (L : List Nat) (w : World) (hr : PoolAt w g 32 L) (hL : L.length = 8) (hW : Words 32 L) :
    Calls Tryz.prog 238 #[.pointer (some ⟨g, 0, none⟩)] w fun e w' => e = .returned (.tuple #[]) ∧ PoolAt w' g 32 (refTo 32 L 8) ∧ Only g w w' := by
  have HR := hide hr
  have HL := hide hL
  have HW := hide hW
  clear hr hL hW
  go_enter Tryz.func238, Tryz.ntmps238
  go_wp2
  go_loopw [2] (fun i wr => ∃ r : Nat, r ≤ 8 ∧ i = .int .i64 r ∧ Hid (PoolAt wr g 32 (refTo 32 L r)) ∧ Hid (Only g w wr)) (fun i _ => 8 - (intOf i).toNat)
  case atStart => exact ⟨0, by omega, rfl, HR, Only.refl _ _⟩
  case round =>
    obtain ⟨r, hr8, rfl, hp, ho⟩ := hrel
    by_cases hlt : r < 8
    · have hlen : (refTo 32 L r).length = 8 := by rw [refTo_length]; exact HL.out
      have hwd := refTo_words 32 L r HW.out
      have HS : Hid (refTo 32 L (r + 1) = (mixRef 32 r (refTo 32 L r) 4).set 0 (at0 (mixRef 32 r (refTo 32 L r) 4) 0 ^^^ (r + 1))) := rfl
      generalize refTo 32 L r = Q at hp hlen hwd HS
      have HQL := hide hlen
      have HQW := hide hwd
      clear hlen hwd
      obtain ⟨wo, rfl⟩ : ∃ wo : World, wo = wr := ⟨_, rfl⟩
      go_wp2
      go_loopw [3] (fun i wr => ∃ j : Nat, j ≤ 4 ∧ i = .int .i64 j ∧ Hid (PoolAt wr g 32 (mixRef 32 r Q j)) ∧ Hid (Only g w wr)) (fun i _ => 4 - (intOf i).toNat)
      case atStart => exact ⟨0, by omega, rfl, hp, ho⟩
      case round =>
        obtain ⟨j, hj, rfl, hp, ho⟩ := hrel
        by_cases hlt4 : j < 4
        · have hlen : (mixRef 32 r Q j).length = 8 := by rw [mixRef_length]; exact HQL.out
          have hwd := mixRef_words 32 r Q j HQW.out
          have HS4 : Hid (mixRef 32 r Q (j + 1) = colW 32 j (4 + (j + r) % 4) (mixRef 32 r Q j)) := rfl
          generalize mixRef 32 r Q j = K at hp hlen hwd HS4
          have hjr : 4 + (j + r) % 4 < 8 := by omega
          have d1 := hp.out.cell (i := j) (by omega)
          have d2 := hp.out.cell (i := 4 + (j + r) % 4) (by omega)
          have d8 := hp.out.bits hlen
          have x1 := hwd.at j
          have x2 := hwd.at (4 + (j + r) % 4)
          have HJ : Hid ((4 : Int) + ((j : Int) + (r : Int)) % 4 = ((4 + (j + r) % 4 : Nat) : Int)) := by show (4 : Int) + ((j : Int) + (r : Int)) % 4 = _; omega
          have HCO : Hid (colW 32 j (4 + (j + r) % 4) K = (K.set j (addW 32 (at0 K j) (at0 K (4 + (j + r) % 4)))).set (4 + (j + r) % 4) (rotW 32 (at0 K (4 + (j + r) % 4)) (turnN j) ^^^ addW 32 (at0 K j) (at0 K (4 + (j + r) % 4)))) := rfl
          have hJ4 : 4 ≤ 4 + (j + r) % 4 := by omega
          generalize 4 + (j + r) % 4 = J at hjr d2 x2 HJ HS4 HCO hJ4
          have q0 : (0 : Int) ≤ (J : Int) := by omega
          have q1 : (J : Int) < 8 := by omega
          have q2 : (j : Int) < 8 := by omega
          have HLK := hide hlen
          have z1 : at0 K j < 4294967296 := by simpa using x1
          have z2 : at0 K J < 4294967296 := by simpa using x2
          have y1 : ((at0 K j : Nat) : Int) < 4294967296 := by omega
          have y2 : ((at0 K J : Nat) : Int) < 4294967296 := by omega
          have hwr : IntKind.u64.wrap (((at0 K j : Nat) : Int) + ((at0 K J : Nat) : Int)) = ((at0 K j : Nat) : Int) + ((at0 K J : Nat) : Int) := by rw [IntKind.wrap_u64]; omega
          have HP : Hid (0 ≤ ((at0 K j : Nat) : Int) + ((at0 K J : Nat) : Int) ∧ ((at0 K j : Nat) : Int) + ((at0 K J : Nat) : Int) < 18446744073709551616) := ⟨by omega, by omega⟩
          clear z1 z2 y1 y2
          have HRT := hide (fun w' h1 => rturned_32 g (at0 K J) (turnN j) w' h1 (by simpa using x2) (tor32 j hlt4))
          have HTN := hide (fun w' : World => turn_any j w' hlt4)
          have HAD : Hid ((((at0 K j : Nat) : Int) + ((at0 K J : Nat) : Int)) % 4294967296 = ((addW 32 (at0 K j) (at0 K J) : Nat) : Int)) := by
            show (((at0 K j : Nat) : Int) + ((at0 K J : Nat) : Int)) % 4294967296 = _
            unfold addW
            rw [Int.natCast_emod, Int.natCast_add]
            rfl
          have HXL := hide (show rotW 32 (at0 K J) (turnN j) < 18446744073709551616 from Nat.lt_of_lt_of_le (rotW_lt 32 (at0 K J) (turnN j) x2) (by decide))
          have HAL := hide (show addW 32 (at0 K j) (at0 K J) < 18446744073709551616 from Nat.lt_of_lt_of_le (addW_lt 32 (at0 K j) (at0 K J)) (by decide))
          generalize at0 K j = a at d1 x1 HAD HCO hwr HP HAL
          generalize at0 K J = c at d2 x2 HAD HCO hwr HP HRT HXL HAL
          generalize turnN j = tn at HRT HTN HCO HXL
          generalize rotW 32 c tn = rt at HRT HCO HXL
          generalize addW 32 a c = A at HAD HCO HAL
          clear hlen hwd x1 x2
          go_wp2
          rw [HJ.out]
          go_quiet ((go_at_call 279; exact Calls.quiet_of_same (kept_32z g _ _ (by simpa [go_sem] using d8) HP.out.1 HP.out.2)))
          have HXO := hide (u64_xor_nat rt A HXL.out HAL.out)
          have HPV := hide (hp.out.drewN nq)
          have HOV := hide (ho.out.drewN nq)
          generalize hV : wr.drewN nq = V at HPV HOV ⊢
          have fj : V.frozen? ⟨g, j, none⟩ = false := HPV.out.free j
          have fJ : V.frozen? ⟨g, J, none⟩ = false := HPV.out.free J
          have e1 : V.cell? ⟨g, j, none⟩ = some (.int .u64 ((a : Nat) : Int)) := by rw [← hV]; exact d1
          have e2 : V.cell? ⟨g, J, none⟩ = some (.int .u64 ((c : Nat) : Int)) := by rw [← hV]; exact d2
          have e8 : V.cell? ⟨g, 8, none⟩ = some (.int .i64 32) := by rw [← hV]; exact d8
          clear hwr hV d1 d2 d8
          go_wp2
          rw [HAD.out]
          go_quiet (first | (go_at_call 281; exact Calls.quiet_of_same (HTN.out _)) | (go_at_call 280; exact Calls.quiet_of_same (HRT.out _ (by simpa [go_sem] using e8))))
          go_wp2
          rw [HXO.out]
          go_roundw
          case rel =>
            refine ⟨j + 1, by omega, by go_num, ?_, ?_⟩
            · have h := (HPV.out.set j A (by have := HLK.out; omega)).set J (rt ^^^ A) (by rw [List.length_set]; have := HLK.out; omega)
              rw [← HCO.out, ← HS4.out] at h
              exact h
            · unfold Hid
              repeat (first | refine Only.drew ?_ | refine Only.drewN ?_ _ | refine Only.setCell ?_ _ _)
              exact HOV.out
          case measure => simp [intOf]; omega
        · obtain rfl : j = 4 := by omega
          have hlen : (mixRef 32 r Q 4).length = 8 := by rw [mixRef_length]; exact HQL.out
          have hwd := mixRef_words 32 r Q 4 HQW.out
          generalize mixRef 32 r Q 4 = K at hp hlen hwd HS
          have d0 := hp.out.cell (i := 0) (by omega)
          have f0 := hp.out.free 0
          have HXO : Hid (bits BinOp.xor IntKind.u64 ((at0 K 0 : Nat) : Int) ((r : Int) + 1) = ((at0 K 0 ^^^ (r + 1) : Nat) : Int)) := u64_xor_nat (at0 K 0) (r + 1) (Nat.lt_of_lt_of_le (hwd.at 0) (by decide)) (by omega)
          have HLK := hide hlen
          generalize at0 K 0 = a at d0 HXO HS
          clear hlen hwd
          go_wp2
          go_region
          go_wp2
          rw [HXO.out]
          go_roundw
          case rel =>
            refine ⟨r + 1, by omega, by go_num, ?_, ?_⟩
            · have h := hp.out.set 0 (a ^^^ (r + 1)) (by have := HLK.out; omega)
              rw [← HS.out] at h
              exact h
            · unfold Hid
              repeat (first | refine Only.drew ?_ | refine Only.drewN ?_ _ | refine Only.setCell ?_ _ _)
              exact ho.out
          case measure => simp [intOf]; omega
    · obtain rfl : r = 8 := by omega
      go_wp2
      go_end0
      exact ⟨rfl, hp.out, ho.out⟩
end Go.Proofs.YtgaoeoijdpdjiaaGreatDoor

namespace Go.Proofs.YtgaoeoijdpdjiaaGreatDoor
open Go.RowKit

theorem tor64 (i : Nat) (h : i < 4) : turnN i = 5 ∨ turnN i = 11 ∨ turnN i = 19 ∨ turnN i = 26 := by
  rcases (show i = 0 ∨ i = 1 ∨ i = 2 ∨ i = 3 by omega) with rfl | rfl | rfl | rfl <;> simp [turnN]

set_option maxHeartbeats 400000 in
theorem kept_64z (g : Nat) (x : Int) (w : World) (hc : w.cell? ⟨g, 8, none⟩ = some (.int .i64 64)) (h0 : 0 ≤ x) (h1 : x < 18446744073709551616) :
    Calls Tryz.prog 279 #[.pointer (some ⟨g, 0, none⟩), .int .u64 x] w fun e w' => e = .returned (.int .u64 (x)) ∧ w' = w := by
  obtain ⟨n, rfl⟩ := Int.eq_ofNat_of_zero_le h0
  exact kept_64 g n w hc (by omega)

set_option maxHeartbeats 4000000 in
theorem stirred_64 (g : Nat) (L : List Nat) (w : World) (hr : PoolAt w g 64 L) (hL : L.length = 8) (hW : Words 64 L) :
    Calls Tryz.prog 238 #[.pointer (some ⟨g, 0, none⟩)] w fun e w' => e = .returned (.tuple #[]) ∧ PoolAt w' g 64 (refTo 64 L 8) ∧ Only g w w' := by
  have HR := hide hr
  have HL := hide hL
  have HW := hide hW
  clear hr hL hW
  go_enter Tryz.func238, Tryz.ntmps238
  go_wp2
  go_loopw [2] (fun i wr => ∃ r : Nat, r ≤ 8 ∧ i = .int .i64 r ∧ Hid (PoolAt wr g 64 (refTo 64 L r)) ∧ Hid (Only g w wr)) (fun i _ => 8 - (intOf i).toNat)
  case atStart => exact ⟨0, by omega, rfl, HR, Only.refl _ _⟩
  case round =>
    obtain ⟨r, hr8, rfl, hp, ho⟩ := hrel
    by_cases hlt : r < 8
    · have hlen : (refTo 64 L r).length = 8 := by rw [refTo_length]; exact HL.out
      have hwd := refTo_words 64 L r HW.out
      have HS : Hid (refTo 64 L (r + 1) = (mixRef 64 r (refTo 64 L r) 4).set 0 (at0 (mixRef 64 r (refTo 64 L r) 4) 0 ^^^ (r + 1))) := rfl
      generalize refTo 64 L r = Q at hp hlen hwd HS
      have HQL := hide hlen
      have HQW := hide hwd
      clear hlen hwd
      obtain ⟨wo, rfl⟩ : ∃ wo : World, wo = wr := ⟨_, rfl⟩
      go_wp2
      go_loopw [3] (fun i wr => ∃ j : Nat, j ≤ 4 ∧ i = .int .i64 j ∧ Hid (PoolAt wr g 64 (mixRef 64 r Q j)) ∧ Hid (Only g w wr)) (fun i _ => 4 - (intOf i).toNat)
      case atStart => exact ⟨0, by omega, rfl, hp, ho⟩
      case round =>
        obtain ⟨j, hj, rfl, hp, ho⟩ := hrel
        by_cases hlt4 : j < 4
        · have hlen : (mixRef 64 r Q j).length = 8 := by rw [mixRef_length]; exact HQL.out
          have hwd := mixRef_words 64 r Q j HQW.out
          have HS4 : Hid (mixRef 64 r Q (j + 1) = colW 64 j (4 + (j + r) % 4) (mixRef 64 r Q j)) := rfl
          generalize mixRef 64 r Q j = K at hp hlen hwd HS4
          have hjr : 4 + (j + r) % 4 < 8 := by omega
          have d1 := hp.out.cell (i := j) (by omega)
          have d2 := hp.out.cell (i := 4 + (j + r) % 4) (by omega)
          have d8 := hp.out.bits hlen
          have x1 := hwd.at j
          have x2 := hwd.at (4 + (j + r) % 4)
          have HJ : Hid ((4 : Int) + ((j : Int) + (r : Int)) % 4 = ((4 + (j + r) % 4 : Nat) : Int)) := by show (4 : Int) + ((j : Int) + (r : Int)) % 4 = _; omega
          have HCO : Hid (colW 64 j (4 + (j + r) % 4) K = (K.set j (addW 64 (at0 K j) (at0 K (4 + (j + r) % 4)))).set (4 + (j + r) % 4) (rotW 64 (at0 K (4 + (j + r) % 4)) (turnN j) ^^^ addW 64 (at0 K j) (at0 K (4 + (j + r) % 4)))) := rfl
          have hJ4 : 4 ≤ 4 + (j + r) % 4 := by omega
          generalize 4 + (j + r) % 4 = J at hjr d2 x2 HJ HS4 HCO hJ4
          have q0 : (0 : Int) ≤ (J : Int) := by omega
          have q1 : (J : Int) < 8 := by omega
          have q2 : (j : Int) < 8 := by omega
          have HLK := hide hlen
          have z1 : at0 K j < 18446744073709551616 := by simpa using x1
          have z2 : at0 K J < 18446744073709551616 := by simpa using x2
          have y1 : ((at0 K j : Nat) : Int) < 18446744073709551616 := by omega
          have y2 : ((at0 K J : Nat) : Int) < 18446744073709551616 := by omega
          have hwr : IntKind.u64.wrap (((at0 K j : Nat) : Int) + ((at0 K J : Nat) : Int)) = (((at0 K j : Nat) : Int) + ((at0 K J : Nat) : Int)) % 18446744073709551616 := by rw [IntKind.wrap_u64]
          have HP : Hid (0 ≤ (((at0 K j : Nat) : Int) + ((at0 K J : Nat) : Int)) % 18446744073709551616 ∧ (((at0 K j : Nat) : Int) + ((at0 K J : Nat) : Int)) % 18446744073709551616 < 18446744073709551616) := ⟨by omega, by omega⟩
          clear z1 z2 y1 y2
          have HRT := hide (fun w' h1 => rturned_64 g (at0 K J) (turnN j) w' h1 (by simpa using x2) (tor64 j hlt4))
          have HTN := hide (fun w' : World => turn_any j w' hlt4)
          have HAD : Hid ((((at0 K j : Nat) : Int) + ((at0 K J : Nat) : Int)) % 18446744073709551616 = ((addW 64 (at0 K j) (at0 K J) : Nat) : Int)) := by
            show (((at0 K j : Nat) : Int) + ((at0 K J : Nat) : Int)) % 18446744073709551616 = _
            unfold addW
            rw [Int.natCast_emod, Int.natCast_add]
            rfl
          have HXL := hide (show rotW 64 (at0 K J) (turnN j) < 18446744073709551616 from Nat.lt_of_lt_of_le (rotW_lt 64 (at0 K J) (turnN j) x2) (by decide))
          have HAL := hide (show addW 64 (at0 K j) (at0 K J) < 18446744073709551616 from Nat.lt_of_lt_of_le (addW_lt 64 (at0 K j) (at0 K J)) (by decide))
          generalize at0 K j = a at d1 x1 HAD HCO hwr HP HAL
          generalize at0 K J = c at d2 x2 HAD HCO hwr HP HRT HXL HAL
          generalize turnN j = tn at HRT HTN HCO HXL
          generalize rotW 64 c tn = rt at HRT HCO HXL
          generalize addW 64 a c = A at HAD HCO HAL
          clear hlen hwd x1 x2
          go_wp2
          rw [HJ.out]
          go_quiet ((go_at_call 279; exact Calls.quiet_of_same (kept_64z g _ _ (by simpa [go_sem] using d8) HP.out.1 HP.out.2)))
          have HXO := hide (u64_xor_nat rt A HXL.out HAL.out)
          have HPV := hide (hp.out.drewN nq)
          have HOV := hide (ho.out.drewN nq)
          generalize hV : wr.drewN nq = V at HPV HOV ⊢
          have fj : V.frozen? ⟨g, j, none⟩ = false := HPV.out.free j
          have fJ : V.frozen? ⟨g, J, none⟩ = false := HPV.out.free J
          have e1 : V.cell? ⟨g, j, none⟩ = some (.int .u64 ((a : Nat) : Int)) := by rw [← hV]; exact d1
          have e2 : V.cell? ⟨g, J, none⟩ = some (.int .u64 ((c : Nat) : Int)) := by rw [← hV]; exact d2
          have e8 : V.cell? ⟨g, 8, none⟩ = some (.int .i64 64) := by rw [← hV]; exact d8
          clear hwr hV d1 d2 d8
          go_wp2
          rw [HAD.out]
          go_quiet (first | (go_at_call 281; exact Calls.quiet_of_same (HTN.out _)) | (go_at_call 280; exact Calls.quiet_of_same (HRT.out _ (by simpa [go_sem] using e8))))
          go_wp2
          rw [HXO.out]
          go_roundw
          case rel =>
            refine ⟨j + 1, by omega, by go_num, ?_, ?_⟩
            · have h := (HPV.out.set j A (by have := HLK.out; omega)).set J (rt ^^^ A) (by rw [List.length_set]; have := HLK.out; omega)
              rw [← HCO.out, ← HS4.out] at h
              exact h
            · unfold Hid
              repeat (first | refine Only.drew ?_ | refine Only.drewN ?_ _ | refine Only.setCell ?_ _ _)
              exact HOV.out
          case measure => simp [intOf]; omega
        · obtain rfl : j = 4 := by omega
          have hlen : (mixRef 64 r Q 4).length = 8 := by rw [mixRef_length]; exact HQL.out
          have hwd := mixRef_words 64 r Q 4 HQW.out
          generalize mixRef 64 r Q 4 = K at hp hlen hwd HS
          have d0 := hp.out.cell (i := 0) (by omega)
          have f0 := hp.out.free 0
          have HXO : Hid (bits BinOp.xor IntKind.u64 ((at0 K 0 : Nat) : Int) ((r : Int) + 1) = ((at0 K 0 ^^^ (r + 1) : Nat) : Int)) := u64_xor_nat (at0 K 0) (r + 1) (Nat.lt_of_lt_of_le (hwd.at 0) (by decide)) (by omega)
          have HLK := hide hlen
          generalize at0 K 0 = a at d0 HXO HS
          clear hlen hwd
          go_wp2
          go_region
          go_wp2
          rw [HXO.out]
          go_roundw
          case rel =>
            refine ⟨r + 1, by omega, by go_num, ?_, ?_⟩
            · have h := hp.out.set 0 (a ^^^ (r + 1)) (by have := HLK.out; omega)
              rw [← HS.out] at h
              exact h
            · unfold Hid
              repeat (first | refine Only.drew ?_ | refine Only.drewN ?_ _ | refine Only.setCell ?_ _ _)
              exact ho.out
          case measure => simp [intOf]; omega
    · obtain rfl : r = 8 := by omega
      go_wp2
      go_end0
      exact ⟨rfl, hp.out, ho.out⟩
end Go.Proofs.YtgaoeoijdpdjiaaGreatDoor

namespace Go.Proofs.YtgaoeoijdpdjiaaGreatDoor
open Go.RowKit

def sliceLen32 : Value → Nat | .slice _ n _ => n | _ => 0

/-- The words behind m blocks. -/
def soak32 (BL : List Nat) : Nat → List Nat
  | 0 => [1, 2, 3, 4, 5, 6, 7, 8]
  | m + 1 => stirTo 32 (take32 BL (m * 16) (soak32 BL m) 4) 8
theorem soak32_zero (BL : List Nat) : soak32 BL 0 = [1, 2, 3, 4, 5, 6, 7, 8] := rfl
theorem soak32_succ (BL : List Nat) (m : Nat) : soak32 BL (m + 1) = stirTo 32 (take32 BL (m * 16) (soak32 BL m) 4) 8 := by rw [soak32]
theorem soak32_length (BL : List Nat) (m : Nat) : (soak32 BL m).length = 8 := by
  induction m with
  | zero => rfl
  | succ m ih => unfold soak32; rw [stirTo_length _ _ _ (by rw [take32_length]; exact ih)]
theorem soak32_words (BL : List Nat) (hB : ∀ i, at0 BL i < 256) (m : Nat) : Words 32 (soak32 BL m) := by
  induction m with
  | zero => intro x hx; simp [soak32] at hx; omega
  | succ m ih => unfold soak32; exact stirTo_words 32 _ 8 (by rw [take32_length]; exact soak32_length BL m) (take32_words BL _ _ 4 ih hB)


set_option maxHeartbeats 4000000 in
theorem whole_32 (s : ByteArray) (w : World) (hs : s.size ≤ 400) (hT : Turns32 w) (hw : 0 < w.heap.size) :
    Calls Tryz.prog 146 #[.string s] w fun e w' => e = .returned (.string (textOf (outs 4 (soak32 (padRow s ((s.size / 16 + 1) * 16)) (s.size / 16 + 1)) 16))) ∧ Below w.heap.size w w' := by
  have HT := hide hT
  have HS := hide hs
  clear hT hs
  obtain ⟨sk, HSK⟩ : ∃ F, Hid (soak32 = F) := ⟨_, rfl⟩
  obtain ⟨tx, HTE⟩ : ∃ F : List Nat → ByteArray, Hid (∀ L, textOf (outs 4 L 16) = F L) := ⟨_, fun _ => rfl⟩
  have HS0 : Hid (∀ BL, sk BL 0 = soak32 BL 0) := fun BL => by rw [← HSK.out]
  have HSS : Hid (∀ BL m, sk BL (m + 1) = stirTo 32 (take32 BL (m * 16) (sk BL m) 4) 8) := fun BL m => by rw [← HSK.out]; exact soak32_succ BL m
  have HSL : Hid (∀ BL m, (sk BL m).length = 8) := fun BL m => by rw [← HSK.out]; exact soak32_length BL m
  have HSW : Hid (∀ BL, (∀ i, at0 BL i < 256) → ∀ m, Words 32 (sk BL m)) := fun BL h m => by rw [← HSK.out]; exact soak32_words BL h m
  rw [HTE.out, HSK.out]
  go_enter Tryz.func146, Tryz.ntmps146
  go_wp2_with fail
  have R0 : Hid (RowK (w.alloc (.cells #[.int .u32 1, .int .u32 2, .int .u32 3, .int .u32 4, .int .u32 5, .int .u32 6, .int .u32 7, .int .u32 8] 279)) w.heap.size .u32 279 (sk (padRow s ((s.size / 16 + 1) * 16)) 0)) := by
    rw [HS0.out, soak32_zero]; exact heap_alloc_new _ _
  have B0 := hide ((Below.refl w.heap.size w).alloc (Nat.le_refl _) (.cells #[.int .u32 1, .int .u32 2, .int .u32 3, .int .u32 4, .int .u32 5, .int .u32 6, .int .u32 7, .int .u32 8] 279))
  have hz0 : (w.alloc (.cells #[.int .u32 1, .int .u32 2, .int .u32 3, .int .u32 4, .int .u32 5, .int .u32 6, .int .u32 7, .int .u32 8] 279)).heap.size = w.heap.size + 1 := by simp
  generalize hW0 : w.alloc (.cells #[.int .u32 1, .int .u32 2, .int .u32 3, .int .u32 4, .int .u32 5, .int .u32 6, .int .u32 7, .int .u32 8] 279) = W0 at R0 B0 hz0 ⊢
  clear hW0
  refine (size_32 _).mono ?_
  rintro e w1 ⟨rfl, rfl⟩
  go_wp2_with fail
  refine (padded_16 s _ HS.out).mono ?_
  rintro e w2 ⟨rfl, hr2, hb2⟩
  have R2 := hide (R0.out.below hb2 R0.out.lt)
  have P2 := hide hr2
  have B2 := hide (B0.out.trans (hb2.mono (by omega)))
  have HGH : Hid (w1.heap.size = w.heap.size + 1) := hz0
  have HK : Hid (s.size / 16 + 1 ≤ 26) := by unfold Hid; have := HS.out; omega
  have HB8 := hide (pad_small s ((s.size / 16 + 1) * 16))
  have HPL : Hid ((padRow s ((s.size / 16 + 1) * 16)).length = (s.size / 16 + 1) * 16) := padRow_length s _ (by omega)
  clear hr2 hb2 R0 B0 hz0
  obtain ⟨k, hk⟩ : ∃ k, k = s.size / 16 + 1 := ⟨_, rfl⟩
  obtain ⟨BL, hBL⟩ : ∃ BL, BL = padRow s ((s.size / 16 + 1) * 16) := ⟨_, rfl⟩
  obtain ⟨h, hh⟩ : ∃ h, h = w1.heap.size := ⟨_, rfl⟩
  obtain ⟨g, hg⟩ : ∃ g, g = w.heap.size := ⟨_, rfl⟩
  rw [← hBL] at HB8 HPL P2 R2
  rw [← hk] at HPL HK
  rw [← hh] at HGH P2
  rw [← hg] at HGH R2 B2 hw
  have HKE := hide hk
  have HBLE := hide hBL
  have HGE := hide hg
  rw [← hk, ← hh, ← hg]
  clear hk hh hg hBL
  go_wp2
  go_loopw [5] (fun v wr => ∃ (m : Nat) (p : Option Addr), m ≤ k ∧ v = .slice p ((k - m) * 16) ((k - m) * 16) ∧ (m < k → p = some ⟨h, m * 16, none⟩) ∧ Hid (RowK wr g .u32 279 (sk BL m)) ∧ Hid (RowK wr h .u8 5 BL) ∧ Hid (Below g w wr)) (fun v _ => sliceLen32 v)
  case atStart => exact ⟨0, _, by omega, by simp; rfl, fun _ => by simp, R2, P2, B2⟩
  case round =>
    obtain ⟨m, p, hm, rfl, hp, hr, hpr, hb⟩ := hrel
    by_cases hlt : m < k
    · obtain rfl := hp hlt
      obtain ⟨q, rfl⟩ : ∃ q, k = m + q + 1 := ⟨k - m - 1, by omega⟩
      rw [show m + q + 1 - m = q + 1 by omega]
      have HSM : Hid (sk BL (m + 1) = stirTo 32 (take32 BL (m * 16) (sk BL m) 4) 8) := HSS.out BL m
      have hl := HSL.out BL m
      have hwd := HSW.out BL HB8.out m
      have hlt4 : (take32 BL (m * 16) (sk BL m) 4).length = 8 := by rw [take32_length]; exact hl
      have hw4 := take32_words BL (m * 16) (sk BL m) 4 hwd HB8.out
      have HTK := hide (fun w' (h1 : RowK w' g .u32 279 (sk BL m)) (h2 : RowK w' h .u8 5 BL) => take_32 g h (m * 16) ((q + 1) * 16) (sk BL m) BL w' h1 hl hwd h2 (by rw [HPL.out]; omega) HB8.out (by omega) (by rw [HGH.out]; omega))
      have HST := hide (fun w' (h1 : RowK w' g .u32 279 (take32 BL (m * 16) (sk BL m) 4)) (h2 : Turns32 w') => stir_32 g (take32 BL (m * 16) (sk BL m) 4) w' h1 hlt4 hw4 h2 hw)
      clear hl hwd hlt4 hw4
      go_wp2_with fail
      refine (HTK.out _ hr.out hpr.out).mono ?_
      rintro e w3 ⟨rfl, hr3, ho3⟩
      have R3 := hide hr3
      have O3 := hide ho3
      clear hr3 ho3 HTK
      go_wp2_with fail
      refine (HST.out _ R3.out (fun i hi => (O3.out.cell (by simp; omega)).trans ((hb.out.cell (by simpa using hw)).trans (HT.out i hi)))).mono ?_
      rintro e w4 ⟨rfl, hr4, ho4⟩
      rw [← HSM.out] at hr4
      have R4 := hide hr4
      have O4 := hide (O3.out.trans ho4)
      have P4 := hide (O4.out.row hpr.out (by rw [HGH.out]; omega))
      have B4 := hide (O4.out.below hb.out (Nat.le_refl g))
      clear hr4 ho4 HST HSM O3 O4 R3 hr hpr hb
      by_cases hq : q = 0
      · subst hq
        go_wp2
        go_roundw
        case rel => exact ⟨.slice (some ⟨h, m * 16, none⟩) 0 0, _, _, _, _, _, _, _, _, _, _, _, ⟨m + 1, some ⟨h, m * 16, none⟩, by omega, by rw [show m + 0 + 1 - (m + 1) = 0 by omega, Nat.zero_mul], fun h => absurd h (by omega), R4, P4, B4⟩, rfl⟩
        case measure => simp [sliceLen32]
      · go_wp2
        go_roundw
        case rel => exact ⟨m + 1, _, by omega, by rw [show m + q + 1 - (m + 1) = q by omega, show (q + 1) * 16 - 16 = q * 16 by omega], fun _ => by rw [show (m + 1) * 16 = m * 16 + 16 by omega], R4, P4, B4⟩
        case measure => simp [sliceLen32]; omega
    · obtain rfl : m = k := by omega
      rw [show (m - m) * 16 = 0 by simp]
      have HT0 := text_32 g (sk BL m) wr hr.out (HSL.out BL m) (HSW.out BL HB8.out m)
      rw [HTE.out] at HT0
      have HTX := hide HT0
      clear HT0
      have HLT := hide hr.out.lt
      go_wp2_with fail
      refine HTX.out.mono ?_
      rintro e w5 ⟨rfl, hb5⟩
      have B5 := hide (hb.out.trans (hb5.mono (Nat.le_of_lt HLT.out)))
      clear hb5 HTX
      go_wp2
      go_ret
      refine ⟨?_, ?_⟩
      · rw [← HBLE.out, ← HKE.out]; rfl
      · rw [← HGE.out]; exact B5.out
end Go.Proofs.YtgaoeoijdpdjiaaGreatDoor

namespace Go.Proofs.YtgaoeoijdpdjiaaGreatDoor
open Go.RowKit

def sliceLen64 : Value → Nat | .slice _ n _ => n | _ => 0

/-- The words behind m blocks. -/
def soak64 (BL : List Nat) : Nat → List Nat
  | 0 => [1, 2, 3, 4, 5, 6, 7, 8]
  | m + 1 => stirTo 64 (take64 BL (m * 32) (soak64 BL m) 4) 8
theorem soak64_zero (BL : List Nat) : soak64 BL 0 = [1, 2, 3, 4, 5, 6, 7, 8] := rfl
theorem soak64_succ (BL : List Nat) (m : Nat) : soak64 BL (m + 1) = stirTo 64 (take64 BL (m * 32) (soak64 BL m) 4) 8 := by rw [soak64]
theorem soak64_length (BL : List Nat) (m : Nat) : (soak64 BL m).length = 8 := by
  induction m with
  | zero => rfl
  | succ m ih => unfold soak64; rw [stirTo_length _ _ _ (by rw [take64_length]; exact ih)]
theorem soak64_words (BL : List Nat) (hB : ∀ i, at0 BL i < 256) (m : Nat) : Words 64 (soak64 BL m) := by
  induction m with
  | zero => intro x hx; simp [soak64] at hx; omega
  | succ m ih => unfold soak64; exact stirTo_words 64 _ 8 (by rw [take64_length]; exact soak64_length BL m) (take64_words BL _ _ 4 ih hB)


set_option maxHeartbeats 4000000 in
theorem whole_64 (s : ByteArray) (w : World) (hs : s.size ≤ 400) (hT : Turns64 w) (hw : 0 < w.heap.size) :
    Calls Tryz.prog 147 #[.string s] w fun e w' => e = .returned (.string (textOf (outs 8 (soak64 (padRow s ((s.size / 32 + 1) * 32)) (s.size / 32 + 1)) 32))) ∧ Below w.heap.size w w' := by
  have HT := hide hT
  have HS := hide hs
  clear hT hs
  obtain ⟨sk, HSK⟩ : ∃ F, Hid (soak64 = F) := ⟨_, rfl⟩
  obtain ⟨tx, HTE⟩ : ∃ F : List Nat → ByteArray, Hid (∀ L, textOf (outs 8 L 32) = F L) := ⟨_, fun _ => rfl⟩
  have HS0 : Hid (∀ BL, sk BL 0 = soak64 BL 0) := fun BL => by rw [← HSK.out]
  have HSS : Hid (∀ BL m, sk BL (m + 1) = stirTo 64 (take64 BL (m * 32) (sk BL m) 4) 8) := fun BL m => by rw [← HSK.out]; exact soak64_succ BL m
  have HSL : Hid (∀ BL m, (sk BL m).length = 8) := fun BL m => by rw [← HSK.out]; exact soak64_length BL m
  have HSW : Hid (∀ BL, (∀ i, at0 BL i < 256) → ∀ m, Words 64 (sk BL m)) := fun BL h m => by rw [← HSK.out]; exact soak64_words BL h m
  rw [HTE.out, HSK.out]
  go_enter Tryz.func147, Tryz.ntmps147
  go_wp2_with fail
  have R0 : Hid (RowK (w.alloc (.cells #[.int .u64 1, .int .u64 2, .int .u64 3, .int .u64 4, .int .u64 5, .int .u64 6, .int .u64 7, .int .u64 8] 283)) w.heap.size .u64 283 (sk (padRow s ((s.size / 32 + 1) * 32)) 0)) := by
    rw [HS0.out, soak64_zero]; exact heap_alloc_new _ _
  have B0 := hide ((Below.refl w.heap.size w).alloc (Nat.le_refl _) (.cells #[.int .u64 1, .int .u64 2, .int .u64 3, .int .u64 4, .int .u64 5, .int .u64 6, .int .u64 7, .int .u64 8] 283))
  have hz0 : (w.alloc (.cells #[.int .u64 1, .int .u64 2, .int .u64 3, .int .u64 4, .int .u64 5, .int .u64 6, .int .u64 7, .int .u64 8] 283)).heap.size = w.heap.size + 1 := by simp
  generalize hW0 : w.alloc (.cells #[.int .u64 1, .int .u64 2, .int .u64 3, .int .u64 4, .int .u64 5, .int .u64 6, .int .u64 7, .int .u64 8] 283) = W0 at R0 B0 hz0 ⊢
  clear hW0
  refine (size_64 _).mono ?_
  rintro e w1 ⟨rfl, rfl⟩
  go_wp2_with fail
  refine (padded_32 s _ HS.out).mono ?_
  rintro e w2 ⟨rfl, hr2, hb2⟩
  have R2 := hide (R0.out.below hb2 R0.out.lt)
  have P2 := hide hr2
  have B2 := hide (B0.out.trans (hb2.mono (by omega)))
  have HGH : Hid (w1.heap.size = w.heap.size + 1) := hz0
  have HK : Hid (s.size / 32 + 1 ≤ 13) := by unfold Hid; have := HS.out; omega
  have HB8 := hide (pad_small s ((s.size / 32 + 1) * 32))
  have HPL : Hid ((padRow s ((s.size / 32 + 1) * 32)).length = (s.size / 32 + 1) * 32) := padRow_length s _ (by omega)
  clear hr2 hb2 R0 B0 hz0
  obtain ⟨k, hk⟩ : ∃ k, k = s.size / 32 + 1 := ⟨_, rfl⟩
  obtain ⟨BL, hBL⟩ : ∃ BL, BL = padRow s ((s.size / 32 + 1) * 32) := ⟨_, rfl⟩
  obtain ⟨h, hh⟩ : ∃ h, h = w1.heap.size := ⟨_, rfl⟩
  obtain ⟨g, hg⟩ : ∃ g, g = w.heap.size := ⟨_, rfl⟩
  rw [← hBL] at HB8 HPL P2 R2
  rw [← hk] at HPL HK
  rw [← hh] at HGH P2
  rw [← hg] at HGH R2 B2 hw
  have HKE := hide hk
  have HBLE := hide hBL
  have HGE := hide hg
  rw [← hk, ← hh, ← hg]
  clear hk hh hg hBL
  go_wp2
  go_loopw [5] (fun v wr => ∃ (m : Nat) (p : Option Addr), m ≤ k ∧ v = .slice p ((k - m) * 32) ((k - m) * 32) ∧ (m < k → p = some ⟨h, m * 32, none⟩) ∧ Hid (RowK wr g .u64 283 (sk BL m)) ∧ Hid (RowK wr h .u8 5 BL) ∧ Hid (Below g w wr)) (fun v _ => sliceLen64 v)
  case atStart => exact ⟨0, _, by omega, by simp; rfl, fun _ => by simp, R2, P2, B2⟩
  case round =>
    obtain ⟨m, p, hm, rfl, hp, hr, hpr, hb⟩ := hrel
    by_cases hlt : m < k
    · obtain rfl := hp hlt
      obtain ⟨q, rfl⟩ : ∃ q, k = m + q + 1 := ⟨k - m - 1, by omega⟩
      rw [show m + q + 1 - m = q + 1 by omega]
      have HSM : Hid (sk BL (m + 1) = stirTo 64 (take64 BL (m * 32) (sk BL m) 4) 8) := HSS.out BL m
      have hl := HSL.out BL m
      have hwd := HSW.out BL HB8.out m
      have hlt4 : (take64 BL (m * 32) (sk BL m) 4).length = 8 := by rw [take64_length]; exact hl
      have hw4 := take64_words BL (m * 32) (sk BL m) 4 hwd HB8.out
      have HTK := hide (fun w' (h1 : RowK w' g .u64 283 (sk BL m)) (h2 : RowK w' h .u8 5 BL) => take_64 g h (m * 32) ((q + 1) * 32) (sk BL m) BL w' h1 hl hwd h2 (by rw [HPL.out]; omega) HB8.out (by omega) (by rw [HGH.out]; omega))
      have HST := hide (fun w' (h1 : RowK w' g .u64 283 (take64 BL (m * 32) (sk BL m) 4)) (h2 : Turns64 w') => stir_64 g (take64 BL (m * 32) (sk BL m) 4) w' h1 hlt4 hw4 h2 hw)
      clear hl hwd hlt4 hw4
      go_wp2_with fail
      refine (HTK.out _ hr.out hpr.out).mono ?_
      rintro e w3 ⟨rfl, hr3, ho3⟩
      have R3 := hide hr3
      have O3 := hide ho3
      clear hr3 ho3 HTK
      go_wp2_with fail
      refine (HST.out _ R3.out (fun i hi => (O3.out.cell (by simp; omega)).trans ((hb.out.cell (by simpa using hw)).trans (HT.out i hi)))).mono ?_
      rintro e w4 ⟨rfl, hr4, ho4⟩
      rw [← HSM.out] at hr4
      have R4 := hide hr4
      have O4 := hide (O3.out.trans ho4)
      have P4 := hide (O4.out.row hpr.out (by rw [HGH.out]; omega))
      have B4 := hide (O4.out.below hb.out (Nat.le_refl g))
      clear hr4 ho4 HST HSM O3 O4 R3 hr hpr hb
      by_cases hq : q = 0
      · subst hq
        go_wp2
        go_roundw
        case rel => exact ⟨.slice (some ⟨h, m * 32, none⟩) 0 0, _, _, _, _, _, _, _, _, _, _, _, ⟨m + 1, some ⟨h, m * 32, none⟩, by omega, by rw [show m + 0 + 1 - (m + 1) = 0 by omega, Nat.zero_mul], fun h => absurd h (by omega), R4, P4, B4⟩, rfl⟩
        case measure => simp [sliceLen64]
      · go_wp2
        go_roundw
        case rel => exact ⟨m + 1, _, by omega, by rw [show m + q + 1 - (m + 1) = q by omega, show (q + 1) * 32 - 32 = q * 32 by omega], fun _ => by rw [show (m + 1) * 32 = m * 32 + 32 by omega], R4, P4, B4⟩
        case measure => simp [sliceLen64]; omega
    · obtain rfl : m = k := by omega
      rw [show (m - m) * 32 = 0 by simp]
      have HT0 := text_64 g (sk BL m) wr hr.out (HSL.out BL m) (HSW.out BL HB8.out m)
      rw [HTE.out] at HT0
      have HTX := hide HT0
      clear HT0
      have HLT := hide hr.out.lt
      go_wp2_with fail
      refine HTX.out.mono ?_
      rintro e w5 ⟨rfl, hb5⟩
      have B5 := hide (hb.out.trans (hb5.mono (Nat.le_of_lt HLT.out)))
      clear hb5 HTX
      go_wp2
      go_ret
      refine ⟨?_, ?_⟩
      · rw [← HBLE.out, ← HKE.out]; rfl
      · rw [← HGE.out]; exact B5.out
end Go.Proofs.YtgaoeoijdpdjiaaGreatDoor
