/-
  The document's stirring of words of 32 bits.
-/
import Derived.Test.YtgaoeoijdpdjiaaDoorDPool
namespace Go.Proofs.YtgaoeoijdpdjiaaDoor
open Go.RowKit

theorem tor32 (i : Nat) (h : i < 4) : turnN i = 5 ∨ turnN i = 11 ∨ turnN i = 19 ∨ turnN i = 26 := by
  rcases (show i = 0 ∨ i = 1 ∨ i = 2 ∨ i = 3 by omega) with rfl | rfl | rfl | rfl <;> simp [turnN]

set_option maxHeartbeats 400000 in
theorem kept_32z (g : Nat) (x : Int) (w : World) (hc : w.cell? ⟨g, 8, none⟩ = some (.int .i64 32)) (h0 : 0 ≤ x) (h1 : x < 18446744073709551616) :
    Calls Tryd.prog 84 #[.pointer (some ⟨g, 0, none⟩), .int .u64 x] w fun e w' => e = .returned (.int .u64 (x % 4294967296)) ∧ w' = w := by
  obtain ⟨n, rfl⟩ := Int.eq_ofNat_of_zero_le h0
  exact kept_32 g n w hc (by omega)

set_option maxHeartbeats 4000000 in
theorem stirred_32 (g : Nat) (L : List Nat) (w : World) (hr : PoolAt w g 32 L) (hL : L.length = 8) (hW : Words 32 L) :
    Calls Tryd.prog 55 #[.pointer (some ⟨g, 0, none⟩)] w fun e w' => e = .returned (.tuple #[]) ∧ PoolAt w' g 32 (refTo 32 L 8) ∧ Only g w w' := by
  have HR := hide hr
  have HL := hide hL
  have HW := hide hW
  clear hr hL hW
  go_enter Tryd.func55, Tryd.ntmps55
  go_wp2
  go_loopw [2] (fun i wr => ∃ r : Nat, r ≤ 8 ∧ i = .int .i64 r ∧ Hid (PoolAt wr g 32 (refTo 32 L r)) ∧ Hid (Only g w wr)) (fun i _ => 8 - (intOf i).toNat)
  case atStart => exact ⟨0, by omega, rfl, HR, Only.refl _ _⟩
  case round =>
    obtain ⟨r, hr8, rfl, hp, ho⟩ := hrel
    by_cases hlt : r < 8
    · have hlen : (refTo 32 L r).length = 8 := by rw [refTo_length]; exact HL.out
      have hwd := refTo_words 32 L r HW.out
      have HS : Hid (refTo 32 L (r + 1) = (mixRef 32 r (refTo 32 L r) 4).set 0 (at0 (mixRef 32 r (refTo 32 L r) 4) 0 ^^^ (r + 1))) := rfl
      generalize refTo 32 L r = Q at hp hlen hwd HS
      have HQL := hide hlen
      have HQW := hide hwd
      clear hlen hwd
      obtain ⟨wo, rfl⟩ : ∃ wo : World, wo = wr := ⟨_, rfl⟩
      go_wp2
      go_loopw [3] (fun i wr => ∃ j : Nat, j ≤ 4 ∧ i = .int .i64 j ∧ Hid (PoolAt wr g 32 (mixRef 32 r Q j)) ∧ Hid (Only g w wr)) (fun i _ => 4 - (intOf i).toNat)
      case atStart => exact ⟨0, by omega, rfl, hp, ho⟩
      case round =>
        obtain ⟨j, hj, rfl, hp, ho⟩ := hrel
        by_cases hlt4 : j < 4
        · have hlen : (mixRef 32 r Q j).length = 8 := by rw [mixRef_length]; exact HQL.out
          have hwd := mixRef_words 32 r Q j HQW.out
          have HS4 : Hid (mixRef 32 r Q (j + 1) = colW 32 j (4 + (j + r) % 4) (mixRef 32 r Q j)) := rfl
          generalize mixRef 32 r Q j = K at hp hlen hwd HS4
          have hjr : 4 + (j + r) % 4 < 8 := by omega
          have d1 := hp.out.cell (i := j) (by omega)
          have d2 := hp.out.cell (i := 4 + (j + r) % 4) (by omega)
          have d8 := hp.out.bits hlen
          have x1 := hwd.at j
          have x2 := hwd.at (4 + (j + r) % 4)
          have HJ : Hid ((4 : Int) + ((j : Int) + (r : Int)) % 4 = ((4 + (j + r) % 4 : Nat) : Int)) := by show (4 : Int) + ((j : Int) + (r : Int)) % 4 = _; omega
          have HCO : Hid (colW 32 j (4 + (j + r) % 4) K = (K.set j (addW 32 (at0 K j) (at0 K (4 + (j + r) % 4)))).set (4 + (j + r) % 4) (rotW 32 (at0 K (4 + (j + r) % 4)) (turnN j) ^^^ addW 32 (at0 K j) (at0 K (4 + (j + r) % 4)))) := rfl
          have hJ4 : 4 ≤ 4 + (j + r) % 4 := by omega
          generalize 4 + (j + r) % 4 = J at hjr d2 x2 HJ HS4 HCO hJ4
          have q0 : (0 : Int) ≤ (J : Int) := by omega
          have q1 : (J : Int) < 8 := by omega
          have q2 : (j : Int) < 8 := by omega
          have HLK := hide hlen
          have z1 : at0 K j < 4294967296 := by simpa using x1
          have z2 : at0 K J < 4294967296 := by simpa using x2
          have y1 : ((at0 K j : Nat) : Int) < 4294967296 := by omega
          have y2 : ((at0 K J : Nat) : Int) < 4294967296 := by omega
          have hwr : IntKind.u64.wrap (((at0 K j : Nat) : Int) + ((at0 K J : Nat) : Int)) = ((at0 K j : Nat) : Int) + ((at0 K J : Nat) : Int) := by rw [IntKind.wrap_u64]; omega
          have HP : Hid (0 ≤ ((at0 K j : Nat) : Int) + ((at0 K J : Nat) : Int) ∧ ((at0 K j : Nat) : Int) + ((at0 K J : Nat) : Int) < 18446744073709551616) := ⟨by omega, by omega⟩
          clear z1 z2 y1 y2
          have HRT := hide (fun w' h1 => rturned_32 g (at0 K J) (turnN j) w' h1 (by simpa using x2) (tor32 j hlt4))
          have HTN := hide (fun w' : World => turn_any j w' hlt4)
          have HAD : Hid ((((at0 K j : Nat) : Int) + ((at0 K J : Nat) : Int)) % 4294967296 = ((addW 32 (at0 K j) (at0 K J) : Nat) : Int)) := by
            show (((at0 K j : Nat) : Int) + ((at0 K J : Nat) : Int)) % 4294967296 = _
            unfold addW
            rw [Int.natCast_emod, Int.natCast_add]
            rfl
          have HXL := hide (show rotW 32 (at0 K J) (turnN j) < 18446744073709551616 from Nat.lt_of_lt_of_le (rotW_lt 32 (at0 K J) (turnN j) x2) (by decide))
          have HAL := hide (show addW 32 (at0 K j) (at0 K J) < 18446744073709551616 from Nat.lt_of_lt_of_le (addW_lt 32 (at0 K j) (at0 K J)) (by decide))
          generalize at0 K j = a at d1 x1 HAD HCO hwr HP HAL
          generalize at0 K J = c at d2 x2 HAD HCO hwr HP HRT HXL HAL
          generalize turnN j = tn at HRT HTN HCO HXL
          generalize rotW 32 c tn = rt at HRT HCO HXL
          generalize addW 32 a c = A at HAD HCO HAL
          clear hlen hwd x1 x2
          go_wp2
          rw [HJ.out]
          go_quiet ((go_at_call 84; exact Calls.quiet_of_same (kept_32z g _ _ (by simpa [go_sem] using d8) HP.out.1 HP.out.2)))
          have HXO := hide (u64_xor_nat rt A HXL.out HAL.out)
          have HPV := hide (hp.out.drewN nq)
          have HOV := hide (ho.out.drewN nq)
          generalize hV : wr.drewN nq = V at HPV HOV ⊢
          have fj : V.frozen? ⟨g, j, none⟩ = false := HPV.out.free j
          have fJ : V.frozen? ⟨g, J, none⟩ = false := HPV.out.free J
          have e1 : V.cell? ⟨g, j, none⟩ = some (.int .u64 ((a : Nat) : Int)) := by rw [← hV]; exact d1
          have e2 : V.cell? ⟨g, J, none⟩ = some (.int .u64 ((c : Nat) : Int)) := by rw [← hV]; exact d2
          have e8 : V.cell? ⟨g, 8, none⟩ = some (.int .i64 32) := by rw [← hV]; exact d8
          clear hwr hV d1 d2 d8
          go_wp2
          rw [HAD.out]
          go_quiet (first | (go_at_call 86; exact Calls.quiet_of_same (HTN.out _)) | (go_at_call 85; exact Calls.quiet_of_same (HRT.out _ (by simpa [go_sem] using e8))))
          go_wp2
          rw [HXO.out]
          go_roundw
          case rel =>
            refine ⟨j + 1, by omega, by go_num, ?_, ?_⟩
            · have h := (HPV.out.set j A (by have := HLK.out; omega)).set J (rt ^^^ A) (by rw [List.length_set]; have := HLK.out; omega)
              rw [← HCO.out, ← HS4.out] at h
              exact h
            · unfold Hid
              repeat (first | refine Only.drew ?_ | refine Only.drewN ?_ _ | refine Only.setCell ?_ _ _)
              exact HOV.out
          case measure => simp [intOf]; omega
        · obtain rfl : j = 4 := by omega
          have hlen : (mixRef 32 r Q 4).length = 8 := by rw [mixRef_length]; exact HQL.out
          have hwd := mixRef_words 32 r Q 4 HQW.out
          generalize mixRef 32 r Q 4 = K at hp hlen hwd HS
          have d0 := hp.out.cell (i := 0) (by omega)
          have f0 := hp.out.free 0
          have HXO : Hid (bits BinOp.xor IntKind.u64 ((at0 K 0 : Nat) : Int) ((r : Int) + 1) = ((at0 K 0 ^^^ (r + 1) : Nat) : Int)) := u64_xor_nat (at0 K 0) (r + 1) (Nat.lt_of_lt_of_le (hwd.at 0) (by decide)) (by omega)
          have HLK := hide hlen
          generalize at0 K 0 = a at d0 HXO HS
          clear hlen hwd
          go_wp2
          go_region
          go_wp2
          rw [HXO.out]
          go_roundw
          case rel =>
            refine ⟨r + 1, by omega, by go_num, ?_, ?_⟩
            · have h := hp.out.set 0 (a ^^^ (r + 1)) (by have := HLK.out; omega)
              rw [← HS.out] at h
              exact h
            · unfold Hid
              repeat (first | refine Only.drew ?_ | refine Only.drewN ?_ _ | refine Only.setCell ?_ _ _)
              exact ho.out
          case measure => simp [intOf]; omega
    · obtain rfl : r = 8 := by omega
      go_wp2
      go_end0
      exact ⟨rfl, hp.out, ho.out⟩
end Go.Proofs.YtgaoeoijdpdjiaaDoor
