/-
  The document's own word of a text behind which a 1 and zeros lie.
-/
import Derived.Test.YtgaoeoijdpdjiaaDoorDPadL
namespace Go.Proofs.YtgaoeoijdpdjiaaDoor
open Go.RowKit

set_option maxHeartbeats 400000 in
theorem word_4 (s : ByteArray) (q : Nat) (w : World) (hs : s.size ≤ 1000) (hq : q ≤ 1000) :
    Calls Tryd.prog 54 #[.string s, .int .i64 q, .int .i64 4] w fun e w' => e = .returned (.int .u64 ((beN (padL s) (q * 4) 4 : Nat) : Int)) ∧ w' = w := by
  go_enter Tryd.func54, Tryd.ntmps54
  go_wp2
  go_loop [7, 8] (fun x i => ∃ j : Nat, j ≤ 4 ∧ i = .int .i64 ((q : Int) * 4 + j) ∧ x = .int .u64 ((beN (padL s) (q * 4) j : Nat) : Int)) (fun _ i => (((q : Int) + 1) * 4 - intOf i).toNat)
  case atStart => exact ⟨0, by omega, by simp, rfl⟩
  case round =>
    obtain ⟨j, hj, rfl, rfl⟩ := hrel
    by_cases hlt : j < 4
    · have hv : beN (padL s) (q * 4) j < 16777216 := Nat.lt_of_lt_of_le (beN_lt _ _ j (padL_lt s)) (Nat.pow_le_pow_right (by decide) (show j ≤ 3 by omega))
      have HS : Hid (beN (padL s) (q * 4) (j + 1) = beN (padL s) (q * 4) j * 256 + at0 (padL s) (q * 4 + j)) := rfl
      have HV := hide hv
      generalize beN (padL s) (q * 4) j = v at hv HS HV ⊢
      have HC := hide (padL_lt s (q * 4 + j))
      rcases Nat.lt_trichotomy (q * 4 + j) s.size with h | h | h
      · have HX := hide (padL_in s (q * 4 + j) h)
        have t1 : ((q : Int) * 4 + (j : Int)).toNat = q * 4 + j := by omega
        have h1 : (q : Int) * 4 + (j : Int) < (s.size : Int) := by omega
        have h2 : (0 : Int) ≤ (q : Int) * 4 + (j : Int) := by omega
        have hcb : (((s[q * 4 + j]'h).toNat : Nat) : Int) ≤ 255 := by have := UInt8.toNat_lt (s[q * 4 + j]'h); omega
        clear hv
        go_wp2
        go_round
        case rel =>
          refine ⟨j + 1, by omega, by go_num, ?_⟩
          rw [HS.out, HX.out]
          have := HV.out
          refine congrArg (Value.int IntKind.u64) ?_
          try simp only [IntKind.wrap_u64]
          omega
        case measure => simp [intOf]; omega
      · have HX := hide (show at0 (padL s) (q * 4 + j) = 1 by rw [h]; exact padL_at s)
        have h1 : decide ((q : Int) * 4 + (j : Int) < (s.size : Int)) = false := by simp; omega
        have h2 : ((q : Int) * 4 + (j : Int) == (s.size : Int)) = true := by rw [beq_iff_eq]; omega
        have H := hide h
        clear hv h
        go_wp2
        go_round
        case rel =>
          refine ⟨j + 1, by omega, by go_num, ?_⟩
          rw [HS.out, HX.out]
          have := HV.out
          refine congrArg (Value.int IntKind.u64) ?_
          try simp only [IntKind.wrap_u64]
          omega
        case measure => simp [intOf]; omega
      · have HX := hide (padL_past s (q * 4 + j) h)
        have h1 : decide ((q : Int) * 4 + (j : Int) < (s.size : Int)) = false := by simp; omega
        have h2 : ((q : Int) * 4 + (j : Int) == (s.size : Int)) = false := by rw [beq_eq_false_iff_ne]; omega
        clear hv
        go_wp2
        go_round
        case rel =>
          refine ⟨j + 1, by omega, by go_num, ?_⟩
          rw [HS.out, HX.out]
          have := HV.out
          refine congrArg (Value.int IntKind.u64) ?_
          try simp only [IntKind.wrap_u64]
          omega
        case measure => simp [intOf]; omega
    · obtain rfl : j = 4 := by omega
      go_wp2
      go_ret
      exact ⟨rfl, rfl⟩

set_option maxHeartbeats 400000 in
theorem word_8 (s : ByteArray) (q : Nat) (w : World) (hs : s.size ≤ 1000) (hq : q ≤ 1000) :
    Calls Tryd.prog 54 #[.string s, .int .i64 q, .int .i64 8] w fun e w' => e = .returned (.int .u64 ((beN (padL s) (q * 8) 8 : Nat) : Int)) ∧ w' = w := by
  go_enter Tryd.func54, Tryd.ntmps54
  go_wp2
  go_loop [7, 8] (fun x i => ∃ j : Nat, j ≤ 8 ∧ i = .int .i64 ((q : Int) * 8 + j) ∧ x = .int .u64 ((beN (padL s) (q * 8) j : Nat) : Int)) (fun _ i => (((q : Int) + 1) * 8 - intOf i).toNat)
  case atStart => exact ⟨0, by omega, by simp, rfl⟩
  case round =>
    obtain ⟨j, hj, rfl, rfl⟩ := hrel
    by_cases hlt : j < 8
    · have hv : beN (padL s) (q * 8) j < 72057594037927936 := Nat.lt_of_lt_of_le (beN_lt _ _ j (padL_lt s)) (Nat.pow_le_pow_right (by decide) (show j ≤ 7 by omega))
      have HS : Hid (beN (padL s) (q * 8) (j + 1) = beN (padL s) (q * 8) j * 256 + at0 (padL s) (q * 8 + j)) := rfl
      have HV := hide hv
      generalize beN (padL s) (q * 8) j = v at hv HS HV ⊢
      have HC := hide (padL_lt s (q * 8 + j))
      rcases Nat.lt_trichotomy (q * 8 + j) s.size with h | h | h
      · have HX := hide (padL_in s (q * 8 + j) h)
        have t1 : ((q : Int) * 8 + (j : Int)).toNat = q * 8 + j := by omega
        have h1 : (q : Int) * 8 + (j : Int) < (s.size : Int) := by omega
        have h2 : (0 : Int) ≤ (q : Int) * 8 + (j : Int) := by omega
        have hcb : (((s[q * 8 + j]'h).toNat : Nat) : Int) ≤ 255 := by have := UInt8.toNat_lt (s[q * 8 + j]'h); omega
        clear hv
        go_wp2
        go_round
        case rel =>
          refine ⟨j + 1, by omega, by go_num, ?_⟩
          rw [HS.out, HX.out]
          have := HV.out
          refine congrArg (Value.int IntKind.u64) ?_
          try simp only [IntKind.wrap_u64]
          omega
        case measure => simp [intOf]; omega
      · have HX := hide (show at0 (padL s) (q * 8 + j) = 1 by rw [h]; exact padL_at s)
        have h1 : decide ((q : Int) * 8 + (j : Int) < (s.size : Int)) = false := by simp; omega
        have h2 : ((q : Int) * 8 + (j : Int) == (s.size : Int)) = true := by rw [beq_iff_eq]; omega
        have H := hide h
        clear hv h
        go_wp2
        go_round
        case rel =>
          refine ⟨j + 1, by omega, by go_num, ?_⟩
          rw [HS.out, HX.out]
          have := HV.out
          refine congrArg (Value.int IntKind.u64) ?_
          try simp only [IntKind.wrap_u64]
          omega
        case measure => simp [intOf]; omega
      · have HX := hide (padL_past s (q * 8 + j) h)
        have h1 : decide ((q : Int) * 8 + (j : Int) < (s.size : Int)) = false := by simp; omega
        have h2 : ((q : Int) * 8 + (j : Int) == (s.size : Int)) = false := by rw [beq_eq_false_iff_ne]; omega
        clear hv
        go_wp2
        go_round
        case rel =>
          refine ⟨j + 1, by omega, by go_num, ?_⟩
          rw [HS.out, HX.out]
          have := HV.out
          refine congrArg (Value.int IntKind.u64) ?_
          try simp only [IntKind.wrap_u64]
          omega
        case measure => simp [intOf]; omega
    · obtain rfl : j = 8 := by omega
      go_wp2
      go_ret
      exact ⟨rfl, rfl⟩

end Go.Proofs.YtgaoeoijdpdjiaaDoor
