/-
  The program's take over words of 64 bits: four words of a block go in. The document's own word of a text behind which a 1 and zeros lie.
-/
import Derived.Test.YtgaoeoijdpdjiaaDoorPart6
namespace Go.Proofs.YtgaoeoijdpdjiaaDoor
open Go.RowKit

/-- The first k words of the bytes from place o on, xored in. -/
def take64 (BL : List Nat) (o : Nat) (L : List Nat) : Nat → List Nat
  | 0 => L
  | j + 1 => (take64 BL o L j).set j (at0 (take64 BL o L j) j ^^^ beN BL (o + j * 8) 8)
theorem take64_length (BL : List Nat) (o : Nat) (L : List Nat) (j : Nat) : (take64 BL o L j).length = L.length := by
  induction j with
  | zero => rfl
  | succ j ih => simp only [take64, List.length_set, ih]
theorem take64_words (BL : List Nat) (o : Nat) (L : List Nat) (j : Nat) (h : Words 64 L) (hB : ∀ i, at0 BL i < 256) : Words 64 (take64 BL o L j) := by
  induction j with
  | zero => exact h
  | succ j ih => exact ih.set j _ (Nat.xor_lt_two_pow (ih.at j) (by have := beN_lt BL (o + j * 8) 8 hB; simpa using this))

theorem slice_take64 (h o cap j : Nat) (hj : j < 4) (hc : 32 ≤ cap) (wx : World) : (Instr.slice 60 (.slice (some ⟨h, o, none⟩) 32 cap) (some (.int .i64 ((j : Int) * 8))) (some (.int .i64 (((j : Int) + 1) * 8))) none).run Tryd.prog wx = .ok (.slice (some ⟨h, o + j * 8, none⟩) 8 (cap - j * 8)) wx := by
  have h0 : (0 : Int) ≤ (j : Int) * 8 := by omega
  have h2 : ((j : Int) + 1) * 8 ≤ (cap : Int) := by omega
  have h3 : ((j : Int) * 8).toNat = j * 8 := by omega
  have h4 : (((j : Int) + 1) * 8).toNat = j * 8 + 8 := by omega
  have h5 : j * 8 + 8 - j * 8 = 8 := by omega
  have h7 : ¬ cap = j * 8 := by omega
  simp [go_sem, h0, h2, h3, h4, h5, h7]
  rw [if_pos (by omega), if_pos (by omega)]

set_option maxHeartbeats 2000000 in
theorem take_64 (g h o cap : Nat) (L BL : List Nat) (w : World) (hr : RowK w g .u64 105 L) (hL : L.length = 8) (hW : Words 64 L) (hb : RowK w h .u8 5 BL) (hbl : o + 32 ≤ BL.length) (hB : ∀ i, at0 BL i < 256) (hc : 32 ≤ cap) (hgh : h ≠ g) :
    Calls Tryd.prog 81 #[.pointer (some ⟨g, 0, none⟩), .slice (some ⟨h, o, none⟩) 32 cap] w fun e w' => e = .returned (.tuple #[]) ∧ RowK w' g .u64 105 (take64 BL o L 4) ∧ Only g w w' := by
  have HR := hide hr
  have HL := hide hL
  have HW := hide hW
  have HB := hide hb
  have HBL := hide hbl
  have HBB := hide hB
  clear hr hL hW hb hbl hB
  go_enter Tryd.func81, Tryd.ntmps81
  go_wp2_with fail
  refine (size_64 _).mono ?_
  rintro e w1 ⟨rfl, rfl⟩
  go_wp2
  go_loopw [7] (fun i wr => ∃ j : Nat, j ≤ 4 ∧ i = .int .i64 j ∧ Hid (RowK wr g .u64 105 (take64 BL o L j)) ∧ Hid (Only g w1 wr)) (fun i _ => 4 - (intOf i).toNat)
  case atStart => exact ⟨0, by omega, rfl, HR, Only.refl _ _⟩
  case round =>
    obtain ⟨j, hj, rfl, hr, ho⟩ := hrel
    by_cases hlt : j < 4
    · have hlen : (take64 BL o L j).length = 8 := by rw [take64_length]; exact HL.out
      have hwd := take64_words BL o L j HW.out HBB.out
      have HS : Hid (take64 BL o L (j + 1) = (take64 BL o L j).set j (at0 (take64 BL o L j) j ^^^ beN BL (o + j * 8) 8)) := rfl
      generalize take64 BL o L j = K at hr hlen hwd HS
      have d1 := hr.out.cell (i := j) (by omega)
      have f1 := hr.out.free j
      have x1 : at0 K j < 18446744073709551616 := by have := hwd.at j; simpa using this
      have HRD := hide (fun n' : Nat => read_64 h (o + j * 8) (cap - j * 8) BL (wr.drewN n') ((ho.out.row HB.out hgh).drewN n') (by have := HBL.out; omega) HBB.out)
      have y1 : beN BL (o + j * 8) 8 < 18446744073709551616 := by have := beN_lt BL (o + j * 8) 8 HBB.out; simpa using this
      have HXO := hide (u64_xor_nat (at0 K j) (beN BL (o + j * 8) 8) x1 y1)
      have hsl := slice_take64 h o cap j hlt hc
      generalize beN BL (o + j * 8) 8 = v at HS HRD y1 HXO
      generalize hq : at0 K j = u at d1 x1 HXO HS
      have v1 : IntKind.i64.wrap ((j : Int) * 8) = (j : Int) * 8 := by rw [IntKind.wrap_i64]; omega
      have v2 : IntKind.i64.wrap ((j : Int) + 1) = (j : Int) + 1 := by rw [IntKind.wrap_i64]; omega
      have v3 : IntKind.i64.wrap (((j : Int) + 1) * 8) = ((j : Int) + 1) * 8 := by rw [IntKind.wrap_i64]; omega
      have q0 : (0 : Int) ≤ (j : Int) := by omega
      have q1 : (j : Int) < 8 := by omega
      clear hlen hwd hq x1 y1
      go_wp2
      go_region_with ((go_at_call 105; refine (HRD.out _).mono ?_; rintro e w' ⟨rfl, rfl⟩))
      all_goals
        go_wp2
        try rw [HXO.out]
        go_roundw
        case rel =>
          refine ⟨j + 1, by omega, by go_num, ?_, ?_⟩
          · have h := hr.out.set j (u ^^^ v)
            rw [← HS.out] at h
            exact h
          · unfold Hid
            first | exact (ho.out.drewN _).setCell j _ | (repeat (first | refine Only.drew ?_ | refine Only.setCell ?_ _ _); exact ho.out)
        case measure => simp [intOf]; omega
    · obtain rfl : j = 4 := by omega
      go_wp2
      go_end0
      exact ⟨rfl, hr.out, ho.out⟩
end Go.Proofs.YtgaoeoijdpdjiaaDoor

namespace Go.Proofs.YtgaoeoijdpdjiaaDoor
open Go.RowKit

/-- A text's bytes, and a 1 behind them. -/
def padL (s : ByteArray) : List Nat := s.data.toList.map UInt8.toNat ++ [1]

theorem padL_length (s : ByteArray) : (padL s).length = s.size + 1 := by simp [padL]
theorem padL_in (s : ByteArray) (i : Nat) (h : i < s.size) : at0 (padL s) i = (s[i]'h).toNat := by
  unfold padL at0
  rw [List.getD_eq_getElem?_getD, List.getElem?_append_left (by simpa using h), List.getElem?_map, List.getElem?_eq_getElem (by simpa using h)]
  rfl
theorem padL_at (s : ByteArray) : at0 (padL s) s.size = 1 := by
  unfold padL at0
  rw [List.getD_eq_getElem?_getD, List.getElem?_append_right (by simp)]
  simp
theorem padL_past (s : ByteArray) (i : Nat) (h : s.size < i) : at0 (padL s) i = 0 := by
  unfold at0
  rw [List.getD_eq_getElem?_getD, List.getElem?_eq_none (by rw [padL_length]; omega)]
  rfl
theorem padL_lt (s : ByteArray) (i : Nat) : at0 (padL s) i < 256 := by
  rcases Nat.lt_trichotomy i s.size with h | h | h
  · rw [padL_in s i h]; exact UInt8.toNat_lt _
  · rw [h, padL_at]; decide
  · rw [padL_past s i h]; decide

set_option maxHeartbeats 400000 in
theorem word_4 (s : ByteArray) (q : Nat) (w : World) (hs : s.size ≤ 1000) (hq : q ≤ 1000) :
    Calls Tryd.prog 54 #[.string s, .int .i64 q, .int .i64 4] w fun e w' => e = .returned (.int .u64 ((beN (padL s) (q * 4) 4 : Nat) : Int)) ∧ w' = w := by
  go_enter Tryd.func54, Tryd.ntmps54
  go_wp2
  go_loop [7, 8] (fun x i => ∃ j : Nat, j ≤ 4 ∧ i = .int .i64 ((q : Int) * 4 + j) ∧ x = .int .u64 ((beN (padL s) (q * 4) j : Nat) : Int)) (fun _ i => (((q : Int) + 1) * 4 - intOf i).toNat)
  case atStart => exact ⟨0, by omega, by simp, rfl⟩
  case round =>
    obtain ⟨j, hj, rfl, rfl⟩ := hrel
    by_cases hlt : j < 4
    · have hv : beN (padL s) (q * 4) j < 16777216 := Nat.lt_of_lt_of_le (beN_lt _ _ j (padL_lt s)) (Nat.pow_le_pow_right (by decide) (show j ≤ 3 by omega))
      have HS : Hid (beN (padL s) (q * 4) (j + 1) = beN (padL s) (q * 4) j * 256 + at0 (padL s) (q * 4 + j)) := rfl
      have HV := hide hv
      generalize beN (padL s) (q * 4) j = v at hv HS HV ⊢
      have HC := hide (padL_lt s (q * 4 + j))
      rcases Nat.lt_trichotomy (q * 4 + j) s.size with h | h | h
      · have HX := hide (padL_in s (q * 4 + j) h)
        have t1 : ((q : Int) * 4 + (j : Int)).toNat = q * 4 + j := by omega
        have h1 : (q : Int) * 4 + (j : Int) < (s.size : Int) := by omega
        have h2 : (0 : Int) ≤ (q : Int) * 4 + (j : Int) := by omega
        have hcb : (((s[q * 4 + j]'h).toNat : Nat) : Int) ≤ 255 := by have := UInt8.toNat_lt (s[q * 4 + j]'h); omega
        clear hv
        go_wp2
        go_round
        case rel =>
          refine ⟨j + 1, by omega, by go_num, ?_⟩
          rw [HS.out, HX.out]
          have := HV.out
          refine congrArg (Value.int IntKind.u64) ?_
          try simp only [IntKind.wrap_u64]
          omega
        case measure => simp [intOf]; omega
      · have HX := hide (show at0 (padL s) (q * 4 + j) = 1 by rw [h]; exact padL_at s)
        have h1 : decide ((q : Int) * 4 + (j : Int) < (s.size : Int)) = false := by simp; omega
        have h2 : ((q : Int) * 4 + (j : Int) == (s.size : Int)) = true := by rw [beq_iff_eq]; omega
        have H := hide h
        clear hv h
        go_wp2
        go_round
        case rel =>
          refine ⟨j + 1, by omega, by go_num, ?_⟩
          rw [HS.out, HX.out]
          have := HV.out
          refine congrArg (Value.int IntKind.u64) ?_
          try simp only [IntKind.wrap_u64]
          omega
        case measure => simp [intOf]; omega
      · have HX := hide (padL_past s (q * 4 + j) h)
        have h1 : decide ((q : Int) * 4 + (j : Int) < (s.size : Int)) = false := by simp; omega
        have h2 : ((q : Int) * 4 + (j : Int) == (s.size : Int)) = false := by rw [beq_eq_false_iff_ne]; omega
        clear hv
        go_wp2
        go_round
        case rel =>
          refine ⟨j + 1, by omega, by go_num, ?_⟩
          rw [HS.out, HX.out]
          have := HV.out
          refine congrArg (Value.int IntKind.u64) ?_
          try simp only [IntKind.wrap_u64]
          omega
        case measure => simp [intOf]; omega
    · obtain rfl : j = 4 := by omega
      go_wp2
      go_ret
      exact ⟨rfl, rfl⟩

set_option maxHeartbeats 400000 in
theorem word_8 (s : ByteArray) (q : Nat) (w : World) (hs : s.size ≤ 1000) (hq : q ≤ 1000) :
    Calls Tryd.prog 54 #[.string s, .int .i64 q, .int .i64 8] w fun e w' => e = .returned (.int .u64 ((beN (padL s) (q * 8) 8 : Nat) : Int)) ∧ w' = w := by
  go_enter Tryd.func54, Tryd.ntmps54
  go_wp2
  go_loop [7, 8] (fun x i => ∃ j : Nat, j ≤ 8 ∧ i = .int .i64 ((q : Int) * 8 + j) ∧ x = .int .u64 ((beN (padL s) (q * 8) j : Nat) : Int)) (fun _ i => (((q : Int) + 1) * 8 - intOf i).toNat)
  case atStart => exact ⟨0, by omega, by simp, rfl⟩
  case round =>
    obtain ⟨j, hj, rfl, rfl⟩ := hrel
    by_cases hlt : j < 8
    · have hv : beN (padL s) (q * 8) j < 72057594037927936 := Nat.lt_of_lt_of_le (beN_lt _ _ j (padL_lt s)) (Nat.pow_le_pow_right (by decide) (show j ≤ 7 by omega))
      have HS : Hid (beN (padL s) (q * 8) (j + 1) = beN (padL s) (q * 8) j * 256 + at0 (padL s) (q * 8 + j)) := rfl
      have HV := hide hv
      generalize beN (padL s) (q * 8) j = v at hv HS HV ⊢
      have HC := hide (padL_lt s (q * 8 + j))
      rcases Nat.lt_trichotomy (q * 8 + j) s.size with h | h | h
      · have HX := hide (padL_in s (q * 8 + j) h)
        have t1 : ((q : Int) * 8 + (j : Int)).toNat = q * 8 + j := by omega
        have h1 : (q : Int) * 8 + (j : Int) < (s.size : Int) := by omega
        have h2 : (0 : Int) ≤ (q : Int) * 8 + (j : Int) := by omega
        have hcb : (((s[q * 8 + j]'h).toNat : Nat) : Int) ≤ 255 := by have := UInt8.toNat_lt (s[q * 8 + j]'h); omega
        clear hv
        go_wp2
        go_round
        case rel =>
          refine ⟨j + 1, by omega, by go_num, ?_⟩
          rw [HS.out, HX.out]
          have := HV.out
          refine congrArg (Value.int IntKind.u64) ?_
          try simp only [IntKind.wrap_u64]
          omega
        case measure => simp [intOf]; omega
      · have HX := hide (show at0 (padL s) (q * 8 + j) = 1 by rw [h]; exact padL_at s)
        have h1 : decide ((q : Int) * 8 + (j : Int) < (s.size : Int)) = false := by simp; omega
        have h2 : ((q : Int) * 8 + (j : Int) == (s.size : Int)) = true := by rw [beq_iff_eq]; omega
        have H := hide h
        clear hv h
        go_wp2
        go_round
        case rel =>
          refine ⟨j + 1, by omega, by go_num, ?_⟩
          rw [HS.out, HX.out]
          have := HV.out
          refine congrArg (Value.int IntKind.u64) ?_
          try simp only [IntKind.wrap_u64]
          omega
        case measure => simp [intOf]; omega
      · have HX := hide (padL_past s (q * 8 + j) h)
        have h1 : decide ((q : Int) * 8 + (j : Int) < (s.size : Int)) = false := by simp; omega
        have h2 : ((q : Int) * 8 + (j : Int) == (s.size : Int)) = false := by rw [beq_eq_false_iff_ne]; omega
        clear hv
        go_wp2
        go_round
        case rel =>
          refine ⟨j + 1, by omega, by go_num, ?_⟩
          rw [HS.out, HX.out]
          have := HV.out
          refine congrArg (Value.int IntKind.u64) ?_
          try simp only [IntKind.wrap_u64]
          omega
        case measure => simp [intOf]; omega
    · obtain rfl : j = 8 := by omega
      go_wp2
      go_ret
      exact ⟨rfl, rfl⟩

end Go.Proofs.YtgaoeoijdpdjiaaDoor
