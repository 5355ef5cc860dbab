/-
  The check sum, the program's and the document's: both are one plain function of the bytes.
-/
import Derived.Test.YtgaoeoijdpdjiabGreatDoorPartHide
import Derived.WalkKit
import Derived.WalkSpells
import Derived.WalkLawsBesides
import Derived.Laws.BitsAllLaws
import Derived.Handy
namespace Go.Proofs.YtgaoeoijdpdjiabGreatDoor
open Go.RowKit

set_option maxHeartbeats 400000 in
theorem shifted_any (v : Nat) (w : World) (hv : v < 4294967296) :
    Calls Tryz.prog 304 #[.int .u32 v] w fun e w' => e = .returned (.int .u32 ((crcN 8 v : Nat) : Int)) ∧ w' = w := by
  go_enter Tryz.func304, Tryz.ntmps304
  go_wp2
  go_loop [0, 4] (fun t i => ∃ k : Nat, k ≤ 8 ∧ t = .int .u32 ((crcN k v : Nat) : Int) ∧ i = .int .i64 k) (fun _ i => 8 - (intOf i).toNat)
  case atStart => exact ⟨0, by omega, rfl, rfl⟩
  case round =>
    obtain ⟨k, hk, rfl, rfl⟩ := hrel
    have hu := crcN_lt k v hv
    have HS : Hid (crcN (k + 1) v = crcStep (crcN k v)) := rfl
    generalize hq : crcN k v = u at hu HS ⊢
    have HQ := hide hq
    clear hq
    by_cases hlt : k < 8
    · have ha := and_one u hu
      by_cases h2 : u % 2 = 1
      · have hb : (bits BinOp.and IntKind.u32 (u : Int) 1 == 1) = true := by rw [ha, h2]; rfl
        clear ha
        go_wp2
        go_round
        case rel => exact ⟨k + 1, by omega, by rw [HS.out, crcStep, if_pos h2, xor_pat u hu], by go_num⟩
        case measure => simp [intOf]; omega
      · have hb : (bits BinOp.and IntKind.u32 (u : Int) 1 == 1) = false := by rw [ha, show u % 2 = 0 by omega]; rfl
        clear ha
        go_wp2
        go_round
        case rel => exact ⟨k + 1, by omega, by rw [HS.out, crcStep, if_neg h2, Int.natCast_ediv]; rfl, by go_num⟩
        case measure => simp [intOf]; omega
    · obtain rfl : k = 8 := by omega
      go_wp2
      go_ret
      exact ⟨by rw [HQ.out]; rfl, rfl⟩

set_option maxHeartbeats 400000 in
theorem sum_any (s : ByteArray) (w : World) (hs : s.size ≤ maxLen) :
    Calls Tryz.prog 257 #[.string s] w fun e w' => e = .returned (.int .i64 (4294967295 - ((crcTo s s.size : Nat) : Int))) ∧ w' = w := by
  unfold maxLen at hs
  go_enter Tryz.func257, Tryz.ntmps257
  go_wp2
  go_loop [3, 7] (fun t i => ∃ k : Nat, k ≤ s.size ∧ t = .int .u32 ((crcTo s k : Nat) : Int) ∧ i = .int .i64 k) (fun _ i => s.size - (intOf i).toNat)
  case atStart => exact ⟨0, by omega, rfl, rfl⟩
  case round =>
    obtain ⟨k, hk, rfl, rfl⟩ := hrel
    have hu := crcTo_lt s k
    by_cases hlt : k < s.size
    · have hc := UInt8.toNat_lt s[k]
      have HX : Hid (bits BinOp.xor IntKind.u32 ((crcTo s k : Nat) : Int) (((s[k].toNat : Nat) : Int)) = ((crcTo s k ^^^ s[k].toNat : Nat) : Int)) := u32_xor_nat _ _ hu (by omega)
      have hlt2 : crcTo s k ^^^ s[k].toNat < 4294967296 := Nat.xor_lt_two_pow (n := 32) hu (by omega)
      have HS : Hid (crcTo s (k + 1) = crcN 8 (crcTo s k ^^^ s[k].toNat)) := by show crcTo s (k + 1) = _; rw [crcTo, byte_eq s k hlt]
      have HSH := hide (fun w' : World => shifted_any _ w' hlt2)
      generalize crcTo s k = u at hu HX hlt2 HS HSH ⊢
      go_wp2_with fail
      rw [HX.out]
      refine (HSH.out _).mono ?_
      rintro e w1 ⟨rfl, rfl⟩
      go_wp2
      go_round
      case rel => exact ⟨k + 1, by omega, by rw [HS.out], by go_num⟩
      case measure => simp [intOf]; omega
    · obtain rfl : k = s.size := by omega
      have HN := hide (not_u32 _ hu)
      go_wp2
      go_ret
      exact ⟨by rw [← HN.out]; rfl, rfl⟩

set_option maxHeartbeats 1000000 in
theorem refSum_any (s : ByteArray) (w : World) (hs : s.size ≤ maxLen) :
    Calls Tryz.prog 187 #[.string s] w fun e w' => e = .returned (.int .i64 (4294967295 - ((crcTo s s.size : Nat) : Int))) ∧ w' = w := by
  unfold maxLen at hs
  go_enter Tryz.func187, Tryz.ntmps187
  go_wp2
  go_loop [3, 4] (fun t i => ∃ k : Nat, k ≤ s.size ∧ t = .int .i64 ((crcTo s k : Nat) : Int) ∧ i = .int .i64 k) (fun _ i => s.size - (intOf i).toNat)
  case atStart => exact ⟨0, by omega, rfl, rfl⟩
  case round =>
    obtain ⟨k, hk, rfl, rfl⟩ := hrel
    have hu := crcTo_lt s k
    by_cases hlt : k < s.size
    · have hc := UInt8.toNat_lt s[k]
      have HS : Hid (crcTo s (k + 1) = crcN 8 (crcTo s k ^^^ s[k].toNat)) := by show crcTo s (k + 1) = _; rw [crcTo, byte_eq s k hlt]
      generalize crcTo s k = u at hu HS ⊢
      go_wp2
      go_loop [3, 5] (fun t i => ∃ q X : Nat, q ≤ 8 ∧ X < 4294967296 ∧ Hid (X ^^^ (s[k].toNat / 2 ^ q) = crcN q (u ^^^ s[k].toNat)) ∧ t = .int .i64 X ∧ i = .int .i64 q) (fun _ i => 8 - (intOf i).toNat)
      case atStart => exact ⟨0, u, by omega, hu, by unfold Hid; simp [crcN], rfl, rfl⟩
      case round =>
        obtain ⟨q, X, hq, hX, hh, rfl, rfl⟩ := hrel
        by_cases hq8 : q < 8
        · obtain ⟨r1, r2, r3⟩ := ref_step X s[k].toNat q _ hh.out
          have HT := hide (ref_test s[k].toNat q hc)
          have HX2 := hide (xor_i64 (X / 2) 3988292384 (by omega) (by decide))
          have hxl : X / 2 ^^^ 3988292384 < 4294967296 := Nat.xor_lt_two_pow (n := 32) (by omega) (by decide)
          have R1 := hide r1
          have R2 := hide r2
          have R3 := hide r3
          clear r1 r2 r3
          by_cases h2 : X % 2 ≠ s[k].toNat / 2 ^ q % 2
          · have hb : ((X : Int) % 2 != (wrap64 (((s[k].toNat : Nat) : Int) / 2 ^ q)).tmod 2) = true := by rw [HT.out, bne_iff_ne]; omega
            clear h2
            have H2 := hide hb
            go_wp2
            go_round
            case rel =>
              refine ⟨q + 1, X / 2 ^^^ 3988292384, by omega, hxl, ?_, ?_, by go_num⟩
              · have hv : crcN q (u ^^^ s[k].toNat) % 2 = 1 := R1.out.2 (by have h := H2.out; rw [HT.out, bne_iff_ne] at h; omega)
                show _ = crcStep _
                rw [crcStep, if_pos hv]
                exact R3.out
              · have h := HX2.out
                rw [Int.natCast_ediv] at h
                exact congrArg _ h
            case measure => simp [intOf]; omega
          · have hb : ((X : Int) % 2 != (wrap64 (((s[k].toNat : Nat) : Int) / 2 ^ q)).tmod 2) = false := by rw [HT.out, bne_eq_false_iff_eq]; omega
            clear h2
            have H2 := hide hb
            go_wp2
            go_round
            case rel =>
              refine ⟨q + 1, X / 2, by omega, by omega, ?_, by rw [Int.natCast_ediv]; rfl, by go_num⟩
              have hv : ¬ crcN q (u ^^^ s[k].toNat) % 2 = 1 := fun e => R1.out.1 e (by have h := H2.out; rw [HT.out, bne_eq_false_iff_eq] at h; omega)
              show _ = crcStep _
              rw [crcStep, if_neg hv]
              exact R2.out
            case measure => simp [intOf]; omega
        · obtain rfl : q = 8 := by omega
          have hX8 : X = crcN 8 (u ^^^ s[k].toNat) := by
            have h := hh.out
            rw [show s[k].toNat / 2 ^ 8 = 0 from Nat.div_eq_of_lt hc, Nat.xor_zero] at h
            exact h
          have H8 := hide hX8
          clear hX8
          go_wp2
          go_round
          case rel => exact ⟨k + 1, by omega, by rw [HS.out, H8.out], by go_num⟩
          case measure => simp [intOf]; omega
    · obtain rfl : k = s.size := by omega
      go_wp2
      go_ret
      exact ⟨rfl, rfl⟩
end Go.Proofs.YtgaoeoijdpdjiabGreatDoor
