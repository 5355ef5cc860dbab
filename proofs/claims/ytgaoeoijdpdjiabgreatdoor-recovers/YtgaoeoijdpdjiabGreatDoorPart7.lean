/-
  The check sum, the program's and the document's: both are one plain function of the bytes.
-/
import Derived.Test.YtgaoeoijdpdjiabGreatDoorPart1
import Derived.WalkKit
import Derived.WalkSpells
import Derived.WalkLawsBesides
import Derived.Laws.BitsAllLaws
import Derived.Handy
namespace Go.Proofs.YtgaoeoijdpdjiabGreatDoor
open Go.RowKit
set_option maxHeartbeats 400000 in
theorem shifted_any (v : Nat) (w : World) (hv : v < 4294967296) :
    Calls Tryz.prog 304 #[.int .u32 v] w fun e w' => e = .returned (.int .u32 ((crcN 8 v : Nat) : Int)) ∧ w' = w := by
  go_enter Tryz.func304, Tryz.ntmps304
  go_wp2
  go_loop [0, 4] (fun t i => ∃ k : Nat, k ≤ 8 ∧ t = .int .u32 ((crcN k v : Nat) : Int) ∧ i = .int .i64 k) (fun _ i => 8 - (intOf i).toNat)
  case atStart => exact ⟨0, by omega, rfl, rfl⟩
  case round =>
    obtain ⟨k, hk, rfl, rfl⟩ := hrel
    have hu := crcN_lt k v hv
    have HS : Hid (crcN (k + 1) v = crcStep (crcN k v)) := rfl
    generalize hq : crcN k v = u at hu HS ⊢
    have HQ := hide hq
    clear hq
    by_cases hlt : k < 8
    · have ha := and_one u hu
      by_cases h2 : u % 2 = 1
      · have hb : (bits BinOp.and IntKind.u32 (u : Int) 1 == 1) = true := by rw [ha, h2]; rfl
        clear ha
        go_wp2
        go_round
        case rel => exact ⟨k + 1, by omega, by rw [HS.out, crcStep, if_pos h2, xor_pat u hu], by go_num⟩
        case measure => simp [intOf]; omega
      · have hb : (bits BinOp.and IntKind.u32 (u : Int) 1 == 1) = false := by rw [ha, show u % 2 = 0 by omega]; rfl
        clear ha
        go_wp2
        go_round
        case rel => exact ⟨k + 1, by omega, by rw [HS.out, crcStep, if_neg h2, Int.natCast_ediv]; rfl, by go_num⟩
        case measure => simp [intOf]; omega
    · obtain rfl : k = 8 := by omega
      go_wp2
      go_ret
      exact ⟨by rw [HQ.out]; rfl, rfl⟩
set_option maxHeartbeats 400000 in
theorem sum_any (s : ByteArray) (w : World) (hs : s.size ≤ maxLen) :
    Calls Tryz.prog 257 #[.string s] w fun e w' => e = .returned (.int .i64 (4294967295 - ((crcTo s s.size : Nat) : Int))) ∧ w' = w := by
  unfold maxLen at hs
  go_enter Tryz.func257, Tryz.ntmps257
  go_wp2
  go_loop [3, 7] (fun t i => ∃ k : Nat, k ≤ s.size ∧ t = .int .u32 ((crcTo s k : Nat) : Int) ∧ i = .int .i64 k) (fun _ i => s.size - (intOf i).toNat)
  case atStart => exact ⟨0, by omega, rfl, rfl⟩
  case round =>
    obtain ⟨k, hk, rfl, rfl⟩ := hrel
    have hu := crcTo_lt s k
    by_cases hlt : k < s.size
    · have hc := UInt8.toNat_lt s[k]
      have HX : Hid (bits BinOp.xor IntKind.u32 ((crcTo s k : Nat) : Int) (((s[k].toNat : Nat) : Int)) = ((crcTo s k ^^^ s[k].toNat : Nat) : Int)) := u32_xor_nat _ _ hu (by omega)
      have hlt2 : crcTo s k ^^^ s[k].toNat < 4294967296 := Nat.xor_lt_two_pow (n := 32) hu (by omega)
      have HS : Hid (crcTo s (k + 1) = crcN 8 (crcTo s k ^^^ s[k].toNat)) := by show crcTo s (k + 1) = _; rw [crcTo, byte_eq s k hlt]
      have HSH := hide (fun w' : World => shifted_any _ w' hlt2)
      generalize crcTo s k = u at hu HX hlt2 HS HSH ⊢
      go_wp2_with fail
      rw [HX.out]
      refine (HSH.out _).mono ?_
      rintro e w1 ⟨rfl, rfl⟩
      go_wp2
      go_round
      case rel => exact ⟨k + 1, by omega, by rw [HS.out], by go_num⟩
      case measure => simp [intOf]; omega
    · obtain rfl : k = s.size := by omega
      have HN := hide (not_u32 _ hu)
      go_wp2
      go_ret
      exact ⟨by rw [← HN.out]; rfl, rfl⟩
end Go.Proofs.YtgaoeoijdpdjiabGreatDoor
