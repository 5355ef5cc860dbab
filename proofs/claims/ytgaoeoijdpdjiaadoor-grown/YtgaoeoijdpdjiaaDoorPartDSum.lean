/-
  The check sum, the program's and the document's: both are one plain function of the bytes.
-/
import Derived.Test.YtgaoeoijdpdjiaaDoorRows
import Derived.WalkKit
import Derived.WalkSpells
import Derived.WalkLawsBesides
import Derived.Laws.BitsAllLaws
import Derived.Handy
namespace Go.Proofs.YtgaoeoijdpdjiaaDoor
open Go.RowKit

theorem hide {p : Prop} (h : p) : Hid p := h

/-- One bit's step. -/
def crcStep (v : Nat) : Nat := if v % 2 = 1 then (v / 2) ^^^ 3988292384 else v / 2
def crcN : Nat → Nat → Nat
  | 0, v => v
  | n + 1, v => crcStep (crcN n v)

theorem crcStep_lt (v : Nat) (h : v < 4294967296) : crcStep v < 4294967296 := by
  unfold crcStep
  split
  · exact Nat.xor_lt_two_pow (n := 32) (by omega) (by decide)
  · omega
theorem crcN_lt (n v : Nat) (h : v < 4294967296) : crcN n v < 4294967296 := by
  induction n with
  | zero => exact h
  | succ n ih => exact crcStep_lt _ ih

theorem and_one (u : Nat) (hu : u < 4294967296) : bits BinOp.and IntKind.u32 (u : Int) 1 = ((u % 2 : Nat) : Int) := by
  have h := u32_and_nat u 1 hu (by decide)
  rw [Nat.and_one_is_mod] at h
  exact h

theorem xor_pat (u : Nat) (hu : u < 4294967296) : bits BinOp.xor IntKind.u32 ((u : Int) / 2) 3988292384 = ((u / 2 ^^^ 3988292384 : Nat) : Int) := by
  have h := u32_xor_nat (u / 2) 3988292384 (by omega) (by decide)
  rw [Int.natCast_ediv] at h
  exact h

set_option maxHeartbeats 400000 in
theorem shifted_any (v : Nat) (w : World) (hv : v < 4294967296) :
    Calls Tryd.prog 56 #[.int .u32 v] w fun e w' => e = .returned (.int .u32 ((crcN 8 v : Nat) : Int)) ∧ w' = w := by
  go_enter Tryd.func56, Tryd.ntmps56
  go_wp2
  go_loop [0, 4] (fun t i => ∃ k : Nat, k ≤ 8 ∧ t = .int .u32 ((crcN k v : Nat) : Int) ∧ i = .int .i64 k) (fun _ i => 8 - (intOf i).toNat)
  case atStart => exact ⟨0, by omega, rfl, rfl⟩
  case round =>
    obtain ⟨k, hk, rfl, rfl⟩ := hrel
    have hu := crcN_lt k v hv
    have HS : Hid (crcN (k + 1) v = crcStep (crcN k v)) := rfl
    generalize hq : crcN k v = u at hu HS ⊢
    have HQ := hide hq
    clear hq
    by_cases hlt : k < 8
    · have ha := and_one u hu
      by_cases h2 : u % 2 = 1
      · have hb : (bits BinOp.and IntKind.u32 (u : Int) 1 == 1) = true := by rw [ha, h2]; rfl
        clear ha
        go_wp2
        go_round
        case rel => exact ⟨k + 1, by omega, by rw [HS.out, crcStep, if_pos h2, xor_pat u hu], by go_num⟩
        case measure => simp [intOf]; omega
      · have hb : (bits BinOp.and IntKind.u32 (u : Int) 1 == 1) = false := by rw [ha, show u % 2 = 0 by omega]; rfl
        clear ha
        go_wp2
        go_round
        case rel => exact ⟨k + 1, by omega, by rw [HS.out, crcStep, if_neg h2, Int.natCast_ediv]; rfl, by go_num⟩
        case measure => simp [intOf]; omega
    · obtain rfl : k = 8 := by omega
      go_wp2
      go_ret
      exact ⟨by rw [HQ.out]; rfl, rfl⟩

/-- The sum's state behind k bytes. -/
def crcTo (s : ByteArray) : Nat → Nat
  | 0 => 4294967295
  | k + 1 => crcN 8 (crcTo s k ^^^ (s.data.toList.map UInt8.toNat).getD k 0)

theorem byte_lt (s : ByteArray) (k : Nat) : (s.data.toList.map UInt8.toNat).getD k 0 < 256 := by
  by_cases h : k < (s.data.toList.map UInt8.toNat).length
  · rw [List.getD_eq_getElem?_getD, List.getElem?_eq_getElem h]
    simp only [Option.getD_some, List.getElem_map]
    exact UInt8.toNat_lt _
  · rw [List.getD_eq_getElem?_getD, List.getElem?_eq_none (by omega)]
    decide
theorem byte_eq (s : ByteArray) (k : Nat) (h : k < s.size) : (s.data.toList.map UInt8.toNat).getD k 0 = (s[k]'h).toNat := by
  rw [List.getD_eq_getElem?_getD, List.getElem?_map, List.getElem?_eq_getElem (by simpa using h)]
  rfl
theorem crcTo_lt (s : ByteArray) (k : Nat) : crcTo s k < 4294967296 := by
  cases k with
  | zero => show 4294967295 < 4294967296; decide
  | succ k =>
    have h1 := crcTo_lt s k
    exact crcN_lt _ _ (Nat.xor_lt_two_pow (n := 32) h1 (Nat.lt_trans (byte_lt s k) (by decide)))

theorem not_u32 (v : Nat) (h : v < 4294967296) : wrap64 (bits BinOp.xor IntKind.u32 IntKind.u32.max (v : Int)) = 4294967295 - (v : Int) := by
  have e : (4294967295 ^^^ v) = 4294967295 - v := by
    have h1 : (BitVec.allOnes 32 ^^^ BitVec.ofNat 32 v) = ~~~ BitVec.ofNat 32 v := BitVec.allOnes_xor
    have h2 := congrArg BitVec.toNat h1
    simp only [BitVec.toNat_xor, BitVec.toNat_allOnes, BitVec.toNat_not, BitVec.toNat_ofNat] at h2
    rw [Nat.mod_eq_of_lt (show v < 2 ^ 32 by omega)] at h2
    exact h2
  have h1 := u32_xor_nat 4294967295 v (by decide) h
  rw [e] at h1
  show wrap64 (bits BinOp.xor IntKind.u32 4294967295 (v : Int)) = _
  have h2 : bits BinOp.xor IntKind.u32 4294967295 (v : Int) = 4294967295 - (v : Int) := by
    refine h1.trans ?_
    omega
  rw [h2]
  exact IntWalk.wrap64_in _ ⟨by omega, by omega⟩

set_option maxHeartbeats 400000 in
theorem sum_any (s : ByteArray) (w : World) (hs : s.size ≤ maxLen) :
    Calls Tryd.prog 40 #[.string s] w fun e w' => e = .returned (.int .i64 (4294967295 - ((crcTo s s.size : Nat) : Int))) ∧ w' = w := by
  unfold maxLen at hs
  go_enter Tryd.func40, Tryd.ntmps40
  go_wp2
  go_loop [3, 7] (fun t i => ∃ k : Nat, k ≤ s.size ∧ t = .int .u32 ((crcTo s k : Nat) : Int) ∧ i = .int .i64 k) (fun _ i => s.size - (intOf i).toNat)
  case atStart => exact ⟨0, by omega, rfl, rfl⟩
  case round =>
    obtain ⟨k, hk, rfl, rfl⟩ := hrel
    have hu := crcTo_lt s k
    by_cases hlt : k < s.size
    · have hc := UInt8.toNat_lt s[k]
      have HX : Hid (bits BinOp.xor IntKind.u32 ((crcTo s k : Nat) : Int) (((s[k].toNat : Nat) : Int)) = ((crcTo s k ^^^ s[k].toNat : Nat) : Int)) := u32_xor_nat _ _ hu (by omega)
      have hlt2 : crcTo s k ^^^ s[k].toNat < 4294967296 := Nat.xor_lt_two_pow (n := 32) hu (by omega)
      have HS : Hid (crcTo s (k + 1) = crcN 8 (crcTo s k ^^^ s[k].toNat)) := by show crcTo s (k + 1) = _; rw [crcTo, byte_eq s k hlt]
      have HSH := hide (fun w' : World => shifted_any _ w' hlt2)
      generalize crcTo s k = u at hu HX hlt2 HS HSH ⊢
      go_wp2_with fail
      rw [HX.out]
      refine (HSH.out _).mono ?_
      rintro e w1 ⟨rfl, rfl⟩
      go_wp2
      go_round
      case rel => exact ⟨k + 1, by omega, by rw [HS.out], by go_num⟩
      case measure => simp [intOf]; omega
    · obtain rfl : k = s.size := by omega
      have HN := hide (not_u32 _ hu)
      go_wp2
      go_ret
      exact ⟨by rw [← HN.out]; rfl, rfl⟩

theorem ref_step (X c k V : Nat) (h : X ^^^ (c / 2 ^ k) = V) :
    ((V % 2 = 1) ↔ (X % 2 ≠ c / 2 ^ k % 2)) ∧ (X / 2) ^^^ (c / 2 ^ (k + 1)) = V / 2 ∧ ((X / 2) ^^^ 3988292384) ^^^ (c / 2 ^ (k + 1)) = (V / 2) ^^^ 3988292384 := by
  have e1 : c / 2 ^ (k + 1) = c / 2 ^ k / 2 := by rw [Nat.pow_succ, Nat.div_div_eq_div_mul]
  have e2 : (X / 2) ^^^ (c / 2 ^ (k + 1)) = V / 2 := by rw [e1, ← h, Nat.xor_div_two]
  refine ⟨?_, e2, ?_⟩
  · rw [← h, Nat.xor_mod_two_eq_one]
    have h1 := Nat.mod_two_eq_zero_or_one X
    have h2 := Nat.mod_two_eq_zero_or_one (c / 2 ^ k)
    omega
  · rw [← e2, Nat.xor_assoc, Nat.xor_comm 3988292384, ← Nat.xor_assoc]

theorem xor_i64 (a b : Nat) (ha : a < 4294967296) (hb : b < 4294967296) : bits BinOp.xor IntKind.i64 (a : Int) (b : Int) = ((a ^^^ b : Nat) : Int) := by
  have ha' : a % 2 ^ IntKind.i64.bits = a := Nat.mod_eq_of_lt (Nat.lt_trans ha (by decide))
  have hb' : b % 2 ^ IntKind.i64.bits = b := Nat.mod_eq_of_lt (Nat.lt_trans hb (by decide))
  have hl : a ^^^ b < 4294967296 := Nat.xor_lt_two_pow (n := 32) ha hb
  simp only [bits, BitVec.ofInt_natCast, BitVec.toNat_xor, BitVec.toNat_ofNat, ha', hb']
  rw [IntKind.wrap_i64]
  omega

theorem ref_test (c q : Nat) (hc : c < 256) : (wrap64 ((c : Int) / 2 ^ q)).tmod 2 = ((c / 2 ^ q % 2 : Nat) : Int) := by
  have e : (c : Int) / 2 ^ q = ((c / 2 ^ q : Nat) : Int) := by rw [Int.natCast_ediv]; rfl
  have hle : c / 2 ^ q ≤ c := Nat.div_le_self _ _
  rw [e]
  generalize c / 2 ^ q = z at hle
  rw [IntWalk.wrap64_in _ ⟨by omega, by omega⟩, Int.tmod_eq_emod_of_nonneg (by omega)]
  rfl

set_option maxHeartbeats 1000000 in
theorem refSum_any (s : ByteArray) (w : World) (hs : s.size ≤ maxLen) :
    Calls Tryd.prog 22 #[.string s] w fun e w' => e = .returned (.int .i64 (4294967295 - ((crcTo s s.size : Nat) : Int))) ∧ w' = w := by
  unfold maxLen at hs
  go_enter Tryd.func22, Tryd.ntmps22
  go_wp2
  go_loop [3, 4] (fun t i => ∃ k : Nat, k ≤ s.size ∧ t = .int .i64 ((crcTo s k : Nat) : Int) ∧ i = .int .i64 k) (fun _ i => s.size - (intOf i).toNat)
  case atStart => exact ⟨0, by omega, rfl, rfl⟩
  case round =>
    obtain ⟨k, hk, rfl, rfl⟩ := hrel
    have hu := crcTo_lt s k
    by_cases hlt : k < s.size
    · have hc := UInt8.toNat_lt s[k]
      have HS : Hid (crcTo s (k + 1) = crcN 8 (crcTo s k ^^^ s[k].toNat)) := by show crcTo s (k + 1) = _; rw [crcTo, byte_eq s k hlt]
      generalize crcTo s k = u at hu HS ⊢
      go_wp2
      go_loop [3, 5] (fun t i => ∃ q X : Nat, q ≤ 8 ∧ X < 4294967296 ∧ Hid (X ^^^ (s[k].toNat / 2 ^ q) = crcN q (u ^^^ s[k].toNat)) ∧ t = .int .i64 X ∧ i = .int .i64 q) (fun _ i => 8 - (intOf i).toNat)
      case atStart => exact ⟨0, u, by omega, hu, by unfold Hid; simp [crcN], rfl, rfl⟩
      case round =>
        obtain ⟨q, X, hq, hX, hh, rfl, rfl⟩ := hrel
        by_cases hq8 : q < 8
        · obtain ⟨r1, r2, r3⟩ := ref_step X s[k].toNat q _ hh.out
          have HT := hide (ref_test s[k].toNat q hc)
          have HX2 := hide (xor_i64 (X / 2) 3988292384 (by omega) (by decide))
          have hxl : X / 2 ^^^ 3988292384 < 4294967296 := Nat.xor_lt_two_pow (n := 32) (by omega) (by decide)
          have R1 := hide r1
          have R2 := hide r2
          have R3 := hide r3
          clear r1 r2 r3
          by_cases h2 : X % 2 ≠ s[k].toNat / 2 ^ q % 2
          · have hb : ((X : Int) % 2 != (wrap64 (((s[k].toNat : Nat) : Int) / 2 ^ q)).tmod 2) = true := by rw [HT.out, bne_iff_ne]; omega
            clear h2
            have H2 := hide hb
            go_wp2
            go_round
            case rel =>
              refine ⟨q + 1, X / 2 ^^^ 3988292384, by omega, hxl, ?_, ?_, by go_num⟩
              · have hv : crcN q (u ^^^ s[k].toNat) % 2 = 1 := R1.out.2 (by have h := H2.out; rw [HT.out, bne_iff_ne] at h; omega)
                show _ = crcStep _
                rw [crcStep, if_pos hv]
                exact R3.out
              · have h := HX2.out
                rw [Int.natCast_ediv] at h
                exact congrArg _ h
            case measure => simp [intOf]; omega
          · have hb : ((X : Int) % 2 != (wrap64 (((s[k].toNat : Nat) : Int) / 2 ^ q)).tmod 2) = false := by rw [HT.out, bne_eq_false_iff_eq]; omega
            clear h2
            have H2 := hide hb
            go_wp2
            go_round
            case rel =>
              refine ⟨q + 1, X / 2, by omega, by omega, ?_, by rw [Int.natCast_ediv]; rfl, by go_num⟩
              have hv : ¬ crcN q (u ^^^ s[k].toNat) % 2 = 1 := fun e => R1.out.1 e (by have h := H2.out; rw [HT.out, bne_eq_false_iff_eq] at h; omega)
              show _ = crcStep _
              rw [crcStep, if_neg hv]
              exact R2.out
            case measure => simp [intOf]; omega
        · obtain rfl : q = 8 := by omega
          have hX8 : X = crcN 8 (u ^^^ s[k].toNat) := by
            have h := hh.out
            rw [show s[k].toNat / 2 ^ 8 = 0 from Nat.div_eq_of_lt hc, Nat.xor_zero] at h
            exact h
          have H8 := hide hX8
          clear hX8
          go_wp2
          go_round
          case rel => exact ⟨k + 1, by omega, by rw [HS.out, H8.out], by go_num⟩
          case measure => simp [intOf]; omega
    · obtain rfl : k = s.size := by omega
      go_wp2
      go_ret
      exact ⟨rfl, rfl⟩
end Go.Proofs.YtgaoeoijdpdjiaaDoor
