/-
  The check sum, the program's and the document's: both are one plain function of the bytes. The contract of strings.Join over this program, laid by the shelf of the library. The small functions of package sets and of the statements' own package, each by its contract: pick, count, perByte, right, chains.
-/
import Derived.Test.YtbncojflfnpikaaDoorRows
import Derived.WalkKit
import Derived.WalkSpells
import Derived.WalkLawsBesides
import Derived.Laws.BitsAllLaws
import Derived.Handy
import Derived.Shelf.Strings.OnBuilder
import Derived.Test.YtbncojflfnpikaaDoorProg
namespace Go.Proofs.YtbncojflfnpikaaDoor
open Go.RowKit

theorem hide {p : Prop} (h : p) : Hid p := h

/-- One bit's step. -/
def crcStep (v : Nat) : Nat := if v % 2 = 1 then (v / 2) ^^^ 3988292384 else v / 2
def crcN : Nat → Nat → Nat
  | 0, v => v
  | n + 1, v => crcStep (crcN n v)

theorem crcStep_lt (v : Nat) (h : v < 4294967296) : crcStep v < 4294967296 := by
  unfold crcStep
  split
  · exact Nat.xor_lt_two_pow (n := 32) (by omega) (by decide)
  · omega
theorem crcN_lt (n v : Nat) (h : v < 4294967296) : crcN n v < 4294967296 := by
  induction n with
  | zero => exact h
  | succ n ih => exact crcStep_lt _ ih

theorem and_one (u : Nat) (hu : u < 4294967296) : bits BinOp.and IntKind.u32 (u : Int) 1 = ((u % 2 : Nat) : Int) := by
  have h := u32_and_nat u 1 hu (by decide)
  rw [Nat.and_one_is_mod] at h
  exact h

theorem xor_pat (u : Nat) (hu : u < 4294967296) : bits BinOp.xor IntKind.u32 ((u : Int) / 2) 3988292384 = ((u / 2 ^^^ 3988292384 : Nat) : Int) := by
  have h := u32_xor_nat (u / 2) 3988292384 (by omega) (by decide)
  rw [Int.natCast_ediv] at h
  exact h

set_option maxHeartbeats 400000 in
theorem shifted_any (v : Nat) (w : World) (hv : v < 4294967296) :
    Calls Tryd.prog 100 #[.int .u32 v] w fun e w' => e = .returned (.int .u32 ((crcN 8 v : Nat) : Int)) ∧ w' = w := by
  go_enter Tryd.func100, Tryd.ntmps100
  go_wp2
  go_loop [0, 4] (fun t i => ∃ k : Nat, k ≤ 8 ∧ t = .int .u32 ((crcN k v : Nat) : Int) ∧ i = .int .i64 k) (fun _ i => 8 - (intOf i).toNat)
  case atStart => exact ⟨0, by omega, rfl, rfl⟩
  case round =>
    obtain ⟨k, hk, rfl, rfl⟩ := hrel
    have hu := crcN_lt k v hv
    have HS : Hid (crcN (k + 1) v = crcStep (crcN k v)) := rfl
    generalize hq : crcN k v = u at hu HS ⊢
    have HQ := hide hq
    clear hq
    by_cases hlt : k < 8
    · have ha := and_one u hu
      by_cases h2 : u % 2 = 1
      · have hb : (bits BinOp.and IntKind.u32 (u : Int) 1 == 1) = true := by rw [ha, h2]; rfl
        clear ha
        go_wp2
        go_round
        case rel => exact ⟨k + 1, by omega, by rw [HS.out, crcStep, if_pos h2, xor_pat u hu], by go_num⟩
        case measure => simp [intOf]; omega
      · have hb : (bits BinOp.and IntKind.u32 (u : Int) 1 == 1) = false := by rw [ha, show u % 2 = 0 by omega]; rfl
        clear ha
        go_wp2
        go_round
        case rel => exact ⟨k + 1, by omega, by rw [HS.out, crcStep, if_neg h2, Int.natCast_ediv]; rfl, by go_num⟩
        case measure => simp [intOf]; omega
    · obtain rfl : k = 8 := by omega
      go_wp2
      go_ret
      exact ⟨by rw [HQ.out]; rfl, rfl⟩

/-- The sum's state behind k bytes. -/
def crcTo (s : ByteArray) : Nat → Nat
  | 0 => 4294967295
  | k + 1 => crcN 8 (crcTo s k ^^^ (s.data.toList.map UInt8.toNat).getD k 0)

theorem byte_lt (s : ByteArray) (k : Nat) : (s.data.toList.map UInt8.toNat).getD k 0 < 256 := by
  by_cases h : k < (s.data.toList.map UInt8.toNat).length
  · rw [List.getD_eq_getElem?_getD, List.getElem?_eq_getElem h]
    simp only [Option.getD_some, List.getElem_map]
    exact UInt8.toNat_lt _
  · rw [List.getD_eq_getElem?_getD, List.getElem?_eq_none (by omega)]
    decide
theorem byte_eq (s : ByteArray) (k : Nat) (h : k < s.size) : (s.data.toList.map UInt8.toNat).getD k 0 = (s[k]'h).toNat := by
  rw [List.getD_eq_getElem?_getD, List.getElem?_map, List.getElem?_eq_getElem (by simpa using h)]
  rfl
theorem crcTo_lt (s : ByteArray) (k : Nat) : crcTo s k < 4294967296 := by
  cases k with
  | zero => show 4294967295 < 4294967296; decide
  | succ k =>
    have h1 := crcTo_lt s k
    exact crcN_lt _ _ (Nat.xor_lt_two_pow (n := 32) h1 (Nat.lt_trans (byte_lt s k) (by decide)))

theorem not_u32 (v : Nat) (h : v < 4294967296) : wrap64 (bits BinOp.xor IntKind.u32 IntKind.u32.max (v : Int)) = 4294967295 - (v : Int) := by
  have e : (4294967295 ^^^ v) = 4294967295 - v := by
    have h1 : (BitVec.allOnes 32 ^^^ BitVec.ofNat 32 v) = ~~~ BitVec.ofNat 32 v := BitVec.allOnes_xor
    have h2 := congrArg BitVec.toNat h1
    simp only [BitVec.toNat_xor, BitVec.toNat_allOnes, BitVec.toNat_not, BitVec.toNat_ofNat] at h2
    rw [Nat.mod_eq_of_lt (show v < 2 ^ 32 by omega)] at h2
    exact h2
  have h1 := u32_xor_nat 4294967295 v (by decide) h
  rw [e] at h1
  show wrap64 (bits BinOp.xor IntKind.u32 4294967295 (v : Int)) = _
  have h2 : bits BinOp.xor IntKind.u32 4294967295 (v : Int) = 4294967295 - (v : Int) := by
    refine h1.trans ?_
    omega
  rw [h2]
  exact IntWalk.wrap64_in _ ⟨by omega, by omega⟩

set_option maxHeartbeats 400000 in
theorem sum_any (s : ByteArray) (w : World) (hs : s.size ≤ maxLen) :
    Calls Tryd.prog 65 #[.string s] w fun e w' => e = .returned (.int .i64 (4294967295 - ((crcTo s s.size : Nat) : Int))) ∧ w' = w := by
  unfold maxLen at hs
  go_enter Tryd.func65, Tryd.ntmps65
  go_wp2
  go_loop [3, 7] (fun t i => ∃ k : Nat, k ≤ s.size ∧ t = .int .u32 ((crcTo s k : Nat) : Int) ∧ i = .int .i64 k) (fun _ i => s.size - (intOf i).toNat)
  case atStart => exact ⟨0, by omega, rfl, rfl⟩
  case round =>
    obtain ⟨k, hk, rfl, rfl⟩ := hrel
    have hu := crcTo_lt s k
    by_cases hlt : k < s.size
    · have hc := UInt8.toNat_lt s[k]
      have HX : Hid (bits BinOp.xor IntKind.u32 ((crcTo s k : Nat) : Int) (((s[k].toNat : Nat) : Int)) = ((crcTo s k ^^^ s[k].toNat : Nat) : Int)) := u32_xor_nat _ _ hu (by omega)
      have hlt2 : crcTo s k ^^^ s[k].toNat < 4294967296 := Nat.xor_lt_two_pow (n := 32) hu (by omega)
      have HS : Hid (crcTo s (k + 1) = crcN 8 (crcTo s k ^^^ s[k].toNat)) := by show crcTo s (k + 1) = _; rw [crcTo, byte_eq s k hlt]
      have HSH := hide (fun w' : World => shifted_any _ w' hlt2)
      generalize crcTo s k = u at hu HX hlt2 HS HSH ⊢
      go_wp2_with fail
      rw [HX.out]
      refine (HSH.out _).mono ?_
      rintro e w1 ⟨rfl, rfl⟩
      go_wp2
      go_round
      case rel => exact ⟨k + 1, by omega, by rw [HS.out], by go_num⟩
      case measure => simp [intOf]; omega
    · obtain rfl : k = s.size := by omega
      have HN := hide (not_u32 _ hu)
      go_wp2
      go_ret
      exact ⟨by rw [← HN.out]; rfl, rfl⟩

theorem ref_step (X c k V : Nat) (h : X ^^^ (c / 2 ^ k) = V) :
    ((V % 2 = 1) ↔ (X % 2 ≠ c / 2 ^ k % 2)) ∧ (X / 2) ^^^ (c / 2 ^ (k + 1)) = V / 2 ∧ ((X / 2) ^^^ 3988292384) ^^^ (c / 2 ^ (k + 1)) = (V / 2) ^^^ 3988292384 := by
  have e1 : c / 2 ^ (k + 1) = c / 2 ^ k / 2 := by rw [Nat.pow_succ, Nat.div_div_eq_div_mul]
  have e2 : (X / 2) ^^^ (c / 2 ^ (k + 1)) = V / 2 := by rw [e1, ← h, Nat.xor_div_two]
  refine ⟨?_, e2, ?_⟩
  · rw [← h, Nat.xor_mod_two_eq_one]
    have h1 := Nat.mod_two_eq_zero_or_one X
    have h2 := Nat.mod_two_eq_zero_or_one (c / 2 ^ k)
    omega
  · rw [← e2, Nat.xor_assoc, Nat.xor_comm 3988292384, ← Nat.xor_assoc]

theorem xor_i64 (a b : Nat) (ha : a < 4294967296) (hb : b < 4294967296) : bits BinOp.xor IntKind.i64 (a : Int) (b : Int) = ((a ^^^ b : Nat) : Int) := by
  have ha' : a % 2 ^ IntKind.i64.bits = a := Nat.mod_eq_of_lt (Nat.lt_trans ha (by decide))
  have hb' : b % 2 ^ IntKind.i64.bits = b := Nat.mod_eq_of_lt (Nat.lt_trans hb (by decide))
  have hl : a ^^^ b < 4294967296 := Nat.xor_lt_two_pow (n := 32) ha hb
  simp only [bits, BitVec.ofInt_natCast, BitVec.toNat_xor, BitVec.toNat_ofNat, ha', hb']
  rw [IntKind.wrap_i64]
  omega

theorem ref_test (c q : Nat) (hc : c < 256) : (wrap64 ((c : Int) / 2 ^ q)).tmod 2 = ((c / 2 ^ q % 2 : Nat) : Int) := by
  have e : (c : Int) / 2 ^ q = ((c / 2 ^ q : Nat) : Int) := by rw [Int.natCast_ediv]; rfl
  have hle : c / 2 ^ q ≤ c := Nat.div_le_self _ _
  rw [e]
  generalize c / 2 ^ q = z at hle
  rw [IntWalk.wrap64_in _ ⟨by omega, by omega⟩, Int.tmod_eq_emod_of_nonneg (by omega)]
  rfl

set_option maxHeartbeats 1000000 in
theorem refSum_any (s : ByteArray) (w : World) (hs : s.size ≤ maxLen) :
    Calls Tryd.prog 36 #[.string s] w fun e w' => e = .returned (.int .i64 (4294967295 - ((crcTo s s.size : Nat) : Int))) ∧ w' = w := by
  unfold maxLen at hs
  go_enter Tryd.func36, Tryd.ntmps36
  go_wp2
  go_loop [3, 4] (fun t i => ∃ k : Nat, k ≤ s.size ∧ t = .int .i64 ((crcTo s k : Nat) : Int) ∧ i = .int .i64 k) (fun _ i => s.size - (intOf i).toNat)
  case atStart => exact ⟨0, by omega, rfl, rfl⟩
  case round =>
    obtain ⟨k, hk, rfl, rfl⟩ := hrel
    have hu := crcTo_lt s k
    by_cases hlt : k < s.size
    · have hc := UInt8.toNat_lt s[k]
      have HS : Hid (crcTo s (k + 1) = crcN 8 (crcTo s k ^^^ s[k].toNat)) := by show crcTo s (k + 1) = _; rw [crcTo, byte_eq s k hlt]
      generalize crcTo s k = u at hu HS ⊢
      go_wp2
      go_loop [3, 5] (fun t i => ∃ q X : Nat, q ≤ 8 ∧ X < 4294967296 ∧ Hid (X ^^^ (s[k].toNat / 2 ^ q) = crcN q (u ^^^ s[k].toNat)) ∧ t = .int .i64 X ∧ i = .int .i64 q) (fun _ i => 8 - (intOf i).toNat)
      case atStart => exact ⟨0, u, by omega, hu, by unfold Hid; simp [crcN], rfl, rfl⟩
      case round =>
        obtain ⟨q, X, hq, hX, hh, rfl, rfl⟩ := hrel
        by_cases hq8 : q < 8
        · obtain ⟨r1, r2, r3⟩ := ref_step X s[k].toNat q _ hh.out
          have HT := hide (ref_test s[k].toNat q hc)
          have HX2 := hide (xor_i64 (X / 2) 3988292384 (by omega) (by decide))
          have hxl : X / 2 ^^^ 3988292384 < 4294967296 := Nat.xor_lt_two_pow (n := 32) (by omega) (by decide)
          have R1 := hide r1
          have R2 := hide r2
          have R3 := hide r3
          clear r1 r2 r3
          by_cases h2 : X % 2 ≠ s[k].toNat / 2 ^ q % 2
          · have hb : ((X : Int) % 2 != (wrap64 (((s[k].toNat : Nat) : Int) / 2 ^ q)).tmod 2) = true := by rw [HT.out, bne_iff_ne]; omega
            clear h2
            have H2 := hide hb
            go_wp2
            go_round
            case rel =>
              refine ⟨q + 1, X / 2 ^^^ 3988292384, by omega, hxl, ?_, ?_, by go_num⟩
              · have hv : crcN q (u ^^^ s[k].toNat) % 2 = 1 := R1.out.2 (by have h := H2.out; rw [HT.out, bne_iff_ne] at h; omega)
                show _ = crcStep _
                rw [crcStep, if_pos hv]
                exact R3.out
              · have h := HX2.out
                rw [Int.natCast_ediv] at h
                exact congrArg _ h
            case measure => simp [intOf]; omega
          · have hb : ((X : Int) % 2 != (wrap64 (((s[k].toNat : Nat) : Int) / 2 ^ q)).tmod 2) = false := by rw [HT.out, bne_eq_false_iff_eq]; omega
            clear h2
            have H2 := hide hb
            go_wp2
            go_round
            case rel =>
              refine ⟨q + 1, X / 2, by omega, by omega, ?_, by rw [Int.natCast_ediv]; rfl, by go_num⟩
              have hv : ¬ crcN q (u ^^^ s[k].toNat) % 2 = 1 := fun e => R1.out.1 e (by have h := H2.out; rw [HT.out, bne_eq_false_iff_eq] at h; omega)
              show _ = crcStep _
              rw [crcStep, if_neg hv]
              exact R2.out
            case measure => simp [intOf]; omega
        · obtain rfl : q = 8 := by omega
          have hX8 : X = crcN 8 (u ^^^ s[k].toNat) := by
            have h := hh.out
            rw [show s[k].toNat / 2 ^ 8 = 0 from Nat.div_eq_of_lt hc, Nat.xor_zero] at h
            exact h
          have H8 := hide hX8
          clear hX8
          go_wp2
          go_round
          case rel => exact ⟨k + 1, by omega, by rw [HS.out, H8.out], by go_num⟩
          case measure => simp [intOf]; omega
    · obtain rfl : k = s.size := by omega
      go_wp2
      go_ret
      exact ⟨rfl, rfl⟩
end Go.Proofs.YtbncojflfnpikaaDoor

namespace Go.Proofs.YtbncojflfnpikaaDoor
open Go.Shelf Go.Proofs
def lays156_ren : Go.Shelf.Ren := ⟨fun | 156 => 139 | 165 => 149 | 166 => 150 | 169 => 151 | 240 => 155 | 241 => 156 | 276 => 157 | 277 => 158 | n => n, fun | 31 => 34 | 9 => 9 | 3 => 3 | 4 => 4 | 0 => 0 | 20 => 20 | 72 => 169 | 76 => 173 | 70 => 167 | 37 => 79 | 75 => 172 | 127 => 178 | 164 => 179 | 5 => 5 | 80 => 122 | n => n, fun | n => n⟩
theorem lays156 : Go.Proofs.Lays.n156 Tryd.prog lays156_ren := {
  mixed := by kernel_rfl
  f156 := Tryd.func139.trans (congrArg some (by kernel_rfl))
  f165 := Tryd.func149.trans (congrArg some (by kernel_rfl))
  f166 := Tryd.func150.trans (congrArg some (by kernel_rfl))
  f169 := Tryd.func151.trans (congrArg some (by kernel_rfl))
  f240 := Tryd.func155.trans (congrArg some (by kernel_rfl))
  f241 := Tryd.func156.trans (congrArg some (by kernel_rfl))
  f276 := Tryd.func157.trans (congrArg some (by kernel_rfl))
  f277 := Tryd.func158.trans (congrArg some (by kernel_rfl))
  t0 := Tryd.underlying0
  a0 := Tryd.isAgg0
  z0 := Tryd.sizeOf0
  v0 := Tryd.zeroValue0
  t3 := Tryd.underlying3
  a3 := Tryd.isAgg3
  z3 := Tryd.sizeOf3
  v3 := Tryd.zeroValue3
  t4 := Tryd.underlying4
  a4 := Tryd.isAgg4
  z4 := Tryd.sizeOf4
  v4 := Tryd.zeroValue4
  t9 := Tryd.underlying9
  a9 := Tryd.isAgg9
  z9 := Tryd.sizeOf9
  v9 := Tryd.zeroValue9
  t20 := Tryd.underlying20
  a20 := Tryd.isAgg20
  z20 := Tryd.sizeOf20
  v20 := Tryd.zeroValue20
  t31 := Tryd.underlying34
  a31 := Tryd.isAgg34
  z31 := Tryd.sizeOf34
  v31 := Tryd.zeroValue34
  t37 := Tryd.underlying79
  a37 := Tryd.isAgg79
  z37 := Tryd.sizeOf79
  v37 := Tryd.zeroValue79
  t70 := Tryd.underlying167
  a70 := Tryd.isAgg167
  z70 := Tryd.sizeOf167
  v70 := Tryd.zeroValue167
  t72 := Tryd.underlying169
  a72 := Tryd.isAgg169
  z72 := Tryd.sizeOf169
  v72 := Tryd.zeroValue169
  t75 := Tryd.underlying172
  a75 := Tryd.isAgg172
  z75 := Tryd.sizeOf172
  v75 := Tryd.zeroValue172
  t76 := Tryd.underlying173
  a76 := Tryd.isAgg173
  z76 := Tryd.sizeOf173
  v76 := Tryd.zeroValue173
  t127 := Tryd.underlying178
  a127 := Tryd.isAgg178
  z127 := Tryd.sizeOf178
  v127 := Tryd.zeroValue178
  t164 := Tryd.underlying179
  a164 := Tryd.isAgg179
  z164 := Tryd.sizeOf179
  v164 := Tryd.zeroValue179 }
theorem Builder_Extra_156 : Builder.Extra Tryd.prog lays156_ren := {
  sizeBuilder := by kernel_rfl
  liesBuilder := by kernel_rfl
  t5 := Tryd.underlying5
  a5 := Tryd.isAgg5
  z5 := Tryd.sizeOf5
  v5 := Tryd.zeroValue5
  infoByte := by kernel_rfl
  cellsByte := by kernel_rfl
  sizeByte := by kernel_rfl
  neB5 := by decide }
open Go.RowKit in
theorem strings_Join_none (a : Option Addr) (c : Nat) (sep : ByteArray) (w : World) :
    Calls Tryd.prog 139 #[.slice a 0 c, .string sep] w fun e w' => e = .returned (.string ⟨#[]⟩) ∧ w' = w := Any.strings_Join_none lays156 Builder_Extra_156 a c sep w
open Go.RowKit in
theorem strings_Join (bk o c : Nat) (xs : List ByteArray) (sep : ByteArray) (w : World) (hcells : ∀ (j : Nat) x, xs[j]? = some x → w.cell? ⟨bk, o + j, none⟩ = some (.string x)) (hbk : bk < w.heap.size) (hN : xs.length ≤ 140737488355328) (hcap : xs.length ≤ c) (hlen : (Lib.join (xs.map (·.data.toList)) sep.data.toList).length ≤ 140737488355328) :
    Calls Tryd.prog 139 #[.slice (some ⟨bk, o, none⟩) xs.length c, .string sep] w fun e w' => e = .returned (.string ⟨(Lib.join (xs.map (·.data.toList)) sep.data.toList).toArray⟩) ∧ Below w.heap.size w w' := Any.strings_Join lays156 Builder_Extra_156 bk o c xs sep w hcells hbk hN hcap hlen
end Go.Proofs.YtbncojflfnpikaaDoor

namespace Go.Proofs.YtbncojflfnpikaaDoor
open Go.RowKit

/-- What 'pick' answers. -/
def pickZ (c n : Int) : Int := if c < 0 then (-(c + 1)) % n else c % n

theorem pickZ_bd (c n : Int) (h : 1 ≤ n) : 0 ≤ pickZ c n ∧ pickZ c n < n := by
  unfold pickZ
  split
  · exact ⟨Int.emod_nonneg _ (by omega), Int.emod_lt_of_pos _ (by omega)⟩
  · exact ⟨Int.emod_nonneg _ (by omega), Int.emod_lt_of_pos _ (by omega)⟩

theorem ret_int {k : IntKind} {a b : Int} (h : a = b) : Ending.returned (.int k a) = .returned (.int k b) := by rw [h]

set_option maxHeartbeats 400000 in
theorem pick_any (c n : Int) (w : World) (h1 : 1 ≤ n) (h2 : n ≤ 4096) (hc : -9223372036854775808 ≤ c) (hc2 : c ≤ 9223372036854775807) :
    Calls Tryd.prog 19 #[.int .i64 c, .int .i64 n] w fun e w' => e = .returned (.int .i64 (pickZ c n)) ∧ w' = w := by
  by_cases h : c < 0
  · go_enter Tryd.func19, Tryd.ntmps19
    go_wp2
    go_ret
    refine ⟨ret_int ?_, rfl⟩
    unfold pickZ
    rw [if_pos h, ← Int.neg_tmod, Int.tmod_eq_emod_of_nonneg (by omega)]
  · go_enter Tryd.func19, Tryd.ntmps19
    go_wp2
    go_ret
    refine ⟨ret_int ?_, rfl⟩
    unfold pickZ
    rw [if_neg (by omega)]

/-- How many digits v has to the base b, with as many rounds as are allowed. -/
def cnt : Nat → Nat → Nat → Nat
  | 0, _, _ => 0
  | f + 1, v, b => if v = 0 then 0 else cnt f (v / b) b + 1

theorem cnt_zero (f b : Nat) : cnt f 0 b = 0 := by cases f <;> simp [cnt]
theorem cnt_step (f v b : Nat) (h : 0 < v) : cnt (f + 1) v b = cnt f (v / b) b + 1 := by simp [cnt]; omega

set_option maxHeartbeats 400000 in
theorem count_any (v b f : Nat) (w : World) (hb : 2 ≤ b) (hb2 : b ≤ 16) (hv : v < 2 ^ f) (hf : f ≤ 32) :
    Calls Tryd.prog 113 #[.int .i64 v, .int .i64 b] w fun e w' => e = .returned (.int .i64 (cnt f v b)) ∧ w' = w := by
  have H : Hid (v < 2 ^ f) := hv
  have hv2 : v < 4294967296 := Nat.lt_of_lt_of_le hv (by have := Nat.pow_le_pow_right (n := 2) (by omega) hf; simpa using this)
  clear hv
  go_enter Tryd.func113, Tryd.ntmps113
  go_wp2
  go_loop [0, 5] (fun t n => ∃ (u k g : Nat), u ≤ v ∧ k ≤ 32 ∧ k + g = f ∧ Hid (u < 2 ^ g ∧ cnt f v b = k + cnt g u b) ∧ t = .int .i64 u ∧ n = .int .i64 k) (fun t _ => (intOf t).toNat)
  case atStart => exact ⟨v, 0, f, Nat.le_refl _, by omega, by omega, ⟨H, by simp⟩, rfl, rfl⟩
  case round =>
    obtain ⟨u, k, g, hu, hk, hg, hh, rfl, rfl⟩ := hrel
    by_cases h0 : 0 < u
    · have hg0 : 0 < g := by
        rcases Nat.eq_zero_or_pos g with h | h
        · have := hh.out.1; subst h; simp at this; omega
        · exact h
      have hdv : u / b < u := Nat.div_lt_self h0 (by omega)
      have hkk : k < 32 := by omega
      have d0 : (0 : Int) ≤ (u : Int) / (b : Int) := Int.ediv_nonneg (by omega) (by omega)
      have d1 : (u : Int) / (b : Int) < (u : Int) := by exact_mod_cast hdv
      go_wp2
      go_round
      case rel =>
        obtain ⟨g, rfl⟩ : ∃ g', g = g' + 1 := ⟨g - 1, by omega⟩
        refine ⟨u / b, k + 1, g, by omega, by omega, by omega, ⟨?_, ?_⟩, by go_num, by go_num⟩
        · have := hh.out.1
          refine Nat.div_lt_of_lt_mul ?_
          refine Nat.lt_of_lt_of_le this ?_
          rw [Nat.pow_succ, Nat.mul_comm]; exact Nat.mul_le_mul_right _ hb
        · rw [hh.out.2, cnt_step _ _ _ h0]; omega
      case measure => simp [intOf]; omega
    · go_wp2
      go_ret
      have hz : u = 0 := by omega
      refine ⟨ret_int ?_, rfl⟩
      rw [hh.out.2, hz, cnt_zero]; rfl
end Go.Proofs.YtbncojflfnpikaaDoor
