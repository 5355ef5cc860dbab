/-
  The contract of strings.Join over this program, laid by the shelf of the library. The small functions of package sets and of the statements' own package, each by its contract: pick, count, perByte, right, chains.
-/
import Derived.Shelf.Strings.OnBuilder
import Derived.Test.YtbncojflfnpikaaDoorProg
import Derived.Test.YtbncojflfnpikaaDoorRows
import Derived.WalkKit
import Derived.WalkSpells
import Derived.WalkLawsBesides
namespace Go.Proofs.YtbncojflfnpikaaDoor
open Go.Shelf Go.Proofs
def lays156_ren : Go.Shelf.Ren := ⟨fun | 156 => 139 | 165 => 149 | 166 => 150 | 169 => 151 | 240 => 155 | 241 => 156 | 276 => 157 | 277 => 158 | n => n, fun | 31 => 34 | 9 => 9 | 3 => 3 | 4 => 4 | 0 => 0 | 20 => 20 | 72 => 169 | 76 => 173 | 70 => 167 | 37 => 79 | 75 => 172 | 127 => 178 | 164 => 179 | 5 => 5 | 80 => 122 | n => n, fun | n => n⟩
theorem lays156 : Go.Proofs.Lays.n156 Tryd.prog lays156_ren := {
  mixed := by kernel_rfl
  f156 := Tryd.func139.trans (congrArg some (by kernel_rfl))
  f165 := Tryd.func149.trans (congrArg some (by kernel_rfl))
  f166 := Tryd.func150.trans (congrArg some (by kernel_rfl))
  f169 := Tryd.func151.trans (congrArg some (by kernel_rfl))
  f240 := Tryd.func155.trans (congrArg some (by kernel_rfl))
  f241 := Tryd.func156.trans (congrArg some (by kernel_rfl))
  f276 := Tryd.func157.trans (congrArg some (by kernel_rfl))
  f277 := Tryd.func158.trans (congrArg some (by kernel_rfl))
  t0 := Tryd.underlying0
  a0 := Tryd.isAgg0
  z0 := Tryd.sizeOf0
  v0 := Tryd.zeroValue0
  t3 := Tryd.underlying3
  a3 := Tryd.isAgg3
  z3 := Tryd.sizeOf3
  v3 := Tryd.zeroValue3
  t4 := Tryd.underlying4
  a4 := Tryd.isAgg4
  z4 := Tryd.sizeOf4
  v4 := Tryd.zeroValue4
  t9 := Tryd.underlying9
  a9 := Tryd.isAgg9
  z9 := Tryd.sizeOf9
  v9 := Tryd.zeroValue9
  t20 := Tryd.underlying20
  a20 := Tryd.isAgg20
  z20 := Tryd.sizeOf20
  v20 := Tryd.zeroValue20
  t31 := Tryd.underlying34
  a31 := Tryd.isAgg34
  z31 := Tryd.sizeOf34
  v31 := Tryd.zeroValue34
  t37 := Tryd.underlying79
  a37 := Tryd.isAgg79
  z37 := Tryd.sizeOf79
  v37 := Tryd.zeroValue79
  t70 := Tryd.underlying167
  a70 := Tryd.isAgg167
  z70 := Tryd.sizeOf167
  v70 := Tryd.zeroValue167
  t72 := Tryd.underlying169
  a72 := Tryd.isAgg169
  z72 := Tryd.sizeOf169
  v72 := Tryd.zeroValue169
  t75 := Tryd.underlying172
  a75 := Tryd.isAgg172
  z75 := Tryd.sizeOf172
  v75 := Tryd.zeroValue172
  t76 := Tryd.underlying173
  a76 := Tryd.isAgg173
  z76 := Tryd.sizeOf173
  v76 := Tryd.zeroValue173
  t127 := Tryd.underlying178
  a127 := Tryd.isAgg178
  z127 := Tryd.sizeOf178
  v127 := Tryd.zeroValue178
  t164 := Tryd.underlying179
  a164 := Tryd.isAgg179
  z164 := Tryd.sizeOf179
  v164 := Tryd.zeroValue179 }
theorem Builder_Extra_156 : Builder.Extra Tryd.prog lays156_ren := {
  sizeBuilder := by kernel_rfl
  liesBuilder := by kernel_rfl
  t5 := Tryd.underlying5
  a5 := Tryd.isAgg5
  z5 := Tryd.sizeOf5
  v5 := Tryd.zeroValue5
  infoByte := by kernel_rfl
  cellsByte := by kernel_rfl
  sizeByte := by kernel_rfl
  neB5 := by decide }
open Go.RowKit in
theorem strings_Join_none (a : Option Addr) (c : Nat) (sep : ByteArray) (w : World) :
    Calls Tryd.prog 139 #[.slice a 0 c, .string sep] w fun e w' => e = .returned (.string ⟨#[]⟩) ∧ w' = w := Any.strings_Join_none lays156 Builder_Extra_156 a c sep w
open Go.RowKit in
theorem strings_Join (bk o c : Nat) (xs : List ByteArray) (sep : ByteArray) (w : World) (hcells : ∀ (j : Nat) x, xs[j]? = some x → w.cell? ⟨bk, o + j, none⟩ = some (.string x)) (hbk : bk < w.heap.size) (hN : xs.length ≤ 140737488355328) (hcap : xs.length ≤ c) (hlen : (Lib.join (xs.map (·.data.toList)) sep.data.toList).length ≤ 140737488355328) :
    Calls Tryd.prog 139 #[.slice (some ⟨bk, o, none⟩) xs.length c, .string sep] w fun e w' => e = .returned (.string ⟨(Lib.join (xs.map (·.data.toList)) sep.data.toList).toArray⟩) ∧ Below w.heap.size w w' := Any.strings_Join lays156 Builder_Extra_156 bk o c xs sep w hcells hbk hN hcap hlen
end Go.Proofs.YtbncojflfnpikaaDoor

namespace Go.Proofs.YtbncojflfnpikaaDoor
open Go.RowKit

/-- What 'pick' answers. -/
def pickZ (c n : Int) : Int := if c < 0 then (-(c + 1)) % n else c % n

theorem pickZ_bd (c n : Int) (h : 1 ≤ n) : 0 ≤ pickZ c n ∧ pickZ c n < n := by
  unfold pickZ
  split
  · exact ⟨Int.emod_nonneg _ (by omega), Int.emod_lt_of_pos _ (by omega)⟩
  · exact ⟨Int.emod_nonneg _ (by omega), Int.emod_lt_of_pos _ (by omega)⟩

theorem ret_int {k : IntKind} {a b : Int} (h : a = b) : Ending.returned (.int k a) = .returned (.int k b) := by rw [h]

set_option maxHeartbeats 400000 in
theorem pick_any (c n : Int) (w : World) (h1 : 1 ≤ n) (h2 : n ≤ 4096) (hc : -9223372036854775808 ≤ c) (hc2 : c ≤ 9223372036854775807) :
    Calls Tryd.prog 19 #[.int .i64 c, .int .i64 n] w fun e w' => e = .returned (.int .i64 (pickZ c n)) ∧ w' = w := by
  by_cases h : c < 0
  · go_enter Tryd.func19, Tryd.ntmps19
    go_wp2
    go_ret
    refine ⟨ret_int ?_, rfl⟩
    unfold pickZ
    rw [if_pos h, ← Int.neg_tmod, Int.tmod_eq_emod_of_nonneg (by omega)]
  · go_enter Tryd.func19, Tryd.ntmps19
    go_wp2
    go_ret
    refine ⟨ret_int ?_, rfl⟩
    unfold pickZ
    rw [if_neg (by omega)]

/-- How many digits v has to the base b, with as many rounds as are allowed. -/
def cnt : Nat → Nat → Nat → Nat
  | 0, _, _ => 0
  | f + 1, v, b => if v = 0 then 0 else cnt f (v / b) b + 1

theorem cnt_zero (f b : Nat) : cnt f 0 b = 0 := by cases f <;> simp [cnt]
theorem cnt_step (f v b : Nat) (h : 0 < v) : cnt (f + 1) v b = cnt f (v / b) b + 1 := by simp [cnt]; omega

set_option maxHeartbeats 400000 in
theorem count_any (v b f : Nat) (w : World) (hb : 2 ≤ b) (hb2 : b ≤ 16) (hv : v < 2 ^ f) (hf : f ≤ 32) :
    Calls Tryd.prog 113 #[.int .i64 v, .int .i64 b] w fun e w' => e = .returned (.int .i64 (cnt f v b)) ∧ w' = w := by
  have H : Hid (v < 2 ^ f) := hv
  have hv2 : v < 4294967296 := Nat.lt_of_lt_of_le hv (by have := Nat.pow_le_pow_right (n := 2) (by omega) hf; simpa using this)
  clear hv
  go_enter Tryd.func113, Tryd.ntmps113
  go_wp2
  go_loop [0, 5] (fun t n => ∃ (u k g : Nat), u ≤ v ∧ k ≤ 32 ∧ k + g = f ∧ Hid (u < 2 ^ g ∧ cnt f v b = k + cnt g u b) ∧ t = .int .i64 u ∧ n = .int .i64 k) (fun t _ => (intOf t).toNat)
  case atStart => exact ⟨v, 0, f, Nat.le_refl _, by omega, by omega, ⟨H, by simp⟩, rfl, rfl⟩
  case round =>
    obtain ⟨u, k, g, hu, hk, hg, hh, rfl, rfl⟩ := hrel
    by_cases h0 : 0 < u
    · have hg0 : 0 < g := by
        rcases Nat.eq_zero_or_pos g with h | h
        · have := hh.out.1; subst h; simp at this; omega
        · exact h
      have hdv : u / b < u := Nat.div_lt_self h0 (by omega)
      have hkk : k < 32 := by omega
      have d0 : (0 : Int) ≤ (u : Int) / (b : Int) := Int.ediv_nonneg (by omega) (by omega)
      have d1 : (u : Int) / (b : Int) < (u : Int) := by exact_mod_cast hdv
      go_wp2
      go_round
      case rel =>
        obtain ⟨g, rfl⟩ : ∃ g', g = g' + 1 := ⟨g - 1, by omega⟩
        refine ⟨u / b, k + 1, g, by omega, by omega, by omega, ⟨?_, ?_⟩, by go_num, by go_num⟩
        · have := hh.out.1
          refine Nat.div_lt_of_lt_mul ?_
          refine Nat.lt_of_lt_of_le this ?_
          rw [Nat.pow_succ, Nat.mul_comm]; exact Nat.mul_le_mul_right _ hb
        · rw [hh.out.2, cnt_step _ _ _ h0]; omega
      case measure => simp [intOf]; omega
    · go_wp2
      go_ret
      have hz : u = 0 := by omega
      refine ⟨ret_int ?_, rfl⟩
      rw [hh.out.2, hz, cnt_zero]; rfl
end Go.Proofs.YtbncojflfnpikaaDoor
