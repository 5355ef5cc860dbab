/-
  The small functions of package sets and of the statements' own package, each by its contract: pick, count, perByte, right, chains.
-/
import Derived.Test.YtgaoeoijdpdjiaaRows
import Derived.WalkKit
import Derived.WalkSpells
import Derived.WalkLawsBesides
namespace Go.Proofs.Ytgaoeoijdpdjiaa
open Go.RowKit

/-- What 'pick' answers. -/
def pickZ (c n : Int) : Int := if c < 0 then (-(c + 1)) % n else c % n

theorem pickZ_bd (c n : Int) (h : 1 ≤ n) : 0 ≤ pickZ c n ∧ pickZ c n < n := by
  unfold pickZ
  split
  · exact ⟨Int.emod_nonneg _ (by omega), Int.emod_lt_of_pos _ (by omega)⟩
  · exact ⟨Int.emod_nonneg _ (by omega), Int.emod_lt_of_pos _ (by omega)⟩

theorem ret_int {k : IntKind} {a b : Int} (h : a = b) : Ending.returned (.int k a) = .returned (.int k b) := by rw [h]

set_option maxHeartbeats 400000 in
theorem pick_any (c n : Int) (w : World) (h1 : 1 ≤ n) (h2 : n ≤ 4096) (hc : -9223372036854775808 ≤ c) (hc2 : c ≤ 9223372036854775807) :
    Calls Try.prog 16 #[.int .i64 c, .int .i64 n] w fun e w' => e = .returned (.int .i64 (pickZ c n)) ∧ w' = w := by
  by_cases h : c < 0
  · go_enter Try.func16, Try.ntmps16
    go_wp2
    go_ret
    refine ⟨ret_int ?_, rfl⟩
    unfold pickZ
    rw [if_pos h, ← Int.neg_tmod, Int.tmod_eq_emod_of_nonneg (by omega)]
  · go_enter Try.func16, Try.ntmps16
    go_wp2
    go_ret
    refine ⟨ret_int ?_, rfl⟩
    unfold pickZ
    rw [if_neg (by omega)]

/-- How many digits v has to the base b, with as many rounds as are allowed. -/
def cnt : Nat → Nat → Nat → Nat
  | 0, _, _ => 0
  | f + 1, v, b => if v = 0 then 0 else cnt f (v / b) b + 1

theorem cnt_zero (f b : Nat) : cnt f 0 b = 0 := by cases f <;> simp [cnt]
theorem cnt_step (f v b : Nat) (h : 0 < v) : cnt (f + 1) v b = cnt f (v / b) b + 1 := by simp [cnt]; omega

set_option maxHeartbeats 400000 in
theorem count_any (v b f : Nat) (w : World) (hb : 2 ≤ b) (hb2 : b ≤ 16) (hv : v < 2 ^ f) (hf : f ≤ 32) :
    Calls Try.prog 68 #[.int .i64 v, .int .i64 b] w fun e w' => e = .returned (.int .i64 (cnt f v b)) ∧ w' = w := by
  have H : Hid (v < 2 ^ f) := hv
  have hv2 : v < 4294967296 := Nat.lt_of_lt_of_le hv (by have := Nat.pow_le_pow_right (n := 2) (by omega) hf; simpa using this)
  clear hv
  go_enter Try.func68, Try.ntmps68
  go_wp2
  go_loop [0, 5] (fun t n => ∃ (u k g : Nat), u ≤ v ∧ k ≤ 32 ∧ k + g = f ∧ Hid (u < 2 ^ g ∧ cnt f v b = k + cnt g u b) ∧ t = .int .i64 u ∧ n = .int .i64 k) (fun t _ => (intOf t).toNat)
  case atStart => exact ⟨v, 0, f, Nat.le_refl _, by omega, by omega, ⟨H, by simp⟩, rfl, rfl⟩
  case round =>
    obtain ⟨u, k, g, hu, hk, hg, hh, rfl, rfl⟩ := hrel
    by_cases h0 : 0 < u
    · have hg0 : 0 < g := by
        rcases Nat.eq_zero_or_pos g with h | h
        · have := hh.out.1; subst h; simp at this; omega
        · exact h
      have hdv : u / b < u := Nat.div_lt_self h0 (by omega)
      have hkk : k < 32 := by omega
      have d0 : (0 : Int) ≤ (u : Int) / (b : Int) := Int.ediv_nonneg (by omega) (by omega)
      have d1 : (u : Int) / (b : Int) < (u : Int) := by exact_mod_cast hdv
      go_wp2
      go_round
      case rel =>
        obtain ⟨g, rfl⟩ : ∃ g', g = g' + 1 := ⟨g - 1, by omega⟩
        refine ⟨u / b, k + 1, g, by omega, by omega, by omega, ⟨?_, ?_⟩, by go_num, by go_num⟩
        · have := hh.out.1
          refine Nat.div_lt_of_lt_mul ?_
          refine Nat.lt_of_lt_of_le this ?_
          rw [Nat.pow_succ, Nat.mul_comm]; exact Nat.mul_le_mul_right _ hb
        · rw [hh.out.2, cnt_step _ _ _ h0]; omega
      case measure => simp [intOf]; omega
    · go_wp2
      go_ret
      have hz : u = 0 := by omega
      refine ⟨ret_int ?_, rfl⟩
      rw [hh.out.2, hz, cnt_zero]; rfl
end Go.Proofs.Ytgaoeoijdpdjiaa
