/-
  The program's padded: the text, a 1 and zeros, in a new row. A whole number in so many bytes: the document's own Number.
-/
import Derived.Test.YtgaoeoijdpdjiaaGreatDoorPart7
import Derived.Laws.MakeOwn
import Derived.Lib.BufferWrite
import Derived.Laws.CopyOwn
namespace Go.Proofs.YtgaoeoijdpdjiaaGreatDoor
open Go.RowKit
/-- The padded row of N bytes. -/
def padRow (s : ByteArray) (N : Nat) : List Nat := padL s ++ List.replicate (N - (s.size + 1)) 0
end Go.Proofs.YtgaoeoijdpdjiaaGreatDoor

namespace Go.Proofs.YtgaoeoijdpdjiaaGreatDoor
open Go.RowKit
set_option maxHeartbeats 1000000 in
theorem refNumber_any (k : Nat) (v : Int) (w : World) (hk : k ≤ 64) (hv : 0 ≤ v) (hv2 : v ≤ 9223372036854775807) :
    Calls Tryz.prog 93 #[.int .i64 v, .int .i64 k] w fun e w' => e = .returned (.string (numB k v)) ∧ Below w.heap.size w w' := by
  have HV := hide hv
  have HV2 := hide hv2
  clear hv hv2
  go_enter Tryz.func93, Tryz.ntmps93
  go_wp2
  go_loopw [0, 5, 6] (fun t s i wr => ∃ j : Nat, j ≤ k ∧ i = .int .i64 j ∧ t = .int .i64 (v / 256 ^ j) ∧ s = .string (numB j v) ∧ Hid (Below w.heap.size w wr)) (fun _ _ i _ => k - (intOf i).toNat)
  case atStart => exact ⟨0, Nat.zero_le _, rfl, by simp, rfl, Below.refl _ _⟩
  case round =>
    obtain ⟨j, hj, rfl, rfl, rfl, hb⟩ := hrel
    by_cases hlt : j < k
    · have HQ : Hid (0 ≤ v / 256 ^ j) := Int.ediv_nonneg HV.out (Int.le_of_lt (Int.pow_pos (by decide)))
      have HQ2 : Hid (v / 256 ^ j ≤ 9223372036854775807) := by
        refine Int.le_trans ?_ HV2.out
        exact Int.ediv_le_self _ HV.out
      have HD : Hid (v / 256 ^ j / 256 = v / 256 ^ (j + 1)) := by
        show v / 256 ^ j / 256 = v / 256 ^ (j + 1)
        rw [Int.ediv_ediv_of_nonneg (Int.le_of_lt (Int.pow_pos (by decide))), Int.pow_succ]
      have HS := hide (numB_succ j v)
      have hz : (numB j v).size ≤ 64 := by rw [numB_size]; omega
      generalize v / 256 ^ j = q at HQ HQ2 HD HS ⊢
      generalize numB j v = s at HS hz ⊢
      have hT := textRow (wr.alloc (.cells #[.int .u8 (q % 256)] 5)) wr.heap.size 1 [(q % 256).toNat] (by intro d hd; simp at hd; subst hd; omega) (by unfold RowK; rw [heap_alloc_new]; simp [Int.toNat_of_nonneg (Int.emod_nonneg q (show (256 : Int) ≠ 0 by decide))]) rfl
      have hdiv : (q.tdiv 256) = q / 256 := Int.tdiv_eq_ediv_of_nonneg HQ.out
      have hwr : wrap64 (q / 256) = q / 256 := by
        have := HQ.out
        have := HQ2.out
        unfold wrap64; omega
      go_wp2
      go_roundw
      case rel =>
        rw [hwr]
        exact ⟨j + 1, by omega, by go_num, by rw [HD.out], by rw [HS.out], hb.out.alloc hb.out.size _⟩
      case measure => simp [intOf]; omega
    · obtain rfl : j = k := by omega
      go_wp2
      go_ret
      exact ⟨rfl, hb.out⟩
end Go.Proofs.YtgaoeoijdpdjiaaGreatDoor
