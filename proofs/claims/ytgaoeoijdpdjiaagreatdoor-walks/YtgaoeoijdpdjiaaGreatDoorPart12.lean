/-
  The program's stir over words of 64 bits.
-/
import Derived.Test.YtgaoeoijdpdjiaaGreatDoorPart11
import Derived.Test.YtgaoeoijdpdjiaaGreatDoorPart5
namespace Go.Proofs.YtgaoeoijdpdjiaaGreatDoor
open Go.RowKit
set_option maxHeartbeats 4000000 in
theorem stir_64 (g : Nat) (L : List Nat) (w : World) (hr : RowK w g .u64 283 L) (hL : L.length = 8) (hW : Words 64 L) (hT : Turns64 w) (hg : 0 < g) :
    Calls Tryz.prog 228 #[.pointer (some ⟨g, 0, none⟩)] w fun e w' => e = .returned (.tuple #[]) ∧ RowK w' g .u64 283 (stirTo 64 L 8) ∧ Only g w w' := by
  have HR := hide hr
  have HL := hide hL
  have HW := hide hW
  have HT := hide hT
  clear hr hL hW hT
  go_enter Tryz.func228, Tryz.ntmps228
  go_wp2
  go_loopw [3] (fun i wr => ∃ j : Nat, j ≤ 8 ∧ i = .int .i64 j ∧ Hid (RowK wr g .u64 283 (stirTo 64 L j)) ∧ Hid (Only g w wr)) (fun i _ => 8 - (intOf i).toNat)
  case atStart => exact ⟨0, by omega, rfl, HR, Only.refl _ _⟩
  case round =>
    obtain ⟨j, hj, rfl, hr, ho⟩ := hrel
    by_cases hlt : j < 8
    · have hlen : (stirTo 64 L j).length = 8 := by rw [stirTo_length _ _ _ HL.out]
      have hwd := stirTo_words 64 L j HL.out HW.out
      have HMX := hide (fun w' h1 h2 => mix_64 g (stirTo 64 L j) w' h1 hlen hwd h2 hg)
      have HS : Hid (stirTo 64 L (j + 1) = roundW (j + 1) (mixTo 64 (stirTo 64 L j) 4)) := rfl
      have hl4 : (mixTo 64 (stirTo 64 L j) 4).length = 8 := by rw [mixTo_length]; exact hlen
      have hw4 := mixTo_words 64 (stirTo 64 L j) 4 hwd
      clear hlen hwd
      go_wp2_with fail
      refine (HMX.out _ hr.out (fun i hi => (ho.out.cell (by simp; omega)).trans (HT.out i hi))).mono ?_
      rintro e w1 ⟨rfl, hr1, ho1⟩
      clear HMX
      generalize mixTo 64 (stirTo 64 L j) 4 = K at hr1 hl4 hw4 HS
      obtain ⟨a0, a1, a2, a3, a4, a5, a6, a7, rfl⟩ := eight_of hl4
      have R1 := hide hr1
      have O1 := hide (ho.out.trans ho1)
      have c0 : w1.cell? ⟨g, 0, none⟩ = some (.int .u64 (a0 : Int)) := hr1.cell (i := 0) (by simp)
      have c4 : w1.cell? ⟨g, 4, none⟩ = some (.int .u64 (a4 : Int)) := hr1.cell (i := 4) (by simp)
      have c5 : w1.cell? ⟨g, 5, none⟩ = some (.int .u64 (a5 : Int)) := hr1.cell (i := 5) (by simp)
      have c6 : w1.cell? ⟨g, 6, none⟩ = some (.int .u64 (a6 : Int)) := hr1.cell (i := 6) (by simp)
      have c7 : w1.cell? ⟨g, 7, none⟩ = some (.int .u64 (a7 : Int)) := hr1.cell (i := 7) (by simp)
      have fz : ∀ i, w1.frozen? ⟨g, i, none⟩ = false := fun i => hr1.free i
      have x0 : a0 < 18446744073709551616 := by have := hw4 a0 (by simp); simpa using this
      have HXO : Hid (bits BinOp.xor IntKind.u64 (a0 : Int) ((j : Int) + 1) = ((a0 ^^^ (j + 1) : Nat) : Int)) := u64_xor_nat a0 (j + 1) x0 (by omega)
      clear hr1 ho1 hl4 hw4
      go_wp2
      go_region
      go_wp2
      go_region
      go_wp2
      rw [HXO.out]
      go_roundw
      case rel =>
        refine ⟨j + 1, by omega, by go_num, ?_, ?_⟩
        · have h := ((((R1.out.set 4 a5).set 5 a6).set 6 a7).set 7 a4).set 0 (a0 ^^^ (j + 1))
          have e : ((((([a0, a1, a2, a3, a4, a5, a6, a7].set 4 a5).set 5 a6).set 6 a7).set 7 a4).set 0 (a0 ^^^ (j + 1))) = roundW (j + 1) [a0, a1, a2, a3, a4, a5, a6, a7] := by simp only [List.set_cons_zero, List.set_cons_succ, roundW]
          rw [e, ← HS.out] at h
          exact h
        · unfold Hid
          repeat (first | refine Only.drew ?_ | refine Only.setCell ?_ _ _)
          exact O1.out
      case measure => simp [intOf]; omega
    · obtain rfl : j = 8 := by omega
      go_wp2
      go_end0
      exact ⟨rfl, hr.out, ho.out⟩
end Go.Proofs.YtgaoeoijdpdjiaaGreatDoor
