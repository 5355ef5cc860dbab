/-
  The program's New and has.
-/
import Derived.Test.YtgaoeoijdpdjiaaGreatDoorPart42
import Derived.Test.YtgaoeoijdpdjiaaGreatDoorPart38
import Derived.Test.YtgaoeoijdpdjiaaGreatDoorPart18
import Derived.Test.YtgaoeoijdpdjiaaGreatDoorPart35
namespace Go.Proofs.YtgaoeoijdpdjiaaGreatDoor
open Go.RowKit
set_option maxRecDepth 20000 in
set_option maxHeartbeats 2000000 in
theorem has_any (k b x : Int) (t l ch : Nat) (sec rnd pub : ByteArray) (p0 p1 p2 p3 h j : Int) (w : World) (h1 : 1 ≤ t) (h2 : t ≤ 4) :
    Calls Tryz.prog 78 #[.agg #[.int .i64 k, .int .i64 b, .int .i64 x, .int .i64 t, .int .i64 l, .string sec, .string rnd, .string pub, .int .i64 p0, .int .i64 p1, .int .i64 p2, .int .i64 p3, .int .i64 ch], .int .i64 h, .int .i64 j] w fun e w' => e = .returned (.bool (decide (0 ≤ h ∧ h ≤ (t : Int) ∧ 0 ≤ j ∧ j < ((2 ^ (t - h.toNat) : Nat) : Int)))) ∧ Below w.heap.size w w' := by
  by_cases a1 : 0 ≤ h
  · by_cases a2 : h ≤ (t : Int)
    · by_cases a3 : 0 ≤ j
      · obtain ⟨n, rfl⟩ : ∃ n : Nat, h = (n : Int) := ⟨h.toNat, by omega⟩
        have e : decide (0 ≤ (n : Int) ∧ (n : Int) ≤ (t : Int) ∧ 0 ≤ j ∧ j < ((2 ^ (t - (n : Int).toNat) : Nat) : Int)) = decide (j < ((2 ^ (t - n) : Nat) : Int)) := by simp [a2, a3]
        rw [e]
        have hn : n ≤ t := by omega
        have HL := hide (setsLeaves_any k b x l t (w.alloc (.cells #[.int .i64 k, .int .i64 b, .int .i64 x, .int .i64 t, .int .i64 l, .string sec, .string rnd, .string pub, .int .i64 p0, .int .i64 p1, .int .i64 p2, .int .i64 p3, .int .i64 ch] 83)) h1 h2)
        clear e a1 a2
        rcases (show (t = 1 ∧ n = 0) ∨ (t = 1 ∧ n = 1) ∨ (t = 2 ∧ n = 0) ∨ (t = 2 ∧ n = 1) ∨ (t = 2 ∧ n = 2) ∨ (t = 3 ∧ n = 0) ∨ (t = 3 ∧ n = 1) ∨ (t = 3 ∧ n = 2) ∨ (t = 3 ∧ n = 3) ∨ (t = 4 ∧ n = 0) ∨ (t = 4 ∧ n = 1) ∨ (t = 4 ∧ n = 2) ∨ (t = 4 ∧ n = 3) ∨ (t = 4 ∧ n = 4) by omega) with ⟨rfl, rfl⟩ | ⟨rfl, rfl⟩ | ⟨rfl, rfl⟩ | ⟨rfl, rfl⟩ | ⟨rfl, rfl⟩ | ⟨rfl, rfl⟩ | ⟨rfl, rfl⟩ | ⟨rfl, rfl⟩ | ⟨rfl, rfl⟩ | ⟨rfl, rfl⟩ | ⟨rfl, rfl⟩ | ⟨rfl, rfl⟩ | ⟨rfl, rfl⟩ | ⟨rfl, rfl⟩
        all_goals
          go_enter Tryz.func78, Tryz.ntmps78
          go_wp2_with fail
          refine HL.out.mono ?_
          rintro e w1 ⟨rfl, hb1⟩
          have HB1 := hide (((Below.refl w.heap.size w).alloc (Nat.le_refl _) _).trans (hb1.mono (by simp)))
          clear hb1
          go_wp2
          go_ret
          exact ⟨rfl, HB1.out⟩
      · have e : decide (0 ≤ h ∧ h ≤ (t : Int) ∧ 0 ≤ j ∧ j < ((2 ^ (t - h.toNat) : Nat) : Int)) = false := by simp [a3]
        rw [e]
        clear e
        go_enter Tryz.func78, Tryz.ntmps78
        go_wp2
        go_ret
        exact ⟨rfl, (Below.refl _ _).alloc (Nat.le_refl _) _⟩
    · have e : decide (0 ≤ h ∧ h ≤ (t : Int) ∧ 0 ≤ j ∧ j < ((2 ^ (t - h.toNat) : Nat) : Int)) = false := by simp [a2]
      rw [e]
      clear e
      go_enter Tryz.func78, Tryz.ntmps78
      go_wp2
      go_ret
      exact ⟨rfl, (Below.refl _ _).alloc (Nat.le_refl _) _⟩
  · have e : decide (0 ≤ h ∧ h ≤ (t : Int) ∧ 0 ≤ j ∧ j < ((2 ^ (t - h.toNat) : Nat) : Int)) = false := by simp [a1]
    rw [e]
    clear e
    go_enter Tryz.func78, Tryz.ntmps78
    go_wp2
    go_ret
    exact ⟨rfl, (Below.refl _ _).alloc (Nat.le_refl _) _⟩
end Go.Proofs.YtgaoeoijdpdjiaaGreatDoor
