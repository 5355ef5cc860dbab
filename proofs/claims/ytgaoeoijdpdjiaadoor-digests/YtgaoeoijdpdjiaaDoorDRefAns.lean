/-
  The document's Digest answers as the program's.
-/
import Derived.Test.YtgaoeoijdpdjiaaDoorDSame
import Derived.Test.YtgaoeoijdpdjiaaDoorDRefDigA
import Derived.Test.YtgaoeoijdpdjiaaDoorDRefDigB
namespace Go.Proofs.YtgaoeoijdpdjiaaDoor
open Go.RowKit

theorem rdig_arg (kind n : Int) (s : ByteArray) (w : World) (h : ¬ ((kind = 1 ∨ kind = 2) ∧ 1 ≤ n ∧ n ≤ 16)) :
    Calls Tryd.prog 19 #[.int .i64 kind, .int .i64 n, .string s] w fun e w' => e = .returned (.tuple #[.string ⟨#[]⟩, .int .i64 2]) ∧ w' = w := by
  by_cases h1 : kind < 1
  · go_enter Tryd.func19, Tryd.ntmps19
    go_wp2
    go_ret2
    exact ⟨rfl, rfl⟩
  · by_cases h2 : 2 < kind
    · go_enter Tryd.func19, Tryd.ntmps19
      go_wp2
      go_ret2
      exact ⟨rfl, rfl⟩
    · by_cases h3 : n < 1
      · go_enter Tryd.func19, Tryd.ntmps19
        go_wp2
        go_ret2
        exact ⟨rfl, rfl⟩
      · have h4 : 16 < n := by omega
        go_enter Tryd.func19, Tryd.ntmps19
        go_wp2
        go_ret2
        exact ⟨rfl, rfl⟩

theorem rdig_long (kind n : Int) (s : ByteArray) (w : World) (h1 : kind = 1 ∨ kind = 2) (h2 : 1 ≤ n) (h3 : n ≤ 16) (hs : 400 < s.size) :
    Calls Tryd.prog 19 #[.int .i64 kind, .int .i64 n, .string s] w fun e w' => e = .returned (.tuple #[.string ⟨#[]⟩, .int .i64 3]) ∧ w' = w := by
  rcases h1 with rfl | rfl
  · go_enter Tryd.func19, Tryd.ntmps19
    go_wp2
    go_ret2
    exact ⟨rfl, rfl⟩
  · go_enter Tryd.func19, Tryd.ntmps19
    go_wp2
    go_ret2
    exact ⟨rfl, rfl⟩

theorem rdig_32 (n : Nat) (s : ByteArray) (w : World) (h2 : 1 ≤ n) (h3 : n ≤ 16) (hs : s.size ≤ 400) :
    Calls Tryd.prog 19 #[.int .i64 1, .int .i64 (n : Int), .string s] w fun e w' => e = .returned (.tuple #[.string ((whole32 s).extract 0 n), .int .i64 0]) ∧ Below w.heap.size w w' := by
  have HW := hide (digested_32 n s w h2 h3 hs)
  rw [← whole32_cut s n h3] at HW
  go_enter Tryd.func19, Tryd.ntmps19
  go_wp2_with fail
  refine HW.out.mono ?_
  rintro e w1 ⟨rfl, hb⟩
  go_wp2
  go_ret2
  exact ⟨rfl, hb⟩
theorem rdig_64 (n : Nat) (s : ByteArray) (w : World) (h2 : 1 ≤ n) (h3 : n ≤ 16) (hs : s.size ≤ 400) :
    Calls Tryd.prog 19 #[.int .i64 2, .int .i64 (n : Int), .string s] w fun e w' => e = .returned (.tuple #[.string ((whole64 s).extract 0 n), .int .i64 0]) ∧ Below w.heap.size w w' := by
  have HW := hide (digested_64 n s w h2 h3 hs)
  rw [← whole64_cut s n (by omega)] at HW
  go_enter Tryd.func19, Tryd.ntmps19
  go_wp2_with fail
  refine HW.out.mono ?_
  rintro e w1 ⟨rfl, hb⟩
  go_wp2
  go_ret2
  exact ⟨rfl, hb⟩

theorem rdigest_ans (kind n : Int) (s : ByteArray) (w : World) :
    Calls Tryd.prog 19 #[.int .i64 kind, .int .i64 n, .string s] w fun e w' => e = .returned (.tuple #[.string (digAns kind n s).1, .int .i64 (digAns kind n s).2]) ∧ Below w.heap.size w w' := by
  by_cases h : (kind = 1 ∨ kind = 2) ∧ 1 ≤ n ∧ n ≤ 16
  · obtain ⟨hk, h1, h2⟩ := h
    by_cases hs : s.size ≤ 400
    · obtain ⟨m, rfl⟩ : ∃ m : Nat, n = (m : Int) := ⟨n.toNat, by omega⟩
      rcases hk with rfl | rfl
      · refine (rdig_32 m s w (by omega) (by omega) hs).mono ?_
        rintro e w' ⟨rfl, hb⟩
        exact ⟨by unfold digAns; simp [h1, h2, hs], hb⟩
      · refine (rdig_64 m s w (by omega) (by omega) hs).mono ?_
        rintro e w' ⟨rfl, hb⟩
        exact ⟨by unfold digAns; simp [h1, h2, hs], hb⟩
    · refine (rdig_long kind n s w hk h1 h2 (by omega)).mono ?_
      rintro e w' ⟨rfl, rfl⟩
      exact ⟨by unfold digAns; simp [hk, h1, h2, hs], Below.refl _ _⟩
  · refine (rdig_arg kind n s w h).mono ?_
    rintro e w' ⟨rfl, rfl⟩
    exact ⟨by unfold digAns; rw [if_neg h], Below.refl _ _⟩
end Go.Proofs.YtgaoeoijdpdjiaaDoor
