/-
  The program's Of: ErrArg, ErrLong, or the first n bytes of the whole.
-/
import Derived.Test.YtgaoeoijdpdjiaaGreatDoorPart18
namespace Go.Proofs.YtgaoeoijdpdjiaaGreatDoor
open Go.RowKit

def whole32 (s : ByteArray) : ByteArray := textOf (outs 4 (soak32 (padRow s ((s.size / 16 + 1) * 16)) (s.size / 16 + 1)) 16)
def whole64 (s : ByteArray) : ByteArray := textOf (outs 8 (soak64 (padRow s ((s.size / 32 + 1) * 32)) (s.size / 32 + 1)) 32)
theorem whole32_size (s : ByteArray) : (whole32 s).size = 16 := by unfold whole32; rw [textOf_size, outs_length]
theorem whole64_size (s : ByteArray) : (whole64 s).size = 32 := by unfold whole64; rw [textOf_size, outs_length]
theorem whole32_at (s : ByteArray) (w : World) (hs : s.size ≤ 400) (hT : Turns32 w) (hw : 0 < w.heap.size) :
    Calls Tryz.prog 146 #[.string s] w fun e w' => e = .returned (.string (whole32 s)) ∧ Below w.heap.size w w' := whole_32 s w hs hT hw
theorem whole64_at (s : ByteArray) (w : World) (hs : s.size ≤ 400) (hT : Turns64 w) (hw : 0 < w.heap.size) :
    Calls Tryz.prog 147 #[.string s] w fun e w' => e = .returned (.string (whole64 s)) ∧ Below w.heap.size w w' := whole_64 s w hs hT hw

theorem of_arg (kind n : Int) (s : ByteArray) (w : World) (h : ¬ ((kind = 1 ∨ kind = 2) ∧ 1 ≤ n ∧ n ≤ 16)) :
    Calls Tryz.prog 68 #[.int .i64 kind, .int .i64 n, .string s] w fun e w' => e = .returned (.tuple #[.string ⟨#[]⟩, .int .i64 2]) ∧ w' = w := by
  by_cases h1 : kind = 1
  · subst h1
    by_cases h2 : n < 1
    · go_enter Tryz.func68, Tryz.ntmps68
      go_wp2
      go_ret2
      exact ⟨rfl, rfl⟩
    · have h3 : 16 < n := by omega
      go_enter Tryz.func68, Tryz.ntmps68
      go_wp2
      go_ret2
      exact ⟨rfl, rfl⟩
  · by_cases h1' : kind = 2
    · subst h1'
      by_cases h2 : n < 1
      · go_enter Tryz.func68, Tryz.ntmps68
        go_wp2
        go_ret2
        exact ⟨rfl, rfl⟩
      · have h3 : 16 < n := by omega
        go_enter Tryz.func68, Tryz.ntmps68
        go_wp2
        go_ret2
        exact ⟨rfl, rfl⟩
    · go_enter Tryz.func68, Tryz.ntmps68
      go_wp2
      go_ret2
      exact ⟨rfl, rfl⟩

theorem of_long (kind n : Int) (s : ByteArray) (w : World) (h1 : kind = 1 ∨ kind = 2) (h2 : 1 ≤ n) (h3 : n ≤ 16) (hs : 400 < s.size) :
    Calls Tryz.prog 68 #[.int .i64 kind, .int .i64 n, .string s] w fun e w' => e = .returned (.tuple #[.string ⟨#[]⟩, .int .i64 3]) ∧ w' = w := by
  rcases h1 with rfl | rfl
  · go_enter Tryz.func68, Tryz.ntmps68
    go_wp2
    go_ret2
    exact ⟨rfl, rfl⟩
  · go_enter Tryz.func68, Tryz.ntmps68
    go_wp2
    go_ret2
    exact ⟨rfl, rfl⟩

theorem of_32 (n : Nat) (s : ByteArray) (w : World) (h2 : 1 ≤ n) (h3 : n ≤ 16) (hs : s.size ≤ 400) (hT : Turns32 w) (hw : 0 < w.heap.size) :
    Calls Tryz.prog 68 #[.int .i64 1, .int .i64 (n : Int), .string s] w fun e w' => e = .returned (.tuple #[.string ((whole32 s).extract 0 n), .int .i64 0]) ∧ Below w.heap.size w w' := by
  have HW := hide (whole32_at s w hs hT hw)
  have hz := whole32_size s
  clear hT
  go_enter Tryz.func68, Tryz.ntmps68
  go_wp2_with fail
  refine HW.out.mono ?_
  rintro e w1 ⟨rfl, hb⟩
  go_wp2
  go_ret2
  exact ⟨rfl, hb⟩
theorem of_64 (n : Nat) (s : ByteArray) (w : World) (h2 : 1 ≤ n) (h3 : n ≤ 16) (hs : s.size ≤ 400) (hT : Turns64 w) (hw : 0 < w.heap.size) :
    Calls Tryz.prog 68 #[.int .i64 2, .int .i64 (n : Int), .string s] w fun e w' => e = .returned (.tuple #[.string ((whole64 s).extract 0 n), .int .i64 0]) ∧ Below w.heap.size w w' := by
  have HW := hide (whole64_at s w hs hT hw)
  have hz := whole64_size s
  clear hT
  go_enter Tryz.func68, Tryz.ntmps68
  go_wp2_with fail
  refine HW.out.mono ?_
  rintro e w1 ⟨rfl, hb⟩
  go_wp2
  go_ret2
  exact ⟨rfl, hb⟩

/-- What signet.Digest answers. -/
def digAns (kind n : Int) (s : ByteArray) : ByteArray × Int :=
  if (kind = 1 ∨ kind = 2) ∧ 1 ≤ n ∧ n ≤ 16 then (if s.size ≤ 400 then (if kind = 1 then ((whole32 s).extract 0 n.toNat, 0) else ((whole64 s).extract 0 n.toNat, 0)) else (⟨#[]⟩, 3)) else (⟨#[]⟩, 2)

theorem of_ans (kind n : Int) (s : ByteArray) (w : World) (h3 : Turns32 w) (h6 : Turns64 w) (hw : 0 < w.heap.size) :
    Calls Tryz.prog 68 #[.int .i64 kind, .int .i64 n, .string s] w fun e w' => e = .returned (.tuple #[.string (digAns kind n s).1, .int .i64 (digAns kind n s).2]) ∧ Below w.heap.size w w' := by
  by_cases h : (kind = 1 ∨ kind = 2) ∧ 1 ≤ n ∧ n ≤ 16
  · obtain ⟨hk, h1, h2⟩ := h
    by_cases hs : s.size ≤ 400
    · obtain ⟨m, rfl⟩ : ∃ m : Nat, n = (m : Int) := ⟨n.toNat, by omega⟩
      rcases hk with rfl | rfl
      · refine (of_32 m s w (by omega) (by omega) hs h3 hw).mono ?_
        rintro e w' ⟨rfl, hb⟩
        exact ⟨by simp [digAns, h1, h2, hs], hb⟩
      · refine (of_64 m s w (by omega) (by omega) hs h6 hw).mono ?_
        rintro e w' ⟨rfl, hb⟩
        exact ⟨by simp [digAns, h1, h2, hs], hb⟩
    · refine (of_long kind n s w hk h1 h2 (by omega)).mono ?_
      rintro e w' ⟨rfl, rfl⟩
      exact ⟨by simp [digAns, hk, h1, h2, hs], Below.refl _ _⟩
  · refine (of_arg kind n s w h).mono ?_
    rintro e w' ⟨rfl, rfl⟩
    exact ⟨by rw [digAns, if_neg h], Below.refl _ _⟩

theorem digest_ans (kind n : Int) (s : ByteArray) (w : World) (h3 : Turns32 w) (h6 : Turns64 w) (hw : 0 < w.heap.size) :
    Calls Tryz.prog 36 #[.int .i64 kind, .int .i64 n, .string s] w fun e w' => e = .returned (.tuple #[.string (digAns kind n s).1, .int .i64 (digAns kind n s).2]) ∧ Below w.heap.size w w' := by
  have HO := hide (of_ans kind n s w h3 h6 hw)
  clear h3 h6
  go_enter Tryz.func36, Tryz.ntmps36
  go_wp2_with fail
  refine HO.out.mono ?_
  rintro e w1 ⟨rfl, hb⟩
  go_wp2
  go_ret2
  exact ⟨rfl, hb⟩
end Go.Proofs.YtgaoeoijdpdjiaaGreatDoor
