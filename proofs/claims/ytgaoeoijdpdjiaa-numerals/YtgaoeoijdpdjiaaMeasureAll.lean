/-
  Check and Measure, the program's and the document's, at every set.
-/
import Derived.Test.YtgaoeoijdpdjiaaMeasureYesR
namespace Go.Proofs.Ytgaoeoijdpdjiaa
open Go.RowKit

set_option maxHeartbeats 400000 in
/-- signet.Measure hands on what sets.Measure answers. -/
theorem measure_on (k b x t l a0 a1 a2 a3 a4 a5 e : Int) (w : World)
    (h : ∀ w : World, Calls Try.prog 50 #[.agg #[.int .i64 k, .int .i64 b, .int .i64 x, .int .i64 t, .int .i64 l]] w fun r w' => r = .returned (.tuple #[.agg #[.int .i64 a0, .int .i64 a1, .int .i64 a2, .int .i64 a3, .int .i64 a4, .int .i64 a5], .int .i64 e]) ∧ Below w.heap.size w w') :
    Calls Try.prog 25 #[.agg #[.int .i64 k, .int .i64 b, .int .i64 x, .int .i64 t, .int .i64 l]] w fun r w' => r = .returned (.tuple #[.agg #[.int .i64 a0, .int .i64 a1, .int .i64 a2, .int .i64 a3, .int .i64 a4, .int .i64 a5], .int .i64 e]) ∧ Below w.heap.size w w' := by
  have H := hideM h
  clear h
  go_enter Try.func25, Try.ntmps25
  go_wp2_with fail
  refine (H.out _).mono ?_
  rintro r w1 ⟨rfl, hb⟩
  obtain ⟨z0, z1, z2, z3, z4, z5⟩ := six_zero hb
  have fz : ∀ o, w1.frozen? ⟨w.heap.size + 1, o, none⟩ = false := fun o => (hb.frozen (by simp)).trans (by simp [go_sem])
  have HB := hideM ((((Below.refl _ _).alloc (Nat.le_refl _) _).alloc (by simp) _).trans (hb.mono (by simp; omega)) : Below w.heap.size w w1)
  clear hb
  go_wp2
  refine bodyPost_ret (v := .tuple #[.agg #[.int .i64 a0, .int .i64 a1, .int .i64 a2, .int .i64 a3, .int .i64 a4, .int .i64 a5], .int .i64 e]) (by simp [results, Try.results25, go_sem, z0, z1, z2, z3, z4, z5]) rfl ⟨rfl, ?_⟩
  iterate 6 refine Below.setCell ?_ (show w.heap.size ≤ _ by simp) _
  exact HB.out

set_option maxHeartbeats 400000 in
theorem check_on (k b x t l : Int) (w : World) :
    Calls Try.prog 23 #[.agg #[.int .i64 k, .int .i64 b, .int .i64 x, .int .i64 t, .int .i64 l]] w fun e w' => e = .returned (.int .i64 (if rightB k b x t l then 0 else 1)) ∧ Below w.heap.size w w' := by
  cases hr : rightB k b x t l
  all_goals
    go_enter Try.func23, Try.ntmps23
    go_wp2_with (go_at_call 49; refine (check_any _ _ _ _ _ _).mono ?_; rintro e w' ⟨rfl, hb⟩)
    go_ret
    refine ⟨rfl, ?_⟩
    exact ((Below.refl _ _).alloc (Nat.le_refl _) _).trans (hb.mono (by simp))

set_option maxHeartbeats 400000 in
theorem refMeasure_no (k b x t l : Int) (w : World) (hr : rightB k b x t l = false) :
    Calls Try.prog 26 #[.agg #[.int .i64 k, .int .i64 b, .int .i64 x, .int .i64 t, .int .i64 l]] w fun r w' =>
      r = .returned (.tuple #[.agg #[.int .i64 0, .int .i64 0, .int .i64 0, .int .i64 0, .int .i64 0, .int .i64 0], .int .i64 1]) ∧ Below w.heap.size w w' := by
  have HR := hideM hr
  clear hr
  go_enter Try.func26, Try.ntmps26
  go_wp2_with fail
  refine (refCheck_any k b x t l _).mono ?_
  rintro e w1 ⟨rfl, hb⟩
  rw [HR.out]
  obtain ⟨z0, z1, z2, z3, z4, z5⟩ := six_zero hb
  have fz : ∀ o, w1.frozen? ⟨w.heap.size + 1, o, none⟩ = false := fun o => (hb.frozen (by simp)).trans (by simp [go_sem])
  have HB := hideM ((((Below.refl _ _).alloc (Nat.le_refl _) _).alloc (by simp) _).trans (hb.mono (by simp; omega)) : Below w.heap.size w w1)
  clear hb
  go_wp2
  refine bodyPost_ret (v := .tuple #[.agg #[.int .i64 0, .int .i64 0, .int .i64 0, .int .i64 0, .int .i64 0, .int .i64 0], .int .i64 1]) (by simp [results, Try.results26, go_sem, z0, z1, z2, z3, z4, z5]) rfl ⟨rfl, ?_⟩
  iterate 6 refine Below.setCell ?_ (show w.heap.size ≤ _ by simp) _
  exact HB.out

end Go.Proofs.Ytgaoeoijdpdjiaa
