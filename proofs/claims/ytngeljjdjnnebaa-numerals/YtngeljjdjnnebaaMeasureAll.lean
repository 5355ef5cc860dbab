/-
  Check and Measure, the program's and the document's, at every set.
-/
import Derived.Test.YtngeljjdjnnebaaMeasureA
import Derived.Test.YtngeljjdjnnebaaMeasureB
import Derived.Test.YtngeljjdjnnebaaMeasureC
import Derived.Test.YtngeljjdjnnebaaMeasureD
import Derived.Test.YtngeljjdjnnebaaRefSizesA
import Derived.Test.YtngeljjdjnnebaaRefSizesB
import Derived.Test.YtngeljjdjnnebaaRefSizesC
import Derived.Test.YtngeljjdjnnebaaRefSizesD
import Derived.Test.YtngeljjdjnnebaaRefCheck
import Derived.Test.YtngeljjdjnnebaaPairOf
namespace Go.Proofs.Ytngeljjdjnnebaa
open Go.RowKit

theorem setsMeasure_yes (b x e f t l : Nat) (hp : Pair b x e f) (k : Int) (w : World) (hk : k = 1 ∨ k = 2) (h1 : 1 ≤ t) (h2 : t ≤ 4) (h3 : 1 ≤ l) (h4 : l ≤ 3) :
    Calls Try.prog 26 #[.agg #[.int .i64 k, .int .i64 b, .int .i64 x, .int .i64 t, .int .i64 l]] w fun r w' =>
      r = .returned (.tuple #[.agg #[.int .i64 ((b * e : Nat) : Int), .int .i64 f, .int .i64 ((b * e + f : Nat) : Int), .int .i64 (totalZ t l), .int .i64 (sigZ b x t l), .int .i64 ((5 + 2 * b : Nat) : Int)], .int .i64 0]) ∧ Below w.heap.size w w' := by
  rcases hp with ⟨rfl, rfl, rfl, rfl⟩ | ⟨rfl, rfl, rfl, rfl⟩ | ⟨rfl, rfl, rfl, rfl⟩ | ⟨rfl, rfl, rfl, rfl⟩
  · exact measure_4_4 k t l w hk (by omega) (by omega) (by omega) (by omega)
  · exact measure_8_4 k t l w hk (by omega) (by omega) (by omega) (by omega)
  · exact measure_4_16 k t l w hk (by omega) (by omega) (by omega) (by omega)
  · exact measure_8_16 k t l w hk (by omega) (by omega) (by omega) (by omega)

theorem refSizes_yes (b x e f t l : Nat) (hp : Pair b x e f) (k : Int) (w : World) (h1 : 1 ≤ t) (h2 : t ≤ 4) (h3 : 1 ≤ l) (h4 : l ≤ 3) :
    Calls Try.prog 27 #[.agg #[.int .i64 k, .int .i64 b, .int .i64 x, .int .i64 t, .int .i64 l]] w fun r w' =>
      r = .returned (.agg #[.int .i64 ((b * e : Nat) : Int), .int .i64 f, .int .i64 ((b * e + f : Nat) : Int), .int .i64 (totalZ t l), .int .i64 (sigZ b x t l), .int .i64 ((5 + 2 * b : Nat) : Int)]) ∧ Below w.heap.size w w' := by
  rcases hp with ⟨rfl, rfl, rfl, rfl⟩ | ⟨rfl, rfl, rfl, rfl⟩ | ⟨rfl, rfl, rfl, rfl⟩ | ⟨rfl, rfl, rfl, rfl⟩
  · exact refSizes_4_4 k t l w h1 h2 h3 h4
  · exact refSizes_8_4 k t l w h1 h2 h3 h4
  · exact refSizes_4_16 k t l w h1 h2 h3 h4
  · exact refSizes_8_16 k t l w h1 h2 h3 h4

set_option maxHeartbeats 400000 in
theorem setsMeasure_no (k b x t l : Int) (w : World) (hr : rightB k b x t l = false) :
    Calls Try.prog 26 #[.agg #[.int .i64 k, .int .i64 b, .int .i64 x, .int .i64 t, .int .i64 l]] w fun r w' =>
      r = .returned (.tuple #[.agg #[.int .i64 0, .int .i64 0, .int .i64 0, .int .i64 0, .int .i64 0, .int .i64 0], .int .i64 1]) ∧ Below w.heap.size w w' := by
  have HR := hide hr
  clear hr
  go_enter Try.func26, Try.ntmps26
  go_wp2_with fail
  refine (check_any k b x t l _).mono ?_
  rintro e w1 ⟨rfl, hb⟩
  rw [HR.out]
  obtain ⟨z0, z1, z2, z3, z4, z5⟩ := six_zero hb
  have fz : ∀ o, w1.frozen? ⟨w.heap.size + 1, o, none⟩ = false := fun o => (hb.frozen (by simp)).trans (by simp [go_sem])
  have HB := hide ((((Below.refl _ _).alloc (Nat.le_refl _) _).alloc (by simp) _).trans (hb.mono (by simp; omega)) : Below w.heap.size w w1)
  clear hb
  go_wp2
  refine bodyPost_ret (v := .tuple #[.agg #[.int .i64 0, .int .i64 0, .int .i64 0, .int .i64 0, .int .i64 0, .int .i64 0], .int .i64 1]) (by simp [results, Try.results26, go_sem, z0, z1, z2, z3, z4, z5]) rfl ⟨rfl, ?_⟩
  iterate 6 refine Below.setCell ?_ (show w.heap.size ≤ _ by simp) _
  exact HB.out

set_option maxHeartbeats 400000 in
/-- signet.Measure hands on what sets.Measure answers. -/
theorem measure_on (k b x t l a0 a1 a2 a3 a4 a5 e : Int) (w : World)
    (h : ∀ w : World, Calls Try.prog 26 #[.agg #[.int .i64 k, .int .i64 b, .int .i64 x, .int .i64 t, .int .i64 l]] w fun r w' => r = .returned (.tuple #[.agg #[.int .i64 a0, .int .i64 a1, .int .i64 a2, .int .i64 a3, .int .i64 a4, .int .i64 a5], .int .i64 e]) ∧ Below w.heap.size w w') :
    Calls Try.prog 13 #[.agg #[.int .i64 k, .int .i64 b, .int .i64 x, .int .i64 t, .int .i64 l]] w fun r w' => r = .returned (.tuple #[.agg #[.int .i64 a0, .int .i64 a1, .int .i64 a2, .int .i64 a3, .int .i64 a4, .int .i64 a5], .int .i64 e]) ∧ Below w.heap.size w w' := by
  have H := hide h
  clear h
  go_enter Try.func13, Try.ntmps13
  go_wp2_with fail
  refine (H.out _).mono ?_
  rintro r w1 ⟨rfl, hb⟩
  obtain ⟨z0, z1, z2, z3, z4, z5⟩ := six_zero hb
  have fz : ∀ o, w1.frozen? ⟨w.heap.size + 1, o, none⟩ = false := fun o => (hb.frozen (by simp)).trans (by simp [go_sem])
  have HB := hide ((((Below.refl _ _).alloc (Nat.le_refl _) _).alloc (by simp) _).trans (hb.mono (by simp; omega)) : Below w.heap.size w w1)
  clear hb
  go_wp2
  refine bodyPost_ret (v := .tuple #[.agg #[.int .i64 a0, .int .i64 a1, .int .i64 a2, .int .i64 a3, .int .i64 a4, .int .i64 a5], .int .i64 e]) (by simp [results, Try.results13, go_sem, z0, z1, z2, z3, z4, z5]) rfl ⟨rfl, ?_⟩
  iterate 6 refine Below.setCell ?_ (show w.heap.size ≤ _ by simp) _
  exact HB.out

set_option maxHeartbeats 400000 in
theorem check_on (k b x t l : Int) (w : World) :
    Calls Try.prog 11 #[.agg #[.int .i64 k, .int .i64 b, .int .i64 x, .int .i64 t, .int .i64 l]] w fun e w' => e = .returned (.int .i64 (if rightB k b x t l then 0 else 1)) ∧ Below w.heap.size w w' := by
  cases hr : rightB k b x t l
  all_goals
    go_enter Try.func11, Try.ntmps11
    go_wp2_with (go_at_call 25; refine (check_any _ _ _ _ _ _).mono ?_; rintro e w' ⟨rfl, hb⟩)
    go_ret
    refine ⟨rfl, ?_⟩
    exact ((Below.refl _ _).alloc (Nat.le_refl _) _).trans (hb.mono (by simp))

set_option maxHeartbeats 400000 in
theorem refMeasure_no (k b x t l : Int) (w : World) (hr : rightB k b x t l = false) :
    Calls Try.prog 14 #[.agg #[.int .i64 k, .int .i64 b, .int .i64 x, .int .i64 t, .int .i64 l]] w fun r w' =>
      r = .returned (.tuple #[.agg #[.int .i64 0, .int .i64 0, .int .i64 0, .int .i64 0, .int .i64 0, .int .i64 0], .int .i64 1]) ∧ Below w.heap.size w w' := by
  have HR := hide hr
  clear hr
  go_enter Try.func14, Try.ntmps14
  go_wp2_with fail
  refine (refCheck_any k b x t l _).mono ?_
  rintro e w1 ⟨rfl, hb⟩
  rw [HR.out]
  obtain ⟨z0, z1, z2, z3, z4, z5⟩ := six_zero hb
  have fz : ∀ o, w1.frozen? ⟨w.heap.size + 1, o, none⟩ = false := fun o => (hb.frozen (by simp)).trans (by simp [go_sem])
  have HB := hide ((((Below.refl _ _).alloc (Nat.le_refl _) _).alloc (by simp) _).trans (hb.mono (by simp; omega)) : Below w.heap.size w w1)
  clear hb
  go_wp2
  refine bodyPost_ret (v := .tuple #[.agg #[.int .i64 0, .int .i64 0, .int .i64 0, .int .i64 0, .int .i64 0, .int .i64 0], .int .i64 1]) (by simp [results, Try.results14, go_sem, z0, z1, z2, z3, z4, z5]) rfl ⟨rfl, ?_⟩
  iterate 6 refine Below.setCell ?_ (show w.heap.size ≤ _ by simp) _
  exact HB.out

end Go.Proofs.Ytngeljjdjnnebaa
