/-
  sets.Measure and the document's sizes, at every set.
-/
import Derived.Test.YtgaoeoijdpdjiaaMeasureA
import Derived.Test.YtgaoeoijdpdjiaaMeasureB
import Derived.Test.YtgaoeoijdpdjiaaMeasureC
import Derived.Test.YtgaoeoijdpdjiaaMeasureD
import Derived.Test.YtgaoeoijdpdjiaaPairOf
namespace Go.Proofs.Ytgaoeoijdpdjiaa
open Go.RowKit

theorem setsMeasure_yes (b x e f t l : Nat) (hp : Pair b x e f) (k : Int) (w : World) (hk : k = 1 ∨ k = 2) (h1 : 1 ≤ t) (h2 : t ≤ 4) (h3 : 1 ≤ l) (h4 : l ≤ 3) :
    Calls Try.prog 50 #[.agg #[.int .i64 k, .int .i64 b, .int .i64 x, .int .i64 t, .int .i64 l]] w fun r w' =>
      r = .returned (.tuple #[.agg #[.int .i64 ((b * e : Nat) : Int), .int .i64 f, .int .i64 ((b * e + f : Nat) : Int), .int .i64 (totalZ t l), .int .i64 (sigZ b x t l), .int .i64 ((5 + 2 * b : Nat) : Int)], .int .i64 0]) ∧ Below w.heap.size w w' := by
  rcases hp with ⟨rfl, rfl, rfl, rfl⟩ | ⟨rfl, rfl, rfl, rfl⟩ | ⟨rfl, rfl, rfl, rfl⟩ | ⟨rfl, rfl, rfl, rfl⟩
  · exact measure_4_4 k t l w hk (by omega) (by omega) (by omega) (by omega)
  · exact measure_8_4 k t l w hk (by omega) (by omega) (by omega) (by omega)
  · exact measure_4_16 k t l w hk (by omega) (by omega) (by omega) (by omega)
  · exact measure_8_16 k t l w hk (by omega) (by omega) (by omega) (by omega)

set_option maxHeartbeats 400000 in
theorem setsMeasure_no (k b x t l : Int) (w : World) (hr : rightB k b x t l = false) :
    Calls Try.prog 50 #[.agg #[.int .i64 k, .int .i64 b, .int .i64 x, .int .i64 t, .int .i64 l]] w fun r w' =>
      r = .returned (.tuple #[.agg #[.int .i64 0, .int .i64 0, .int .i64 0, .int .i64 0, .int .i64 0, .int .i64 0], .int .i64 1]) ∧ Below w.heap.size w w' := by
  have HR := hideM hr
  clear hr
  go_enter Try.func50, Try.ntmps50
  go_wp2_with fail
  refine (check_any k b x t l _).mono ?_
  rintro e w1 ⟨rfl, hb⟩
  rw [HR.out]
  obtain ⟨z0, z1, z2, z3, z4, z5⟩ := six_zero hb
  have fz : ∀ o, w1.frozen? ⟨w.heap.size + 1, o, none⟩ = false := fun o => (hb.frozen (by simp)).trans (by simp [go_sem])
  have HB := hideM ((((Below.refl _ _).alloc (Nat.le_refl _) _).alloc (by simp) _).trans (hb.mono (by simp; omega)) : Below w.heap.size w w1)
  clear hb
  go_wp2
  refine bodyPost_ret (v := .tuple #[.agg #[.int .i64 0, .int .i64 0, .int .i64 0, .int .i64 0, .int .i64 0, .int .i64 0], .int .i64 1]) (by simp [results, Try.results50, go_sem, z0, z1, z2, z3, z4, z5]) rfl ⟨rfl, ?_⟩
  iterate 6 refine Below.setCell ?_ (show w.heap.size ≤ _ by simp) _
  exact HB.out

end Go.Proofs.Ytgaoeoijdpdjiaa
