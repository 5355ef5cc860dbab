/-
  The statement's own 'measures': Check and Measure answer as the document's do, at every set.
-/
import Derived.Test.YtgaoeoijdpdjiaaMeasureYesR
import Derived.Test.YtgaoeoijdpdjiaaRefMeasure
namespace Go.Proofs.Ytgaoeoijdpdjiaa
open Go.RowKit

set_option maxHeartbeats 400000 in
theorem num_any (e : Int) (w : World) : Calls Try.prog 27 #[.int .i64 e] w fun r w' => r = .returned (.int .i64 e) ∧ w' = w := by
  go_enter Try.func27, Try.ntmps27
  go_wp2
  go_ret
  exact ⟨rfl, rfl⟩

set_option maxRecDepth 20000 in
theorem eq_sizes (a0 a1 a2 a3 a4 a5 : Int) (w : World) : (binOp .eql 72 (.agg #[.int .i64 a0, .int .i64 a1, .int .i64 a2, .int .i64 a3, .int .i64 a4, .int .i64 a5]) (.agg #[.int .i64 a0, .int .i64 a1, .int .i64 a2, .int .i64 a3, .int .i64 a4, .int .i64 a5])).run Try.prog w = .ok (.bool true) w := by
  simp only [binOp]
  simp [Op.equal, Op.maxDepth, run_equalIn_struct w 9999 72 _ _ Try.underlying72 (by kernel_rfl), go_sem]

set_option maxRecDepth 20000 in
set_option maxHeartbeats 400000 in
theorem measures_same (k b x t l a0 a1 a2 a3 a4 a5 e : Int) (w : World) (he : (if rightB k b x t l then (0 : Int) else 1) = e)
    (h1 : ∀ w : World, Calls Try.prog 25 #[.agg #[.int .i64 k, .int .i64 b, .int .i64 x, .int .i64 t, .int .i64 l]] w fun r w' => r = .returned (.tuple #[.agg #[.int .i64 a0, .int .i64 a1, .int .i64 a2, .int .i64 a3, .int .i64 a4, .int .i64 a5], .int .i64 e]) ∧ Below w.heap.size w w')
    (h2 : ∀ w : World, Calls Try.prog 26 #[.agg #[.int .i64 k, .int .i64 b, .int .i64 x, .int .i64 t, .int .i64 l]] w fun r w' => r = .returned (.tuple #[.agg #[.int .i64 a0, .int .i64 a1, .int .i64 a2, .int .i64 a3, .int .i64 a4, .int .i64 a5], .int .i64 e]) ∧ Below w.heap.size w w') :
    Calls Try.prog 8 #[.agg #[.int .i64 k, .int .i64 b, .int .i64 x, .int .i64 t, .int .i64 l]] w fun r w' => r = .returned (.bool true) ∧ Below w.heap.size w w' := by
  have H1 := hideM h1
  have H2 := hideM h2
  have HC := hideM (fun w' : World => check_on k b x t l w')
  have HR := hideM (fun w' : World => refCheck_any k b x t l w')
  rw [he] at HC HR
  have he0 := eq_sizes a0 a1 a2 a3 a4 a5
  clear h1 h2 he
  go_enter Try.func8, Try.ntmps8
  go_wp2_with fail
  refine (HC.out _).mono ?_
  rintro r w1 ⟨rfl, hb⟩
  have F1 := hideM (five_below (show Five (w.alloc (.cells #[.int .i64 k, .int .i64 b, .int .i64 x, .int .i64 t, .int .i64 l] 23)) w.heap.size k b x t l by refine ⟨?_, ?_, ?_, ?_, ?_⟩ <;> simp [go_sem]) hb (by simp))
  have B1 := hideM (((Below.refl _ _).alloc (Nat.le_refl _) _).trans (hb.mono (by simp)) : Below w.heap.size w w1)
  have Z1 := hideM (show w.heap.size < w1.heap.size by have := hb.size; simp at this; omega)
  clear hb
  obtain ⟨c0, c1, c2, c3, c4⟩ := F1.out
  go_wp2_with fail
  refine (HR.out _).mono ?_
  rintro r w2 ⟨rfl, hb⟩
  have F2 := hideM (five_below F1.out hb Z1.out)
  have B2 := hideM (B1.out.trans (hb.mono (Nat.le_of_lt Z1.out)) : Below w.heap.size w w2)
  have Z2 := hideM (show w.heap.size < w2.heap.size by have := hb.size; have := Z1.out; omega)
  clear hb F1 B1 Z1 c0 c1 c2 c3 c4
  obtain ⟨c0, c1, c2, c3, c4⟩ := F2.out
  go_wp2_with fail
  refine (H1.out _).mono ?_
  rintro r w3 ⟨rfl, hb⟩
  have F3 := hideM (five_below F2.out hb Z2.out)
  have B3 := hideM (B2.out.trans (hb.mono (Nat.le_of_lt Z2.out)) : Below w.heap.size w w3)
  have Z3 := hideM (show w.heap.size < w3.heap.size by have := hb.size; have := Z2.out; omega)
  clear hb F2 B2 Z2 c0 c1 c2 c3 c4
  obtain ⟨c0, c1, c2, c3, c4⟩ := F3.out
  have g1 : ∀ o i, (w3.alloc o).cell? ⟨w.heap.size, i, none⟩ = w3.cell? ⟨w.heap.size, i, none⟩ := fun o i => World.cell?_alloc_past _ _ _ Z3.out
  go_wp2_with fail
  refine (H2.out _).mono ?_
  rintro r w4 ⟨rfl, hb⟩
  have S4 := hideM (six_below (show Six (w3.alloc (.cells #[.int .i64 a0, .int .i64 a1, .int .i64 a2, .int .i64 a3, .int .i64 a4, .int .i64 a5] 72)) w3.heap.size a0 a1 a2 a3 a4 a5 by refine ⟨?_, ?_, ?_, ?_, ?_, ?_⟩ <;> simp [go_sem]) hb (by simp))
  have Z4 := hideM (show w3.heap.size < w4.heap.size by have := hb.size; simp at this; omega)
  have B4 := hideM ((B3.out.alloc (Nat.le_of_lt Z3.out) _).trans (hb.mono (by have := Z3.out; simp; omega)) : Below w.heap.size w w4)
  clear hb F3 B3 c0 c1 c2 c3 c4 g1
  obtain ⟨s0, s1, s2, s3, s4, s5⟩ := S4.out
  have g1 : ∀ o i, (w4.alloc o).cell? ⟨w3.heap.size, i, none⟩ = w4.cell? ⟨w3.heap.size, i, none⟩ := fun o i => World.cell?_alloc_past _ _ _ Z4.out
  go_wp2_with (go_at_call 27; refine (num_any e _).mono ?_; rintro r w5 ⟨rfl, rfl⟩)
  go_ret
  exact ⟨rfl, B4.out.alloc (by have := Z3.out; have := Z4.out; omega) _⟩

set_option maxRecDepth 20000 in
theorem measures_any (k b x t l : Int) (w : World) :
    Calls Try.prog 8 #[.agg #[.int .i64 k, .int .i64 b, .int .i64 x, .int .i64 t, .int .i64 l]] w fun r w' => r = .returned (.bool true) ∧ Below w.heap.size w w' := by
  cases hr : rightB k b x t l with
  | false => exact measures_same k b x t l 0 0 0 0 0 0 1 w (by rw [hr]; rfl) (fun w => measure_on k b x t l 0 0 0 0 0 0 1 w (fun w => setsMeasure_no k b x t l w hr)) (fun w => refMeasure_no k b x t l w hr)
  | true =>
    obtain ⟨b', x', e, f, t', l', hp, hk, rfl, rfl, rfl, rfl, h1, h2, h3, h4⟩ := pair_of_right hr
    exact measures_same k b' x' t' l' _ _ _ _ _ _ 0 w (by rw [hr]; rfl) (fun w => measure_on k b' x' t' l' _ _ _ _ _ _ 0 w (fun w => setsMeasure_yes b' x' e f t' l' hp k w hk h1 h2 h3 h4)) (fun w => refMeasure_yes k b' x' t' l' _ _ _ _ _ _ w hr (fun w => refSizes_yes b' x' e f t' l' hp k w h1 h2 h3 h4))
end Go.Proofs.Ytgaoeoijdpdjiaa
