/-
  The document's own Measure at a set that is right.
-/
import Derived.Test.YtgaoeoijdpdjiaaMeasureAll
namespace Go.Proofs.Ytgaoeoijdpdjiaa
open Go.RowKit

set_option maxHeartbeats 400000 in
theorem refMeasure_yes (k b x t l a0 a1 a2 a3 a4 a5 : Int) (w : World) (hr : rightB k b x t l = true)
    (h : ∀ w : World, Calls Try.prog 51 #[.agg #[.int .i64 k, .int .i64 b, .int .i64 x, .int .i64 t, .int .i64 l]] w fun r w' => r = .returned (.agg #[.int .i64 a0, .int .i64 a1, .int .i64 a2, .int .i64 a3, .int .i64 a4, .int .i64 a5]) ∧ Below w.heap.size w w') :
    Calls Try.prog 26 #[.agg #[.int .i64 k, .int .i64 b, .int .i64 x, .int .i64 t, .int .i64 l]] w fun r w' =>
      r = .returned (.tuple #[.agg #[.int .i64 a0, .int .i64 a1, .int .i64 a2, .int .i64 a3, .int .i64 a4, .int .i64 a5], .int .i64 0]) ∧ Below w.heap.size w w' := by
  have HR := hideM hr
  have H := hideM h
  clear hr h
  go_enter Try.func26, Try.ntmps26
  go_wp2_with fail
  refine (refCheck_any k b x t l _).mono ?_
  rintro e w1 ⟨rfl, hb⟩
  rw [HR.out]
  obtain ⟨z0, z1, z2, z3, z4, z5⟩ := six_zero hb
  have F5 : Five w1 w.heap.size k b x t l := five_below (show Five ((w.alloc (.cells #[.int .i64 k, .int .i64 b, .int .i64 x, .int .i64 t, .int .i64 l] 23)).alloc (.cells #[.int .i64 0, .int .i64 0, .int .i64 0, .int .i64 0, .int .i64 0, .int .i64 0] 72)) w.heap.size k b x t l by refine ⟨?_, ?_, ?_, ?_, ?_⟩ <;> simp [go_sem]) hb (by simp; omega)
  have fz : ∀ o, w1.frozen? ⟨w.heap.size + 1, o, none⟩ = false := fun o => (hb.frozen (by simp)).trans (by simp [go_sem])
  have hz := hb.size
  simp at hz
  have HB := hideM ((((Below.refl _ _).alloc (Nat.le_refl _) _).alloc (by simp) _).trans (hb.mono (by simp; omega)) : Below w.heap.size w w1)
  clear hb
  obtain ⟨c0, c1, c2, c3, c4⟩ := F5
  go_wp2_with fail

  refine (H.out _).mono ?_

  rintro r w2 ⟨rfl, hb2⟩
  obtain ⟨y0, y1, y2, y3, y4, y5⟩ := six_below (show Six w1 (w.heap.size + 1) 0 0 0 0 0 0 from ⟨z0, z1, z2, z3, z4, z5⟩) hb2 (by omega)
  have fy : ∀ o, w2.frozen? ⟨w.heap.size + 1, o, none⟩ = false := fun o => (hb2.frozen (by exact hz)).trans (fz o)
  have hz2 : w.heap.size + 1 < w2.heap.size := by have := hb2.size; omega
  have hz4 : ¬ w.heap.size + 1 = w2.heap.size := by omega
  have HB2 := hideM (HB.out.trans (hb2.mono (by omega)) : Below w.heap.size w w2)
  clear hb2 c0 c1 c2 c3 c4 z0 z1 z2 z3 z4 z5 fz hz
  clear HR H HB
  have g1 : ∀ o i, (w2.alloc o).cell? ⟨w.heap.size + 1, i, none⟩ = w2.cell? ⟨w.heap.size + 1, i, none⟩ := fun o i => World.cell?_alloc_past _ _ _ hz2
  have g2 : ∀ o i, (w2.alloc o).frozen? ⟨w.heap.size + 1, i, none⟩ = false := fun o i => (World.frozen?_alloc_past _ _ _ hz2).trans (fy i)
  clear hz2 hz4 fy
  go_wp2
  refine bodyPost_ret (v := .tuple #[.agg #[.int .i64 a0, .int .i64 a1, .int .i64 a2, .int .i64 a3, .int .i64 a4, .int .i64 a5], .int .i64 0]) (by simp [results, Try.results26, go_sem, g1, y0, y1, y2, y3, y4, y5]) rfl ⟨rfl, ?_⟩
  iterate 6 refine Below.setCell ?_ (show w.heap.size ≤ _ by simp) _
  exact HB2.out.alloc HB2.out.size _
end Go.Proofs.Ytgaoeoijdpdjiaa
