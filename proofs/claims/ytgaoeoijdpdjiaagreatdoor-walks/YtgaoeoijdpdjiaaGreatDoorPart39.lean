/-
  sets.Measure and the document's sizes, at every set. The document's own sizes at the sets with Bytes 4 and Wide 16. The document's sizes, at every set.
-/
import Derived.Test.YtgaoeoijdpdjiaaGreatDoorPart35
import Derived.Test.YtgaoeoijdpdjiaaGreatDoorPart36
import Derived.Test.YtgaoeoijdpdjiaaGreatDoorPart3
import Derived.Test.YtgaoeoijdpdjiaaGreatDoorPart5
import Derived.Test.YtgaoeoijdpdjiaaGreatDoorPart34
import Derived.Handy
import Derived.Deep.RegionHeld3
import Derived.Deep.DrawnRows
import Derived.Test.YtgaoeoijdpdjiaaGreatDoorPart37
import Derived.Test.YtgaoeoijdpdjiaaGreatDoorPart38
namespace Go.Proofs.YtgaoeoijdpdjiaaGreatDoor
open Go.RowKit
theorem setsMeasure_yes (b x e f t l : Nat) (hp : Pair b x e f) (k : Int) (w : World) (hk : k = 1 ∨ k = 2) (h1 : 1 ≤ t) (h2 : t ≤ 4) (h3 : 1 ≤ l) (h4 : l ≤ 3) :
    Calls Tryz.prog 69 #[.agg #[.int .i64 k, .int .i64 b, .int .i64 x, .int .i64 t, .int .i64 l]] w fun r w' =>
      r = .returned (.tuple #[.agg #[.int .i64 ((b * e : Nat) : Int), .int .i64 f, .int .i64 ((b * e + f : Nat) : Int), .int .i64 (totalZ t l), .int .i64 (sigZ b x t l), .int .i64 ((5 + 2 * b : Nat) : Int)], .int .i64 0]) ∧ Below w.heap.size w w' := by
  rcases hp with ⟨rfl, rfl, rfl, rfl⟩ | ⟨rfl, rfl, rfl, rfl⟩ | ⟨rfl, rfl, rfl, rfl⟩ | ⟨rfl, rfl, rfl, rfl⟩
  · exact measure_4_4 k t l w hk (by omega) (by omega) (by omega) (by omega)
  · exact measure_8_4 k t l w hk (by omega) (by omega) (by omega) (by omega)
  · exact measure_4_16 k t l w hk (by omega) (by omega) (by omega) (by omega)
  · exact measure_8_16 k t l w hk (by omega) (by omega) (by omega) (by omega)
set_option maxHeartbeats 400000 in
theorem setsMeasure_no (k b x t l : Int) (w : World) (hr : rightB k b x t l = false) :
    Calls Tryz.prog 69 #[.agg #[.int .i64 k, .int .i64 b, .int .i64 x, .int .i64 t, .int .i64 l]] w fun r w' =>
      r = .returned (.tuple #[.agg #[.int .i64 0, .int .i64 0, .int .i64 0, .int .i64 0, .int .i64 0, .int .i64 0], .int .i64 1]) ∧ Below w.heap.size w w' := by
  have HR := hideM hr
  clear hr
  go_enter Tryz.func69, Tryz.ntmps69
  go_wp2_with fail
  refine (check_any k b x t l _).mono ?_
  rintro e w1 ⟨rfl, hb⟩
  rw [HR.out]
  obtain ⟨z0, z1, z2, z3, z4, z5⟩ := six_zero hb
  have fz : ∀ o, w1.frozen? ⟨w.heap.size + 1, o, none⟩ = false := fun o => (hb.frozen (by simp)).trans (by simp [go_sem])
  have HB := hideM ((((Below.refl _ _).alloc (Nat.le_refl _) _).alloc (by simp) _).trans (hb.mono (by simp; omega)) : Below w.heap.size w w1)
  clear hb
  go_wp2
  refine bodyPost_ret (v := .tuple #[.agg #[.int .i64 0, .int .i64 0, .int .i64 0, .int .i64 0, .int .i64 0, .int .i64 0], .int .i64 1]) (by simp [results, Tryz.results69, go_sem, z0, z1, z2, z3, z4, z5]) rfl ⟨rfl, ?_⟩
  iterate 6 refine Below.setCell ?_ (show w.heap.size ≤ _ by simp) _
  exact HB.out
end Go.Proofs.YtgaoeoijdpdjiaaGreatDoor

namespace Go.Proofs.YtgaoeoijdpdjiaaGreatDoor
open Go.RowKit
theorem wrap_ref_4_16 (t l : Nat) (h1 : 1 ≤ t) (h2 : t ≤ 4) (h3 : 1 ≤ l) (h4 : l ≤ 3) : wrap64 (8 + wrap64 (wrap64 ((l : Int) * (10 + (t : Int))) * 4)) = sigZ 4 16 t l := by
  rcases (show t = 1 ∨ t = 2 ∨ t = 3 ∨ t = 4 by omega) with rfl | rfl | rfl | rfl <;> rcases (show l = 1 ∨ l = 2 ∨ l = 3 by omega) with rfl | rfl | rfl <;> simp [wrap64, sigZ, chainsZ, firstZ, lastZ, each]
set_option maxHeartbeats 1000000 in
theorem refSizes_4_16 (k : Int) (t l : Nat) (w : World) (h1 : 1 ≤ t) (h2 : t ≤ 4) (h3 : 1 ≤ l) (h4 : l ≤ 3) :
    Calls Tryz.prog 89 #[.agg #[.int .i64 k, .int .i64 4, .int .i64 16, .int .i64 t, .int .i64 l]] w fun r w' =>
      r = .returned (.agg #[.int .i64 8, .int .i64 2, .int .i64 10, .int .i64 (totalZ t l), .int .i64 (sigZ 4 16 t l), .int .i64 13]) ∧ Below w.heap.size w w' := by
  go_enter Tryz.func89, Tryz.ntmps89
  go_wp2
  go_rounds 3
  go_rounds 3
  generalize hW : (((w.alloc (.cells #[.int .i64 k, .int .i64 4, .int .i64 16, .int .i64 t, .int .i64 l] 23)).alloc (.cells #[.int .i64 0, .int .i64 0, .int .i64 0, .int .i64 0, .int .i64 0, .int .i64 0] 127)).alloc (.cells #[.int .i64 8, .int .i64 2, .int .i64 10, .int .i64 0, .int .i64 0, .int .i64 0] 127)) = W
  have F5 : Five W w.heap.size k 4 16 t l := by subst hW; refine ⟨?_, ?_, ?_, ?_, ?_⟩ <;> simp [go_sem, World.cell?_alloc_past]
  have Z6 : Six W (w.heap.size + 1) 0 0 0 0 0 0 := by subst hW; refine ⟨?_, ?_, ?_, ?_, ?_, ?_⟩ <;> simp [go_sem, World.cell?_alloc_past]
  have S6 : Six W (w.heap.size + 1 + 1) 8 2 10 0 0 0 := by subst hW; refine ⟨?_, ?_, ?_, ?_, ?_, ?_⟩ <;> simp [go_sem, World.cell?_alloc_at]
  have fz : ∀ o, W.frozen? ⟨w.heap.size + 1, o, none⟩ = false := by subst hW; intro o; simp [go_sem]
  have fz2 : ∀ o, W.frozen? ⟨w.heap.size + 1 + 1, o, none⟩ = false := by subst hW; intro o; simp [go_sem]
  have hsz : w.heap.size + 3 = W.heap.size := by subst hW; simp
  have HB := hideM (by subst hW; exact (((Below.refl _ _).alloc (Nat.le_refl _) _).alloc (by simp) _).alloc (by simp; omega) _ : Below w.heap.size w W)
  clear hW
  have hl2 : 2 ^ t ≤ 16 := Nat.le_trans (Nat.pow_le_pow_right (by decide) h2) (by decide)
  have hpw : (2 ^ t) ^ l = 2 ^ (t * l) := (Nat.pow_mul 2 t l).symm
  have hpl : (2 ^ t) ^ l ≤ 65536 := Nat.le_trans (Nat.pow_le_pow_left hl2 l) (Nat.le_trans (Nat.pow_le_pow_right (by decide) h4) (by decide))
  have HT : Hid ((((2 ^ t) ^ l : Nat) : Int) = totalZ t l) := by show (((2 ^ t) ^ l : Nat) : Int) = totalZ t l; rw [hpw]; unfold totalZ; rw [show ((t : Int) * (l : Int)).toNat = t * l by rw [← Int.natCast_mul]; rfl]; simp
  have HC1 := hideM (fun w' : World => leaves_any t k 4 16 l w' h2)
  have HC2 := hideM (fun w' : World => power_any (2 ^ t) l w' hl2 (by omega) hpl (Nat.one_le_two_pow))
  clear hl2 hpw hpl
  generalize 2 ^ t = q at HT HC1 HC2
  generalize q ^ l = T at HT HC2
  obtain ⟨c0, c1, c2, c3, c4⟩ := F5
  obtain ⟨z0, z1, z2, z3, z4, z5⟩ := Z6
  obtain ⟨s0, s1, s2, s3, s4, s5⟩ := S6
  go_region_held3 (fun w' => w'.cell? ⟨w.heap.size, 0, none⟩ = some (.int .i64 k) ∧ w'.cell? ⟨w.heap.size, 1, none⟩ = some (.int .i64 4) ∧ w'.cell? ⟨w.heap.size, 2, none⟩ = some (.int .i64 16) ∧ w'.cell? ⟨w.heap.size, 3, none⟩ = some (.int .i64 t) ∧ w'.cell? ⟨w.heap.size, 4, none⟩ = some (.int .i64 l)) (first | exact hk1 | exact five_other hk1 _ (by omega) | (simp [go_sem, c0, c1, c2, c3, c4]; done)) (first | (go_at_call 90; refine (HC1.out _).mono ?_; rintro r w1 ⟨rfl, hb1⟩; have hk1 := five_below (show Five W.drew w.heap.size k 4 16 t l from ⟨c0, c1, c2, c3, c4⟩) hb1 (by simp; omega); have hz1 := six_below (show Six W.drew (w.heap.size + 1) 0 0 0 0 0 0 from ⟨z0, z1, z2, z3, z4, z5⟩) hb1 (by simp; omega); have hs1 := six_below (show Six W.drew (w.heap.size + 1 + 1) 8 2 10 0 0 0 from ⟨s0, s1, s2, s3, s4, s5⟩) hb1 (by simp; omega); have fy : ∀ o, w1.frozen? ⟨w.heap.size + 1, o, none⟩ = false := (fun o => (hb1.frozen (by simp; omega)).trans (fz o)); have fy2 : ∀ o, w1.frozen? ⟨w.heap.size + 1 + 1, o, none⟩ = false := (fun o => (hb1.frozen (by simp; omega)).trans (fz2 o)); obtain ⟨y0, y1, y2, y3, y4, y5⟩ := hz1; obtain ⟨x0, x1, x2, x3, x4, x5⟩ := hs1) | (go_at_call 55; refine (HC2.out _).mono ?_; rintro r w2 ⟨rfl, rfl⟩))
  obtain ⟨m0, m1, m2, m3, m4⟩ := hk1
  have HSG := hideM (wrap_ref_4_16 t l h1 h2 h3 h4)
  go_wp2
  rw [HSG.out, HT.out]
  refine bodyPost_ret (v := .agg #[.int .i64 8, .int .i64 2, .int .i64 10, .int .i64 (totalZ t l), .int .i64 (sigZ 4 16 t l), .int .i64 13]) (by simp [results, Tryz.results89, go_sem, y0, y1, y2, y3, y4, y5]) rfl ⟨rfl, ?_⟩
  iterate 9 refine Below.setCell ?_ (show w.heap.size ≤ _ by simp <;> omega) _
  exact HB.out.drew.trans (hb1.mono (by simp; omega))
end Go.Proofs.YtgaoeoijdpdjiaaGreatDoor

namespace Go.Proofs.YtgaoeoijdpdjiaaGreatDoor
open Go.RowKit
theorem refSizes_yes (b x e f t l : Nat) (hp : Pair b x e f) (k : Int) (w : World) (h1 : 1 ≤ t) (h2 : t ≤ 4) (h3 : 1 ≤ l) (h4 : l ≤ 3) :
    Calls Tryz.prog 89 #[.agg #[.int .i64 k, .int .i64 b, .int .i64 x, .int .i64 t, .int .i64 l]] w fun r w' =>
      r = .returned (.agg #[.int .i64 ((b * e : Nat) : Int), .int .i64 f, .int .i64 ((b * e + f : Nat) : Int), .int .i64 (totalZ t l), .int .i64 (sigZ b x t l), .int .i64 ((5 + 2 * b : Nat) : Int)]) ∧ Below w.heap.size w w' := by
  rcases hp with ⟨rfl, rfl, rfl, rfl⟩ | ⟨rfl, rfl, rfl, rfl⟩ | ⟨rfl, rfl, rfl, rfl⟩ | ⟨rfl, rfl, rfl, rfl⟩
  · exact refSizes_4_4 k t l w h1 h2 h3 h4
  · exact refSizes_8_4 k t l w h1 h2 h3 h4
  · exact refSizes_4_16 k t l w h1 h2 h3 h4
  · exact refSizes_8_16 k t l w h1 h2 h3 h4
end Go.Proofs.YtgaoeoijdpdjiaaGreatDoor
