/-
  The document's own sizes at the sets with Bytes 4 and Wide 16. A whole number in so many bytes: the document's own Number.
-/
import Derived.Test.YtgaoeoijdpdjiaaDoorPart7
import Derived.Handy
import Derived.Deep.RegionHeld3
import Derived.Deep.DrawnRows
namespace Go.Proofs.YtgaoeoijdpdjiaaDoor
open Go.RowKit

theorem wrap_ref_4_16 (t l : Nat) (h1 : 1 ≤ t) (h2 : t ≤ 4) (h3 : 1 ≤ l) (h4 : l ≤ 3) : wrap64 (8 + wrap64 (wrap64 ((l : Int) * (10 + (t : Int))) * 4)) = sigZ 4 16 t l := by
  rcases (show t = 1 ∨ t = 2 ∨ t = 3 ∨ t = 4 by omega) with rfl | rfl | rfl | rfl <;> rcases (show l = 1 ∨ l = 2 ∨ l = 3 by omega) with rfl | rfl | rfl <;> simp [wrap64, sigZ, chainsZ, firstZ, lastZ, each]

set_option maxHeartbeats 1000000 in
theorem refSizes_4_16 (k : Int) (t l : Nat) (w : World) (h1 : 1 ≤ t) (h2 : t ≤ 4) (h3 : 1 ≤ l) (h4 : l ≤ 3) :
    Calls Tryd.prog 43 #[.agg #[.int .i64 k, .int .i64 4, .int .i64 16, .int .i64 t, .int .i64 l]] w fun r w' =>
      r = .returned (.agg #[.int .i64 8, .int .i64 2, .int .i64 10, .int .i64 (totalZ t l), .int .i64 (sigZ 4 16 t l), .int .i64 13]) ∧ Below w.heap.size w w' := by
  go_enter Tryd.func43, Tryd.ntmps43
  go_wp2
  go_rounds 3
  go_rounds 3
  generalize hW : (((w.alloc (.cells #[.int .i64 k, .int .i64 4, .int .i64 16, .int .i64 t, .int .i64 l] 25)).alloc (.cells #[.int .i64 0, .int .i64 0, .int .i64 0, .int .i64 0, .int .i64 0, .int .i64 0] 68)).alloc (.cells #[.int .i64 8, .int .i64 2, .int .i64 10, .int .i64 0, .int .i64 0, .int .i64 0] 68)) = W
  have F5 : Five W w.heap.size k 4 16 t l := by subst hW; refine ⟨?_, ?_, ?_, ?_, ?_⟩ <;> simp [go_sem, World.cell?_alloc_past]
  have Z6 : Six W (w.heap.size + 1) 0 0 0 0 0 0 := by subst hW; refine ⟨?_, ?_, ?_, ?_, ?_, ?_⟩ <;> simp [go_sem, World.cell?_alloc_past]
  have S6 : Six W (w.heap.size + 1 + 1) 8 2 10 0 0 0 := by subst hW; refine ⟨?_, ?_, ?_, ?_, ?_, ?_⟩ <;> simp [go_sem, World.cell?_alloc_at]
  have fz : ∀ o, W.frozen? ⟨w.heap.size + 1, o, none⟩ = false := by subst hW; intro o; simp [go_sem]
  have fz2 : ∀ o, W.frozen? ⟨w.heap.size + 1 + 1, o, none⟩ = false := by subst hW; intro o; simp [go_sem]
  have hsz : w.heap.size + 3 = W.heap.size := by subst hW; simp
  have HB := hideM (by subst hW; exact (((Below.refl _ _).alloc (Nat.le_refl _) _).alloc (by simp) _).alloc (by simp; omega) _ : Below w.heap.size w W)
  clear hW
  have hl2 : 2 ^ t ≤ 16 := Nat.le_trans (Nat.pow_le_pow_right (by decide) h2) (by decide)
  have hpw : (2 ^ t) ^ l = 2 ^ (t * l) := (Nat.pow_mul 2 t l).symm
  have hpl : (2 ^ t) ^ l ≤ 65536 := Nat.le_trans (Nat.pow_le_pow_left hl2 l) (Nat.le_trans (Nat.pow_le_pow_right (by decide) h4) (by decide))
  have HT : Hid ((((2 ^ t) ^ l : Nat) : Int) = totalZ t l) := by show (((2 ^ t) ^ l : Nat) : Int) = totalZ t l; rw [hpw]; unfold totalZ; rw [show ((t : Int) * (l : Int)).toNat = t * l by rw [← Int.natCast_mul]; rfl]; simp
  have HC1 := hideM (fun w' : World => leaves_any t k 4 16 l w' h2)
  have HC2 := hideM (fun w' : World => power_any (2 ^ t) l w' hl2 (by omega) hpl (Nat.one_le_two_pow))
  clear hl2 hpw hpl
  generalize 2 ^ t = q at HT HC1 HC2
  generalize q ^ l = T at HT HC2
  obtain ⟨c0, c1, c2, c3, c4⟩ := F5
  obtain ⟨z0, z1, z2, z3, z4, z5⟩ := Z6
  obtain ⟨s0, s1, s2, s3, s4, s5⟩ := S6
  go_region_held3 (fun w' => w'.cell? ⟨w.heap.size, 0, none⟩ = some (.int .i64 k) ∧ w'.cell? ⟨w.heap.size, 1, none⟩ = some (.int .i64 4) ∧ w'.cell? ⟨w.heap.size, 2, none⟩ = some (.int .i64 16) ∧ w'.cell? ⟨w.heap.size, 3, none⟩ = some (.int .i64 t) ∧ w'.cell? ⟨w.heap.size, 4, none⟩ = some (.int .i64 l)) (first | exact hk1 | exact five_other hk1 _ (by omega) | (simp [go_sem, c0, c1, c2, c3, c4]; done)) (first | (go_at_call 62; refine (HC1.out _).mono ?_; rintro r w1 ⟨rfl, hb1⟩; have hk1 := five_below (show Five W.drew w.heap.size k 4 16 t l from ⟨c0, c1, c2, c3, c4⟩) hb1 (by simp; omega); have hz1 := six_below (show Six W.drew (w.heap.size + 1) 0 0 0 0 0 0 from ⟨z0, z1, z2, z3, z4, z5⟩) hb1 (by simp; omega); have hs1 := six_below (show Six W.drew (w.heap.size + 1 + 1) 8 2 10 0 0 0 from ⟨s0, s1, s2, s3, s4, s5⟩) hb1 (by simp; omega); have fy : ∀ o, w1.frozen? ⟨w.heap.size + 1, o, none⟩ = false := (fun o => (hb1.frozen (by simp; omega)).trans (fz o)); have fy2 : ∀ o, w1.frozen? ⟨w.heap.size + 1 + 1, o, none⟩ = false := (fun o => (hb1.frozen (by simp; omega)).trans (fz2 o)); obtain ⟨y0, y1, y2, y3, y4, y5⟩ := hz1; obtain ⟨x0, x1, x2, x3, x4, x5⟩ := hs1) | (go_at_call 61; refine (HC2.out _).mono ?_; rintro r w2 ⟨rfl, rfl⟩))
  obtain ⟨m0, m1, m2, m3, m4⟩ := hk1
  have HSG := hideM (wrap_ref_4_16 t l h1 h2 h3 h4)
  go_wp2
  rw [HSG.out, HT.out]
  refine bodyPost_ret (v := .agg #[.int .i64 8, .int .i64 2, .int .i64 10, .int .i64 (totalZ t l), .int .i64 (sigZ 4 16 t l), .int .i64 13]) (by simp [results, Tryd.results43, go_sem, y0, y1, y2, y3, y4, y5]) rfl ⟨rfl, ?_⟩
  iterate 9 refine Below.setCell ?_ (show w.heap.size ≤ _ by simp <;> omega) _
  exact HB.out.drew.trans (hb1.mono (by simp; omega))
end Go.Proofs.YtgaoeoijdpdjiaaDoor

namespace Go.Proofs.YtgaoeoijdpdjiaaDoor
open Go.RowKit

theorem numB_succ (j : Nat) (v : Int) : numB (j + 1) v = ⟨#[UInt8.ofNat (v / 256 ^ j % 256).toNat]⟩ ++ numB j v := by
  apply ByteArray.ext
  simp [numB, numL]

set_option maxHeartbeats 1000000 in
theorem refNumber_any (k : Nat) (v : Int) (w : World) (hk : k ≤ 8) (hv : 0 ≤ v) (hv2 : v ≤ 9223372036854775807) :
    Calls Tryd.prog 65 #[.int .i64 v, .int .i64 k] w fun e w' => e = .returned (.string (numB k v)) ∧ Below w.heap.size w w' := by
  have HV := hide hv
  have HV2 := hide hv2
  clear hv hv2
  go_enter Tryd.func65, Tryd.ntmps65
  go_wp2
  go_loopw [0, 5, 6] (fun t s i wr => ∃ j : Nat, j ≤ k ∧ i = .int .i64 j ∧ t = .int .i64 (v / 256 ^ j) ∧ s = .string (numB j v) ∧ Hid (Below w.heap.size w wr)) (fun _ _ i _ => k - (intOf i).toNat)
  case atStart => exact ⟨0, Nat.zero_le _, rfl, by simp, rfl, Below.refl _ _⟩
  case round =>
    obtain ⟨j, hj, rfl, rfl, rfl, hb⟩ := hrel
    by_cases hlt : j < k
    · have HQ : Hid (0 ≤ v / 256 ^ j) := Int.ediv_nonneg HV.out (Int.le_of_lt (Int.pow_pos (by decide)))
      have HQ2 : Hid (v / 256 ^ j ≤ 9223372036854775807) := by
        refine Int.le_trans ?_ HV2.out
        exact Int.ediv_le_self _ HV.out
      have HD : Hid (v / 256 ^ j / 256 = v / 256 ^ (j + 1)) := by
        show v / 256 ^ j / 256 = v / 256 ^ (j + 1)
        rw [Int.ediv_ediv_of_nonneg (Int.le_of_lt (Int.pow_pos (by decide))), Int.pow_succ]
      have HS := hide (numB_succ j v)
      have hz : (numB j v).size ≤ 8 := by rw [numB_size]; omega
      generalize v / 256 ^ j = q at HQ HQ2 HD HS ⊢
      generalize numB j v = s at HS hz ⊢
      have hT := textRow (wr.alloc (.cells #[.int .u8 (q % 256)] 5)) wr.heap.size 1 [(q % 256).toNat] (by intro d hd; simp at hd; subst hd; omega) (by unfold RowK; rw [heap_alloc_new]; simp [Int.toNat_of_nonneg (Int.emod_nonneg q (show (256 : Int) ≠ 0 by decide))]) rfl
      have hdiv : (q.tdiv 256) = q / 256 := Int.tdiv_eq_ediv_of_nonneg HQ.out
      have hwr : wrap64 (q / 256) = q / 256 := by
        have := HQ.out
        have := HQ2.out
        unfold wrap64; omega
      go_wp2
      go_roundw
      case rel =>
        rw [hwr]
        exact ⟨j + 1, by omega, by go_num, by rw [HD.out], by rw [HS.out], hb.out.alloc hb.out.size _⟩
      case measure => simp [intOf]; omega
    · obtain rfl : j = k := by omega
      go_wp2
      go_ret
      exact ⟨rfl, hb.out⟩
end Go.Proofs.YtgaoeoijdpdjiaaDoor
