/-
  The program's Leaf. A set that is right. Seeds of the right length. signet.Start, NodeOf and Fold where all is right.
-/
import Derived.Test.YtgaoeoijdpdjiaaGreatDoorPart43
import Derived.Test.YtgaoeoijdpdjiaaGreatDoorPart27
import Derived.Test.YtgaoeoijdpdjiaaGreatDoorPart3
import Derived.Test.YtgaoeoijdpdjiaaGreatDoorPart42
import Derived.Test.YtgaoeoijdpdjiaaGreatDoorPart34
import Derived.Test.YtgaoeoijdpdjiaaGreatDoorPart14
import Derived.Test.YtgaoeoijdpdjiaaGreatDoorPart19
import Derived.Test.YtgaoeoijdpdjiaaGreatDoorPart39
import Derived.Test.YtgaoeoijdpdjiaaGreatDoorPart5
import Derived.Test.YtgaoeoijdpdjiaaGreatDoorPart18
import Derived.Test.YtgaoeoijdpdjiaaGreatDoorPart29
import Derived.Test.YtgaoeoijdpdjiaaGreatDoorPart40
import Derived.Test.YtgaoeoijdpdjiaaGreatDoorPart41
namespace Go.Proofs.YtgaoeoijdpdjiaaGreatDoor
open Go.RowKit
theorem rev_ends (k b : Int) (sec pub : ByteArray) (p0 p1 F : Int) (wd ch : Nat) : revS k b sec pub p0 p1 F (List.replicate ch wd) ch = endsS k b wd sec pub p0 p1 F ch := by
  unfold revS endsS
  refine List.map_congr_left ?_
  intro i hi
  have h : i < ch := by simpa using hi
  simp [endS, h]
set_option maxRecDepth 20000 in
set_option maxHeartbeats 4000000 in
theorem leaf_any (k b x t l : Int) (sec rnd pub : ByteArray) (p0 p1 p2 p3 F : Int) (ch wd : Nat) (w : World) (hk : k = 1 ∨ k = 2) (h1 : 1 ≤ b) (h2 : b ≤ 16) (hs : sec.size ≤ 16) (hp : pub.size ≤ 16) (hc1 : 1 ≤ ch) (hc2 : ch ≤ 64) (hch : Ch4 ch) (hwd : wd ≤ 15) (hx : x = (wd : Int) + 1) (hT : Tn w) :
    Calls Tryz.prog 39 #[.agg #[.int .i64 k, .int .i64 b, .int .i64 x, .int .i64 t, .int .i64 l, .string sec, .string rnd, .string pub, .int .i64 p0, .int .i64 p1, .int .i64 p2, .int .i64 p3, .int .i64 ch], .int .i64 F] w fun e w' => e = .returned (.string (leafS k b wd ch sec pub p0 p1 F)) ∧ Below w.heap.size w w' := by
  have hx1 : 1 ≤ x := by omega
  have hx2 : x ≤ 16 := by omega
  have HRP := hide (fun (V : World) (g : Nat) (hg : g < V.heap.size) (hc : V.cell? ⟨g, 0, none⟩ = some (.int .i64 (x - 1))) => repeat_one (x - 1) g ch V hc1 (by omega) hg hc (mul_one ch hch))
  have HSP := hide (fun (V : World) => spotOf_any k b x t l sec rnd pub pub p0 p1 p2 p3 ch F 0 V)
  have HRV := hide (fun (V : World) (q : Nat) (hV : Tn V) (hq : Blk V q (List.replicate ch (.int .i64 (x - 1))) 3) => (by
    have h := reveal_any k b x t l sec rnd pub p0 p1 p2 p3 ch F q 0 ch (List.replicate ch wd) V hk h1 h2 hs hp (by simpa using hc2) (by intro d hd; rw [List.mem_replicate] at hd; omega) hq.lt (by
      intro j d hj
      rw [List.getElem?_replicate] at hj
      split at hj
      · rename_i hjc
        cases hj
        rw [Nat.zero_add, hq.cell, List.getElem?_replicate, if_pos hjc, hx]
        congr 2
        omega
      · cases hj) hV
    rw [List.length_replicate, rev_ends] at h
    exact h.mono fun e w' ⟨a, b, c⟩ => ⟨_, a, b, c⟩ : Calls Tryz.prog 76 #[.agg #[.int .i64 k, .int .i64 b, .int .i64 x, .int .i64 t, .int .i64 l, .string sec, .string rnd, .string pub, .int .i64 p0, .int .i64 p1, .int .i64 p2, .int .i64 p3, .int .i64 ch], .int .i64 F, .slice (some ⟨q, 0, none⟩) ch ch] V fun e w' => ∃ g, e = .returned (.slice (some ⟨g, 0, none⟩) ch ch) ∧ Blk w' g ((endsS k b wd sec pub p0 p1 F ch).map Value.string) 9 ∧ Below V.heap.size V w'))
  have HFO := hide (fun (V : World) (g : Nat) (hV : Tn V) (hg : Blk V g ((endsS k b wd sec pub p0 p1 F ch).map Value.string) 9) => (by
    have h := sfold_any k b x t l pub p0 p1 F 0 g 0 ch (endsS k b wd sec pub p0 p1 F ch) V (by
      intro j y hj
      rw [Nat.zero_add, hg.cell, List.getElem?_map, hj]
      rfl) hg.lt (by rw [endsS_length]; exact Nat.le_refl _) (by rw [endsS_length]; exact hc2) (by rw [endsS_length]; exact hc1) hk h1 h2 hp (endsS_size k b wd sec pub p0 p1 F ch hk h1 h2 hs hp) hV
    rw [endsS_length] at h
    exact h : Calls Tryz.prog 75 #[.agg #[.int .i64 k, .int .i64 b, .int .i64 x, .int .i64 t, .int .i64 l, .string pub, .int .i64 p0, .int .i64 p1, .int .i64 F, .int .i64 0], .slice (some ⟨g, 0, none⟩) ch ch] V fun e w' => e = .returned (.string (leafS k b wd ch sec pub p0 p1 F)) ∧ Below V.heap.size V w'))
  generalize leafS k b wd ch sec pub p0 p1 F = lf at HFO ⊢
  have HX := hide hx
  clear hx
  obtain ⟨WT, hWT⟩ : ∃ WT, w.alloc (.cells #[.int .i64 k, .int .i64 b, .int .i64 x, .int .i64 t, .int .i64 l, .string sec, .string rnd, .string pub, .int .i64 p0, .int .i64 p1, .int .i64 p2, .int .i64 p3, .int .i64 ch] 83) = WT := ⟨_, rfl⟩
  have HWT := hide (show Blk WT w.heap.size [.int .i64 k, .int .i64 b, .int .i64 x, .int .i64 t, .int .i64 l, .string sec, .string rnd, .string pub, .int .i64 p0, .int .i64 p1, .int .i64 p2, .int .i64 p3, .int .i64 ch] 83 by rw [← hWT]; exact Blk.new _ _ _)
  have hzT : WT.heap.size ≤ w.heap.size + 1 := by rw [← hWT]; simp
  have hzT' : w.heap.size + 1 ≤ WT.heap.size := by rw [← hWT]; simp
  have HB := hide (show Below w.heap.size w WT by rw [← hWT]; exact (Below.refl _ _).alloc (Nat.le_refl _) _)
  have HTT := hide (hT.on HB.out)
  have HS := hide (fun (V : World) (h : Below WT.heap.size WT V) => (by
    have hb := HWT.out.below h (by omega)
    exact ⟨hb.cell 0, hb.cell 1, hb.cell 2, hb.cell 3, hb.cell 4, hb.cell 5, hb.cell 6, hb.cell 7, hb.cell 8, hb.cell 9, hb.cell 10, hb.cell 11, hb.cell 12⟩ : V.cell? ⟨w.heap.size, 0, none⟩ = some (.int .i64 k) ∧ V.cell? ⟨w.heap.size, 1, none⟩ = some (.int .i64 b) ∧ V.cell? ⟨w.heap.size, 2, none⟩ = some (.int .i64 x) ∧ V.cell? ⟨w.heap.size, 3, none⟩ = some (.int .i64 t) ∧ V.cell? ⟨w.heap.size, 4, none⟩ = some (.int .i64 l) ∧ V.cell? ⟨w.heap.size, 5, none⟩ = some (.string sec) ∧ V.cell? ⟨w.heap.size, 6, none⟩ = some (.string rnd) ∧ V.cell? ⟨w.heap.size, 7, none⟩ = some (.string pub) ∧ V.cell? ⟨w.heap.size, 8, none⟩ = some (.int .i64 p0) ∧ V.cell? ⟨w.heap.size, 9, none⟩ = some (.int .i64 p1) ∧ V.cell? ⟨w.heap.size, 10, none⟩ = some (.int .i64 p2) ∧ V.cell? ⟨w.heap.size, 11, none⟩ = some (.int .i64 p3) ∧ V.cell? ⟨w.heap.size, 12, none⟩ = some (.int .i64 ch)))
  have HA := hide ((Below.refl WT.heap.size WT).alloc (Nat.le_refl _) (.cells #[.int .i64 (x - 1)] 3))
  have HR0 := hide (HRP.out (WT.alloc (.cells #[.int .i64 (x - 1)] 3)) (w.heap.size + 1) (by simp; omega) (by rw [show w.heap.size + 1 = WT.heap.size by omega]; simp [go_sem]))
  obtain ⟨c0, c1, c2, c3, c4, c5, c6, c7, c8, c9, c10, c11, c12⟩ := HS.out WT (Below.refl _ _)
  clear hT HRP
  have HWE := hide hWT
  clear hWT
  go_enter Tryz.func39, Tryz.ntmps39
  go_wp2_with fail
  rw [HWE.out]
  refine HR0.out.mono ?_
  rintro e w1 ⟨q, rfl, hq0, hq, hb1⟩
  have HQ := hide hq
  have HB1 := hide (heldB HA.out hb1 (Nat.le_refl _))
  have hqw : q < w1.heap.size := hq.lt
  clear hq hb1 hq0 c0 c1 c2 c3 c4 c5 c6 c7 c8 c9 c10 c11 c12 HA HR0
  go_wp2_with fail
  go_region_held3 (fun V => V.cell? ⟨w.heap.size, 0, none⟩ = some (.int .i64 k) ∧ V.cell? ⟨w.heap.size, 1, none⟩ = some (.int .i64 b) ∧ V.cell? ⟨w.heap.size, 2, none⟩ = some (.int .i64 x) ∧ V.cell? ⟨w.heap.size, 3, none⟩ = some (.int .i64 t) ∧ V.cell? ⟨w.heap.size, 4, none⟩ = some (.int .i64 l) ∧ V.cell? ⟨w.heap.size, 5, none⟩ = some (.string sec) ∧ V.cell? ⟨w.heap.size, 6, none⟩ = some (.string rnd) ∧ V.cell? ⟨w.heap.size, 7, none⟩ = some (.string pub) ∧ V.cell? ⟨w.heap.size, 8, none⟩ = some (.int .i64 p0) ∧ V.cell? ⟨w.heap.size, 9, none⟩ = some (.int .i64 p1) ∧ V.cell? ⟨w.heap.size, 10, none⟩ = some (.int .i64 p2) ∧ V.cell? ⟨w.heap.size, 11, none⟩ = some (.int .i64 p3) ∧ V.cell? ⟨w.heap.size, 12, none⟩ = some (.int .i64 ch)) (first | exact HS.out _ hS4 | exact HS.out _ hS3 | exact HS.out _ hS2 | exact HS.out _ HB1.out.drew) (first | (go_at_call 74; refine (HSP.out _).mono ?_; rintro e w2 ⟨rfl, hb2⟩; have hS2 := heldB HB1.out.drew hb2 (Nat.le_refl _); have hK2 := (HQ.out.below (Below.refl w1.heap.size w1).drew hqw).on hb2) | (go_at_call 76; refine (HRV.out _ q (HTT.out.on hS2) hK2).mono ?_; rintro e w3 ⟨g, rfl, hg3, hb3⟩; have hS3 := heldB hS2 hb3 (Nat.le_refl _)) | (go_at_call 75; refine (HFO.out _ g (HTT.out.on hS3) hg3).mono ?_; rintro e w4 ⟨rfl, hb4⟩; have hS4 := heldB hS3 hb4 (Nat.le_refl _)))
  have HB4 := hide hS4
  clear hS2 hS3 hS4 hb2 hb3 hb4 hg3 hK2
  go_wp2
  go_ret
  exact ⟨rfl, HB.out.trans (HB4.out.mono (by omega))⟩
end Go.Proofs.YtgaoeoijdpdjiaaGreatDoor

namespace Go.Proofs.YtgaoeoijdpdjiaaGreatDoor
open Go.RowKit
/-- A set that is right, as its pair of numbers. -/
structure RSet (k : Int) (b x e f t l : Nat) : Prop where
  pr : Pair b x e f
  kk : k = 1 ∨ k = 2
  t1 : 1 ≤ t
  t2 : t ≤ 4
  l1 : 1 ≤ l
  l2 : l ≤ 3
  r : rightB k b x t l = true
end Go.Proofs.YtgaoeoijdpdjiaaGreatDoor

namespace Go.Proofs.YtgaoeoijdpdjiaaGreatDoor
open Go.RowKit
theorem seedsB_size {b : Int} {sec rnd pub : ByteArray} (h : seedsB b sec rnd pub = true) : (sec.size : Int) = b ∧ (rnd.size : Int) = b ∧ (pub.size : Int) = b := by
  unfold seedsB at h
  have := (allLen_iff b _).1 h
  exact ⟨this sec (by simp), this rnd (by simp), this pub (by simp)⟩
end Go.Proofs.YtgaoeoijdpdjiaaGreatDoor

namespace Go.Proofs.YtgaoeoijdpdjiaaGreatDoor
open Go.RowKit
theorem seedsB_of {b : Nat} {sec rnd pub : ByteArray} (h1 : (sec.size : Int) = b) (h2 : (rnd.size : Int) = b) (h3 : (pub.size : Int) = b) : seedsB b sec rnd pub = true := by
  unfold seedsB
  refine (allLen_iff _ _).2 ?_
  intro z hz
  simp at hz
  rcases hz with rfl | rfl | rfl
  · exact h1
  · exact h2
  · exact h3
end Go.Proofs.YtgaoeoijdpdjiaaGreatDoor
