/-
  The program's Reveal. The document's own leaf. The statement's world: a disk more; one step of a script, of the kinds of disks.
-/
import Derived.Test.YtgaoeoijdpdjiaaGreatDoorPart29
import Derived.Test.YtgaoeoijdpdjiaaGreatDoorPart19
import Derived.Test.YtgaoeoijdpdjiaaGreatDoorPart14
import Derived.Test.YtgaoeoijdpdjiaaGreatDoorPart30
import Derived.Test.YtgaoeoijdpdjiaaGreatDoorPart31
import Derived.Test.YtgaoeoijdpdjiaaGreatDoorPart4
import Derived.Test.YtgaoeoijdpdjiaaGreatDoorPart32
import Derived.Test.YtgaoeoijdpdjiaaGreatDoorPart27
import Derived.Test.YtgaoeoijdpdjiaaGreatDoorPart5
import Derived.RangeFuncNested
import Derived.RangeFuncBound
import Derived.RangeFuncCalls
import Derived.RangeFuncLeaves
import Derived.RangeFuncBox
import Derived.RangeFuncWrites
import Derived.OwnWalkIn
import Derived.TacticsInMore
import Derived.LoopNIn
import Derived.LoopIn
import Derived.Shelf.Abstract
import Derived.Test.YtgaoeoijdpdjiaaGreatDoorPart3
import Derived.Test.YtgaoeoijdpdjiaaGreatDoorPart42
import Derived.Deep.AppendLies
namespace Go.Proofs.YtgaoeoijdpdjiaaGreatDoor
open Go.RowKit
/-- What Reveal makes of the first n digits. -/
def revS (k b : Int) (sec pub : ByteArray) (p0 p1 F : Int) (ds : List Nat) (n : Nat) : List ByteArray := (List.range n).map fun (i : Nat) => chainS k b pub p0 p1 F i 0 (ds[i]?.getD 0) (startS k b sec p0 p1 F i)
theorem revS_succ (k b : Int) (sec pub : ByteArray) (p0 p1 F : Int) (ds : List Nat) (n : Nat) : revS k b sec pub p0 p1 F ds (n + 1) = revS k b sec pub p0 p1 F ds n ++ [chainS k b pub p0 p1 F n 0 (ds[n]?.getD 0) (startS k b sec p0 p1 F n)] := by simp [revS, List.range_succ]
theorem revS_length (k b : Int) (sec pub : ByteArray) (p0 p1 F : Int) (ds : List Nat) (n : Nat) : (revS k b sec pub p0 p1 F ds n).length = n := by simp [revS]
set_option maxRecDepth 20000 in
set_option maxHeartbeats 4000000 in
theorem reveal_any (k b x t l : Int) (sec rnd pub : ByteArray) (p0 p1 p2 p3 ch F : Int) (g o c : Nat) (ds : List Nat) (w : World) (hk : k = 1 ∨ k = 2) (h1 : 1 ≤ b) (h2 : b ≤ 16) (hs : sec.size ≤ 16) (hp : pub.size ≤ 16) (hn : ds.length ≤ 64) (hd : ∀ d ∈ ds, d ≤ 16) (hg : g < w.heap.size) (hc : ∀ (j : Nat) d, ds[j]? = some d → w.cell? ⟨g, o + j, none⟩ = some (.int .i64 (d : Nat))) (hT : Tn w) :
    Calls Tryz.prog 76 #[.agg #[.int .i64 k, .int .i64 b, .int .i64 x, .int .i64 t, .int .i64 l, .string sec, .string rnd, .string pub, .int .i64 p0, .int .i64 p1, .int .i64 p2, .int .i64 p3, .int .i64 ch], .int .i64 F, .slice (some ⟨g, o, none⟩) ds.length c] w fun e w' => e = .returned (.slice (some ⟨w.heap.size + 1, 0, none⟩) ds.length ds.length) ∧ Blk w' (w.heap.size + 1) ((revS k b sec pub p0 p1 F ds ds.length).map Value.string) 9 ∧ Below w.heap.size w w' := by
  have hmk := makeStr ds.length (by omega)
  have HP1 := hide (fun (m : Int) (V : World) => spotOf_any k b x t l sec rnd pub sec p0 p1 p2 p3 ch F m V)
  have HP2 := hide (fun (m : Int) (V : World) => spotOf_any k b x t l sec rnd pub pub p0 p1 p2 p3 ch F m V)
  have HST := hide (fun (m : Int) (V : World) (hV : Tn V) => start_any k b x t l sec p0 p1 F m V hk h1 h2 hs hV)
  have HCH := hide (fun (m d : Nat) (hd : d ≤ 16) (V : World) (hV : Tn V) => (by
    have h := schain_any k b x t l pub p0 p1 F m 0 d (startS k b sec p0 p1 F m) V hk h1 h2 hp (startS_size k b sec p0 p1 F m hk h1 h2 hs) (by omega) hV
    rw [Nat.zero_add] at h
    exact h : Calls Tryz.prog 95 #[.agg #[.int .i64 k, .int .i64 b, .int .i64 x, .int .i64 t, .int .i64 l, .string pub, .int .i64 p0, .int .i64 p1, .int .i64 F, .int .i64 m], .int .i64 0, .int .i64 d, .string (startS k b sec p0 p1 F m)] V fun e w' => e = .returned (.string (chainS k b pub p0 p1 F m 0 d (startS k b sec p0 p1 F m))) ∧ Below V.heap.size V w'))
  have HES := hide (fun m => revS_succ k b sec pub p0 p1 F ds m)
  have HEL := hide (fun m => revS_length k b sec pub p0 p1 F ds m)
  have HD := hide hd
  have HT := hide hT
  have HCC := hide hc
  obtain ⟨N, hN⟩ : ∃ N, ds.length = N := ⟨_, rfl⟩
  rw [hN] at hmk ⊢
  have HN := hide hN
  have hn' : N ≤ 64 := by omega
  clear hT hd hc hN hn
  obtain ⟨WT, hWT⟩ : ∃ WT, w.alloc (.cells #[.int .i64 k, .int .i64 b, .int .i64 x, .int .i64 t, .int .i64 l, .string sec, .string rnd, .string pub, .int .i64 p0, .int .i64 p1, .int .i64 p2, .int .i64 p3, .int .i64 ch] 83) = WT := ⟨_, rfl⟩
  have HWT := hide (show Blk WT w.heap.size [.int .i64 k, .int .i64 b, .int .i64 x, .int .i64 t, .int .i64 l, .string sec, .string rnd, .string pub, .int .i64 p0, .int .i64 p1, .int .i64 p2, .int .i64 p3, .int .i64 ch] 83 by rw [← hWT]; exact Blk.new _ _ _)
  have hzT : WT.heap.size = w.heap.size + 1 := by rw [← hWT]; simp
  have HB := hide (show Below w.heap.size w WT by rw [← hWT]; exact (Below.refl _ _).alloc (Nat.le_refl _) _)
  have HTT := hide (HT.out.on HB.out)
  have HW3 := hide (show Blk (WT.alloc (.cells (Array.replicate N (Value.string ⟨#[]⟩)) 9)) (w.heap.size + 1) (List.replicate N (Value.string ⟨#[]⟩)) 9 ∧ Below (w.heap.size + 1) WT (WT.alloc (.cells (Array.replicate N (Value.string ⟨#[]⟩)) 9)) by
    refine ⟨?_, ?_⟩
    · have h := Blk.new WT (List.replicate N (Value.string ⟨#[]⟩)) 9
      rw [hzT, List.toArray_replicate] at h; exact h
    · exact (Below.refl _ _).alloc (by omega) _)
  go_enter Tryz.func76, Tryz.ntmps76
  have HWE := hide hWT
  clear hWT
  go_wp2_with fail
  rw [HWE.out]
  obtain ⟨W3, hW3⟩ : ∃ W3, WT.alloc (.cells (Array.replicate N (Value.string ⟨#[]⟩)) 9) = W3 := ⟨_, rfl⟩
  rw [hW3] at HW3 ⊢
  clear hW3 hmk HWE
  go_loopw [16] (fun i wr => ∃ m : Nat, m ≤ N ∧ i = .int .i64 m ∧ Hid (Blk wr (w.heap.size + 1) ((revS k b sec pub p0 p1 F ds m).map Value.string ++ List.replicate (N - m) (Value.string ⟨#[]⟩)) 9) ∧ Hid (Below (w.heap.size + 1) WT wr)) (fun i _ => N - (intOf i).toNat)
  case atStart => exact ⟨0, Nat.zero_le _, rfl, show Blk _ _ _ _ by simpa [revS] using HW3.out.1, HW3.out.2⟩
  case round =>
    obtain ⟨m, hm, rfl, hen, hb⟩ := hrel
    by_cases hlt : m < N
    · obtain ⟨dd, hdd⟩ : ∃ dd, ds[m]? = some dd := ⟨_, List.getElem?_eq_getElem (by rw [HN.out]; exact hlt)⟩
      have hdb : dd ≤ 16 := HD.out dd (List.mem_of_getElem? hdd)
      have cd : wr.cell? ⟨g, o + m, none⟩ = some (.int .i64 dd) := (hb.out.cell (p := ⟨g, o + m, none⟩) (by show g < _; omega)).trans ((HB.out.cell (p := ⟨g, o + m, none⟩) hg).trans (HCC.out m dd hdd))
      have HGD := hide (show ds[m]?.getD 0 = dd by rw [hdd]; rfl)
      clear hdd
      have HS := hide (fun (V : World) (h : Below (w.heap.size + 1) WT V) => (by
        have hb := HWT.out.below h (by omega)
        exact ⟨hb.cell 0, hb.cell 1, hb.cell 2, hb.cell 3, hb.cell 4, hb.cell 5, hb.cell 6, hb.cell 7, hb.cell 8, hb.cell 9, hb.cell 10, hb.cell 11, hb.cell 12⟩ : V.cell? ⟨w.heap.size, 0, none⟩ = some (.int .i64 k) ∧ V.cell? ⟨w.heap.size, 1, none⟩ = some (.int .i64 b) ∧ V.cell? ⟨w.heap.size, 2, none⟩ = some (.int .i64 x) ∧ V.cell? ⟨w.heap.size, 3, none⟩ = some (.int .i64 t) ∧ V.cell? ⟨w.heap.size, 4, none⟩ = some (.int .i64 l) ∧ V.cell? ⟨w.heap.size, 5, none⟩ = some (.string sec) ∧ V.cell? ⟨w.heap.size, 6, none⟩ = some (.string rnd) ∧ V.cell? ⟨w.heap.size, 7, none⟩ = some (.string pub) ∧ V.cell? ⟨w.heap.size, 8, none⟩ = some (.int .i64 p0) ∧ V.cell? ⟨w.heap.size, 9, none⟩ = some (.int .i64 p1) ∧ V.cell? ⟨w.heap.size, 10, none⟩ = some (.int .i64 p2) ∧ V.cell? ⟨w.heap.size, 11, none⟩ = some (.int .i64 p3) ∧ V.cell? ⟨w.heap.size, 12, none⟩ = some (.int .i64 ch)))
      have HTN := hide (fun (V : World) (h : Below (w.heap.size + 1) WT V) => HTT.out.below h (by have := HT.out.pos; omega))
      have H1 := hide (HP1.out m)
      have H2 := hide (HP2.out m)
      have H3 := hide (HST.out m)
      have H4 := hide (HCH.out m dd hdb)
      have HES1 := hide (show revS k b sec pub p0 p1 F ds (m + 1) = revS k b sec pub p0 p1 F ds m ++ [chainS k b pub p0 p1 F m 0 dd (startS k b sec p0 p1 F m)] by rw [HES.out m, HGD.out])
      generalize chainS k b pub p0 p1 F m 0 dd (startS k b sec p0 p1 F m) = cS at H4 HES1
      generalize startS k b sec p0 p1 F m = sS at H3 H4
      obtain ⟨c0, c1, c2, c3, c4, c5, c6, c7, c8, c9, c10, c11, c12⟩ := HS.out wr hb.out
      go_wp2_with fail
      refine (H1.out _).mono ?_
      rintro e w1 ⟨rfl, hb1⟩
      have HB1 := hide (heldN hb.out hb1 (by omega))
      have HE1 := hide (hen.out.on hb1)
      clear hb1 c0 c1 c2 c3 c4 c5 c6 c7 c8 c9 c10 c11 c12 hen hb cd
      go_wp2_with fail
      refine (H3.out _ (HTN.out _ HB1.out)).mono ?_
      rintro e w2 ⟨rfl, hb2⟩
      have HB2 := hide (heldN HB1.out hb2 (by omega))
      have HE2 := hide (HE1.out.on hb2)
      clear hb2 HB1 HE1
      obtain ⟨c0, c1, c2, c3, c4, c5, c6, c7, c8, c9, c10, c11, c12⟩ := HS.out w2 HB2.out
      go_wp2_with fail
      refine (H2.out _).mono ?_
      rintro e w3 ⟨rfl, hb3⟩
      have HB3 := hide (heldN HB2.out hb3 (by omega))
      have HE3 := hide (HE2.out.on hb3)
      clear hb3 HB2 HE2 c0 c1 c2 c3 c4 c5 c6 c7 c8 c9 c10 c11 c12
      go_wp2_with fail
      refine (H4.out _ (HTN.out _ HB3.out)).mono ?_
      rintro e w4 ⟨rfl, hb4⟩
      have HB4 := hide (heldN HB3.out hb4 (by omega))
      have HE4 := hide (HE3.out.on hb4)
      clear hb4 HB3 HE3
      have hl := HEL.out m
      have e0 : w4.cell? ⟨w.heap.size + 1, m, none⟩ = some (.string ⟨#[]⟩) := by
        rw [HE4.out.cell, List.getElem?_append_right (by simp [hl]), List.length_map, hl, Nat.sub_self, List.getElem?_replicate, if_pos (by omega)]
      have e1 := HE4.out.free m
      have HEE := hide (show Blk (w4.setCell ⟨w.heap.size + 1, m, none⟩ (.string cS)) (w.heap.size + 1) ((revS k b sec pub p0 p1 F ds (m + 1)).map Value.string ++ List.replicate (N - (m + 1)) (Value.string ⟨#[]⟩)) 9 by
        have h := HE4.out.set m (.string cS)
        rw [List.set_append_right _ _ (by simp [hl]), List.length_map, hl, Nat.sub_self, show N - m = (N - (m + 1)) + 1 by omega, List.replicate_succ, List.set_cons_zero] at h
        rw [HES1.out, List.map_append, List.append_assoc]
        exact h)
      have HBE := hide (HB4.out.setCell (p := ⟨w.heap.size + 1, m, none⟩) (Nat.le_refl _) (.string cS))
      clear hl HES1
      have hms : (m : Int) < (N : Int) := by omega
      go_wp2
      go_roundw
      case rel =>
        have R : ∃ m' : Nat, m' ≤ N ∧ Value.int .i64 ((m : Int) + 1) = .int .i64 m' ∧ Hid (Blk (w4.setCell ⟨w.heap.size + 1, m, none⟩ (.string cS)) (w.heap.size + 1) ((revS k b sec pub p0 p1 F ds m').map Value.string ++ List.replicate (N - m') (Value.string ⟨#[]⟩)) 9) ∧ Hid (Below (w.heap.size + 1) WT (w4.setCell ⟨w.heap.size + 1, m, none⟩ (.string cS))) := ⟨m + 1, by omega, by go_num, HEE.out, HBE.out⟩
        first | exact R | ((repeat apply Exists.intro); exact ⟨R, rfl⟩)
      case measure => simp [intOf]; omega
    · obtain rfl : m = N := by omega
      go_wp2
      go_ret
      have h := hen.out
      rw [Nat.sub_self, List.replicate_zero, List.append_nil] at h
      exact ⟨rfl, h, HB.out.trans (hb.out.mono (by omega))⟩
end Go.Proofs.YtgaoeoijdpdjiaaGreatDoor

namespace Go.Proofs.YtgaoeoijdpdjiaaGreatDoor
open Go.RowKit
set_option maxRecDepth 20000 in
set_option maxHeartbeats 8000000 in
theorem rleaf_any (k x t l p0 p1 p2 p3 a0 a1 a3 a4 a5 : Int) (b : Nat) (sec rnd pub : ByteArray) (ch wd : Nat) (w : World) (hk : k = 1 ∨ k = 2) (h1 : 1 ≤ b) (h2 : b ≤ 16) (hs : sec.size ≤ 16) (hp : pub.size ≤ 16) (hc1 : 1 ≤ ch) (hc2 : ch ≤ 64) (hwd : wd ≤ 15) (hx : x = (wd : Int) + 1) (q0 : 0 ≤ p0 ∧ p0 ≤ 100000) (q1 : 0 ≤ p1 ∧ p1 ≤ 100000) (q2 : 0 ≤ p2 ∧ p2 ≤ 100000)
    (hsz : ∀ V : World, Calls Tryz.prog 89 #[.agg #[.int .i64 k, .int .i64 b, .int .i64 x, .int .i64 t, .int .i64 l]] V fun r w' => r = .returned (.agg #[.int .i64 a0, .int .i64 a1, .int .i64 ch, .int .i64 a3, .int .i64 a4, .int .i64 a5]) ∧ Below V.heap.size V w') :
    Calls Tryz.prog 96 #[.agg #[.int .i64 k, .int .i64 b, .int .i64 x, .int .i64 t, .int .i64 l], .agg #[.string sec, .string rnd, .string pub], .agg #[.int .i64 p0, .int .i64 p1, .int .i64 p2, .int .i64 p3]] w fun e w' => e = .returned (.string (leafS k b wd ch sec pub p0 p1 p2)) ∧ Below w.heap.size w w' := by
  obtain ⟨i0, hi, hz0, hz1, hz2⟩ := info_parts infoStr
  have hx1 : 1 ≤ x := by omega
  have hx2 : x ≤ 16 := by omega
  have HSZ := hide hsz
  have HST := hide (fun (m : Nat) (hm : m ≤ 64) (V : World) => rstart_any k x t l p0 p1 p2 m b sec rnd pub V hk h1 h2 hs q0 q1 q2 (by omega))
  have HCH := hide (fun (m : Nat) (hm : m ≤ 64) (V : World) => (by
    have h := rchain_any k x t l p0 p1 p2 m b pub (startS k b sec p0 p1 p2 m) 0 hk h1 h2 hp (startS_size k b sec p0 p1 p2 m hk (by omega) (by omega) hs) q0 q1 q2 (by omega) wd (by omega) V
    rw [show ((0 + wd : Nat) : Int) = x - 1 by omega] at h
    exact h : Calls Tryz.prog 54 #[.agg #[.int .i64 k, .int .i64 b, .int .i64 x, .int .i64 t, .int .i64 l], .string pub, .agg #[.int .i64 p0, .int .i64 p1, .int .i64 p2, .int .i64 m], .int .i64 0, .int .i64 (x - 1), .string (startS k b sec p0 p1 p2 m)] V fun e w' => e = .returned (.string (endS k b wd sec pub p0 p1 p2 m)) ∧ Below V.heap.size V w'))
  have HFO := hide (fun (z : Int) (V : World) (g c : Nat) (hg : g < V.heap.size) (hc : (endsS k b wd sec pub p0 p1 p2 ch).length ≤ c) (hce : ∀ (j : Nat) y, (endsS k b wd sec pub p0 p1 p2 ch)[j]? = some y → V.cell? ⟨g, 0 + j, none⟩ = some (.string y)) => (by
    have h := rfold_any k x t l p0 p1 p2 z b pub hk h1 h2 hp q0 q1 q2 6 0 g 0 c (endsS k b wd sec pub p0 p1 p2 ch) V (by omega) hce hg hc (by rw [endsS_length]; exact hc1) (by rw [endsS_length]; omega) (by rw [endsS_length]; exact hc2) (endsS_size k b wd sec pub p0 p1 p2 ch hk (by omega) (by omega) hs hp)
    exact h : Calls Tryz.prog 167 #[.agg #[.int .i64 k, .int .i64 b, .int .i64 x, .int .i64 t, .int .i64 l], .string pub, .agg #[.int .i64 p0, .int .i64 p1, .int .i64 p2, .int .i64 z], .int .i64 (0 : Nat), .slice (some ⟨g, 0, none⟩) (endsS k b wd sec pub p0 p1 p2 ch).length c] V fun e w' => e = .returned (.string (foldS k b pub p0 p1 p2 6 (0 : Nat) (endsS k b wd sec pub p0 p1 p2 ch))) ∧ Below V.heap.size V w'))
  have HES := hide (fun m => endsS_succ k b wd sec pub p0 p1 p2 m)
  have HEL := hide (fun m => endsS_length k b wd sec pub p0 p1 p2 m)
  clear hsz q0 q1 q2 hx
  obtain ⟨W0, hW⟩ : ∃ W0, (w.alloc (.cells #[.int .i64 k, .int .i64 b, .int .i64 x, .int .i64 t, .int .i64 l] 23)).alloc (.cells #[.string sec, .string rnd, .string pub] 25) = W0 := ⟨_, rfl⟩
  have hzT : W0.heap.size ≤ w.heap.size + 2 := by subst hW; simp
  have hzT' : w.heap.size + 2 ≤ W0.heap.size := by subst hW; simp
  have HF := hide (show FiveC w.heap.size W0 k b x t l by subst hW; refine ⟨?_, ?_, ?_, ?_, ?_⟩ <;> simp [go_sem])
  have HC := hide (show W0.cell? ⟨w.heap.size + 1, 0, none⟩ = some (.string sec) ∧ W0.cell? ⟨w.heap.size + 1, 1, none⟩ = some (.string rnd) ∧ W0.cell? ⟨w.heap.size + 1, 2, none⟩ = some (.string pub) by subst hW; refine ⟨?_, ?_, ?_⟩ <;> simp [go_sem])
  have HB := hide (show Below w.heap.size w W0 by subst hW; exact ((Below.refl _ _).alloc (Nat.le_refl _) _).alloc (by simp) _)
  have HP0 := hide (show Blk (W0.alloc (.cells #[.int .i64 p0, .int .i64 p1, .int .i64 p2, .int .i64 p3] 27)) (w.heap.size + 2) [.int .i64 p0, .int .i64 p1, .int .i64 p2, .int .i64 p3] 27 by have h := Blk.new W0 [.int .i64 p0, .int .i64 p1, .int .i64 p2, .int .i64 p3] 27; rw [show W0.heap.size = w.heap.size + 2 by omega] at h; exact h)
  have HWE := hide hW
  clear hW
  go_enter Tryz.func96, Tryz.ntmps96
  go_wp2_with fail
  refine (HSZ.out _).mono ?_
  rintro e w1 ⟨rfl, hb1⟩
  rw [HWE.out] at hb1
  have HB1 := hide (show Below (w.heap.size + 2) W0 w1 from ((Below.refl _ W0).alloc (by omega) _).trans (hb1.mono (by simp; omega)))
  have HP1 := hide (HP0.out.on hb1)
  have hz1' : w.heap.size + 2 < w1.heap.size := HP1.out.lt
  clear hb1 HWE
  have HZ := hide (show Blk (w1.alloc (.cells #[.int .i64 a0, .int .i64 a1, .int .i64 ch, .int .i64 a3, .int .i64 a4, .int .i64 a5] 127)) w1.heap.size [.int .i64 a0, .int .i64 a1, .int .i64 ch, .int .i64 a3, .int .i64 a4, .int .i64 a5] 127 from Blk.new _ _ _)
  have HBA := hide (HB1.out.alloc (by omega) (.cells #[.int .i64 a0, .int .i64 a1, .int .i64 ch, .int .i64 a3, .int .i64 a4, .int .i64 a5] 127))
  have HPA := hide (HP1.out.alloc (.cells #[.int .i64 a0, .int .i64 a1, .int .i64 ch, .int .i64 a3, .int .i64 a4, .int .i64 a5] 127))
  have hzA : (w1.alloc (.cells #[.int .i64 a0, .int .i64 a1, .int .i64 ch, .int .i64 a3, .int .i64 a4, .int .i64 a5] 127)).heap.size = w1.heap.size + 1 := by simp
  go_wp2_with fail
  obtain ⟨WA, hWA⟩ : ∃ WA, w1.alloc (.cells #[.int .i64 a0, .int .i64 a1, .int .i64 ch, .int .i64 a3, .int .i64 a4, .int .i64 a5] 127) = WA := ⟨_, rfl⟩
  rw [hWA] at HZ HBA HPA hzA ⊢
  clear hWA HB1 HP1
  go_loopw [8, 9] (fun v i wr => ∃ (m : Nat) (z : Int), m ≤ ch ∧ i = .int .i64 m ∧ Hid (Blk wr (w.heap.size + 2) [.int .i64 p0, .int .i64 p1, .int .i64 p2, .int .i64 z] 27) ∧ Hid (Blk wr w1.heap.size [.int .i64 a0, .int .i64 a1, .int .i64 ch, .int .i64 a3, .int .i64 a4, .int .i64 a5] 127) ∧ Hid (wr.ownsRow (w1.heap.size + 1) 9 1 v m ((endsS k b wd sec pub p0 p1 p2 m).map Value.string)) ∧ Hid (Below (w.heap.size + 2) W0 wr) ∧ w1.heap.size + 1 ≤ wr.heap.size) (fun _ i _ => ch - (intOf i).toNat)
  case atStart => exact ⟨0, p3, Nat.zero_le _, rfl, HPA.out, HZ.out, World.ownsRow_nil _ _ _ _, HBA.out, by omega⟩
  case round =>
    obtain ⟨m, z, hm, rfl, hat, hsz, ho, hb, hzr⟩ := hrel
    have zc := hsz.out.cell 2
    have a3' := hat.out.cell 3
    have fz := hat.out.free 3
    obtain ⟨c0, c1, c2, c3, c4⟩ := HF.out.below hb.out (by omega)
    have s0 := (hb.out.cell (p := ⟨w.heap.size + 1, 0, none⟩) (by show w.heap.size + 1 < _; omega)).trans HC.out.1
    have s1 := (hb.out.cell (p := ⟨w.heap.size + 1, 1, none⟩) (by show w.heap.size + 1 < _; omega)).trans HC.out.2.1
    have s2 := (hb.out.cell (p := ⟨w.heap.size + 1, 2, none⟩) (by show w.heap.size + 1 < _; omega)).trans HC.out.2.2
    have d0 := hat.out.cell 0
    have d1 := hat.out.cell 1
    have d2 := hat.out.cell 2
    simp only [List.getElem?_cons_zero, List.getElem?_cons_succ] at zc a3' d0 d1 d2
    by_cases hlt : m < ch
    · have HBV := hide (hb.out.setCell (p := ⟨w.heap.size + 2, 3, none⟩) (Nat.le_refl _) (.int .i64 m))
      have HAV := hide (hat.out.set 3 (.int .i64 m))
      have HZV := hide (hsz.out.other (a := ⟨w.heap.size + 2, 3, none⟩) (.int .i64 m) (by simp; omega))
      have HOV := hide (ho.out.kept (grownBy_cell wr (w.heap.size + 2) 3 (.int .i64 m)) (own_ne ho.out (by omega)))
      have hzV : w1.heap.size + 1 ≤ (wr.setCell ⟨w.heap.size + 2, 3, none⟩ (.int .i64 m)).heap.size := by simp [World.setCell]; omega
      have HSM := hide (HST.out m (by omega) (wr.setCell ⟨w.heap.size + 2, 3, none⟩ (.int .i64 m)))
      go_wp2_with fail
      refine HSM.out.mono ?_
      rintro e w2 ⟨rfl, hb2⟩
      have HB2 := hide (heldN HBV.out hb2 (by omega))
      have HA2 := hide (HAV.out.on hb2)
      have HZ2 := hide (HZV.out.on hb2)
      have HO2 := hide (HOV.out.kept (grown_of_below hb2) (by cases Value.ownBlock _ with | none => exact .inl rfl | some _ => exact .inr (by simp)))
      have hz2' : w1.heap.size + 1 ≤ w2.heap.size := Nat.le_trans hzV hb2.size
      clear hb2 hzV HBV HAV HZV HOV HSM zc a3' fz c0 c1 c2 c3 c4 s0 s1 s2 d0 d1 d2 hat hsz ho hb hzr
      obtain ⟨c0, c1, c2, c3, c4⟩ := HF.out.below HB2.out (by omega)
      have s2 := (HB2.out.cell (p := ⟨w.heap.size + 1, 2, none⟩) (by show w.heap.size + 1 < _; omega)).trans HC.out.2.2
      have d0 := HA2.out.cell 0
      have d1 := HA2.out.cell 1
      have d2 := HA2.out.cell 2
      have d3 := HA2.out.cell 3
      simp only [List.set_cons_succ, List.set_cons_zero, List.getElem?_cons_zero, List.getElem?_cons_succ] at d0 d1 d2 d3
      have HCM := hide (HCH.out m (by omega) w2)
      go_wp2_with fail
      refine HCM.out.mono ?_
      rintro e w3 ⟨rfl, hb3⟩
      have HB3 := hide (heldN HB2.out hb3 (by omega))
      have HA3 := hide (HA2.out.on hb3)
      have HZ3 := hide (HZ2.out.on hb3)
      have HO3 := hide (HO2.out.kept (grown_of_below hb3) (by cases Value.ownBlock _ with | none => exact .inl rfl | some _ => exact .inr (by simp)))
      have hz3' : w1.heap.size + 1 ≤ w3.heap.size := Nat.le_trans hz2' hb3.size
      clear hb3 hz2' HB2 HA2 HZ2 HO2 HCM c0 c1 c2 c3 c4 s2 d0 d1 d2 d3
      have HSU := hide (HES.out m)
      generalize endS k b wd sec pub p0 p1 p2 m = en at HSU ⊢
      go_wp2_with (at_builtin; refine wpList_append_own _ rfl _ _ 50 rfl (w1.heap.size + 1) 9 i0 (.string ⟨#[]⟩) 1 16 Tryz.underlying50 hi hz0 hz1 hz2 rfl (by decide) _ _ _ rfl (HO3.out.alloc _) ⟨w3.heap.size, 0, none⟩ 1 1 [_] rfl rfl (one_new _ _ _) ?c2 ?c3 ?c4 ?c5 ?_)
      case c2 => intro y hy; simp at hy; subst hy; rfl
      case c3 => unfold maxLen; omega
      case c4 => omega
      case c5 => simp; omega
      intro v' w6 ho6 hgrow _
      have HB6 := hide ((HB3.out.alloc (by omega) _).grown hgrow (by simp; omega) (fun p hp => by have := (owns_lt HO3.out p hp).1; omega))
      have HO6 : Hid (w6.ownsRow (w1.heap.size + 1) 9 1 v' (m + 1) ((endsS k b wd sec pub p0 p1 p2 (m + 1)).map Value.string)) := by
        show w6.ownsRow (w1.heap.size + 1) 9 1 v' (m + 1) ((endsS k b wd sec pub p0 p1 p2 (m + 1)).map Value.string)
        rw [HSU.out, List.map_append]
        exact ho6
      have HA6 := hide (blk_grown (HA3.out.alloc _) hgrow (fun p hp => by have := (owns_lt HO3.out p hp).1; omega))
      have HZ6 := hide (blk_grown (HZ3.out.alloc _) hgrow (fun p hp => by have := (owns_lt HO3.out p hp).1; omega))
      have hz6' : w1.heap.size + 1 ≤ w6.heap.size := by have := hgrow.size; simp at this; omega
      clear ho6 hgrow HO3 HB3 HA3 HZ3 hz3'
      go_wp2
      go_roundw
      case rel =>
        have R : ∃ (m' : Nat) (z : Int), m' ≤ ch ∧ Value.int .i64 ((m : Int) + 1) = .int .i64 m' ∧ Hid (Blk w6 (w.heap.size + 2) [.int .i64 p0, .int .i64 p1, .int .i64 p2, .int .i64 z] 27) ∧ Hid (Blk w6 w1.heap.size [.int .i64 a0, .int .i64 a1, .int .i64 ch, .int .i64 a3, .int .i64 a4, .int .i64 a5] 127) ∧ Hid (w6.ownsRow (w1.heap.size + 1) 9 1 v' m' ((endsS k b wd sec pub p0 p1 p2 m').map Value.string)) ∧ Hid (Below (w.heap.size + 2) W0 w6) ∧ w1.heap.size + 1 ≤ w6.heap.size := ⟨m + 1, m, by omega, by go_num, HA6.out, HZ6.out, HO6.out, HB6.out, hz6'⟩
        first | exact R | ((repeat apply Exists.intro); exact ⟨R, rfl⟩)
      case measure => simp [intOf]; omega
    · obtain rfl : m = ch := by omega
      have hel := HEL.out m
      have HO := ho.out
      obtain ⟨g', c', rfl, hcc, hg1, hg2, hce'⟩ := owns_strs (ys := endsS k b wd sec pub p0 p1 p2 m) (by rw [hel]; exact HO) (by omega)
      have HFM := hide (HFO.out z wr g' c' hg2 hcc hce')
      rw [hel] at HFM
      have HLS : Hid (leafS k b wd m sec pub p0 p1 p2 = foldS k b pub p0 p1 p2 6 (0 : Nat) (endsS k b wd sec pub p0 p1 p2 m)) := rfl
      rw [← HLS.out] at HFM
      have HBW := hide (HB.out.trans (hb.out.mono (by omega)))
      clear hce' HO hsz ho hat hb hcc
      obtain ⟨lf, hlf⟩ : ∃ lf, leafS k b wd m sec pub p0 p1 p2 = lf := ⟨_, rfl⟩
      rw [hlf] at HFM
      have HLF := hide hlf
      clear hlf HLS
      go_wp2_with fail
      refine HFM.out.mono ?_
      rintro e w2 ⟨rfl, hb2⟩
      have HB2 := hide (HBW.out.trans (hb2.mono HBW.out.size))
      clear hb2 zc a3' fz c0 c1 c2 c3 c4 s0 s1 s2 d0 d1 d2
      go_wp2
      go_ret
      exact ⟨by rw [HLF.out]; rfl, HB2.out⟩
end Go.Proofs.YtgaoeoijdpdjiaaGreatDoor

namespace Go.Proofs.YtgaoeoijdpdjiaaGreatDoor
open Go.RowKit
def wldQ (b0 b1 b2 wv dv hv : Value) : List Value := [b0, b1, b2, wv, dv, hv]
def plV (p : Nat × Nat) : List Value := [.pointer (some ⟨p.1, 0, none⟩), .pointer (some ⟨p.2, 0, none⟩)]
def plC (P : List (Nat × Nat)) : List Value := P.flatMap plV
theorem plC_get {P : List (Nat × Nat)} {j : Nat} {p : Nat × Nat} (h : P[j]? = some p) (i : Nat) (hi : i < 2) : (plC P)[j * 2 + i]? = (plV p)[i]? := flat_get plV 2 P j p i (fun _ _ => rfl) h hi
theorem plC_snoc (P : List (Nat × Nat)) (p : Nat × Nat) : plC (P ++ [p]) = plC P ++ [.pointer (some ⟨p.1, 0, none⟩), .pointer (some ⟨p.2, 0, none⟩)] := by simp [plC, plV]
theorem exec_op {ev : Operand → Value} {x : Operand} {d : Option Nat} {ty : TypeId} {ps : String} {af : Array Edge} {g : Option (Nat × Bool)} {b o : Nat} {C : List Value} {V : World} (hx : ev x = .pointer (some ⟨b, o, none⟩)) (h : cellsAt V b o 21 = some C) :
    (execOp ev { dst := d, op := .load 77 x, type := ty, pos := ps, after := af, guard := g }).run Tryz.prog V = .ok (.value (.agg C.toArray)) V := by
  obtain ⟨hl, hr⟩ := cellsAt_range 21 C V b o h
  have hv := run_loadVar_mid (P := Tryz.prog) V b o 77 C _ hr Tryz.underlying77 rfl (by rw [hl]; exact sizeOp)
  unfold execOp
  simp only [hx, Instr.loadAt, Instr.sureAddr, Sem.run_bind, Sem.run_pure, Result.andThen_ok, hv]
theorem blk_cellsAt {w : World} {b : Nat} {C : List Value} {T : TypeId} (h : Blk w b C T) : cellsAt w b 0 C.length = some C := range_cellsAt C C.length w b 0 rfl (fun i u hu => by rw [Nat.zero_add]; exact (h.cell i).trans hu)
theorem pickL_any (c n : Int) (w : World) (h1 : 1 ≤ n) (h2 : n ≤ 9223372036854775807) (hc : -9223372036854775808 ≤ c) (hc2 : c ≤ 9223372036854775807) :
    Calls Tryz.prog 60 #[.int .i64 c, .int .i64 n] w fun e w' => e = .returned (.int .i64 (pickZ c n)) ∧ w' = w := by
  by_cases h : c < 0
  · go_enter Tryz.func60, Tryz.ntmps60
    go_wp2
    go_ret
    refine ⟨congrArg (fun q => Ending.returned (Value.int .i64 q)) ?_, rfl⟩
    unfold pickZ
    rw [if_pos h, ← Int.neg_tmod, Int.tmod_eq_emod_of_nonneg (by omega)]
  · go_enter Tryz.func60, Tryz.ntmps60
    go_wp2
    go_ret
    refine ⟨congrArg (fun q => Ending.returned (Value.int .i64 q)) ?_, rfl⟩
    unfold pickZ
    rw [if_neg (by omega)]
end Go.Proofs.YtgaoeoijdpdjiaaGreatDoor
