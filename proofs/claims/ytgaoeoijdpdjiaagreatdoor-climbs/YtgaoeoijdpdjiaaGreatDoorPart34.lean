/-
  The program's Reveal. The program's Leaf.
-/
import Derived.Test.YtgaoeoijdpdjiaaGreatDoorPart33
import Derived.Test.YtgaoeoijdpdjiaaGreatDoorPart29
import Derived.Test.YtgaoeoijdpdjiaaGreatDoorPart18
import Derived.Test.YtgaoeoijdpdjiaaGreatDoorPart30
namespace Go.Proofs.YtgaoeoijdpdjiaaGreatDoor
open Go.RowKit
/-- What Reveal makes of the first n digits. -/
def revS (k b : Int) (sec pub : ByteArray) (p0 p1 F : Int) (ds : List Nat) (n : Nat) : List ByteArray := (List.range n).map fun (i : Nat) => chainS k b pub p0 p1 F i 0 (ds[i]?.getD 0) (startS k b sec p0 p1 F i)
theorem revS_succ (k b : Int) (sec pub : ByteArray) (p0 p1 F : Int) (ds : List Nat) (n : Nat) : revS k b sec pub p0 p1 F ds (n + 1) = revS k b sec pub p0 p1 F ds n ++ [chainS k b pub p0 p1 F n 0 (ds[n]?.getD 0) (startS k b sec p0 p1 F n)] := by simp [revS, List.range_succ]
theorem revS_length (k b : Int) (sec pub : ByteArray) (p0 p1 F : Int) (ds : List Nat) (n : Nat) : (revS k b sec pub p0 p1 F ds n).length = n := by simp [revS]
set_option maxRecDepth 20000 in
set_option maxHeartbeats 4000000 in
theorem reveal_any (k b x t l : Int) (sec rnd pub : ByteArray) (p0 p1 p2 p3 ch F : Int) (g o c : Nat) (ds : List Nat) (w : World) (hk : k = 1 ∨ k = 2) (h1 : 1 ≤ b) (h2 : b ≤ 16) (hs : sec.size ≤ 16) (hp : pub.size ≤ 16) (hn : ds.length ≤ 64) (hd : ∀ d ∈ ds, d ≤ 16) (hg : g < w.heap.size) (hc : ∀ (j : Nat) d, ds[j]? = some d → w.cell? ⟨g, o + j, none⟩ = some (.int .i64 (d : Nat))) (hT : Tn w) :
    Calls Tryz.prog 76 #[.agg #[.int .i64 k, .int .i64 b, .int .i64 x, .int .i64 t, .int .i64 l, .string sec, .string rnd, .string pub, .int .i64 p0, .int .i64 p1, .int .i64 p2, .int .i64 p3, .int .i64 ch], .int .i64 F, .slice (some ⟨g, o, none⟩) ds.length c] w fun e w' => e = .returned (.slice (some ⟨w.heap.size + 1, 0, none⟩) ds.length ds.length) ∧ Blk w' (w.heap.size + 1) ((revS k b sec pub p0 p1 F ds ds.length).map Value.string) 9 ∧ Below w.heap.size w w' := by
  have hmk := makeStr ds.length (by omega)
  have HP1 := hide (fun (m : Int) (V : World) => spotOf_any k b x t l sec rnd pub sec p0 p1 p2 p3 ch F m V)
  have HP2 := hide (fun (m : Int) (V : World) => spotOf_any k b x t l sec rnd pub pub p0 p1 p2 p3 ch F m V)
  have HST := hide (fun (m : Int) (V : World) (hV : Tn V) => start_any k b x t l sec p0 p1 F m V hk h1 h2 hs hV)
  have HCH := hide (fun (m d : Nat) (hd : d ≤ 16) (V : World) (hV : Tn V) => (by
    have h := schain_any k b x t l pub p0 p1 F m 0 d (startS k b sec p0 p1 F m) V hk h1 h2 hp (startS_size k b sec p0 p1 F m hk h1 h2 hs) (by omega) hV
    rw [Nat.zero_add] at h
    exact h : Calls Tryz.prog 95 #[.agg #[.int .i64 k, .int .i64 b, .int .i64 x, .int .i64 t, .int .i64 l, .string pub, .int .i64 p0, .int .i64 p1, .int .i64 F, .int .i64 m], .int .i64 0, .int .i64 d, .string (startS k b sec p0 p1 F m)] V fun e w' => e = .returned (.string (chainS k b pub p0 p1 F m 0 d (startS k b sec p0 p1 F m))) ∧ Below V.heap.size V w'))
  have HES := hide (fun m => revS_succ k b sec pub p0 p1 F ds m)
  have HEL := hide (fun m => revS_length k b sec pub p0 p1 F ds m)
  have HD := hide hd
  have HT := hide hT
  have HCC := hide hc
  obtain ⟨N, hN⟩ : ∃ N, ds.length = N := ⟨_, rfl⟩
  rw [hN] at hmk ⊢
  have HN := hide hN
  have hn' : N ≤ 64 := by omega
  clear hT hd hc hN hn
  obtain ⟨WT, hWT⟩ : ∃ WT, w.alloc (.cells #[.int .i64 k, .int .i64 b, .int .i64 x, .int .i64 t, .int .i64 l, .string sec, .string rnd, .string pub, .int .i64 p0, .int .i64 p1, .int .i64 p2, .int .i64 p3, .int .i64 ch] 83) = WT := ⟨_, rfl⟩
  have HWT := hide (show Blk WT w.heap.size [.int .i64 k, .int .i64 b, .int .i64 x, .int .i64 t, .int .i64 l, .string sec, .string rnd, .string pub, .int .i64 p0, .int .i64 p1, .int .i64 p2, .int .i64 p3, .int .i64 ch] 83 by rw [← hWT]; exact Blk.new _ _ _)
  have hzT : WT.heap.size = w.heap.size + 1 := by rw [← hWT]; simp
  have HB := hide (show Below w.heap.size w WT by rw [← hWT]; exact (Below.refl _ _).alloc (Nat.le_refl _) _)
  have HTT := hide (HT.out.on HB.out)
  have HW3 := hide (show Blk (WT.alloc (.cells (Array.replicate N (Value.string ⟨#[]⟩)) 9)) (w.heap.size + 1) (List.replicate N (Value.string ⟨#[]⟩)) 9 ∧ Below (w.heap.size + 1) WT (WT.alloc (.cells (Array.replicate N (Value.string ⟨#[]⟩)) 9)) by
    refine ⟨?_, ?_⟩
    · have h := Blk.new WT (List.replicate N (Value.string ⟨#[]⟩)) 9
      rw [hzT, List.toArray_replicate] at h; exact h
    · exact (Below.refl _ _).alloc (by omega) _)
  go_enter Tryz.func76, Tryz.ntmps76
  have HWE := hide hWT
  clear hWT
  go_wp2_with fail
  rw [HWE.out]
  obtain ⟨W3, hW3⟩ : ∃ W3, WT.alloc (.cells (Array.replicate N (Value.string ⟨#[]⟩)) 9) = W3 := ⟨_, rfl⟩
  rw [hW3] at HW3 ⊢
  clear hW3 hmk HWE
  go_loopw [16] (fun i wr => ∃ m : Nat, m ≤ N ∧ i = .int .i64 m ∧ Hid (Blk wr (w.heap.size + 1) ((revS k b sec pub p0 p1 F ds m).map Value.string ++ List.replicate (N - m) (Value.string ⟨#[]⟩)) 9) ∧ Hid (Below (w.heap.size + 1) WT wr)) (fun i _ => N - (intOf i).toNat)
  case atStart => exact ⟨0, Nat.zero_le _, rfl, show Blk _ _ _ _ by simpa [revS] using HW3.out.1, HW3.out.2⟩
  case round =>
    obtain ⟨m, hm, rfl, hen, hb⟩ := hrel
    by_cases hlt : m < N
    · obtain ⟨dd, hdd⟩ : ∃ dd, ds[m]? = some dd := ⟨_, List.getElem?_eq_getElem (by rw [HN.out]; exact hlt)⟩
      have hdb : dd ≤ 16 := HD.out dd (List.mem_of_getElem? hdd)
      have cd : wr.cell? ⟨g, o + m, none⟩ = some (.int .i64 dd) := (hb.out.cell (p := ⟨g, o + m, none⟩) (by show g < _; omega)).trans ((HB.out.cell (p := ⟨g, o + m, none⟩) hg).trans (HCC.out m dd hdd))
      have HGD := hide (show ds[m]?.getD 0 = dd by rw [hdd]; rfl)
      clear hdd
      have HS := hide (fun (V : World) (h : Below (w.heap.size + 1) WT V) => (by
        have hb := HWT.out.below h (by omega)
        exact ⟨hb.cell 0, hb.cell 1, hb.cell 2, hb.cell 3, hb.cell 4, hb.cell 5, hb.cell 6, hb.cell 7, hb.cell 8, hb.cell 9, hb.cell 10, hb.cell 11, hb.cell 12⟩ : V.cell? ⟨w.heap.size, 0, none⟩ = some (.int .i64 k) ∧ V.cell? ⟨w.heap.size, 1, none⟩ = some (.int .i64 b) ∧ V.cell? ⟨w.heap.size, 2, none⟩ = some (.int .i64 x) ∧ V.cell? ⟨w.heap.size, 3, none⟩ = some (.int .i64 t) ∧ V.cell? ⟨w.heap.size, 4, none⟩ = some (.int .i64 l) ∧ V.cell? ⟨w.heap.size, 5, none⟩ = some (.string sec) ∧ V.cell? ⟨w.heap.size, 6, none⟩ = some (.string rnd) ∧ V.cell? ⟨w.heap.size, 7, none⟩ = some (.string pub) ∧ V.cell? ⟨w.heap.size, 8, none⟩ = some (.int .i64 p0) ∧ V.cell? ⟨w.heap.size, 9, none⟩ = some (.int .i64 p1) ∧ V.cell? ⟨w.heap.size, 10, none⟩ = some (.int .i64 p2) ∧ V.cell? ⟨w.heap.size, 11, none⟩ = some (.int .i64 p3) ∧ V.cell? ⟨w.heap.size, 12, none⟩ = some (.int .i64 ch)))
      have HTN := hide (fun (V : World) (h : Below (w.heap.size + 1) WT V) => HTT.out.below h (by have := HT.out.pos; omega))
      have H1 := hide (HP1.out m)
      have H2 := hide (HP2.out m)
      have H3 := hide (HST.out m)
      have H4 := hide (HCH.out m dd hdb)
      have HES1 := hide (show revS k b sec pub p0 p1 F ds (m + 1) = revS k b sec pub p0 p1 F ds m ++ [chainS k b pub p0 p1 F m 0 dd (startS k b sec p0 p1 F m)] by rw [HES.out m, HGD.out])
      generalize chainS k b pub p0 p1 F m 0 dd (startS k b sec p0 p1 F m) = cS at H4 HES1
      generalize startS k b sec p0 p1 F m = sS at H3 H4
      obtain ⟨c0, c1, c2, c3, c4, c5, c6, c7, c8, c9, c10, c11, c12⟩ := HS.out wr hb.out
      go_wp2_with fail
      refine (H1.out _).mono ?_
      rintro e w1 ⟨rfl, hb1⟩
      have HB1 := hide (heldN hb.out hb1 (by omega))
      have HE1 := hide (hen.out.on hb1)
      clear hb1 c0 c1 c2 c3 c4 c5 c6 c7 c8 c9 c10 c11 c12 hen hb cd
      go_wp2_with fail
      refine (H3.out _ (HTN.out _ HB1.out)).mono ?_
      rintro e w2 ⟨rfl, hb2⟩
      have HB2 := hide (heldN HB1.out hb2 (by omega))
      have HE2 := hide (HE1.out.on hb2)
      clear hb2 HB1 HE1
      obtain ⟨c0, c1, c2, c3, c4, c5, c6, c7, c8, c9, c10, c11, c12⟩ := HS.out w2 HB2.out
      go_wp2_with fail
      refine (H2.out _).mono ?_
      rintro e w3 ⟨rfl, hb3⟩
      have HB3 := hide (heldN HB2.out hb3 (by omega))
      have HE3 := hide (HE2.out.on hb3)
      clear hb3 HB2 HE2 c0 c1 c2 c3 c4 c5 c6 c7 c8 c9 c10 c11 c12
      go_wp2_with fail
      refine (H4.out _ (HTN.out _ HB3.out)).mono ?_
      rintro e w4 ⟨rfl, hb4⟩
      have HB4 := hide (heldN HB3.out hb4 (by omega))
      have HE4 := hide (HE3.out.on hb4)
      clear hb4 HB3 HE3
      have hl := HEL.out m
      have e0 : w4.cell? ⟨w.heap.size + 1, m, none⟩ = some (.string ⟨#[]⟩) := by
        rw [HE4.out.cell, List.getElem?_append_right (by simp [hl]), List.length_map, hl, Nat.sub_self, List.getElem?_replicate, if_pos (by omega)]
      have e1 := HE4.out.free m
      have HEE := hide (show Blk (w4.setCell ⟨w.heap.size + 1, m, none⟩ (.string cS)) (w.heap.size + 1) ((revS k b sec pub p0 p1 F ds (m + 1)).map Value.string ++ List.replicate (N - (m + 1)) (Value.string ⟨#[]⟩)) 9 by
        have h := HE4.out.set m (.string cS)
        rw [List.set_append_right _ _ (by simp [hl]), List.length_map, hl, Nat.sub_self, show N - m = (N - (m + 1)) + 1 by omega, List.replicate_succ, List.set_cons_zero] at h
        rw [HES1.out, List.map_append, List.append_assoc]
        exact h)
      have HBE := hide (HB4.out.setCell (p := ⟨w.heap.size + 1, m, none⟩) (Nat.le_refl _) (.string cS))
      clear hl HES1
      have hms : (m : Int) < (N : Int) := by omega
      go_wp2
      go_roundw
      case rel =>
        have R : ∃ m' : Nat, m' ≤ N ∧ Value.int .i64 ((m : Int) + 1) = .int .i64 m' ∧ Hid (Blk (w4.setCell ⟨w.heap.size + 1, m, none⟩ (.string cS)) (w.heap.size + 1) ((revS k b sec pub p0 p1 F ds m').map Value.string ++ List.replicate (N - m') (Value.string ⟨#[]⟩)) 9) ∧ Hid (Below (w.heap.size + 1) WT (w4.setCell ⟨w.heap.size + 1, m, none⟩ (.string cS))) := ⟨m + 1, by omega, by go_num, HEE.out, HBE.out⟩
        first | exact R | ((repeat apply Exists.intro); exact ⟨R, rfl⟩)
      case measure => simp [intOf]; omega
    · obtain rfl : m = N := by omega
      go_wp2
      go_ret
      have h := hen.out
      rw [Nat.sub_self, List.replicate_zero, List.append_nil] at h
      exact ⟨rfl, h, HB.out.trans (hb.out.mono (by omega))⟩
end Go.Proofs.YtgaoeoijdpdjiaaGreatDoor

namespace Go.Proofs.YtgaoeoijdpdjiaaGreatDoor
open Go.RowKit
theorem rev_ends (k b : Int) (sec pub : ByteArray) (p0 p1 F : Int) (wd ch : Nat) : revS k b sec pub p0 p1 F (List.replicate ch wd) ch = endsS k b wd sec pub p0 p1 F ch := by
  unfold revS endsS
  refine List.map_congr_left ?_
  intro i hi
  have h : i < ch := by simpa using hi
  simp [endS, h]
set_option maxRecDepth 20000 in
set_option maxHeartbeats 4000000 in
theorem leaf_any (k b x t l : Int) (sec rnd pub : ByteArray) (p0 p1 p2 p3 F : Int) (ch wd : Nat) (w : World) (hk : k = 1 ∨ k = 2) (h1 : 1 ≤ b) (h2 : b ≤ 16) (hs : sec.size ≤ 16) (hp : pub.size ≤ 16) (hc1 : 1 ≤ ch) (hc2 : ch ≤ 64) (hch : Ch4 ch) (hwd : wd ≤ 15) (hx : x = (wd : Int) + 1) (hT : Tn w) :
    Calls Tryz.prog 39 #[.agg #[.int .i64 k, .int .i64 b, .int .i64 x, .int .i64 t, .int .i64 l, .string sec, .string rnd, .string pub, .int .i64 p0, .int .i64 p1, .int .i64 p2, .int .i64 p3, .int .i64 ch], .int .i64 F] w fun e w' => e = .returned (.string (leafS k b wd ch sec pub p0 p1 F)) ∧ Below w.heap.size w w' := by
  have hx1 : 1 ≤ x := by omega
  have hx2 : x ≤ 16 := by omega
  have HRP := hide (fun (V : World) (g : Nat) (hg : g < V.heap.size) (hc : V.cell? ⟨g, 0, none⟩ = some (.int .i64 (x - 1))) => repeat_one (x - 1) g ch V hc1 (by omega) hg hc (mul_one ch hch))
  have HSP := hide (fun (V : World) => spotOf_any k b x t l sec rnd pub pub p0 p1 p2 p3 ch F 0 V)
  have HRV := hide (fun (V : World) (q : Nat) (hV : Tn V) (hq : Blk V q (List.replicate ch (.int .i64 (x - 1))) 3) => (by
    have h := reveal_any k b x t l sec rnd pub p0 p1 p2 p3 ch F q 0 ch (List.replicate ch wd) V hk h1 h2 hs hp (by simpa using hc2) (by intro d hd; rw [List.mem_replicate] at hd; omega) hq.lt (by
      intro j d hj
      rw [List.getElem?_replicate] at hj
      split at hj
      · rename_i hjc
        cases hj
        rw [Nat.zero_add, hq.cell, List.getElem?_replicate, if_pos hjc, hx]
        congr 2
        omega
      · cases hj) hV
    rw [List.length_replicate, rev_ends] at h
    exact h.mono fun e w' ⟨a, b, c⟩ => ⟨_, a, b, c⟩ : Calls Tryz.prog 76 #[.agg #[.int .i64 k, .int .i64 b, .int .i64 x, .int .i64 t, .int .i64 l, .string sec, .string rnd, .string pub, .int .i64 p0, .int .i64 p1, .int .i64 p2, .int .i64 p3, .int .i64 ch], .int .i64 F, .slice (some ⟨q, 0, none⟩) ch ch] V fun e w' => ∃ g, e = .returned (.slice (some ⟨g, 0, none⟩) ch ch) ∧ Blk w' g ((endsS k b wd sec pub p0 p1 F ch).map Value.string) 9 ∧ Below V.heap.size V w'))
  have HFO := hide (fun (V : World) (g : Nat) (hV : Tn V) (hg : Blk V g ((endsS k b wd sec pub p0 p1 F ch).map Value.string) 9) => (by
    have h := sfold_any k b x t l pub p0 p1 F 0 g 0 ch (endsS k b wd sec pub p0 p1 F ch) V (by
      intro j y hj
      rw [Nat.zero_add, hg.cell, List.getElem?_map, hj]
      rfl) hg.lt (by rw [endsS_length]; exact Nat.le_refl _) (by rw [endsS_length]; exact hc2) (by rw [endsS_length]; exact hc1) hk h1 h2 hp (endsS_size k b wd sec pub p0 p1 F ch hk h1 h2 hs hp) hV
    rw [endsS_length] at h
    exact h : Calls Tryz.prog 75 #[.agg #[.int .i64 k, .int .i64 b, .int .i64 x, .int .i64 t, .int .i64 l, .string pub, .int .i64 p0, .int .i64 p1, .int .i64 F, .int .i64 0], .slice (some ⟨g, 0, none⟩) ch ch] V fun e w' => e = .returned (.string (leafS k b wd ch sec pub p0 p1 F)) ∧ Below V.heap.size V w'))
  generalize leafS k b wd ch sec pub p0 p1 F = lf at HFO ⊢
  have HX := hide hx
  clear hx
  obtain ⟨WT, hWT⟩ : ∃ WT, w.alloc (.cells #[.int .i64 k, .int .i64 b, .int .i64 x, .int .i64 t, .int .i64 l, .string sec, .string rnd, .string pub, .int .i64 p0, .int .i64 p1, .int .i64 p2, .int .i64 p3, .int .i64 ch] 83) = WT := ⟨_, rfl⟩
  have HWT := hide (show Blk WT w.heap.size [.int .i64 k, .int .i64 b, .int .i64 x, .int .i64 t, .int .i64 l, .string sec, .string rnd, .string pub, .int .i64 p0, .int .i64 p1, .int .i64 p2, .int .i64 p3, .int .i64 ch] 83 by rw [← hWT]; exact Blk.new _ _ _)
  have hzT : WT.heap.size ≤ w.heap.size + 1 := by rw [← hWT]; simp
  have hzT' : w.heap.size + 1 ≤ WT.heap.size := by rw [← hWT]; simp
  have HB := hide (show Below w.heap.size w WT by rw [← hWT]; exact (Below.refl _ _).alloc (Nat.le_refl _) _)
  have HTT := hide (hT.on HB.out)
  have HS := hide (fun (V : World) (h : Below WT.heap.size WT V) => (by
    have hb := HWT.out.below h (by omega)
    exact ⟨hb.cell 0, hb.cell 1, hb.cell 2, hb.cell 3, hb.cell 4, hb.cell 5, hb.cell 6, hb.cell 7, hb.cell 8, hb.cell 9, hb.cell 10, hb.cell 11, hb.cell 12⟩ : V.cell? ⟨w.heap.size, 0, none⟩ = some (.int .i64 k) ∧ V.cell? ⟨w.heap.size, 1, none⟩ = some (.int .i64 b) ∧ V.cell? ⟨w.heap.size, 2, none⟩ = some (.int .i64 x) ∧ V.cell? ⟨w.heap.size, 3, none⟩ = some (.int .i64 t) ∧ V.cell? ⟨w.heap.size, 4, none⟩ = some (.int .i64 l) ∧ V.cell? ⟨w.heap.size, 5, none⟩ = some (.string sec) ∧ V.cell? ⟨w.heap.size, 6, none⟩ = some (.string rnd) ∧ V.cell? ⟨w.heap.size, 7, none⟩ = some (.string pub) ∧ V.cell? ⟨w.heap.size, 8, none⟩ = some (.int .i64 p0) ∧ V.cell? ⟨w.heap.size, 9, none⟩ = some (.int .i64 p1) ∧ V.cell? ⟨w.heap.size, 10, none⟩ = some (.int .i64 p2) ∧ V.cell? ⟨w.heap.size, 11, none⟩ = some (.int .i64 p3) ∧ V.cell? ⟨w.heap.size, 12, none⟩ = some (.int .i64 ch)))
  have HA := hide ((Below.refl WT.heap.size WT).alloc (Nat.le_refl _) (.cells #[.int .i64 (x - 1)] 3))
  have HR0 := hide (HRP.out (WT.alloc (.cells #[.int .i64 (x - 1)] 3)) (w.heap.size + 1) (by simp; omega) (by rw [show w.heap.size + 1 = WT.heap.size by omega]; simp [go_sem]))
  obtain ⟨c0, c1, c2, c3, c4, c5, c6, c7, c8, c9, c10, c11, c12⟩ := HS.out WT (Below.refl _ _)
  clear hT HRP
  have HWE := hide hWT
  clear hWT
  go_enter Tryz.func39, Tryz.ntmps39
  go_wp2_with fail
  rw [HWE.out]
  refine HR0.out.mono ?_
  rintro e w1 ⟨q, rfl, hq0, hq, hb1⟩
  have HQ := hide hq
  have HB1 := hide (heldB HA.out hb1 (Nat.le_refl _))
  have hqw : q < w1.heap.size := hq.lt
  clear hq hb1 hq0 c0 c1 c2 c3 c4 c5 c6 c7 c8 c9 c10 c11 c12 HA HR0
  go_wp2_with fail
  go_region_held3 (fun V => V.cell? ⟨w.heap.size, 0, none⟩ = some (.int .i64 k) ∧ V.cell? ⟨w.heap.size, 1, none⟩ = some (.int .i64 b) ∧ V.cell? ⟨w.heap.size, 2, none⟩ = some (.int .i64 x) ∧ V.cell? ⟨w.heap.size, 3, none⟩ = some (.int .i64 t) ∧ V.cell? ⟨w.heap.size, 4, none⟩ = some (.int .i64 l) ∧ V.cell? ⟨w.heap.size, 5, none⟩ = some (.string sec) ∧ V.cell? ⟨w.heap.size, 6, none⟩ = some (.string rnd) ∧ V.cell? ⟨w.heap.size, 7, none⟩ = some (.string pub) ∧ V.cell? ⟨w.heap.size, 8, none⟩ = some (.int .i64 p0) ∧ V.cell? ⟨w.heap.size, 9, none⟩ = some (.int .i64 p1) ∧ V.cell? ⟨w.heap.size, 10, none⟩ = some (.int .i64 p2) ∧ V.cell? ⟨w.heap.size, 11, none⟩ = some (.int .i64 p3) ∧ V.cell? ⟨w.heap.size, 12, none⟩ = some (.int .i64 ch)) (first | exact HS.out _ hS4 | exact HS.out _ hS3 | exact HS.out _ hS2 | exact HS.out _ HB1.out.drew) (first | (go_at_call 74; refine (HSP.out _).mono ?_; rintro e w2 ⟨rfl, hb2⟩; have hS2 := heldB HB1.out.drew hb2 (Nat.le_refl _); have hK2 := (HQ.out.below (Below.refl w1.heap.size w1).drew hqw).on hb2) | (go_at_call 76; refine (HRV.out _ q (HTT.out.on hS2) hK2).mono ?_; rintro e w3 ⟨g, rfl, hg3, hb3⟩; have hS3 := heldB hS2 hb3 (Nat.le_refl _)) | (go_at_call 75; refine (HFO.out _ g (HTT.out.on hS3) hg3).mono ?_; rintro e w4 ⟨rfl, hb4⟩; have hS4 := heldB hS3 hb4 (Nat.le_refl _)))
  have HB4 := hide hS4
  clear hS2 hS3 hS4 hb2 hb3 hb4 hg3 hK2
  go_wp2
  go_ret
  exact ⟨rfl, HB.out.trans (HB4.out.mono (by omega))⟩
end Go.Proofs.YtgaoeoijdpdjiaaGreatDoor
