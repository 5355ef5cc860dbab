/-
  The program's Leaf. The program's Join and Node. The program's Node.
-/
import Derived.Test.YtcaojimmdcdpiaaDoorPart12
namespace Go.Proofs.YtcaojimmdcdpiaaDoor
open Go.RowKit

theorem madeStr (n : Nat) : madeCells (Value.string ⟨#[]⟩).cells n = ((List.replicate n (⟨#[]⟩ : ByteArray)).map Value.string).toArray := by
  apply Array.ext
  · simp [size_madeCells]
  · intro i h1 h2
    simp [madeCells, Value.cells, Nat.mod_one]
theorem makeStr (k : Nat) (hk : k ≤ 1000) (w : World) : (Instr.makeSlice 34 (.int .i64 k) (.int .i64 k)).run Tryd.prog w = .ok (.slice (some ⟨w.heap.size, 0, none⟩) k k) (w.alloc (.cells ((List.replicate k (⟨#[]⟩ : ByteArray)).map Value.string).toArray 9)) := by
  obtain ⟨i0, hi, hz0, hz1, hz2⟩ := info_parts infoStr
  have h := run_make (P := Tryd.prog) w 34 9 i0 (.string ⟨#[]⟩) Tryd.underlying34 hi hz0 .i64 .i64 k k (by omega) (by omega) (by rw [hz2]; omega) (by omega)
  rw [hz1, Nat.mul_one, Int.toNat_natCast, madeStr] at h
  exact h

theorem heldN {n : Nat} {w W V : World} (h : Below n w W) (hb : Below W.heap.size W V) (hn : n ≤ w.heap.size) : Below n w V := h.trans (hb.mono (Nat.le_trans hn h.size))

set_option maxRecDepth 20000 in
set_option maxHeartbeats 4000000 in
theorem leaf_any (k b x t l : Int) (sec rnd pub : ByteArray) (p0 p1 p2 p3 F : Int) (ch wd : Nat) (w : World) (hk : k = 1 ∨ k = 2) (h1 : 1 ≤ b) (h2 : b ≤ 16) (hs : sec.size ≤ 16) (hp : pub.size ≤ 16) (hc1 : 1 ≤ ch) (hc2 : ch ≤ 64) (hwd : wd ≤ 15) (hx : x = (wd : Int) + 1) (hT : Tn w) :
    Calls Tryd.prog 55 #[.agg #[.int .i64 k, .int .i64 b, .int .i64 x, .int .i64 t, .int .i64 l, .string sec, .string rnd, .string pub, .int .i64 p0, .int .i64 p1, .int .i64 p2, .int .i64 p3, .int .i64 ch], .int .i64 F] w fun e w' => e = .returned (.string (leafS k b wd ch sec pub p0 p1 F)) ∧ Below w.heap.size w w' := by
  have hx1 : 1 ≤ x := by omega
  have hx2 : x ≤ 16 := by omega
  have HX := hide hx
  clear hx
  have hmk := makeStr ch (by omega)
  have HST := hide (fun (m : Int) (V : World) (hV : Tn V) => start_any k b x t l sec p0 p1 F m V hk h1 h2 hs hV)
  have HCH := hide (fun (m : Nat) (V : World) (hV : Tn V) => (by
    have h := schain_any k b x t l pub p0 p1 F m 0 wd (startS k b sec p0 p1 F m) V hk h1 h2 hp (startS_size k b sec p0 p1 F m hk h1 h2 hs) (by omega) hV
    rw [show ((0 + wd : Nat) : Int) = x - 1 by have := HX.out; omega] at h
    exact h : Calls Tryd.prog 86 #[.agg #[.int .i64 k, .int .i64 b, .int .i64 x, .int .i64 t, .int .i64 l, .string pub, .int .i64 p0, .int .i64 p1, .int .i64 F, .int .i64 m], .int .i64 0, .int .i64 (x - 1), .string (startS k b sec p0 p1 F m)] V fun e w' => e = .returned (.string (endS k b wd sec pub p0 p1 F m)) ∧ Below V.heap.size V w'))
  have HFO := hide (fun (z : Int) (V : World) (hV : Tn V) (g : Nat) (hg : Blk V g ((endsS k b wd sec pub p0 p1 F ch).map Value.string) 9) => (by
    have h := sfold_any k b x t l pub p0 p1 F z g 0 ch (endsS k b wd sec pub p0 p1 F ch) V (by
      intro j y hj
      rw [Nat.zero_add, hg.cell, List.getElem?_map, hj]
      rfl) hg.lt (by rw [endsS_length]; exact Nat.le_refl _) (by rw [endsS_length]; exact hc2) (by rw [endsS_length]; exact hc1) hk h1 h2 hp (endsS_size k b wd sec pub p0 p1 F ch hk h1 h2 hs hp) hV
    rw [endsS_length] at h
    exact h : Calls Tryd.prog 87 #[.agg #[.int .i64 k, .int .i64 b, .int .i64 x, .int .i64 t, .int .i64 l, .string pub, .int .i64 p0, .int .i64 p1, .int .i64 F, .int .i64 z], .slice (some ⟨g, 0, none⟩) ch ch] V fun e w' => e = .returned (.string (leafS k b wd ch sec pub p0 p1 F)) ∧ Below V.heap.size V w'))
  have HES := hide (fun m => endsS_succ k b wd sec pub p0 p1 F m)
  have HEL := hide (fun m => endsS_length k b wd sec pub p0 p1 F m)
  have HT := hide hT
  clear hT
  obtain ⟨WT, hWT⟩ : ∃ WT, w.alloc (.cells #[.int .i64 k, .int .i64 b, .int .i64 x, .int .i64 t, .int .i64 l, .string sec, .string rnd, .string pub, .int .i64 p0, .int .i64 p1, .int .i64 p2, .int .i64 p3, .int .i64 ch] 84) = WT := ⟨_, rfl⟩
  have HWT := hide (show Blk WT w.heap.size [.int .i64 k, .int .i64 b, .int .i64 x, .int .i64 t, .int .i64 l, .string sec, .string rnd, .string pub, .int .i64 p0, .int .i64 p1, .int .i64 p2, .int .i64 p3, .int .i64 ch] 84 by rw [← hWT]; exact Blk.new _ _ _)
  have hzT : WT.heap.size = w.heap.size + 1 := by rw [← hWT]; simp
  have HB := hide (show Below w.heap.size w WT by rw [← hWT]; exact (Below.refl _ _).alloc (Nat.le_refl _) _)
  have HTT := hide (HT.out.on HB.out)
  have HW3 := hide (show Blk ((WT.alloc (.cells #[.int .i64 p0, .int .i64 p1, .int .i64 F, .int .i64 p3] 29)).alloc (.cells (Array.replicate ch (Value.string ⟨#[]⟩)) 9)) (w.heap.size + 1) [.int .i64 p0, .int .i64 p1, .int .i64 F, .int .i64 p3] 29 ∧ Blk ((WT.alloc (.cells #[.int .i64 p0, .int .i64 p1, .int .i64 F, .int .i64 p3] 29)).alloc (.cells (Array.replicate ch (Value.string ⟨#[]⟩)) 9)) (w.heap.size + 1 + 1) (List.replicate ch (Value.string ⟨#[]⟩)) 9 ∧ Below (w.heap.size + 1) WT ((WT.alloc (.cells #[.int .i64 p0, .int .i64 p1, .int .i64 F, .int .i64 p3] 29)).alloc (.cells (Array.replicate ch (Value.string ⟨#[]⟩)) 9)) by
    refine ⟨?_, ?_, ?_⟩
    · have h := (Blk.new WT [.int .i64 p0, .int .i64 p1, .int .i64 F, .int .i64 p3] 29).alloc (.cells (Array.replicate ch (Value.string ⟨#[]⟩)) 9)
      rw [hzT] at h; exact h
    · have h := Blk.new (WT.alloc (.cells #[.int .i64 p0, .int .i64 p1, .int .i64 F, .int .i64 p3] 29)) (List.replicate ch (Value.string ⟨#[]⟩)) 9
      rw [World.size_alloc, hzT, List.toArray_replicate] at h; exact h
    · exact ((Below.refl _ _).alloc (by omega) _).alloc (by simp; omega) _)
  go_enter Tryd.func55, Tryd.ntmps55
  have HWE := hide hWT
  clear hWT
  go_wp2_with fail
  rw [HWE.out]
  obtain ⟨W3, hW3⟩ : ∃ W3, (WT.alloc (.cells #[.int .i64 p0, .int .i64 p1, .int .i64 F, .int .i64 p3] 29)).alloc (.cells (Array.replicate ch (Value.string ⟨#[]⟩)) 9) = W3 := ⟨_, rfl⟩
  rw [hW3] at HW3 ⊢
  clear hW3 hmk HWE
  go_loopw [18] (fun i wr => ∃ (m : Nat) (z : Int), m ≤ ch ∧ i = .int .i64 m ∧ Hid (Blk wr (w.heap.size + 1) [.int .i64 p0, .int .i64 p1, .int .i64 F, .int .i64 z] 29) ∧ Hid (Blk wr (w.heap.size + 1 + 1) ((endsS k b wd sec pub p0 p1 F m).map Value.string ++ List.replicate (ch - m) (Value.string ⟨#[]⟩)) 9) ∧ Hid (Below (w.heap.size + 1) WT wr)) (fun i _ => ch - (intOf i).toNat)
  case atStart => exact ⟨0, p3, Nat.zero_le _, rfl, HW3.out.1, show Blk _ _ _ _ by simpa [endsS] using HW3.out.2.1, HW3.out.2.2⟩
  case round =>
    obtain ⟨m, z, hm, rfl, hat, hen, hb⟩ := hrel
    have tb := hide (HWT.out.below hb.out (by omega))
    by_cases hlt : m < ch
    · have HTV := hide (show Tn (wr.setCell ⟨w.heap.size + 1, 3, none⟩ (.int .i64 m)) from HTT.out.below (hb.out.setCell (p := ⟨w.heap.size + 1, 3, none⟩) (Nat.le_refl _) _) (by omega))
      have HBV := hide (hb.out.setCell (p := ⟨w.heap.size + 1, 3, none⟩) (Nat.le_refl _) (.int .i64 m))
      have HAV := hide (hat.out.set 3 (.int .i64 m))
      have HEV := hide (hen.out.other (a := ⟨w.heap.size + 1, 3, none⟩) (.int .i64 m) (by simp))
      have c0 := tb.out.cell 0
      have c1 := tb.out.cell 1
      have c2 := tb.out.cell 2
      have c3 := tb.out.cell 3
      have c4 := tb.out.cell 4
      have c5 := tb.out.cell 5
      have c7 := tb.out.cell 7
      have a0 := hat.out.cell 0
      have a1 := hat.out.cell 1
      have a2 := hat.out.cell 2
      have a3 := hat.out.cell 3
      have fz := hat.out.free 3
      simp only [List.getElem?_cons_zero, List.getElem?_cons_succ] at c0 c1 c2 c3 c4 c5 c7 a0 a1 a2 a3
      have HSM := hide (HST.out m _ HTV.out)
      go_wp2_with fail
      refine HSM.out.mono ?_
      rintro e w1 ⟨rfl, hb1⟩
      have HB1 := hide (heldN HBV.out hb1 (by omega))
      have HT1 := hide (HTV.out.on hb1)
      have HA1 := hide (HAV.out.on hb1)
      have HE1 := hide (HEV.out.on hb1)
      clear hb1 HSM HTV HBV HAV HEV c0 c1 c2 c3 c4 c5 c7 a0 a1 a2 a3 fz tb hat hen hb
      have tb := hide (HWT.out.below HB1.out (by omega))
      have c0 := tb.out.cell 0
      have c1 := tb.out.cell 1
      have c2 := tb.out.cell 2
      have c3 := tb.out.cell 3
      have c4 := tb.out.cell 4
      have c7 := tb.out.cell 7
      have a0 := HA1.out.cell 0
      have a1 := HA1.out.cell 1
      have a2 := HA1.out.cell 2
      have a3 := HA1.out.cell 3
      simp only [List.set_cons_succ, List.set_cons_zero, List.getElem?_cons_zero, List.getElem?_cons_succ] at c0 c1 c2 c3 c4 c7 a0 a1 a2 a3
      have HCM := hide (HCH.out m w1 HT1.out)
      go_wp2_with fail
      refine HCM.out.mono ?_
      rintro e w2 ⟨rfl, hb2⟩
      have HB2 := hide (heldN HB1.out hb2 (by omega))
      have HA2 := hide (HA1.out.on hb2)
      have HE2 := hide (HE1.out.on hb2)
      clear hb2 HCM HT1 HB1 HA1 HE1 c0 c1 c2 c3 c4 c7 a0 a1 a2 a3 tb
      have hl := HEL.out m
      have e0 : w2.cell? ⟨w.heap.size + 1 + 1, m, none⟩ = some (.string ⟨#[]⟩) := by
        rw [HE2.out.cell, List.getElem?_append_right (by simp [hl]), List.length_map, hl, Nat.sub_self, List.getElem?_replicate, if_pos (by omega)]
      have e1 := HE2.out.free m
      have HEE := hide (show Blk (w2.setCell ⟨w.heap.size + 1 + 1, m, none⟩ (.string (endS k b wd sec pub p0 p1 F m))) (w.heap.size + 1 + 1) ((endsS k b wd sec pub p0 p1 F (m + 1)).map Value.string ++ List.replicate (ch - (m + 1)) (Value.string ⟨#[]⟩)) 9 by
        have h := HE2.out.set m (.string (endS k b wd sec pub p0 p1 F m))
        rw [List.set_append_right _ _ (by simp [hl]), List.length_map, hl, Nat.sub_self, show ch - m = (ch - (m + 1)) + 1 by omega, List.replicate_succ, List.set_cons_zero] at h
        rw [HES.out m, List.map_append, List.append_assoc]
        exact h)
      have HAA := hide (HA2.out.other (a := ⟨w.heap.size + 1 + 1, m, none⟩) (.string (endS k b wd sec pub p0 p1 F m)) (by simp))
      have HBB := hide (HB2.out.setCell (p := ⟨w.heap.size + 1 + 1, m, none⟩) (by show w.heap.size + 1 ≤ w.heap.size + 1 + 1; omega) (.string (endS k b wd sec pub p0 p1 F m)))
      clear HA2 HE2 HB2 hl
      generalize endS k b wd sec pub p0 p1 F m = en at HEE HAA HBB ⊢
      go_wp2
      go_roundw
      case rel => exact ⟨m + 1, m, by omega, by go_num, HAA.out, HEE.out, HBB.out⟩
      case measure => simp [intOf]; omega
    · obtain rfl : m = ch := by omega
      have c0 := tb.out.cell 0
      have c1 := tb.out.cell 1
      have c2 := tb.out.cell 2
      have c3 := tb.out.cell 3
      have c4 := tb.out.cell 4
      have c7 := tb.out.cell 7
      have a0 := hat.out.cell 0
      have a1 := hat.out.cell 1
      have a2 := hat.out.cell 2
      have a3 := hat.out.cell 3
      simp only [List.getElem?_cons_zero, List.getElem?_cons_succ] at c0 c1 c2 c3 c4 c7 a0 a1 a2 a3
      have HFM := hide (HFO.out z wr (HTT.out.below hb.out (by omega)) (w.heap.size + 1 + 1) (by have h := hen.out; rw [Nat.sub_self, List.replicate_zero, List.append_nil] at h; exact h))
      have HBW := hide (HB.out.trans (hb.out.mono (by omega)))
      clear tb hat hen hb
      go_wp2_with fail
      refine HFM.out.mono ?_
      rintro e w1 ⟨rfl, hb1⟩
      have HB1 := hide (HBW.out.trans (hb1.mono HBW.out.size))
      clear hb1 c0 c1 c2 c3 c4 c7 a0 a1 a2 a3
      go_wp2
      go_ret
      exact ⟨rfl, HB1.out⟩
end Go.Proofs.YtcaojimmdcdpiaaDoor

namespace Go.Proofs.YtcaojimmdcdpiaaDoor
open Go.RowKit

set_option maxRecDepth 20000 in
set_option maxHeartbeats 4000000 in
theorem tjoin_any (k b x t l : Int) (sec rnd pub : ByteArray) (p0 p1 p2 p3 h j : Int) (ch : Nat) (y z : ByteArray) (w : World) (hk : k = 1 ∨ k = 2) (h1 : 1 ≤ b) (h2 : b ≤ 16) (hp : pub.size ≤ 16) (hy : y.size ≤ 16) (hz : z.size ≤ 16) (hT : Tn w) :
    Calls Tryd.prog 56 #[.agg #[.int .i64 k, .int .i64 b, .int .i64 x, .int .i64 t, .int .i64 l, .string sec, .string rnd, .string pub, .int .i64 p0, .int .i64 p1, .int .i64 p2, .int .i64 p3, .int .i64 ch], .int .i64 h, .int .i64 j, .string y, .string z] w fun e w' => e = .returned (.string (joinS k b pub p0 p1 h j y z)) ∧ Below w.heap.size w w' := by
  have HJ := hide (fun (V : World) (hV : Tn V) => sjoin_any k b x t l pub p0 p1 p2 p3 h j y z V hk h1 h2 hp hy hz hV)
  have HT := hide (hT.alloc (.cells #[.int .i64 k, .int .i64 b, .int .i64 x, .int .i64 t, .int .i64 l, .string sec, .string rnd, .string pub, .int .i64 p0, .int .i64 p1, .int .i64 p2, .int .i64 p3, .int .i64 ch] 84))
  clear hT
  go_enter Tryd.func56, Tryd.ntmps56
  go_wp2_with fail
  refine (HJ.out _ HT.out).mono ?_
  rintro e w1 ⟨rfl, hb1⟩
  have HB1 := hide (((Below.refl w.heap.size w).alloc (Nat.le_refl _) _).trans (hb1.mono (by simp)))
  clear hb1
  go_wp2
  go_ret
  exact ⟨rfl, HB1.out⟩

end Go.Proofs.YtcaojimmdcdpiaaDoor

namespace Go.Proofs.YtcaojimmdcdpiaaDoor
open Go.RowKit

set_option maxRecDepth 20000 in
set_option maxHeartbeats 4000000 in
theorem node_any (k b x t l : Int) (sec rnd pub : ByteArray) (p0 p1 p2 p3 : Int) (ch wd : Nat) (hk : k = 1 ∨ k = 2) (h1 : 1 ≤ b) (h2 : b ≤ 16) (hs : sec.size ≤ 16) (hp : pub.size ≤ 16) (hc1 : 1 ≤ ch) (hc2 : ch ≤ 64) (hwd : wd ≤ 15) (hx : x = (wd : Int) + 1) : ∀ (h : Nat) (_ : h ≤ 4) (j : Nat) (_ : (j + 1) * 2 ^ h ≤ 16) (w : World) (_ : Tn w),
    Calls Tryd.prog 90 #[.agg #[.int .i64 k, .int .i64 b, .int .i64 x, .int .i64 t, .int .i64 l, .string sec, .string rnd, .string pub, .int .i64 p0, .int .i64 p1, .int .i64 p2, .int .i64 p3, .int .i64 ch], .int .i64 h, .int .i64 j] w fun e w' => e = .returned (.string (nodeS k b wd ch sec pub p0 p1 h j)) ∧ Below w.heap.size w w' := by
  intro h
  induction h with
  | zero =>
    intro _ j _ w hT
    have HL := hide (leaf_any k b x t l sec rnd pub p0 p1 p2 p3 j ch wd (w.alloc (.cells #[.int .i64 k, .int .i64 b, .int .i64 x, .int .i64 t, .int .i64 l, .string sec, .string rnd, .string pub, .int .i64 p0, .int .i64 p1, .int .i64 p2, .int .i64 p3, .int .i64 ch] 84)) hk h1 h2 hs hp hc1 hc2 hwd hx (hT.alloc _))
    clear hT hx
    rw [show nodeS k b wd ch sec pub p0 p1 0 j = leafS k b wd ch sec pub p0 p1 j by rw [nodeS]]
    generalize leafS k b wd ch sec pub p0 p1 j = lf at HL ⊢
    go_enter Tryd.func90, Tryd.ntmps90
    go_wp2_with fail
    refine HL.out.mono ?_
    rintro e w1 ⟨rfl, hb1⟩
    have HB1 := hide (((Below.refl w.heap.size w).alloc (Nat.le_refl _) _).trans (hb1.mono (by simp)))
    clear hb1
    go_wp2
    go_ret
    exact ⟨rfl, HB1.out⟩
  | succ h ih =>
    intro hh j hj w hT
    obtain ⟨WT, hWT⟩ : ∃ WT, w.alloc (.cells #[.int .i64 k, .int .i64 b, .int .i64 x, .int .i64 t, .int .i64 l, .string sec, .string rnd, .string pub, .int .i64 p0, .int .i64 p1, .int .i64 p2, .int .i64 p3, .int .i64 ch] 84) = WT := ⟨_, rfl⟩
    have HWT := hide (show Blk WT w.heap.size [.int .i64 k, .int .i64 b, .int .i64 x, .int .i64 t, .int .i64 l, .string sec, .string rnd, .string pub, .int .i64 p0, .int .i64 p1, .int .i64 p2, .int .i64 p3, .int .i64 ch] 84 by rw [← hWT]; exact Blk.new _ _ _)
    have hzT : WT.heap.size = w.heap.size + 1 := by rw [← hWT]; simp
    have HB := hide (show Below w.heap.size w WT by rw [← hWT]; exact (Below.refl _ _).alloc (Nat.le_refl _) _)
    have HTT := hide (hT.on HB.out)
    have hp2 : 1 ≤ 2 ^ h := Nat.one_le_two_pow
    have hj' : (j + 1) * 2 * 2 ^ h ≤ 16 := by rw [Nat.pow_succ] at hj; rw [Nat.mul_assoc, Nat.mul_comm 2]; exact hj
    have hjb : j ≤ 7 := by
      have : (j + 1) * 2 * 1 ≤ 16 := Nat.le_trans (Nat.mul_le_mul_left _ hp2) hj'
      omega
    have H1 := hide (fun (V : World) (hV : Tn V) => ih (by omega) (2 * j) (Nat.le_trans (Nat.mul_le_mul_right _ (by omega)) hj') V hV)
    have H2 := hide (fun (V : World) (hV : Tn V) => ih (by omega) (2 * j + 1) (Nat.le_trans (Nat.mul_le_mul_right _ (by omega)) hj') V hV)
    have s1 := nodeS_size k b wd ch sec pub p0 p1 hk h1 h2 hs hp hc1 h (2 * j)
    have s2 := nodeS_size k b wd ch sec pub p0 p1 hk h1 h2 hs hp hc1 h (2 * j + 1)
    have HJ := hide (fun (V : World) (hV : Tn V) => tjoin_any k b x t l sec rnd pub p0 p1 p2 p3 (h + 1 : Nat) j ch (nodeS k b wd ch sec pub p0 p1 h (2 * j)) (nodeS k b wd ch sec pub p0 p1 h (2 * j + 1)) V hk h1 h2 hp (by omega) (by omega) hV)
    have HN : Hid (nodeS k b wd ch sec pub p0 p1 (h + 1) j = joinS k b pub p0 p1 (h + 1 : Nat) j (nodeS k b wd ch sec pub p0 p1 h (2 * j)) (nodeS k b wd ch sec pub p0 p1 h (2 * j + 1))) := rfl
    rw [HN.out]
    clear s1 s2 ih hT hp2 hj' hj hx
    generalize nodeS k b wd ch sec pub p0 p1 h (2 * j) = na at H1 HJ HN ⊢
    generalize nodeS k b wd ch sec pub p0 p1 h (2 * j + 1) = nb at H2 HJ HN ⊢
    obtain ⟨Hh, hHh⟩ : ∃ Hh : Int, ((h + 1 : Nat) : Int) = Hh := ⟨_, rfl⟩
    have e1 : ((h : Nat) : Int) = Hh - 1 := by omega
    have e2 : ((2 * j : Nat) : Int) = 2 * (j : Int) := by omega
    have e3 : ((2 * j + 1 : Nat) : Int) = 2 * (j : Int) + 1 := by omega
    rw [e1, e2] at H1
    rw [e1, e3] at H2
    rw [hHh] at HJ HN ⊢
    have g1 : 1 ≤ Hh := by omega
    have g2 : Hh ≤ 4 := by omega
    have w1 : IntKind.i64.wrap (Hh - 1) = Hh - 1 := by rw [IntKind.wrap_i64]; omega
    have w2 : IntKind.i64.wrap (2 * (j : Int)) = 2 * (j : Int) := by rw [IntKind.wrap_i64]; omega
    have w3 : IntKind.i64.wrap (2 * (j : Int) + 1) = 2 * (j : Int) + 1 := by rw [IntKind.wrap_i64]; omega
    have z1 : (Hh == 0) = false := by rw [beq_eq_false_iff_ne]; omega
    clear e1 e2 e3 hHh
    have HS := hide (fun (V : World) (h' : Below WT.heap.size WT V) => (by
      have tb := HWT.out.below h' (by omega)
      exact ⟨tb.cell 0, tb.cell 1, tb.cell 2, tb.cell 3, tb.cell 4, tb.cell 5, tb.cell 6, tb.cell 7, tb.cell 8, tb.cell 9, tb.cell 10, tb.cell 11, tb.cell 12, h'⟩ : V.cell? ⟨w.heap.size, 0, none⟩ = some (.int .i64 k) ∧ V.cell? ⟨w.heap.size, 1, none⟩ = some (.int .i64 b) ∧ V.cell? ⟨w.heap.size, 2, none⟩ = some (.int .i64 x) ∧ V.cell? ⟨w.heap.size, 3, none⟩ = some (.int .i64 t) ∧ V.cell? ⟨w.heap.size, 4, none⟩ = some (.int .i64 l) ∧ V.cell? ⟨w.heap.size, 5, none⟩ = some (.string sec) ∧ V.cell? ⟨w.heap.size, 6, none⟩ = some (.string rnd) ∧ V.cell? ⟨w.heap.size, 7, none⟩ = some (.string pub) ∧ V.cell? ⟨w.heap.size, 8, none⟩ = some (.int .i64 p0) ∧ V.cell? ⟨w.heap.size, 9, none⟩ = some (.int .i64 p1) ∧ V.cell? ⟨w.heap.size, 10, none⟩ = some (.int .i64 p2) ∧ V.cell? ⟨w.heap.size, 11, none⟩ = some (.int .i64 p3) ∧ V.cell? ⟨w.heap.size, 12, none⟩ = some (.int .i64 ch) ∧ Below WT.heap.size WT V))
    have HWE := hide hWT
    clear hWT
    go_enter Tryd.func90, Tryd.ntmps90
    go_wp2_with fail
    rw [HWE.out]
    go_region_held3 (fun V => V.cell? ⟨w.heap.size, 0, none⟩ = some (.int .i64 k) ∧ V.cell? ⟨w.heap.size, 1, none⟩ = some (.int .i64 b) ∧ V.cell? ⟨w.heap.size, 2, none⟩ = some (.int .i64 x) ∧ V.cell? ⟨w.heap.size, 3, none⟩ = some (.int .i64 t) ∧ V.cell? ⟨w.heap.size, 4, none⟩ = some (.int .i64 l) ∧ V.cell? ⟨w.heap.size, 5, none⟩ = some (.string sec) ∧ V.cell? ⟨w.heap.size, 6, none⟩ = some (.string rnd) ∧ V.cell? ⟨w.heap.size, 7, none⟩ = some (.string pub) ∧ V.cell? ⟨w.heap.size, 8, none⟩ = some (.int .i64 p0) ∧ V.cell? ⟨w.heap.size, 9, none⟩ = some (.int .i64 p1) ∧ V.cell? ⟨w.heap.size, 10, none⟩ = some (.int .i64 p2) ∧ V.cell? ⟨w.heap.size, 11, none⟩ = some (.int .i64 p3) ∧ V.cell? ⟨w.heap.size, 12, none⟩ = some (.int .i64 ch) ∧ Below WT.heap.size WT V) (first | exact HS.out _ hS3 | exact HS.out _ hS2 | exact HS.out _ hS1 | exact HS.out _ (Below.refl _ _).drew) (first | (go_at_call 90; have hx := hS1; clear hx; refine (H2.out _ (HTT.out.on hS1)).mono ?_; rintro e w2 ⟨rfl, hb2⟩; have hS2 := heldB hS1 hb2 (Nat.le_refl _)) | (go_at_call 90; refine (H1.out _ (HTT.out.on (Below.refl WT.heap.size WT).drew)).mono ?_; rintro e w1 ⟨rfl, hb1⟩; have hS1 := heldB (Below.refl WT.heap.size WT).drew hb1 (Nat.le_refl _)) | (go_at_call 56; refine (HJ.out _ (HTT.out.on hS2)).mono ?_; rintro e w3 ⟨rfl, hb3⟩; have hS3 := heldB hS2 hb3 (Nat.le_refl _)))
    go_wp2
    go_ret
    exact ⟨rfl, HB.out.trans (hS3.mono (by omega))⟩
end Go.Proofs.YtcaojimmdcdpiaaDoor
