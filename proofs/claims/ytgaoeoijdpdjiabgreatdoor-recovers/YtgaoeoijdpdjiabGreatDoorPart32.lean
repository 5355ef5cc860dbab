/-
  The program's Root and Path of a tree. The text of a key, its id, and the key of a set and of seeds.
-/
import Derived.Test.YtgaoeoijdpdjiabGreatDoorPart6
import Derived.Test.YtgaoeoijdpdjiabGreatDoorPart31
import Derived.Test.YtgaoeoijdpdjiabGreatDoorPart25
import Derived.Test.YtgaoeoijdpdjiabGreatDoorPart17
import Derived.Test.YtgaoeoijdpdjiabGreatDoorPart29
import Derived.Test.YtgaoeoijdpdjiabGreatDoorPart23
namespace Go.Proofs.YtgaoeoijdpdjiabGreatDoor
open Go.RowKit
set_option maxRecDepth 20000 in
set_option maxHeartbeats 4000000 in
theorem troot_any (k b x l : Int) (t : Nat) (sec rnd pub : ByteArray) (p0 p1 p2 p3 : Int) (ch wd : Nat) (w : World) (hk : k = 1 ∨ k = 2) (h1 : 1 ≤ b) (h2 : b ≤ 16) (hs : sec.size ≤ 16) (hp : pub.size ≤ 16) (hc1 : 1 ≤ ch) (hc2 : ch ≤ 64) (hch : Ch4 ch) (hwd : wd ≤ 15) (hx : x = (wd : Int) + 1) (ht : t ≤ 4) (hT : Tn w) :
    Calls Tryz.prog 254 #[.agg #[.int .i64 k, .int .i64 b, .int .i64 x, .int .i64 t, .int .i64 l, .string sec, .string rnd, .string pub, .int .i64 p0, .int .i64 p1, .int .i64 p2, .int .i64 p3, .int .i64 ch]] w fun e w' => e = .returned (.string (nodeS k b wd ch sec pub p0 p1 t 0)) ∧ Below w.heap.size w w' := by
  have h16 : 2 ^ t ≤ 16 := Nat.le_trans (Nat.pow_le_pow_right (by decide) ht) (by decide)
  have HN := hide (node_any k b x t l sec rnd pub p0 p1 p2 p3 ch wd hk h1 h2 hs hp hc1 hc2 hch hwd hx t ht 0 (by omega) (w.alloc (.cells #[.int .i64 k, .int .i64 b, .int .i64 x, .int .i64 t, .int .i64 l, .string sec, .string rnd, .string pub, .int .i64 p0, .int .i64 p1, .int .i64 p2, .int .i64 p3, .int .i64 ch] 274)) (hT.alloc _))
  clear hx
  go_enter Tryz.func254, Tryz.ntmps254
  go_wp2_with fail
  refine HN.out.mono ?_
  rintro e w1 ⟨rfl, hb1⟩
  have HB := hide (((Below.refl w.heap.size w).alloc (Nat.le_refl _) _).trans (hb1.mono (by simp)))
  clear hb1 HN
  go_wp2
  go_ret
  exact ⟨rfl, HB.out⟩
theorem i64_xor_natS (a b : Nat) (ha : a < 9223372036854775808) (hb : b < 9223372036854775808) : bits .xor .i64 (a : Int) (b : Int) = ((a ^^^ b : Nat) : Int) := by
  have hx : a ^^^ b < 2 ^ 63 := Nat.xor_lt_two_pow (by omega) (by omega)
  show IntKind.i64.wrap ((BitVec.ofInt 64 (a : Int) ^^^ BitVec.ofInt 64 (b : Int)).toNat : Int) = _
  rw [BitVec.toNat_xor, ofInt_u64 a (by omega), ofInt_u64 b (by omega), IntKind.wrap_i64]
  omega
/-- The nodes beside the way from a leaf to the root. -/
def pathS (k b : Int) (wd ch : Nat) (sec pub : ByteArray) (p0 p1 : Int) (F n : Nat) : List ByteArray := (List.range n).map fun h => nodeS k b wd ch sec pub p0 p1 h (F / 2 ^ h ^^^ 1)
theorem pathS_length (k b : Int) (wd ch : Nat) (sec pub : ByteArray) (p0 p1 : Int) (F n : Nat) : (pathS k b wd ch sec pub p0 p1 F n).length = n := by simp [pathS]
theorem pathS_succ (k b : Int) (wd ch : Nat) (sec pub : ByteArray) (p0 p1 : Int) (F n : Nat) : pathS k b wd ch sec pub p0 p1 F (n + 1) = pathS k b wd ch sec pub p0 p1 F n ++ [nodeS k b wd ch sec pub p0 p1 n (F / 2 ^ n ^^^ 1)] := by simp [pathS, List.range_succ]
theorem xor1 (a : Nat) : a ^^^ 1 = if a % 2 = 0 then a + 1 else a - 1 := by
  have h := Nat.div_add_mod a 2
  split
  · apply Nat.eq_of_testBit_eq
    intro i
    rcases i with _ | i
    · simp [Nat.testBit_zero]; omega
    · rw [Nat.testBit_xor]
      simp only [Nat.testBit_succ]
      rw [show (1 : Nat) / 2 = 0 from rfl, Nat.zero_testBit, Bool.xor_false]
      congr 1
      omega
  · apply Nat.eq_of_testBit_eq
    intro i
    rcases i with _ | i
    · simp [Nat.testBit_zero]; omega
    · rw [Nat.testBit_xor]
      simp only [Nat.testBit_succ]
      rw [show (1 : Nat) / 2 = 0 from rfl, Nat.zero_testBit, Bool.xor_false]
      congr 1
      omega
theorem beside (F t h : Nat) (hF : F < 2 ^ t) (hh : h < t) : ((F / 2 ^ h ^^^ 1) + 1) * 2 ^ h ≤ 2 ^ t := by
  have h1 : F / 2 ^ h < 2 ^ (t - h) := by
    refine Nat.div_lt_of_lt_mul ?_
    rw [← Nat.pow_add, show h + (t - h) = t by omega]
    exact hF
  have h2 : 2 ^ (t - h) = 2 * 2 ^ (t - h - 1) := by
    obtain ⟨u, hu⟩ : ∃ u, t - h = u + 1 := ⟨t - h - 1, by omega⟩
    rw [hu, Nat.add_sub_cancel, Nat.pow_succ, Nat.mul_comm]
  have h3 : (F / 2 ^ h ^^^ 1) + 1 ≤ 2 ^ (t - h) := by
    rw [xor1]
    generalize F / 2 ^ h = a at *
    generalize 2 ^ (t - h - 1) = m at *
    generalize 2 ^ (t - h) = M at *
    split <;> omega
  refine Nat.le_trans (Nat.mul_le_mul_right _ h3) (Nat.le_of_eq ?_)
  rw [← Nat.pow_add, show t - h + h = t by omega]
set_option maxRecDepth 20000 in
set_option maxHeartbeats 8000000 in
theorem tpath_any (k b x l : Int) (t F : Nat) (sec rnd pub : ByteArray) (p0 p1 p2 p3 : Int) (ch wd : Nat) (w : World) (hk : k = 1 ∨ k = 2) (h1 : 1 ≤ b) (h2 : b ≤ 16) (hs : sec.size ≤ 16) (hp : pub.size ≤ 16) (hc1 : 1 ≤ ch) (hc2 : ch ≤ 64) (hch : Ch4 ch) (hwd : wd ≤ 15) (hx : x = (wd : Int) + 1) (ht : t ≤ 4) (hF : F < 2 ^ t) (hT : Tn w) :
    Calls Tryz.prog 250 #[.agg #[.int .i64 k, .int .i64 b, .int .i64 x, .int .i64 t, .int .i64 l, .string sec, .string rnd, .string pub, .int .i64 p0, .int .i64 p1, .int .i64 p2, .int .i64 p3, .int .i64 ch], .int .i64 F] w fun e w' => e = .returned (.slice (some ⟨w.heap.size + 1, 0, none⟩) t t) ∧ Blk w' (w.heap.size + 1) ((pathS k b wd ch sec pub p0 p1 F t).map Value.string) 9 ∧ Below w.heap.size w w' := by
  have hmk := makeStr t (by omega)
  have h16 : 2 ^ t ≤ 16 := Nat.le_trans (Nat.pow_le_pow_right (by decide) ht) (by decide)
  have HND := hide (fun (m : Nat) (hm : m < t) (V : World) (hV : Tn V) => node_any k b x t l sec rnd pub p0 p1 p2 p3 ch wd hk h1 h2 hs hp hc1 hc2 hch hwd hx m (by omega) (F / 2 ^ m ^^^ 1) (Nat.le_trans (beside F t m hF hm) h16) V hV)
  have HSU := hide (fun m => pathS_succ k b wd ch sec pub p0 p1 F m)
  have HLE := hide (fun m => pathS_length k b wd ch sec pub p0 p1 F m)
  have HNU := hide (fun (m : Nat) => (by
    have q1 : F / 2 ^ m ≤ 16 := Nat.le_trans (Nat.div_le_self _ _) (by omega)
    have q2 : (F : Int) / 2 ^ m = ((F / 2 ^ m : Nat) : Int) := by rw [Int.natCast_ediv, Int.natCast_pow]; rfl
    have q3 := i64_xor_natS (F / 2 ^ m) 1 (by omega) (by decide)
    exact ⟨q1, q2, q3⟩ : F / 2 ^ m ≤ 16 ∧ (F : Int) / 2 ^ m = ((F / 2 ^ m : Nat) : Int) ∧ bits .xor .i64 ((F / 2 ^ m : Nat) : Int) 1 = ((F / 2 ^ m ^^^ 1 : Nat) : Int)))
  obtain ⟨WT, hWT⟩ : ∃ WT, w.alloc (.cells #[.int .i64 k, .int .i64 b, .int .i64 x, .int .i64 t, .int .i64 l, .string sec, .string rnd, .string pub, .int .i64 p0, .int .i64 p1, .int .i64 p2, .int .i64 p3, .int .i64 ch] 274) = WT := ⟨_, rfl⟩
  have HWT := hide (show Blk WT w.heap.size [.int .i64 k, .int .i64 b, .int .i64 x, .int .i64 t, .int .i64 l, .string sec, .string rnd, .string pub, .int .i64 p0, .int .i64 p1, .int .i64 p2, .int .i64 p3, .int .i64 ch] 274 by rw [← hWT]; exact Blk.new w _ _)
  have hzT : WT.heap.size = w.heap.size + 1 := by rw [← hWT]; simp
  have HB := hide (show Below w.heap.size w WT by rw [← hWT]; exact (Below.refl _ _).alloc (Nat.le_refl _) _)
  have hpos := hT.pos
  have HTT := hide (hT.on HB.out)
  have HTB := hide (fun (V : World) (h : Below (w.heap.size + 1) WT V) => HTT.out.below h (by omega))
  have HW3 := hide (show Blk (WT.alloc (.cells (Array.replicate t (Value.string ⟨#[]⟩)) 9)) (w.heap.size + 1) (List.replicate t (Value.string ⟨#[]⟩)) 9 ∧ Below (w.heap.size + 1) WT (WT.alloc (.cells (Array.replicate t (Value.string ⟨#[]⟩)) 9)) by
    refine ⟨?_, (Below.refl _ _).alloc (by omega) _⟩
    have h := Blk.new WT (List.replicate t (Value.string ⟨#[]⟩)) 9
    rw [hzT, List.toArray_replicate] at h; exact h)
  have HS := hide (fun (V : World) (h : Below (w.heap.size + 1) WT V) => (by
    have q := HWT.out.below h (by omega)
    exact ⟨q.cell 0, q.cell 1, q.cell 2, q.cell 3, q.cell 4, q.cell 5, q.cell 6, q.cell 7, q.cell 8, q.cell 9, q.cell 10, q.cell 11, q.cell 12⟩ : V.cell? ⟨w.heap.size, 0, none⟩ = some (.int .i64 k) ∧ V.cell? ⟨w.heap.size, 1, none⟩ = some (.int .i64 b) ∧ V.cell? ⟨w.heap.size, 2, none⟩ = some (.int .i64 x) ∧ V.cell? ⟨w.heap.size, 3, none⟩ = some (.int .i64 t) ∧ V.cell? ⟨w.heap.size, 4, none⟩ = some (.int .i64 l) ∧ V.cell? ⟨w.heap.size, 5, none⟩ = some (.string sec) ∧ V.cell? ⟨w.heap.size, 6, none⟩ = some (.string rnd) ∧ V.cell? ⟨w.heap.size, 7, none⟩ = some (.string pub) ∧ V.cell? ⟨w.heap.size, 8, none⟩ = some (.int .i64 p0) ∧ V.cell? ⟨w.heap.size, 9, none⟩ = some (.int .i64 p1) ∧ V.cell? ⟨w.heap.size, 10, none⟩ = some (.int .i64 p2) ∧ V.cell? ⟨w.heap.size, 11, none⟩ = some (.int .i64 p3) ∧ V.cell? ⟨w.heap.size, 12, none⟩ = some (.int .i64 ch)))
  clear hT hx hF
  have HWE := hide hWT
  clear hWT
  go_enter Tryz.func250, Tryz.ntmps250
  go_wp2_with fail
  rw [HWE.out]
  obtain ⟨W3, hW3⟩ : ∃ W3, WT.alloc (.cells (Array.replicate t (Value.string ⟨#[]⟩)) 9) = W3 := ⟨_, rfl⟩
  rw [hW3] at HW3 ⊢
  try rw [hzT]
  clear hW3 hmk HWE
  go_loopw [13] (fun i wr => ∃ m : Nat, m ≤ t ∧ i = .int .i64 m ∧ Hid (Blk wr (w.heap.size + 1) ((pathS k b wd ch sec pub p0 p1 F m).map Value.string ++ List.replicate (t - m) (Value.string ⟨#[]⟩)) 9) ∧ Hid (Below (w.heap.size + 1) WT wr)) (fun i _ => t - (intOf i).toNat)
  case atStart => exact ⟨0, Nat.zero_le _, rfl, show Blk _ _ _ _ by simpa [pathS] using HW3.out.1, HW3.out.2⟩
  case round =>
    obtain ⟨m, hm, rfl, hen, hb⟩ := hrel
    by_cases hlt : m < t
    · have HND1 := hide (HND.out m hlt)
      have HSU1 := hide (HSU.out m)
      obtain ⟨b1, q2, q3⟩ := HNU.out m
      generalize nodeS k b wd ch sec pub p0 p1 m (F / 2 ^ m ^^^ 1) = nS at HND1 HSU1
      generalize F / 2 ^ m ^^^ 1 = X at HND1 q3
      generalize F / 2 ^ m = A at b1 q2 q3
      have v1 : IntKind.i64.wrap (A : Int) = (A : Int) := by rw [IntKind.wrap_i64] <;> omega
      have hmt : (m : Int) < (t : Int) := by omega
      have hm0 : ¬ (m : Int) < 0 := by omega
      go_wp2_with fail
      refine wp_region_held_drew (S := fun V => V.cell? ⟨w.heap.size, 0, none⟩ = some (.int .i64 k) ∧ V.cell? ⟨w.heap.size, 1, none⟩ = some (.int .i64 b) ∧ V.cell? ⟨w.heap.size, 2, none⟩ = some (.int .i64 x) ∧ V.cell? ⟨w.heap.size, 3, none⟩ = some (.int .i64 t) ∧ V.cell? ⟨w.heap.size, 4, none⟩ = some (.int .i64 l) ∧ V.cell? ⟨w.heap.size, 5, none⟩ = some (.string sec) ∧ V.cell? ⟨w.heap.size, 6, none⟩ = some (.string rnd) ∧ V.cell? ⟨w.heap.size, 7, none⟩ = some (.string pub) ∧ V.cell? ⟨w.heap.size, 8, none⟩ = some (.int .i64 p0) ∧ V.cell? ⟨w.heap.size, 9, none⟩ = some (.int .i64 p1) ∧ V.cell? ⟨w.heap.size, 10, none⟩ = some (.int .i64 p2) ∧ V.cell? ⟨w.heap.size, 11, none⟩ = some (.int .i64 p3) ∧ V.cell? ⟨w.heap.size, 12, none⟩ = some (.int .i64 ch)) (by kernel_rfl) (HS.out _ (hb.out.drew)) (fun hHeld => ?_)
      refine tk 0 hHeld (h := ?_)
      refine tk 1 hHeld (h := ?_)
      refine tk 2 hHeld (h := ?_)
      refine tk 3 hHeld (h := ?_)
      refine tk 4 hHeld (h := ?_)
      refine tk 5 hHeld (h := ?_)
      refine tk 6 hHeld (h := ?_)
      refine tk 7 hHeld (h := ?_)
      refine wpAnyH_ready (rs := [8]) (by kernel_rfl) (by simp) ?_
      refine AllReadyH.cons (o := ?oa8) ?hoa8 (fun K hK => ?hsa8) AllReadyH.nil
      case hoa8 => (simp only [List.getElem?_toArray, List.getElem?_cons_succ, List.getElem?_cons_zero]; rfl)
      go_simp
      go_at_call 300
      refine (HND1.out _ (HTB.out _ hb.out.drew)).mono ?_
      rintro e w4 ⟨rfl, hb4⟩
      have HB4 := hide (heldN hb.out.drew hb4 (by omega))
      have HE4 := hide ((hen.out.below (Below.refl wr.heap.size wr).drew hen.out.lt).on hb4)
      clear hb4
      try go_wp2_with fail
      refine hK.out _ _ (HS.out _ (HB4.out)) (fun hHeld => ?_)
      clear hK K
      try simp only [Act.put, List.setIfInBounds_toArray, List.set_cons_zero, List.set_cons_succ]
      refine tk 9 hHeld (h := ?_)
      have hl := HLE.out m
      have e0 : w4.cell? ⟨w.heap.size + 1, m, none⟩ = some (.string ⟨#[]⟩) := by rw [HE4.out.cell, List.getElem?_append_right (by simp [hl]), List.length_map, hl, Nat.sub_self, List.getElem?_replicate, if_pos (by omega)]
      have e1 := HE4.out.free m
      refine wpAnyH_ready (rs := [10]) (by kernel_rfl) (by simp) ?_
      refine AllReadyH.cons (o := ?oa10) ?hoa10 (fun K hK => ?hsa10) AllReadyH.nil
      case hoa10 => (simp only [List.getElem?_toArray, List.getElem?_cons_succ, List.getElem?_cons_zero]; rfl)
      go_simp
      refine hK.out _ _ (HS.out _ (HB4.out.setCell (p := ⟨w.heap.size + 1, m, none⟩) (Nat.le_refl _) _)) (fun hHeld => ?_)
      clear hK K
      try simp only [Act.put, List.setIfInBounds_toArray, List.set_cons_zero, List.set_cons_succ]
      refine wpAnyH_done (by kernel_rfl) ?_ _
      have HEE := hide (show Blk (w4.setCell ⟨w.heap.size + 1, m, none⟩ (.string nS)) (w.heap.size + 1) ((pathS k b wd ch sec pub p0 p1 F (m + 1)).map Value.string ++ List.replicate (t - (m + 1)) (Value.string ⟨#[]⟩)) 9 by
        have h := HE4.out.set m (.string nS)
        rw [List.set_append_right _ _ (by simp [hl]), List.length_map, hl, Nat.sub_self, show t - m = (t - (m + 1)) + 1 by omega, List.replicate_succ, List.set_cons_zero] at h
        rw [HSU1.out, List.map_append, List.append_assoc]
        exact h)
      have HBE := hide (HB4.out.setCell (p := ⟨w.heap.size + 1, m, none⟩) (Nat.le_refl _) (.string nS))
      clear hHeld e0 e1 HE4 HB4 hl
      generalize World.setCell w4 { block := w.heap.size + 1, off := m } _ = W6 at *
      go_wp2
      go_roundw
      case rel =>
        have R : ∃ m' : Nat, m' ≤ t ∧ Value.int .i64 ((m : Int) + 1) = .int .i64 m' ∧ Hid (Blk W6 (w.heap.size + 1) ((pathS k b wd ch sec pub p0 p1 F m').map Value.string ++ List.replicate (t - m') (Value.string ⟨#[]⟩)) 9) ∧ Hid (Below (w.heap.size + 1) WT W6) := ⟨m + 1, by omega, by go_num, HEE.out, HBE.out⟩
        first | exact R | ((repeat apply Exists.intro); exact ⟨R, rfl⟩)
      case measure => simp [intOf]; omega
    · obtain rfl : m = t := by omega
      go_wp2
      go_ret
      have h := hen.out
      rw [Nat.sub_self, List.replicate_zero, List.append_nil] at h
      exact ⟨rfl, h, HB.out.trans (hb.out.mono (by omega))⟩
end Go.Proofs.YtgaoeoijdpdjiabGreatDoor

namespace Go.Proofs.YtgaoeoijdpdjiabGreatDoor
open Go.RowKit
theorem keyOne_any (v : Int) (w : World) : Calls Tryz.prog 247 #[.int .i64 v] w fun e w' => e = .returned (.string (numB 1 v)) ∧ Below w.heap.size w w' := by
  have HN := hide (number_any 1 v w (by decide))
  go_enter Tryz.func247, Tryz.ntmps247
  go_wp2_with fail
  refine HN.out.mono ?_
  rintro e w1 ⟨rfl, hb⟩
  have HB := hide hb
  clear hb HN
  go_wp2
  go_ret
  exact ⟨rfl, HB.out⟩
set_option maxRecDepth 20000 in
set_option maxHeartbeats 8000000 in
theorem keyText_any (k b x t l : Int) (root pub : ByteArray) (w : World) (z1 : root.size ≤ 16) (z2 : pub.size ≤ 16) :
    Calls Tryz.prog 170 #[.agg #[.int .i64 k, .int .i64 b, .int .i64 x, .int .i64 t, .int .i64 l, .string root, .string pub]] w fun e w' => e = .returned (.string (headS k b x t l ++ root ++ pub)) ∧ Below w.heap.size w w' := by
  have HN := hide keyOne_any
  have cc1 := sadd (numB 1 k) (numB 1 b) (by rw [numB_size]; omega) (by rw [numB_size]; omega)
  have cc2 := sadd (numB 1 k ++ numB 1 b) (numB 1 x) (by simp only [ByteArray.size_append, numB_size]; omega) (by rw [numB_size]; omega)
  have cc3 := sadd (numB 1 k ++ numB 1 b ++ numB 1 x) (numB 1 t) (by simp only [ByteArray.size_append, numB_size]; omega) (by rw [numB_size]; omega)
  have cc4 := sadd (numB 1 k ++ numB 1 b ++ numB 1 x ++ numB 1 t) (numB 1 l) (by simp only [ByteArray.size_append, numB_size]; omega) (by rw [numB_size]; omega)
  have hhs := headS_size k b x t l
  rw [show numB 1 k ++ numB 1 b ++ numB 1 x ++ numB 1 t ++ numB 1 l = headS k b x t l from rfl] at cc4
  have cc5 := sadd (headS k b x t l) root (by omega) (by omega)
  have cc6 := sadd (headS k b x t l ++ root) pub (by rw [ByteArray.size_append]; omega) (by omega)
  generalize headS k b x t l ++ root ++ pub = t6 at cc6 ⊢
  generalize headS k b x t l ++ root = t5 at cc5 cc6
  generalize headS k b x t l = t4 at cc4 cc5
  clear hhs
  generalize numB 1 k ++ numB 1 b ++ numB 1 x ++ numB 1 t = t3 at cc3 cc4
  generalize numB 1 k ++ numB 1 b ++ numB 1 x = t2 at cc2 cc3
  generalize numB 1 k ++ numB 1 b = t1 at cc1 cc2
  obtain ⟨W0, hW⟩ : ∃ W0, (w.alloc (.cells #[.int .i64 k, .int .i64 b, .int .i64 x, .int .i64 t, .int .i64 l, .string root, .string pub] 184)).alloc (.cells #[.int .i64 k, .int .i64 b, .int .i64 x, .int .i64 t, .int .i64 l] 26) = W0 := ⟨_, rfl⟩
  have HK := hide (show Blk W0 w.heap.size [.int .i64 k, .int .i64 b, .int .i64 x, .int .i64 t, .int .i64 l, .string root, .string pub] 184 by rw [← hW]; exact (Blk.new w _ _).alloc _)
  have HC := hide (show Blk W0 (w.heap.size + 1) [.int .i64 k, .int .i64 b, .int .i64 x, .int .i64 t, .int .i64 l] 26 by
    rw [← hW]
    have h := Blk.new (w.alloc (.cells #[.int .i64 k, .int .i64 b, .int .i64 x, .int .i64 t, .int .i64 l, .string root, .string pub] 184)) [.int .i64 k, .int .i64 b, .int .i64 x, .int .i64 t, .int .i64 l] 26
    simp only [World.size_alloc] at h
    exact h)
  have HB := hide (show Below w.heap.size w W0 by subst hW; exact ((Below.refl _ _).alloc (Nat.le_refl _) _).alloc (by simp) _)
  have HS := hide (fun (V : World) (h : Below W0.heap.size W0 V) => (by
    have q1 := HC.out.on h
    have q2 := HK.out.on h
    exact ⟨q1.cell 0, q1.cell 1, q1.cell 2, q1.cell 3, q1.cell 4, q2.cell 5, q2.cell 6⟩ : V.cell? ⟨w.heap.size + 1, 0, none⟩ = some (.int .i64 k) ∧ V.cell? ⟨w.heap.size + 1, 1, none⟩ = some (.int .i64 b) ∧ V.cell? ⟨w.heap.size + 1, 2, none⟩ = some (.int .i64 x) ∧ V.cell? ⟨w.heap.size + 1, 3, none⟩ = some (.int .i64 t) ∧ V.cell? ⟨w.heap.size + 1, 4, none⟩ = some (.int .i64 l) ∧ V.cell? ⟨w.heap.size, 5, none⟩ = some (.string root) ∧ V.cell? ⟨w.heap.size, 6, none⟩ = some (.string pub)))
  have HWE := hide hW
  clear hW
  have hS := (Below.refl W0.heap.size W0).drew
  go_enter Tryz.func170, Tryz.ntmps170
  go_wp2_with fail
  rw [HWE.out]
  go_region_held3 (fun V => V.cell? ⟨w.heap.size + 1, 0, none⟩ = some (.int .i64 k) ∧ V.cell? ⟨w.heap.size + 1, 1, none⟩ = some (.int .i64 b) ∧ V.cell? ⟨w.heap.size + 1, 2, none⟩ = some (.int .i64 x) ∧ V.cell? ⟨w.heap.size + 1, 3, none⟩ = some (.int .i64 t) ∧ V.cell? ⟨w.heap.size + 1, 4, none⟩ = some (.int .i64 l) ∧ V.cell? ⟨w.heap.size, 5, none⟩ = some (.string root) ∧ V.cell? ⟨w.heap.size, 6, none⟩ = some (.string pub)) (exact HS.out _ hS) ((go_at_call 247; refine (HN.out _ _).mono ?_; rintro e wN ⟨rfl, hbN⟩; have hS := heldB hS hbN (Nat.le_refl _)))
  have HB9 := hide (HB.out.trans (hS.mono HB.out.size))
  clear hS
  go_wp2
  go_ret
  exact ⟨rfl, HB9.out⟩
end Go.Proofs.YtgaoeoijdpdjiabGreatDoor
