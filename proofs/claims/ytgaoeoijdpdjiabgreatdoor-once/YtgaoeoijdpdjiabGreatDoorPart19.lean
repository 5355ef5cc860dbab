/-
  The program's Root and Path of a tree. The program's Split, where it takes a text and where it refuses it. What fit makes of any numbers: a set that is right.
-/
import Derived.Test.YtgaoeoijdpdjiabGreatDoorPart3
import Derived.Test.YtgaoeoijdpdjiabGreatDoorPart18
import Derived.Test.YtgaoeoijdpdjiabGreatDoorPart14
import Derived.Test.YtgaoeoijdpdjiabGreatDoorPart16
import Derived.Test.YtgaoeoijdpdjiabGreatDoorPart15
import Derived.Test.YtgaoeoijdpdjiabGreatDoorPart6
import Derived.Test.YtgaoeoijdpdjiabGreatDoorPart5
namespace Go.Proofs.YtgaoeoijdpdjiabGreatDoor
open Go.RowKit

set_option maxRecDepth 20000 in
set_option maxHeartbeats 4000000 in
theorem troot_any (k b x l : Int) (t : Nat) (sec rnd pub : ByteArray) (p0 p1 p2 p3 : Int) (ch wd : Nat) (w : World) (hk : k = 1 ∨ k = 2) (h1 : 1 ≤ b) (h2 : b ≤ 16) (hs : sec.size ≤ 16) (hp : pub.size ≤ 16) (hc1 : 1 ≤ ch) (hc2 : ch ≤ 64) (hch : Ch4 ch) (hwd : wd ≤ 15) (hx : x = (wd : Int) + 1) (ht : t ≤ 4) (hT : Tn w) :
    Calls Tryz.prog 254 #[.agg #[.int .i64 k, .int .i64 b, .int .i64 x, .int .i64 t, .int .i64 l, .string sec, .string rnd, .string pub, .int .i64 p0, .int .i64 p1, .int .i64 p2, .int .i64 p3, .int .i64 ch]] w fun e w' => e = .returned (.string (nodeS k b wd ch sec pub p0 p1 t 0)) ∧ Below w.heap.size w w' := by
  have h16 : 2 ^ t ≤ 16 := Nat.le_trans (Nat.pow_le_pow_right (by decide) ht) (by decide)
  have HN := hide (node_any k b x t l sec rnd pub p0 p1 p2 p3 ch wd hk h1 h2 hs hp hc1 hc2 hch hwd hx t ht 0 (by omega) (w.alloc (.cells #[.int .i64 k, .int .i64 b, .int .i64 x, .int .i64 t, .int .i64 l, .string sec, .string rnd, .string pub, .int .i64 p0, .int .i64 p1, .int .i64 p2, .int .i64 p3, .int .i64 ch] 274)) (hT.alloc _))
  clear hx
  go_enter Tryz.func254, Tryz.ntmps254
  go_wp2_with fail
  refine HN.out.mono ?_
  rintro e w1 ⟨rfl, hb1⟩
  have HB := hide (((Below.refl w.heap.size w).alloc (Nat.le_refl _) _).trans (hb1.mono (by simp)))
  clear hb1 HN
  go_wp2
  go_ret
  exact ⟨rfl, HB.out⟩

theorem i64_xor_natS (a b : Nat) (ha : a < 9223372036854775808) (hb : b < 9223372036854775808) : bits .xor .i64 (a : Int) (b : Int) = ((a ^^^ b : Nat) : Int) := by
  have hx : a ^^^ b < 2 ^ 63 := Nat.xor_lt_two_pow (by omega) (by omega)
  show IntKind.i64.wrap ((BitVec.ofInt 64 (a : Int) ^^^ BitVec.ofInt 64 (b : Int)).toNat : Int) = _
  rw [BitVec.toNat_xor, ofInt_u64 a (by omega), ofInt_u64 b (by omega), IntKind.wrap_i64]
  omega

/-- The nodes beside the way from a leaf to the root. -/
def pathS (k b : Int) (wd ch : Nat) (sec pub : ByteArray) (p0 p1 : Int) (F n : Nat) : List ByteArray := (List.range n).map fun h => nodeS k b wd ch sec pub p0 p1 h (F / 2 ^ h ^^^ 1)
theorem pathS_length (k b : Int) (wd ch : Nat) (sec pub : ByteArray) (p0 p1 : Int) (F n : Nat) : (pathS k b wd ch sec pub p0 p1 F n).length = n := by simp [pathS]
theorem pathS_succ (k b : Int) (wd ch : Nat) (sec pub : ByteArray) (p0 p1 : Int) (F n : Nat) : pathS k b wd ch sec pub p0 p1 F (n + 1) = pathS k b wd ch sec pub p0 p1 F n ++ [nodeS k b wd ch sec pub p0 p1 n (F / 2 ^ n ^^^ 1)] := by simp [pathS, List.range_succ]
theorem xor1 (a : Nat) : a ^^^ 1 = if a % 2 = 0 then a + 1 else a - 1 := by
  have h := Nat.div_add_mod a 2
  split
  · apply Nat.eq_of_testBit_eq
    intro i
    rcases i with _ | i
    · simp [Nat.testBit_zero]; omega
    · rw [Nat.testBit_xor]
      simp only [Nat.testBit_succ]
      rw [show (1 : Nat) / 2 = 0 from rfl, Nat.zero_testBit, Bool.xor_false]
      congr 1
      omega
  · apply Nat.eq_of_testBit_eq
    intro i
    rcases i with _ | i
    · simp [Nat.testBit_zero]; omega
    · rw [Nat.testBit_xor]
      simp only [Nat.testBit_succ]
      rw [show (1 : Nat) / 2 = 0 from rfl, Nat.zero_testBit, Bool.xor_false]
      congr 1
      omega
theorem beside (F t h : Nat) (hF : F < 2 ^ t) (hh : h < t) : ((F / 2 ^ h ^^^ 1) + 1) * 2 ^ h ≤ 2 ^ t := by
  have h1 : F / 2 ^ h < 2 ^ (t - h) := by
    refine Nat.div_lt_of_lt_mul ?_
    rw [← Nat.pow_add, show h + (t - h) = t by omega]
    exact hF
  have h2 : 2 ^ (t - h) = 2 * 2 ^ (t - h - 1) := by
    obtain ⟨u, hu⟩ : ∃ u, t - h = u + 1 := ⟨t - h - 1, by omega⟩
    rw [hu, Nat.add_sub_cancel, Nat.pow_succ, Nat.mul_comm]
  have h3 : (F / 2 ^ h ^^^ 1) + 1 ≤ 2 ^ (t - h) := by
    rw [xor1]
    generalize F / 2 ^ h = a at *
    generalize 2 ^ (t - h - 1) = m at *
    generalize 2 ^ (t - h) = M at *
    split <;> omega
  refine Nat.le_trans (Nat.mul_le_mul_right _ h3) (Nat.le_of_eq ?_)
  rw [← Nat.pow_add, show t - h + h = t by omega]

set_option maxRecDepth 20000 in
set_option maxHeartbeats 8000000 in
theorem tpath_any (k b x l : Int) (t F : Nat) (sec rnd pub : ByteArray) (p0 p1 p2 p3 : Int) (ch wd : Nat) (w : World) (hk : k = 1 ∨ k = 2) (h1 : 1 ≤ b) (h2 : b ≤ 16) (hs : sec.size ≤ 16) (hp : pub.size ≤ 16) (hc1 : 1 ≤ ch) (hc2 : ch ≤ 64) (hch : Ch4 ch) (hwd : wd ≤ 15) (hx : x = (wd : Int) + 1) (ht : t ≤ 4) (hF : F < 2 ^ t) (hT : Tn w) :
    Calls Tryz.prog 250 #[.agg #[.int .i64 k, .int .i64 b, .int .i64 x, .int .i64 t, .int .i64 l, .string sec, .string rnd, .string pub, .int .i64 p0, .int .i64 p1, .int .i64 p2, .int .i64 p3, .int .i64 ch], .int .i64 F] w fun e w' => e = .returned (.slice (some ⟨w.heap.size + 1, 0, none⟩) t t) ∧ Blk w' (w.heap.size + 1) ((pathS k b wd ch sec pub p0 p1 F t).map Value.string) 9 ∧ Below w.heap.size w w' := by
  have hmk := makeStr t (by omega)
  have h16 : 2 ^ t ≤ 16 := Nat.le_trans (Nat.pow_le_pow_right (by decide) ht) (by decide)
  have HND := hide (fun (m : Nat) (hm : m < t) (V : World) (hV : Tn V) => node_any k b x t l sec rnd pub p0 p1 p2 p3 ch wd hk h1 h2 hs hp hc1 hc2 hch hwd hx m (by omega) (F / 2 ^ m ^^^ 1) (Nat.le_trans (beside F t m hF hm) h16) V hV)
  have HSU := hide (fun m => pathS_succ k b wd ch sec pub p0 p1 F m)
  have HLE := hide (fun m => pathS_length k b wd ch sec pub p0 p1 F m)
  have HNU := hide (fun (m : Nat) => (by
    have q1 : F / 2 ^ m ≤ 16 := Nat.le_trans (Nat.div_le_self _ _) (by omega)
    have q2 : (F : Int) / 2 ^ m = ((F / 2 ^ m : Nat) : Int) := by rw [Int.natCast_ediv, Int.natCast_pow]; rfl
    have q3 := i64_xor_natS (F / 2 ^ m) 1 (by omega) (by decide)
    exact ⟨q1, q2, q3⟩ : F / 2 ^ m ≤ 16 ∧ (F : Int) / 2 ^ m = ((F / 2 ^ m : Nat) : Int) ∧ bits .xor .i64 ((F / 2 ^ m : Nat) : Int) 1 = ((F / 2 ^ m ^^^ 1 : Nat) : Int)))
  obtain ⟨WT, hWT⟩ : ∃ WT, w.alloc (.cells #[.int .i64 k, .int .i64 b, .int .i64 x, .int .i64 t, .int .i64 l, .string sec, .string rnd, .string pub, .int .i64 p0, .int .i64 p1, .int .i64 p2, .int .i64 p3, .int .i64 ch] 274) = WT := ⟨_, rfl⟩
  have HWT := hide (show Blk WT w.heap.size [.int .i64 k, .int .i64 b, .int .i64 x, .int .i64 t, .int .i64 l, .string sec, .string rnd, .string pub, .int .i64 p0, .int .i64 p1, .int .i64 p2, .int .i64 p3, .int .i64 ch] 274 by rw [← hWT]; exact Blk.new w _ _)
  have hzT : WT.heap.size = w.heap.size + 1 := by rw [← hWT]; simp
  have HB := hide (show Below w.heap.size w WT by rw [← hWT]; exact (Below.refl _ _).alloc (Nat.le_refl _) _)
  have hpos := hT.pos
  have HTT := hide (hT.on HB.out)
  have HTB := hide (fun (V : World) (h : Below (w.heap.size + 1) WT V) => HTT.out.below h (by omega))
  have HW3 := hide (show Blk (WT.alloc (.cells (Array.replicate t (Value.string ⟨#[]⟩)) 9)) (w.heap.size + 1) (List.replicate t (Value.string ⟨#[]⟩)) 9 ∧ Below (w.heap.size + 1) WT (WT.alloc (.cells (Array.replicate t (Value.string ⟨#[]⟩)) 9)) by
    refine ⟨?_, (Below.refl _ _).alloc (by omega) _⟩
    have h := Blk.new WT (List.replicate t (Value.string ⟨#[]⟩)) 9
    rw [hzT, List.toArray_replicate] at h; exact h)
  have HS := hide (fun (V : World) (h : Below (w.heap.size + 1) WT V) => (by
    have q := HWT.out.below h (by omega)
    exact ⟨q.cell 0, q.cell 1, q.cell 2, q.cell 3, q.cell 4, q.cell 5, q.cell 6, q.cell 7, q.cell 8, q.cell 9, q.cell 10, q.cell 11, q.cell 12⟩ : V.cell? ⟨w.heap.size, 0, none⟩ = some (.int .i64 k) ∧ V.cell? ⟨w.heap.size, 1, none⟩ = some (.int .i64 b) ∧ V.cell? ⟨w.heap.size, 2, none⟩ = some (.int .i64 x) ∧ V.cell? ⟨w.heap.size, 3, none⟩ = some (.int .i64 t) ∧ V.cell? ⟨w.heap.size, 4, none⟩ = some (.int .i64 l) ∧ V.cell? ⟨w.heap.size, 5, none⟩ = some (.string sec) ∧ V.cell? ⟨w.heap.size, 6, none⟩ = some (.string rnd) ∧ V.cell? ⟨w.heap.size, 7, none⟩ = some (.string pub) ∧ V.cell? ⟨w.heap.size, 8, none⟩ = some (.int .i64 p0) ∧ V.cell? ⟨w.heap.size, 9, none⟩ = some (.int .i64 p1) ∧ V.cell? ⟨w.heap.size, 10, none⟩ = some (.int .i64 p2) ∧ V.cell? ⟨w.heap.size, 11, none⟩ = some (.int .i64 p3) ∧ V.cell? ⟨w.heap.size, 12, none⟩ = some (.int .i64 ch)))
  clear hT hx hF
  have HWE := hide hWT
  clear hWT
  go_enter Tryz.func250, Tryz.ntmps250
  go_wp2_with fail
  rw [HWE.out]
  obtain ⟨W3, hW3⟩ : ∃ W3, WT.alloc (.cells (Array.replicate t (Value.string ⟨#[]⟩)) 9) = W3 := ⟨_, rfl⟩
  rw [hW3] at HW3 ⊢
  try rw [hzT]
  clear hW3 hmk HWE
  go_loopw [13] (fun i wr => ∃ m : Nat, m ≤ t ∧ i = .int .i64 m ∧ Hid (Blk wr (w.heap.size + 1) ((pathS k b wd ch sec pub p0 p1 F m).map Value.string ++ List.replicate (t - m) (Value.string ⟨#[]⟩)) 9) ∧ Hid (Below (w.heap.size + 1) WT wr)) (fun i _ => t - (intOf i).toNat)
  case atStart => exact ⟨0, Nat.zero_le _, rfl, show Blk _ _ _ _ by simpa [pathS] using HW3.out.1, HW3.out.2⟩
  case round =>
    obtain ⟨m, hm, rfl, hen, hb⟩ := hrel
    by_cases hlt : m < t
    · have HND1 := hide (HND.out m hlt)
      have HSU1 := hide (HSU.out m)
      obtain ⟨b1, q2, q3⟩ := HNU.out m
      generalize nodeS k b wd ch sec pub p0 p1 m (F / 2 ^ m ^^^ 1) = nS at HND1 HSU1
      generalize F / 2 ^ m ^^^ 1 = X at HND1 q3
      generalize F / 2 ^ m = A at b1 q2 q3
      have v1 : IntKind.i64.wrap (A : Int) = (A : Int) := by rw [IntKind.wrap_i64] <;> omega
      have hmt : (m : Int) < (t : Int) := by omega
      have hm0 : ¬ (m : Int) < 0 := by omega
      go_wp2_with fail
      refine wp_region_held_drew (S := fun V => V.cell? ⟨w.heap.size, 0, none⟩ = some (.int .i64 k) ∧ V.cell? ⟨w.heap.size, 1, none⟩ = some (.int .i64 b) ∧ V.cell? ⟨w.heap.size, 2, none⟩ = some (.int .i64 x) ∧ V.cell? ⟨w.heap.size, 3, none⟩ = some (.int .i64 t) ∧ V.cell? ⟨w.heap.size, 4, none⟩ = some (.int .i64 l) ∧ V.cell? ⟨w.heap.size, 5, none⟩ = some (.string sec) ∧ V.cell? ⟨w.heap.size, 6, none⟩ = some (.string rnd) ∧ V.cell? ⟨w.heap.size, 7, none⟩ = some (.string pub) ∧ V.cell? ⟨w.heap.size, 8, none⟩ = some (.int .i64 p0) ∧ V.cell? ⟨w.heap.size, 9, none⟩ = some (.int .i64 p1) ∧ V.cell? ⟨w.heap.size, 10, none⟩ = some (.int .i64 p2) ∧ V.cell? ⟨w.heap.size, 11, none⟩ = some (.int .i64 p3) ∧ V.cell? ⟨w.heap.size, 12, none⟩ = some (.int .i64 ch)) (by kernel_rfl) (HS.out _ (hb.out.drew)) (fun hHeld => ?_)
      refine tk 0 hHeld (h := ?_)
      refine tk 1 hHeld (h := ?_)
      refine tk 2 hHeld (h := ?_)
      refine tk 3 hHeld (h := ?_)
      refine tk 4 hHeld (h := ?_)
      refine tk 5 hHeld (h := ?_)
      refine tk 6 hHeld (h := ?_)
      refine tk 7 hHeld (h := ?_)
      refine wpAnyH_ready (rs := [8]) (by kernel_rfl) (by simp) ?_
      refine AllReadyH.cons (o := ?oa8) ?hoa8 (fun K hK => ?hsa8) AllReadyH.nil
      case hoa8 => (simp only [List.getElem?_toArray, List.getElem?_cons_succ, List.getElem?_cons_zero]; rfl)
      go_simp
      go_at_call 300
      refine (HND1.out _ (HTB.out _ hb.out.drew)).mono ?_
      rintro e w4 ⟨rfl, hb4⟩
      have HB4 := hide (heldN hb.out.drew hb4 (by omega))
      have HE4 := hide ((hen.out.below (Below.refl wr.heap.size wr).drew hen.out.lt).on hb4)
      clear hb4
      try go_wp2_with fail
      refine hK.out _ _ (HS.out _ (HB4.out)) (fun hHeld => ?_)
      clear hK K
      try simp only [Act.put, List.setIfInBounds_toArray, List.set_cons_zero, List.set_cons_succ]
      refine tk 9 hHeld (h := ?_)
      have hl := HLE.out m
      have e0 : w4.cell? ⟨w.heap.size + 1, m, none⟩ = some (.string ⟨#[]⟩) := by rw [HE4.out.cell, List.getElem?_append_right (by simp [hl]), List.length_map, hl, Nat.sub_self, List.getElem?_replicate, if_pos (by omega)]
      have e1 := HE4.out.free m
      refine wpAnyH_ready (rs := [10]) (by kernel_rfl) (by simp) ?_
      refine AllReadyH.cons (o := ?oa10) ?hoa10 (fun K hK => ?hsa10) AllReadyH.nil
      case hoa10 => (simp only [List.getElem?_toArray, List.getElem?_cons_succ, List.getElem?_cons_zero]; rfl)
      go_simp
      refine hK.out _ _ (HS.out _ (HB4.out.setCell (p := ⟨w.heap.size + 1, m, none⟩) (Nat.le_refl _) _)) (fun hHeld => ?_)
      clear hK K
      try simp only [Act.put, List.setIfInBounds_toArray, List.set_cons_zero, List.set_cons_succ]
      refine wpAnyH_done (by kernel_rfl) ?_ _
      have HEE := hide (show Blk (w4.setCell ⟨w.heap.size + 1, m, none⟩ (.string nS)) (w.heap.size + 1) ((pathS k b wd ch sec pub p0 p1 F (m + 1)).map Value.string ++ List.replicate (t - (m + 1)) (Value.string ⟨#[]⟩)) 9 by
        have h := HE4.out.set m (.string nS)
        rw [List.set_append_right _ _ (by simp [hl]), List.length_map, hl, Nat.sub_self, show t - m = (t - (m + 1)) + 1 by omega, List.replicate_succ, List.set_cons_zero] at h
        rw [HSU1.out, List.map_append, List.append_assoc]
        exact h)
      have HBE := hide (HB4.out.setCell (p := ⟨w.heap.size + 1, m, none⟩) (Nat.le_refl _) (.string nS))
      clear hHeld e0 e1 HE4 HB4 hl
      generalize World.setCell w4 { block := w.heap.size + 1, off := m } _ = W6 at *
      go_wp2
      go_roundw
      case rel =>
        have R : ∃ m' : Nat, m' ≤ t ∧ Value.int .i64 ((m : Int) + 1) = .int .i64 m' ∧ Hid (Blk W6 (w.heap.size + 1) ((pathS k b wd ch sec pub p0 p1 F m').map Value.string ++ List.replicate (t - m') (Value.string ⟨#[]⟩)) 9) ∧ Hid (Below (w.heap.size + 1) WT W6) := ⟨m + 1, by omega, by go_num, HEE.out, HBE.out⟩
        first | exact R | ((repeat apply Exists.intro); exact ⟨R, rfl⟩)
      case measure => simp [intOf]; omega
    · obtain rfl : m = t := by omega
      go_wp2
      go_ret
      have h := hen.out
      rw [Nat.sub_self, List.replicate_zero, List.append_nil] at h
      exact ⟨rfl, h, HB.out.trans (hb.out.mono (by omega))⟩
end Go.Proofs.YtgaoeoijdpdjiabGreatDoor

namespace Go.Proofs.YtgaoeoijdpdjiabGreatDoor
open Go.RowKit

/-- Of a set that is right: what Measure tells. -/
theorem measure_nat (k : Int) (b x e f t l : Nat) (R : RSet k b x e f t l) (V : World) :
    Calls Tryz.prog 155 #[.agg #[.int .i64 k, .int .i64 b, .int .i64 x, .int .i64 t, .int .i64 l]] V fun r w' => r = .returned (.tuple #[.agg #[.int .i64 ((b * e : Nat) : Int), .int .i64 f, .int .i64 ((b * e + f : Nat) : Int), .int .i64 ((2 ^ (t * l) : Nat) : Int), .int .i64 ((4 + b + l * (b * e + f + t) * b : Nat) : Int), .int .i64 ((5 + 2 * b : Nat) : Int)], .int .i64 0]) ∧ Below V.heap.size V w' := by
  have h := setsMeasure_yes b x e f t l R.pr k V R.kk R.t1 R.t2 R.l1 R.l2
  rw [sigZ_nat R.pr, totalZ_nat] at h
  exact h

/-- The program's Split, where it takes the text. -/
theorem splitY (k : Int) (b x e f t l : Nat) (R : RSet k b x e f t l) (sig : ByteArray) (hs : sig.size = 4 + b + l * (b * e + f + t) * b) (hi : valN sig 0 4 < 2 ^ (t * l)) (w : World) :
    Calls Tryz.prog 81 #[.agg #[.int .i64 k, .int .i64 b, .int .i64 x, .int .i64 t, .int .i64 l], .string sig] w fun r w' => ∃ g, r = .returned (.tuple #[.agg #[.int .i64 ((valN sig 0 4 : Nat) : Int), .string (sig.extract 4 (4 + b)), .slice (some ⟨g, 0, none⟩) (l * (b * e + f + t)) (l * (b * e + f + t))], .int .i64 0]) ∧ w.heap.size ≤ g ∧ Blk w' g ((cutS (sig.extract (4 + b) sig.size) b (l * (b * e + f + t))).map Value.string) 9 ∧ Below w.heap.size w w' := by
  obtain ⟨g1, g2, g3, g4, g5, g6⟩ := pair_small R.pr
  obtain ⟨hb, hx⟩ := pairB R.pr
  have r2 := R.t2
  have r4 := R.l2
  have hN : l * (b * e + f + t) ≤ 3 * 68 := Nat.mul_le_mul r4 (by omega)
  refine split_yes k x t l _ _ _ _ _ _ b (l * (b * e + f + t)) sig w (by omega) (by omega) (by
    have : b * e + f ≤ 36 := by rcases R.pr with ⟨rfl, rfl, rfl, rfl⟩ | ⟨rfl, rfl, rfl, rfl⟩ | ⟨rfl, rfl, rfl, rfl⟩ | ⟨rfl, rfl, rfl, rfl⟩ <;> decide
    exact Nat.le_trans (Nat.mul_le_mul r4 (show b * e + f + t ≤ 40 by omega)) (by decide)) hs (by rw [hs]) (fun V => measure_nat k b x e f t l R V) (fun V => ?_)
  have h := isIndex_on k b x t l ((valN sig 0 4 : Nat) : Int) _ _ _ _ _ _ V (fun V => measure_nat k b x e f t l R V)
  rw [decide_eq_true (by omega)] at h
  exact h

/-- Where it refuses it. -/
theorem splitN (k : Int) (b x e f t l : Nat) (R : RSet k b x e f t l) (sig : ByteArray) (hs : sig.size ≠ 4 + b + l * (b * e + f + t) * b ∨ ¬ valN sig 0 4 < 2 ^ (t * l)) (w : World) :
    Calls Tryz.prog 81 #[.agg #[.int .i64 k, .int .i64 b, .int .i64 x, .int .i64 t, .int .i64 l], .string sig] w fun r w' => r = .returned (.tuple #[.agg #[.int .i64 0, .string ⟨#[]⟩, .slice none 0 0], .int .i64 12]) ∧ Below w.heap.size w w' := by
  obtain ⟨g1, g2, g3, g4, g5, g6⟩ := pair_small R.pr
  by_cases hz : sig.size = 4 + b + l * (b * e + f + t) * b
  · have hi : ¬ valN sig 0 4 < 2 ^ (t * l) := by
      rcases hs with h | h
      · exact absurd hz h
      · exact h
    refine split_idx k x t l _ _ _ _ _ _ b sig w (by rw [hz]) (by omega) (fun V => measure_nat k b x e f t l R V) (fun V => ?_)
    have h := isIndex_on k b x t l ((valN sig 0 4 : Nat) : Int) _ _ _ _ _ _ V (fun V => measure_nat k b x e f t l R V)
    rw [decide_eq_false (by omega)] at h
    exact h
  · exact split_len k x t l _ _ _ _ _ _ b sig w (by omega) (fun V => measure_nat k b x e f t l R V)
end Go.Proofs.YtgaoeoijdpdjiabGreatDoor

namespace Go.Proofs.YtgaoeoijdpdjiabGreatDoor
open Go.RowKit

/-- A set that fit makes, as its pair of numbers. -/
theorem fit_set (k0 b0 x0 t0 l0 : Int) : ∃ (k : Int) (b x e f t l : Nat), RSet k b x e f t l ∧ pickZ k0 2 + 1 = k ∧ 4 + 4 * pickZ b0 2 = (b : Int) ∧ 4 + 12 * pickZ x0 2 = (x : Int) ∧ pickZ t0 4 + 1 = (t : Int) ∧ pickZ l0 3 + 1 = (l : Int) := by
  have p1 := pickZ_bd k0 2 (by omega)
  have p2 := pickZ_bd b0 2 (by omega)
  have p3 := pickZ_bd x0 2 (by omega)
  have p4 := pickZ_bd t0 4 (by omega)
  have p5 := pickZ_bd l0 3 (by omega)
  obtain ⟨t, ht⟩ : ∃ t : Nat, pickZ t0 4 + 1 = (t : Int) := ⟨(pickZ t0 4 + 1).toNat, by omega⟩
  obtain ⟨l, hl⟩ : ∃ l : Nat, pickZ l0 3 + 1 = (l : Int) := ⟨(pickZ l0 3 + 1).toNat, by omega⟩
  have q1 : pickZ k0 2 + 1 = 1 ∨ pickZ k0 2 + 1 = 2 := by omega
  have q2 : pickZ b0 2 = 0 ∨ pickZ b0 2 = 1 := by omega
  have q3 : pickZ x0 2 = 0 ∨ pickZ x0 2 = 1 := by omega
  have H : ∀ b x e f : Nat, Pair b x e f → (b = 4 ∨ b = 8) → (x = 4 ∨ x = 16) → RSet (pickZ k0 2 + 1) b x e f t l := fun b x e f hp hb hx => ⟨hp, q1, by omega, by omega, by omega, by omega, by unfold rightB; rw [decide_eq_true_eq]; omega⟩
  rcases q2 with q2 | q2 <;> rcases q3 with q3 | q3
  · exact ⟨_, 4, 4, 4, 3, t, l, H _ _ _ _ (by unfold Pair; omega) (by omega) (by omega), rfl, by omega, by omega, ht, hl⟩
  · exact ⟨_, 4, 16, 2, 2, t, l, H _ _ _ _ (by unfold Pair; omega) (by omega) (by omega), rfl, by omega, by omega, ht, hl⟩
  · exact ⟨_, 8, 4, 4, 4, t, l, H _ _ _ _ (by unfold Pair; omega) (by omega) (by omega), rfl, by omega, by omega, ht, hl⟩
  · exact ⟨_, 8, 16, 2, 2, t, l, H _ _ _ _ (by unfold Pair; omega) (by omega) (by omega), rfl, by omega, by omega, ht, hl⟩
end Go.Proofs.YtgaoeoijdpdjiabGreatDoor
