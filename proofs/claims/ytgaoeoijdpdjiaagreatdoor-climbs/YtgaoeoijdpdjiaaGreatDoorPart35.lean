/-
  The program's Node.
-/
import Derived.Test.YtgaoeoijdpdjiaaGreatDoorPart32
import Derived.Test.YtgaoeoijdpdjiaaGreatDoorPart34
namespace Go.Proofs.YtgaoeoijdpdjiaaGreatDoor
open Go.RowKit
set_option maxRecDepth 20000 in
set_option maxHeartbeats 4000000 in
theorem node_any (k b x t l : Int) (sec rnd pub : ByteArray) (p0 p1 p2 p3 : Int) (ch wd : Nat) (hk : k = 1 ∨ k = 2) (h1 : 1 ≤ b) (h2 : b ≤ 16) (hs : sec.size ≤ 16) (hp : pub.size ≤ 16) (hc1 : 1 ≤ ch) (hc2 : ch ≤ 64) (hch : Ch4 ch) (hwd : wd ≤ 15) (hx : x = (wd : Int) + 1) : ∀ (h : Nat) (_ : h ≤ 4) (j : Nat) (_ : (j + 1) * 2 ^ h ≤ 16) (w : World) (_ : Tn w),
    Calls Tryz.prog 79 #[.agg #[.int .i64 k, .int .i64 b, .int .i64 x, .int .i64 t, .int .i64 l, .string sec, .string rnd, .string pub, .int .i64 p0, .int .i64 p1, .int .i64 p2, .int .i64 p3, .int .i64 ch], .int .i64 h, .int .i64 j] w fun e w' => e = .returned (.string (nodeS k b wd ch sec pub p0 p1 h j)) ∧ Below w.heap.size w w' := by
  intro h
  induction h with
  | zero =>
    intro _ j _ w hT
    have HL := hide (leaf_any k b x t l sec rnd pub p0 p1 p2 p3 j ch wd (w.alloc (.cells #[.int .i64 k, .int .i64 b, .int .i64 x, .int .i64 t, .int .i64 l, .string sec, .string rnd, .string pub, .int .i64 p0, .int .i64 p1, .int .i64 p2, .int .i64 p3, .int .i64 ch] 83)) hk h1 h2 hs hp hc1 hc2 hch hwd hx (hT.alloc _))
    clear hT hx
    rw [show nodeS k b wd ch sec pub p0 p1 0 j = leafS k b wd ch sec pub p0 p1 j by rw [nodeS]]
    generalize leafS k b wd ch sec pub p0 p1 j = lf at HL ⊢
    go_enter Tryz.func79, Tryz.ntmps79
    go_wp2_with fail
    refine HL.out.mono ?_
    rintro e w1 ⟨rfl, hb1⟩
    have HB1 := hide (((Below.refl w.heap.size w).alloc (Nat.le_refl _) _).trans (hb1.mono (by simp)))
    clear hb1
    go_wp2
    go_ret
    exact ⟨rfl, HB1.out⟩
  | succ h ih =>
    intro hh j hj w hT
    obtain ⟨WT, hWT⟩ : ∃ WT, w.alloc (.cells #[.int .i64 k, .int .i64 b, .int .i64 x, .int .i64 t, .int .i64 l, .string sec, .string rnd, .string pub, .int .i64 p0, .int .i64 p1, .int .i64 p2, .int .i64 p3, .int .i64 ch] 83) = WT := ⟨_, rfl⟩
    have HWT := hide (show Blk WT w.heap.size [.int .i64 k, .int .i64 b, .int .i64 x, .int .i64 t, .int .i64 l, .string sec, .string rnd, .string pub, .int .i64 p0, .int .i64 p1, .int .i64 p2, .int .i64 p3, .int .i64 ch] 83 by rw [← hWT]; exact Blk.new _ _ _)
    have hzT : WT.heap.size = w.heap.size + 1 := by rw [← hWT]; simp
    have HB := hide (show Below w.heap.size w WT by rw [← hWT]; exact (Below.refl _ _).alloc (Nat.le_refl _) _)
    have HTT := hide (hT.on HB.out)
    have hp2 : 1 ≤ 2 ^ h := Nat.one_le_two_pow
    have hj' : (j + 1) * 2 * 2 ^ h ≤ 16 := by rw [Nat.pow_succ] at hj; rw [Nat.mul_assoc, Nat.mul_comm 2]; exact hj
    have hjb : j ≤ 7 := by
      have : (j + 1) * 2 * 1 ≤ 16 := Nat.le_trans (Nat.mul_le_mul_left _ hp2) hj'
      omega
    have H1 := hide (fun (V : World) (hV : Tn V) => ih (by omega) (2 * j) (Nat.le_trans (Nat.mul_le_mul_right _ (by omega)) hj') V hV)
    have H2 := hide (fun (V : World) (hV : Tn V) => ih (by omega) (2 * j + 1) (Nat.le_trans (Nat.mul_le_mul_right _ (by omega)) hj') V hV)
    have s1 := nodeS_size k b wd ch sec pub p0 p1 hk h1 h2 hs hp hc1 h (2 * j)
    have s2 := nodeS_size k b wd ch sec pub p0 p1 hk h1 h2 hs hp hc1 h (2 * j + 1)
    have HJ := hide (fun (V : World) (hV : Tn V) => tjoin_any k b x t l sec rnd pub p0 p1 p2 p3 (h + 1 : Nat) j ch (nodeS k b wd ch sec pub p0 p1 h (2 * j)) (nodeS k b wd ch sec pub p0 p1 h (2 * j + 1)) V hk h1 h2 hp (by omega) (by omega) hV)
    have HN : Hid (nodeS k b wd ch sec pub p0 p1 (h + 1) j = joinS k b pub p0 p1 (h + 1 : Nat) j (nodeS k b wd ch sec pub p0 p1 h (2 * j)) (nodeS k b wd ch sec pub p0 p1 h (2 * j + 1))) := rfl
    rw [HN.out]
    clear s1 s2 ih hT hp2 hj' hj hx
    generalize nodeS k b wd ch sec pub p0 p1 h (2 * j) = na at H1 HJ HN ⊢
    generalize nodeS k b wd ch sec pub p0 p1 h (2 * j + 1) = nb at H2 HJ HN ⊢
    obtain ⟨Hh, hHh⟩ : ∃ Hh : Int, ((h + 1 : Nat) : Int) = Hh := ⟨_, rfl⟩
    have e1 : ((h : Nat) : Int) = Hh - 1 := by omega
    have e2 : ((2 * j : Nat) : Int) = 2 * (j : Int) := by omega
    have e3 : ((2 * j + 1 : Nat) : Int) = 2 * (j : Int) + 1 := by omega
    rw [e1, e2] at H1
    rw [e1, e3] at H2
    rw [hHh] at HJ HN ⊢
    have g1 : 1 ≤ Hh := by omega
    have g2 : Hh ≤ 4 := by omega
    have w1 : IntKind.i64.wrap (Hh - 1) = Hh - 1 := by rw [IntKind.wrap_i64]; omega
    have w2 : IntKind.i64.wrap (2 * (j : Int)) = 2 * (j : Int) := by rw [IntKind.wrap_i64]; omega
    have w3 : IntKind.i64.wrap (2 * (j : Int) + 1) = 2 * (j : Int) + 1 := by rw [IntKind.wrap_i64]; omega
    have z1 : (Hh == 0) = false := by rw [beq_eq_false_iff_ne]; omega
    clear e1 e2 e3 hHh
    have HS := hide (fun (V : World) (h' : Below WT.heap.size WT V) => (by
      have tb := HWT.out.below h' (by omega)
      exact ⟨tb.cell 0, tb.cell 1, tb.cell 2, tb.cell 3, tb.cell 4, tb.cell 5, tb.cell 6, tb.cell 7, tb.cell 8, tb.cell 9, tb.cell 10, tb.cell 11, tb.cell 12, h'⟩ : V.cell? ⟨w.heap.size, 0, none⟩ = some (.int .i64 k) ∧ V.cell? ⟨w.heap.size, 1, none⟩ = some (.int .i64 b) ∧ V.cell? ⟨w.heap.size, 2, none⟩ = some (.int .i64 x) ∧ V.cell? ⟨w.heap.size, 3, none⟩ = some (.int .i64 t) ∧ V.cell? ⟨w.heap.size, 4, none⟩ = some (.int .i64 l) ∧ V.cell? ⟨w.heap.size, 5, none⟩ = some (.string sec) ∧ V.cell? ⟨w.heap.size, 6, none⟩ = some (.string rnd) ∧ V.cell? ⟨w.heap.size, 7, none⟩ = some (.string pub) ∧ V.cell? ⟨w.heap.size, 8, none⟩ = some (.int .i64 p0) ∧ V.cell? ⟨w.heap.size, 9, none⟩ = some (.int .i64 p1) ∧ V.cell? ⟨w.heap.size, 10, none⟩ = some (.int .i64 p2) ∧ V.cell? ⟨w.heap.size, 11, none⟩ = some (.int .i64 p3) ∧ V.cell? ⟨w.heap.size, 12, none⟩ = some (.int .i64 ch) ∧ Below WT.heap.size WT V))
    have HWE := hide hWT
    clear hWT
    go_enter Tryz.func79, Tryz.ntmps79
    go_wp2_with fail
    rw [HWE.out]
    go_region_held3 (fun V => V.cell? ⟨w.heap.size, 0, none⟩ = some (.int .i64 k) ∧ V.cell? ⟨w.heap.size, 1, none⟩ = some (.int .i64 b) ∧ V.cell? ⟨w.heap.size, 2, none⟩ = some (.int .i64 x) ∧ V.cell? ⟨w.heap.size, 3, none⟩ = some (.int .i64 t) ∧ V.cell? ⟨w.heap.size, 4, none⟩ = some (.int .i64 l) ∧ V.cell? ⟨w.heap.size, 5, none⟩ = some (.string sec) ∧ V.cell? ⟨w.heap.size, 6, none⟩ = some (.string rnd) ∧ V.cell? ⟨w.heap.size, 7, none⟩ = some (.string pub) ∧ V.cell? ⟨w.heap.size, 8, none⟩ = some (.int .i64 p0) ∧ V.cell? ⟨w.heap.size, 9, none⟩ = some (.int .i64 p1) ∧ V.cell? ⟨w.heap.size, 10, none⟩ = some (.int .i64 p2) ∧ V.cell? ⟨w.heap.size, 11, none⟩ = some (.int .i64 p3) ∧ V.cell? ⟨w.heap.size, 12, none⟩ = some (.int .i64 ch) ∧ Below WT.heap.size WT V) (first | exact HS.out _ hS3 | exact HS.out _ hS2 | exact HS.out _ hS1 | exact HS.out _ (Below.refl _ _).drew) (first | (go_at_call 79; have hx := hS1; clear hx; refine (H2.out _ (HTT.out.on hS1)).mono ?_; rintro e w2 ⟨rfl, hb2⟩; have hS2 := heldB hS1 hb2 (Nat.le_refl _)) | (go_at_call 79; refine (H1.out _ (HTT.out.on (Below.refl WT.heap.size WT).drew)).mono ?_; rintro e w1 ⟨rfl, hb1⟩; have hS1 := heldB (Below.refl WT.heap.size WT).drew hb1 (Nat.le_refl _)) | (go_at_call 40; refine (HJ.out _ (HTT.out.on hS2)).mono ?_; rintro e w3 ⟨rfl, hb3⟩; have hS3 := heldB hS2 hb3 (Nat.le_refl _)))
    go_wp2
    go_ret
    exact ⟨rfl, HB.out.trans (hS3.mono (by omega))⟩
end Go.Proofs.YtgaoeoijdpdjiaaGreatDoor
