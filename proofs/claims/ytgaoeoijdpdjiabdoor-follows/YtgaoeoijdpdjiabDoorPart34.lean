/-
  The statement Follows where Split takes the text, its calls' answers being given.
-/
import Derived.Test.YtgaoeoijdpdjiabDoorPart33
namespace Go.Proofs.YtgaoeoijdpdjiabDoor
open Go.RowKit

set_option maxRecDepth 20000 in
set_option maxHeartbeats 8000000 in
theorem follows_yes (k0 b0 x0 t0 l0 k b x t l : Int) (r0 u0 m0 sig root pub msg rnd : ByteArray) (idx tot : Int) (N : Nat) (ps : List ByteArray) (w : World) (hT : Tn w) (q0 : 0 ≤ k ∧ k ≤ 100) (q1 : 0 ≤ b ∧ b ≤ 16) (q2 : 0 ≤ x ∧ x ≤ 100) (q3 : 0 ≤ t ∧ t ≤ 100) (q4 : 0 ≤ l ∧ l ≤ 100) (hi0 : 0 ≤ idx) (hi1 : idx < tot) (z1 : root.size ≤ 16) (z2 : pub.size ≤ 16)
    (hF : ∀ V : World, Calls Tryd.prog 4 #[.agg #[.int .i64 k0, .int .i64 b0, .int .i64 x0, .int .i64 t0, .int .i64 l0]] V fun e w' => e = .returned (.agg #[.int .i64 k, .int .i64 b, .int .i64 x, .int .i64 t, .int .i64 l]) ∧ Below V.heap.size V w')
    (hS1 : ∀ V : World, Calls Tryd.prog 5 #[.string r0, .int .i64 b] V fun e w' => e = .returned (.string root) ∧ Below V.heap.size V w')
    (hS2 : ∀ V : World, Calls Tryd.prog 5 #[.string u0, .int .i64 b] V fun e w' => e = .returned (.string pub) ∧ Below V.heap.size V w')
    (hU : ∀ V : World, Calls Tryd.prog 6 #[.string m0, .int .i64 200] V fun e w' => e = .returned (.string msg) ∧ w' = V)
    (hB : ∀ V : World, Tn V → Calls Tryd.prog 7 #[.agg #[.int .i64 k, .int .i64 b, .int .i64 x, .int .i64 t, .int .i64 l]] V fun e w' => e = .returned (.bool true) ∧ Below V.heap.size V w')
    (hVe : ∀ V : World, Tn V → Calls Tryd.prog 9 #[.string (headS k b x t l ++ root ++ pub), .string msg, .string sig] V fun e w' => e = .returned (.int .i64 0) ∧ Below V.heap.size V w')
    (hSp : ∀ V : World, Calls Tryd.prog 10 #[.agg #[.int .i64 k, .int .i64 b, .int .i64 x, .int .i64 t, .int .i64 l], .string sig] V fun r w' => ∃ g, r = .returned (.tuple #[.agg #[.int .i64 idx, .string rnd, .slice (some ⟨g, 0, none⟩) N N], .int .i64 0]) ∧ V.heap.size ≤ g ∧ Blk w' g (ps.map Value.string) 9 ∧ Below V.heap.size V w')
    (hJn : ∀ (V : World) (g : Nat), Blk V g (ps.map Value.string) 9 → Calls Tryd.prog 11 #[.agg #[.int .i64 k, .int .i64 b, .int .i64 x, .int .i64 t, .int .i64 l], .agg #[.int .i64 idx, .string rnd, .slice (some ⟨g, 0, none⟩) N N]] V fun e w' => e = .returned (.tuple #[.string sig, .int .i64 0]) ∧ Below V.heap.size V w')
    (hTo : ∀ V : World, Calls Tryd.prog 12 #[.agg #[.int .i64 k, .int .i64 b, .int .i64 x, .int .i64 t, .int .i64 l]] V fun e w' => e = .returned (.int .i64 tot) ∧ Below V.heap.size V w')
    (hTp : ∀ (V : World) (g : Nat), Tn V → Blk V g (ps.map Value.string) 9 → Calls Tryd.prog 13 #[.agg #[.int .i64 k, .int .i64 b, .int .i64 x, .int .i64 t, .int .i64 l], .string root, .string pub, .string msg, .agg #[.int .i64 idx, .string rnd, .slice (some ⟨g, 0, none⟩) N N]] V fun e w' => e = .returned (.string root) ∧ Below V.heap.size V w') :
    Calls Tryd.prog 3 #[.agg #[.int .i64 k0, .int .i64 b0, .int .i64 x0, .int .i64 t0, .int .i64 l0], .string r0, .string u0, .string m0, .string sig] w fun e w' => e = .returned (.bool true) ∧ Below w.heap.size w w' := by
  have HFI := hide hF
  have HS1 := hide hS1
  have HS2 := hide hS2
  have HU := hide hU
  have HBL := hide hB
  have HVE := hide hVe
  have hd0 : decide (idx < 0) = false := decide_eq_false (by omega)
  have hd1 : decide (tot ≤ idx) = false := decide_eq_false (by omega)
  have hd2 : ¬ idx < 0 := by omega
  have hd3 : ¬ tot ≤ idx := by omega
  have HSP := hide hSp
  have HJN := hide hJn
  have HTO := hide hTo
  have HTP := hide hTp
  have HN0 := hide (fun V : World => keepNumber_any 1 k V (by decide) q0.1 (by omega))
  have HN1 := hide (fun V : World => keepNumber_any 1 b V (by decide) q1.1 (by omega))
  have HN2 := hide (fun V : World => keepNumber_any 1 x V (by decide) q2.1 (by omega))
  have HN3 := hide (fun V : World => keepNumber_any 1 t V (by decide) q3.1 (by omega))
  have HN4 := hide (fun V : World => keepNumber_any 1 l V (by decide) q4.1 (by omega))
  have cc1 := sadd (numB 1 k) (numB 1 b) (by rw [numB_size]; omega) (by rw [numB_size]; omega)
  have cc2 := sadd (numB 1 k ++ numB 1 b) (numB 1 x) (by simp only [ByteArray.size_append, numB_size]; omega) (by rw [numB_size]; omega)
  have cc3 := sadd (numB 1 k ++ numB 1 b ++ numB 1 x) (numB 1 t) (by simp only [ByteArray.size_append, numB_size]; omega) (by rw [numB_size]; omega)
  have cc4 := sadd (numB 1 k ++ numB 1 b ++ numB 1 x ++ numB 1 t) (numB 1 l) (by simp only [ByteArray.size_append, numB_size]; omega) (by rw [numB_size]; omega)
  have hhs : (headS k b x t l).size ≤ 16 := by simp only [headS, ByteArray.size_append, numB_size]; omega
  have cc5 := sadd (headS k b x t l) root (by omega) (by omega)
  have cc6 := sadd (headS k b x t l ++ root) pub (by simp only [ByteArray.size_append]; omega) (by omega)
  rw [show numB 1 k ++ numB 1 b ++ numB 1 x ++ numB 1 t ++ numB 1 l = headS k b x t l from rfl] at cc4
  generalize headS k b x t l ++ root ++ pub = key at cc6 HVE
  generalize headS k b x t l ++ root = hr at cc5 cc6
  generalize headS k b x t l = hs5 at cc4 cc5 hhs
  generalize numB 1 k ++ numB 1 b ++ numB 1 x ++ numB 1 t = hs4 at cc3 cc4
  generalize numB 1 k ++ numB 1 b ++ numB 1 x = hs3 at cc2 cc3
  generalize numB 1 k ++ numB 1 b = hs2 at cc1 cc2
  generalize numB 1 k = n0 at cc1 HN0
  generalize numB 1 b = n1 at cc1 HN1
  generalize numB 1 x = n2 at cc2 HN2
  generalize numB 1 t = n3 at cc3 HN3
  generalize numB 1 l = n4 at cc4 HN4
  clear hF hS1 hS2 hU hB hVe hSp hJn hTo hTp q0 q1 q2 q3 q4 z1 z2 hhs
  obtain ⟨W0, hW⟩ : ∃ W0, w.alloc (.cells #[.int .i64 k0, .int .i64 b0, .int .i64 x0, .int .i64 t0, .int .i64 l0] 23) = W0 := ⟨_, rfl⟩
  have HK0 := hide (show Blk W0 w.heap.size [.int .i64 k0, .int .i64 b0, .int .i64 x0, .int .i64 t0, .int .i64 l0] 23 by rw [← hW]; exact Blk.new w _ _)
  have HB0 := hide (show Below w.heap.size w W0 by subst hW; exact (Below.refl _ _).alloc (Nat.le_refl _) _)
  have HTN := hide (fun (V : World) (h : Below w.heap.size w V) => hT.on h)
  clear hT
  have HWE := hide hW
  clear hW
  go_enter Tryd.func3, Tryd.ntmps3
  go_wp2_with fail
  rw [HWE.out]
  clear HWE
  refine (HFI.out W0).mono ?_
  rintro e w1 ⟨rfl, hb1⟩
  have HK1 := hide (HK0.out.on hb1)
  have HB1 := hide (heldB HB0.out hb1 (Nat.le_refl _))
  clear hb1 HK0 HB0
  have c0 := HK1.out.cell 0
  have c1 := HK1.out.cell 1
  have c2 := HK1.out.cell 2
  have c3 := HK1.out.cell 3
  have c4 := HK1.out.cell 4
  have f0 := HK1.out.free 0
  have f1 := HK1.out.free 1
  have f2 := HK1.out.free 2
  have f3 := HK1.out.free 3
  have f4 := HK1.out.free 4
  simp only [List.getElem?_cons_zero, List.getElem?_cons_succ] at c0 c1 c2 c3 c4
  obtain ⟨V1, HV1⟩ : ∃ V1, Hid ((((((w1.setCell ⟨w.heap.size, 0, none⟩ (.int .i64 k)).setCell ⟨w.heap.size, 1, none⟩ (.int .i64 b)).setCell ⟨w.heap.size, 2, none⟩ (.int .i64 x)).setCell ⟨w.heap.size, 3, none⟩ (.int .i64 t)).setCell ⟨w.heap.size, 4, none⟩ (.int .i64 l)) = V1) := ⟨_, rfl⟩
  go_wp2_with fail
  rw [HV1.out]
  have HY1 := hide (show Blk V1 w.heap.size [.int .i64 k, .int .i64 b, .int .i64 x, .int .i64 t, .int .i64 l] 23 by rw [← HV1.out]; exact blk5V HK1.out _ _ _ _ _)
  have HZ1 := hide (show Below w.heap.size w V1 by
    rw [← HV1.out]
    have h := HB1.out
    iterate 5 refine Below.setCell ?_ (by simp <;> omega) _
    exact h)
  clear HV1 HK1 HB1 c0 c1 c2 c3 c4 f0 f1 f2 f3 f4
  have HS := hide (fun (V : World) (h : Below V1.heap.size V1 V) => (by
    have q := HY1.out.on h
    exact ⟨q.cell 0, q.cell 1, q.cell 2, q.cell 3, q.cell 4⟩ : V.cell? ⟨w.heap.size, 0, none⟩ = some (.int .i64 k) ∧ V.cell? ⟨w.heap.size, 1, none⟩ = some (.int .i64 b) ∧ V.cell? ⟨w.heap.size, 2, none⟩ = some (.int .i64 x) ∧ V.cell? ⟨w.heap.size, 3, none⟩ = some (.int .i64 t) ∧ V.cell? ⟨w.heap.size, 4, none⟩ = some (.int .i64 l)))
  refine (HS1.out V1).mono ?_
  rintro e w2 ⟨rfl, hb2⟩
  have HB2 := hide (heldB (Below.refl V1.heap.size V1) hb2 (Nat.le_refl _))
  clear hb2
  obtain ⟨c0, c1, c2, c3, c4⟩ := HS.out w2 HB2.out
  go_wp2_with fail
  refine (HS2.out _).mono ?_
  rintro e w3 ⟨rfl, hb3⟩
  have HB3 := hide (heldB HB2.out hb3 (Nat.le_refl _))
  clear hb3 c0 c1 c2 c3 c4
  obtain ⟨c0, c1, c2, c3, c4⟩ := HS.out w3 HB3.out
  go_wp2_with fail
  refine (HU.out _).mono ?_
  rintro e w4 ⟨rfl, hw4⟩
  obtain rfl := hw4.symm
  clear hw4
  have HT3 := hide (HTN.out _ (HZ1.out.trans (HB3.out.mono HZ1.out.size)))
  go_wp2_with fail
  refine (HBL.out _ HT3.out).mono ?_
  rintro e w4 ⟨rfl, hb4⟩
  have HB4 := hide (heldB HB3.out hb4 (Nat.le_refl _))
  clear hb4 c0 c1 c2 c3 c4 HT3
  go_wp2_with fail
  have HS4 := hide (fun (V : World) (h : Below w4.heap.size w4 V) => HS.out V (heldB HB4.out h (Nat.le_refl _)))
  go_region_held3 (fun V => V.cell? ⟨w.heap.size, 0, none⟩ = some (.int .i64 k) ∧ V.cell? ⟨w.heap.size, 1, none⟩ = some (.int .i64 b) ∧ V.cell? ⟨w.heap.size, 2, none⟩ = some (.int .i64 x) ∧ V.cell? ⟨w.heap.size, 3, none⟩ = some (.int .i64 t) ∧ V.cell? ⟨w.heap.size, 4, none⟩ = some (.int .i64 l)) (first | exact HS4.out _ hS5 | exact HS4.out _ hS4 | exact HS4.out _ hS3 | exact HS4.out _ hS2 | exact HS4.out _ hS1 | exact HS4.out _ (Below.refl w4.heap.size w4).drew) (first | (go_at_call 8; have hx := hS4; clear hx; refine (HN4.out _).mono ?_; rintro e y5 ⟨rfl, hx5⟩; have hS5 := heldB hS4 hx5 (Nat.le_refl _)) | (go_at_call 8; have hx := hS3; clear hx; refine (HN3.out _).mono ?_; rintro e y4 ⟨rfl, hx4⟩; have hS4 := heldB hS3 hx4 (Nat.le_refl _)) | (go_at_call 8; have hx := hS2; clear hx; refine (HN2.out _).mono ?_; rintro e y3 ⟨rfl, hx3⟩; have hS3 := heldB hS2 hx3 (Nat.le_refl _)) | (go_at_call 8; have hx := hS1; clear hx; refine (HN1.out _).mono ?_; rintro e y2 ⟨rfl, hx2⟩; have hS2 := heldB hS1 hx2 (Nat.le_refl _)) | (go_at_call 8; refine (HN0.out _).mono ?_; rintro e y1 ⟨rfl, hx1⟩; have hS1 := heldB (Below.refl w4.heap.size w4).drew hx1 (Nat.le_refl _)))
  have HB5 := hide (heldB HB4.out hS5 (Nat.le_refl _))
  clear hS1 hS2 hS3 hS4 hS5 hx1 hx2 hx3 hx4 hx5 cc1 cc2 cc3 cc4
  have HT5 := hide (HTN.out _ (HZ1.out.trans (HB5.out.mono HZ1.out.size)))
  go_wp2_with fail
  refine (HVE.out _ HT5.out).mono ?_
  rintro e w6 ⟨rfl, hb6⟩
  have HB6 := hide (heldB HB5.out hb6 (Nat.le_refl _))
  clear hb6 HT5
  obtain ⟨c0, c1, c2, c3, c4⟩ := HS.out w6 HB6.out
  go_wp2_with fail
  refine (HSP.out _).mono ?_
  rintro e w7 ⟨g, rfl, hg, hbk, hb7⟩
  have HB7 := hide (heldB HB6.out hb7 (Nat.le_refl _))
  have HG7 := hide hbk
  clear hb7 hg hbk c0 c1 c2 c3 c4
  have HB8 := hide (HB7.out.alloc HB7.out.size (.cells #[.int .i64 idx, .string rnd, .slice (some ⟨g, 0, none⟩) N N] 32))
  have HG8 := hide (HG7.out.alloc (.cells #[.int .i64 idx, .string rnd, .slice (some ⟨g, 0, none⟩) N N] 32))
  have HP8 := hide (Blk.new w7 [.int .i64 idx, .string rnd, .slice (some ⟨g, 0, none⟩) N N] 32)
  obtain ⟨W8, hW8⟩ : ∃ W8, w7.alloc (.cells #[.int .i64 idx, .string rnd, .slice (some ⟨g, 0, none⟩) N N] 32) = W8 := ⟨_, rfl⟩
  rw [hW8] at HB8 HG8 HP8
  have HW8 := hide hW8
  have HS8 := hide (fun (V : World) (h : Below W8.heap.size W8 V) => (by
    obtain ⟨c0, c1, c2, c3, c4⟩ := HS.out V (heldB HB8.out h (Nat.le_refl _))
    have q2 := HP8.out.on h
    exact ⟨c0, c1, c2, c3, c4, q2.cell 0, q2.cell 1, q2.cell 2⟩ : V.cell? ⟨w.heap.size, 0, none⟩ = some (.int .i64 k) ∧ V.cell? ⟨w.heap.size, 1, none⟩ = some (.int .i64 b) ∧ V.cell? ⟨w.heap.size, 2, none⟩ = some (.int .i64 x) ∧ V.cell? ⟨w.heap.size, 3, none⟩ = some (.int .i64 t) ∧ V.cell? ⟨w.heap.size, 4, none⟩ = some (.int .i64 l) ∧ V.cell? ⟨w7.heap.size, 0, none⟩ = some (.int .i64 idx) ∧ V.cell? ⟨w7.heap.size, 1, none⟩ = some (.string rnd) ∧ V.cell? ⟨w7.heap.size, 2, none⟩ = some (.slice (some ⟨g, 0, none⟩) N N)))
  obtain ⟨c0, c1, c2, c3, c4, d0, d1, d2⟩ := HS8.out W8 (Below.refl _ _)
  go_wp2_with fail
  try rw [HW8.out]
  clear hW8
  refine (HJN.out _ g HG8.out).mono ?_
  rintro e w9 ⟨rfl, hb9⟩
  have HB9 := hide (heldB (Below.refl W8.heap.size W8) hb9 (Nat.le_refl _))
  clear hb9 c0 c1 c2 c3 c4 d0 d1 d2 HW8
  have HS9 := hide (fun (V : World) (h : Below w9.heap.size w9 V) => HS8.out V (heldB HB9.out h (Nat.le_refl _)))
  go_wp2_with fail
  go_region_held3 (fun V => V.cell? ⟨w.heap.size, 0, none⟩ = some (.int .i64 k) ∧ V.cell? ⟨w.heap.size, 1, none⟩ = some (.int .i64 b) ∧ V.cell? ⟨w.heap.size, 2, none⟩ = some (.int .i64 x) ∧ V.cell? ⟨w.heap.size, 3, none⟩ = some (.int .i64 t) ∧ V.cell? ⟨w.heap.size, 4, none⟩ = some (.int .i64 l) ∧ V.cell? ⟨w7.heap.size, 0, none⟩ = some (.int .i64 idx) ∧ V.cell? ⟨w7.heap.size, 1, none⟩ = some (.string rnd) ∧ V.cell? ⟨w7.heap.size, 2, none⟩ = some (.slice (some ⟨g, 0, none⟩) N N)) (first | exact HS9.out _ hS1 | exact HS9.out _ (Below.refl w9.heap.size w9).drew) ((go_at_call 12; refine (HTO.out _).mono ?_; rintro e w10 ⟨rfl, hb10⟩; have hS1 := heldB (Below.refl w9.heap.size w9).drew hb10 (Nat.le_refl _)))
  have HB10 := hide (heldB HB9.out hS1 (Nat.le_refl _))
  clear hS1 hb10
  obtain ⟨c0, c1, c2, c3, c4, d0, d1, d2⟩ := HS8.out _ HB10.out
  have HT10 := hide (HTN.out _ (HZ1.out.trans ((heldB HB8.out HB10.out (Nat.le_refl _)).mono HZ1.out.size)))
  have HG10 := hide (HG8.out.on HB10.out)
  go_wp2_with fail
  refine (HTP.out _ g HT10.out HG10.out).mono ?_
  rintro e w11 ⟨rfl, hb11⟩
  have HB11 := hide (heldB (heldB HB8.out HB10.out (Nat.le_refl _)) hb11 (Nat.le_refl _))
  clear hb11 c0 c1 c2 c3 c4 d0 d1 d2
  go_wp2
  go_ret
  exact ⟨rfl, HZ1.out.trans (HB11.out.mono HZ1.out.size)⟩

set_option maxRecDepth 20000 in
set_option maxHeartbeats 8000000 in
theorem follows_no (k0 b0 x0 t0 l0 k b x t l : Int) (r0 u0 m0 sig root pub msg rnd mm : ByteArray) (idx tot : Int) (N : Nat) (ps : List ByteArray) (w : World) (hT : Tn w) (q0 : 0 ≤ k ∧ k ≤ 100) (q1 : 0 ≤ b ∧ b ≤ 16) (q2 : 0 ≤ x ∧ x ≤ 100) (q3 : 0 ≤ t ∧ t ≤ 100) (q4 : 0 ≤ l ∧ l ≤ 100) (hi0 : 0 ≤ idx) (hi1 : idx < tot) (hne : ¬ mm.toList = root.toList) (hem : mm.toList.isEmpty = false) (z1 : root.size ≤ 16) (z2 : pub.size ≤ 16)
    (hF : ∀ V : World, Calls Tryd.prog 4 #[.agg #[.int .i64 k0, .int .i64 b0, .int .i64 x0, .int .i64 t0, .int .i64 l0]] V fun e w' => e = .returned (.agg #[.int .i64 k, .int .i64 b, .int .i64 x, .int .i64 t, .int .i64 l]) ∧ Below V.heap.size V w')
    (hS1 : ∀ V : World, Calls Tryd.prog 5 #[.string r0, .int .i64 b] V fun e w' => e = .returned (.string root) ∧ Below V.heap.size V w')
    (hS2 : ∀ V : World, Calls Tryd.prog 5 #[.string u0, .int .i64 b] V fun e w' => e = .returned (.string pub) ∧ Below V.heap.size V w')
    (hU : ∀ V : World, Calls Tryd.prog 6 #[.string m0, .int .i64 200] V fun e w' => e = .returned (.string msg) ∧ w' = V)
    (hB : ∀ V : World, Tn V → Calls Tryd.prog 7 #[.agg #[.int .i64 k, .int .i64 b, .int .i64 x, .int .i64 t, .int .i64 l]] V fun e w' => e = .returned (.bool true) ∧ Below V.heap.size V w')
    (hVe : ∀ V : World, Tn V → Calls Tryd.prog 9 #[.string (headS k b x t l ++ root ++ pub), .string msg, .string sig] V fun e w' => e = .returned (.int .i64 13) ∧ Below V.heap.size V w')
    (hSp : ∀ V : World, Calls Tryd.prog 10 #[.agg #[.int .i64 k, .int .i64 b, .int .i64 x, .int .i64 t, .int .i64 l], .string sig] V fun r w' => ∃ g, r = .returned (.tuple #[.agg #[.int .i64 idx, .string rnd, .slice (some ⟨g, 0, none⟩) N N], .int .i64 0]) ∧ V.heap.size ≤ g ∧ Blk w' g (ps.map Value.string) 9 ∧ Below V.heap.size V w')
    (hJn : ∀ (V : World) (g : Nat), Blk V g (ps.map Value.string) 9 → Calls Tryd.prog 11 #[.agg #[.int .i64 k, .int .i64 b, .int .i64 x, .int .i64 t, .int .i64 l], .agg #[.int .i64 idx, .string rnd, .slice (some ⟨g, 0, none⟩) N N]] V fun e w' => e = .returned (.tuple #[.string sig, .int .i64 0]) ∧ Below V.heap.size V w')
    (hTo : ∀ V : World, Calls Tryd.prog 12 #[.agg #[.int .i64 k, .int .i64 b, .int .i64 x, .int .i64 t, .int .i64 l]] V fun e w' => e = .returned (.int .i64 tot) ∧ Below V.heap.size V w')
    (hTp : ∀ (V : World) (g : Nat), Tn V → Blk V g (ps.map Value.string) 9 → Calls Tryd.prog 13 #[.agg #[.int .i64 k, .int .i64 b, .int .i64 x, .int .i64 t, .int .i64 l], .string root, .string pub, .string msg, .agg #[.int .i64 idx, .string rnd, .slice (some ⟨g, 0, none⟩) N N]] V fun e w' => e = .returned (.string mm) ∧ Below V.heap.size V w') :
    Calls Tryd.prog 3 #[.agg #[.int .i64 k0, .int .i64 b0, .int .i64 x0, .int .i64 t0, .int .i64 l0], .string r0, .string u0, .string m0, .string sig] w fun e w' => e = .returned (.bool true) ∧ Below w.heap.size w w' := by
  have HFI := hide hF
  have HS1 := hide hS1
  have HS2 := hide hS2
  have HU := hide hU
  have HBL := hide hB
  have HVE := hide hVe
  have hd0 : decide (idx < 0) = false := decide_eq_false (by omega)
  have hd1 : decide (tot ≤ idx) = false := decide_eq_false (by omega)
  have hd2 : ¬ idx < 0 := by omega
  have hd3 : ¬ tot ≤ idx := by omega
  have HSP := hide hSp
  have HJN := hide hJn
  have HTO := hide hTo
  have HTP := hide hTp
  have ne1 : (mm.toList == root.toList) = false := by simpa using hne
  have ne2 : (mm.toList != root.toList) = true := by simpa using hne
  have HN0 := hide (fun V : World => keepNumber_any 1 k V (by decide) q0.1 (by omega))
  have HN1 := hide (fun V : World => keepNumber_any 1 b V (by decide) q1.1 (by omega))
  have HN2 := hide (fun V : World => keepNumber_any 1 x V (by decide) q2.1 (by omega))
  have HN3 := hide (fun V : World => keepNumber_any 1 t V (by decide) q3.1 (by omega))
  have HN4 := hide (fun V : World => keepNumber_any 1 l V (by decide) q4.1 (by omega))
  have cc1 := sadd (numB 1 k) (numB 1 b) (by rw [numB_size]; omega) (by rw [numB_size]; omega)
  have cc2 := sadd (numB 1 k ++ numB 1 b) (numB 1 x) (by simp only [ByteArray.size_append, numB_size]; omega) (by rw [numB_size]; omega)
  have cc3 := sadd (numB 1 k ++ numB 1 b ++ numB 1 x) (numB 1 t) (by simp only [ByteArray.size_append, numB_size]; omega) (by rw [numB_size]; omega)
  have cc4 := sadd (numB 1 k ++ numB 1 b ++ numB 1 x ++ numB 1 t) (numB 1 l) (by simp only [ByteArray.size_append, numB_size]; omega) (by rw [numB_size]; omega)
  have hhs : (headS k b x t l).size ≤ 16 := by simp only [headS, ByteArray.size_append, numB_size]; omega
  have cc5 := sadd (headS k b x t l) root (by omega) (by omega)
  have cc6 := sadd (headS k b x t l ++ root) pub (by simp only [ByteArray.size_append]; omega) (by omega)
  rw [show numB 1 k ++ numB 1 b ++ numB 1 x ++ numB 1 t ++ numB 1 l = headS k b x t l from rfl] at cc4
  generalize headS k b x t l ++ root ++ pub = key at cc6 HVE
  generalize headS k b x t l ++ root = hr at cc5 cc6
  generalize headS k b x t l = hs5 at cc4 cc5 hhs
  generalize numB 1 k ++ numB 1 b ++ numB 1 x ++ numB 1 t = hs4 at cc3 cc4
  generalize numB 1 k ++ numB 1 b ++ numB 1 x = hs3 at cc2 cc3
  generalize numB 1 k ++ numB 1 b = hs2 at cc1 cc2
  generalize numB 1 k = n0 at cc1 HN0
  generalize numB 1 b = n1 at cc1 HN1
  generalize numB 1 x = n2 at cc2 HN2
  generalize numB 1 t = n3 at cc3 HN3
  generalize numB 1 l = n4 at cc4 HN4
  clear hF hS1 hS2 hU hB hVe hSp hJn hTo hTp q0 q1 q2 q3 q4 z1 z2 hhs
  obtain ⟨W0, hW⟩ : ∃ W0, w.alloc (.cells #[.int .i64 k0, .int .i64 b0, .int .i64 x0, .int .i64 t0, .int .i64 l0] 23) = W0 := ⟨_, rfl⟩
  have HK0 := hide (show Blk W0 w.heap.size [.int .i64 k0, .int .i64 b0, .int .i64 x0, .int .i64 t0, .int .i64 l0] 23 by rw [← hW]; exact Blk.new w _ _)
  have HB0 := hide (show Below w.heap.size w W0 by subst hW; exact (Below.refl _ _).alloc (Nat.le_refl _) _)
  have HTN := hide (fun (V : World) (h : Below w.heap.size w V) => hT.on h)
  clear hT
  have HWE := hide hW
  clear hW
  go_enter Tryd.func3, Tryd.ntmps3
  go_wp2_with fail
  rw [HWE.out]
  clear HWE
  refine (HFI.out W0).mono ?_
  rintro e w1 ⟨rfl, hb1⟩
  have HK1 := hide (HK0.out.on hb1)
  have HB1 := hide (heldB HB0.out hb1 (Nat.le_refl _))
  clear hb1 HK0 HB0
  have c0 := HK1.out.cell 0
  have c1 := HK1.out.cell 1
  have c2 := HK1.out.cell 2
  have c3 := HK1.out.cell 3
  have c4 := HK1.out.cell 4
  have f0 := HK1.out.free 0
  have f1 := HK1.out.free 1
  have f2 := HK1.out.free 2
  have f3 := HK1.out.free 3
  have f4 := HK1.out.free 4
  simp only [List.getElem?_cons_zero, List.getElem?_cons_succ] at c0 c1 c2 c3 c4
  obtain ⟨V1, HV1⟩ : ∃ V1, Hid ((((((w1.setCell ⟨w.heap.size, 0, none⟩ (.int .i64 k)).setCell ⟨w.heap.size, 1, none⟩ (.int .i64 b)).setCell ⟨w.heap.size, 2, none⟩ (.int .i64 x)).setCell ⟨w.heap.size, 3, none⟩ (.int .i64 t)).setCell ⟨w.heap.size, 4, none⟩ (.int .i64 l)) = V1) := ⟨_, rfl⟩
  go_wp2_with fail
  rw [HV1.out]
  have HY1 := hide (show Blk V1 w.heap.size [.int .i64 k, .int .i64 b, .int .i64 x, .int .i64 t, .int .i64 l] 23 by rw [← HV1.out]; exact blk5V HK1.out _ _ _ _ _)
  have HZ1 := hide (show Below w.heap.size w V1 by
    rw [← HV1.out]
    have h := HB1.out
    iterate 5 refine Below.setCell ?_ (by simp <;> omega) _
    exact h)
  clear HV1 HK1 HB1 c0 c1 c2 c3 c4 f0 f1 f2 f3 f4
  have HS := hide (fun (V : World) (h : Below V1.heap.size V1 V) => (by
    have q := HY1.out.on h
    exact ⟨q.cell 0, q.cell 1, q.cell 2, q.cell 3, q.cell 4⟩ : V.cell? ⟨w.heap.size, 0, none⟩ = some (.int .i64 k) ∧ V.cell? ⟨w.heap.size, 1, none⟩ = some (.int .i64 b) ∧ V.cell? ⟨w.heap.size, 2, none⟩ = some (.int .i64 x) ∧ V.cell? ⟨w.heap.size, 3, none⟩ = some (.int .i64 t) ∧ V.cell? ⟨w.heap.size, 4, none⟩ = some (.int .i64 l)))
  refine (HS1.out V1).mono ?_
  rintro e w2 ⟨rfl, hb2⟩
  have HB2 := hide (heldB (Below.refl V1.heap.size V1) hb2 (Nat.le_refl _))
  clear hb2
  obtain ⟨c0, c1, c2, c3, c4⟩ := HS.out w2 HB2.out
  go_wp2_with fail
  refine (HS2.out _).mono ?_
  rintro e w3 ⟨rfl, hb3⟩
  have HB3 := hide (heldB HB2.out hb3 (Nat.le_refl _))
  clear hb3 c0 c1 c2 c3 c4
  obtain ⟨c0, c1, c2, c3, c4⟩ := HS.out w3 HB3.out
  go_wp2_with fail
  refine (HU.out _).mono ?_
  rintro e w4 ⟨rfl, hw4⟩
  obtain rfl := hw4.symm
  clear hw4
  have HT3 := hide (HTN.out _ (HZ1.out.trans (HB3.out.mono HZ1.out.size)))
  go_wp2_with fail
  refine (HBL.out _ HT3.out).mono ?_
  rintro e w4 ⟨rfl, hb4⟩
  have HB4 := hide (heldB HB3.out hb4 (Nat.le_refl _))
  clear hb4 c0 c1 c2 c3 c4 HT3
  go_wp2_with fail
  have HS4 := hide (fun (V : World) (h : Below w4.heap.size w4 V) => HS.out V (heldB HB4.out h (Nat.le_refl _)))
  go_region_held3 (fun V => V.cell? ⟨w.heap.size, 0, none⟩ = some (.int .i64 k) ∧ V.cell? ⟨w.heap.size, 1, none⟩ = some (.int .i64 b) ∧ V.cell? ⟨w.heap.size, 2, none⟩ = some (.int .i64 x) ∧ V.cell? ⟨w.heap.size, 3, none⟩ = some (.int .i64 t) ∧ V.cell? ⟨w.heap.size, 4, none⟩ = some (.int .i64 l)) (first | exact HS4.out _ hS5 | exact HS4.out _ hS4 | exact HS4.out _ hS3 | exact HS4.out _ hS2 | exact HS4.out _ hS1 | exact HS4.out _ (Below.refl w4.heap.size w4).drew) (first | (go_at_call 8; have hx := hS4; clear hx; refine (HN4.out _).mono ?_; rintro e y5 ⟨rfl, hx5⟩; have hS5 := heldB hS4 hx5 (Nat.le_refl _)) | (go_at_call 8; have hx := hS3; clear hx; refine (HN3.out _).mono ?_; rintro e y4 ⟨rfl, hx4⟩; have hS4 := heldB hS3 hx4 (Nat.le_refl _)) | (go_at_call 8; have hx := hS2; clear hx; refine (HN2.out _).mono ?_; rintro e y3 ⟨rfl, hx3⟩; have hS3 := heldB hS2 hx3 (Nat.le_refl _)) | (go_at_call 8; have hx := hS1; clear hx; refine (HN1.out _).mono ?_; rintro e y2 ⟨rfl, hx2⟩; have hS2 := heldB hS1 hx2 (Nat.le_refl _)) | (go_at_call 8; refine (HN0.out _).mono ?_; rintro e y1 ⟨rfl, hx1⟩; have hS1 := heldB (Below.refl w4.heap.size w4).drew hx1 (Nat.le_refl _)))
  have HB5 := hide (heldB HB4.out hS5 (Nat.le_refl _))
  clear hS1 hS2 hS3 hS4 hS5 hx1 hx2 hx3 hx4 hx5 cc1 cc2 cc3 cc4
  have HT5 := hide (HTN.out _ (HZ1.out.trans (HB5.out.mono HZ1.out.size)))
  go_wp2_with fail
  refine (HVE.out _ HT5.out).mono ?_
  rintro e w6 ⟨rfl, hb6⟩
  have HB6 := hide (heldB HB5.out hb6 (Nat.le_refl _))
  clear hb6 HT5
  obtain ⟨c0, c1, c2, c3, c4⟩ := HS.out w6 HB6.out
  go_wp2_with fail
  refine (HSP.out _).mono ?_
  rintro e w7 ⟨g, rfl, hg, hbk, hb7⟩
  have HB7 := hide (heldB HB6.out hb7 (Nat.le_refl _))
  have HG7 := hide hbk
  clear hb7 hg hbk c0 c1 c2 c3 c4
  have HB8 := hide (HB7.out.alloc HB7.out.size (.cells #[.int .i64 idx, .string rnd, .slice (some ⟨g, 0, none⟩) N N] 32))
  have HG8 := hide (HG7.out.alloc (.cells #[.int .i64 idx, .string rnd, .slice (some ⟨g, 0, none⟩) N N] 32))
  have HP8 := hide (Blk.new w7 [.int .i64 idx, .string rnd, .slice (some ⟨g, 0, none⟩) N N] 32)
  obtain ⟨W8, hW8⟩ : ∃ W8, w7.alloc (.cells #[.int .i64 idx, .string rnd, .slice (some ⟨g, 0, none⟩) N N] 32) = W8 := ⟨_, rfl⟩
  rw [hW8] at HB8 HG8 HP8
  have HW8 := hide hW8
  have HS8 := hide (fun (V : World) (h : Below W8.heap.size W8 V) => (by
    obtain ⟨c0, c1, c2, c3, c4⟩ := HS.out V (heldB HB8.out h (Nat.le_refl _))
    have q2 := HP8.out.on h
    exact ⟨c0, c1, c2, c3, c4, q2.cell 0, q2.cell 1, q2.cell 2⟩ : V.cell? ⟨w.heap.size, 0, none⟩ = some (.int .i64 k) ∧ V.cell? ⟨w.heap.size, 1, none⟩ = some (.int .i64 b) ∧ V.cell? ⟨w.heap.size, 2, none⟩ = some (.int .i64 x) ∧ V.cell? ⟨w.heap.size, 3, none⟩ = some (.int .i64 t) ∧ V.cell? ⟨w.heap.size, 4, none⟩ = some (.int .i64 l) ∧ V.cell? ⟨w7.heap.size, 0, none⟩ = some (.int .i64 idx) ∧ V.cell? ⟨w7.heap.size, 1, none⟩ = some (.string rnd) ∧ V.cell? ⟨w7.heap.size, 2, none⟩ = some (.slice (some ⟨g, 0, none⟩) N N)))
  obtain ⟨c0, c1, c2, c3, c4, d0, d1, d2⟩ := HS8.out W8 (Below.refl _ _)
  go_wp2_with fail
  try rw [HW8.out]
  clear hW8
  refine (HJN.out _ g HG8.out).mono ?_
  rintro e w9 ⟨rfl, hb9⟩
  have HB9 := hide (heldB (Below.refl W8.heap.size W8) hb9 (Nat.le_refl _))
  clear hb9 c0 c1 c2 c3 c4 d0 d1 d2 HW8
  have HS9 := hide (fun (V : World) (h : Below w9.heap.size w9 V) => HS8.out V (heldB HB9.out h (Nat.le_refl _)))
  go_wp2_with fail
  go_region_held3 (fun V => V.cell? ⟨w.heap.size, 0, none⟩ = some (.int .i64 k) ∧ V.cell? ⟨w.heap.size, 1, none⟩ = some (.int .i64 b) ∧ V.cell? ⟨w.heap.size, 2, none⟩ = some (.int .i64 x) ∧ V.cell? ⟨w.heap.size, 3, none⟩ = some (.int .i64 t) ∧ V.cell? ⟨w.heap.size, 4, none⟩ = some (.int .i64 l) ∧ V.cell? ⟨w7.heap.size, 0, none⟩ = some (.int .i64 idx) ∧ V.cell? ⟨w7.heap.size, 1, none⟩ = some (.string rnd) ∧ V.cell? ⟨w7.heap.size, 2, none⟩ = some (.slice (some ⟨g, 0, none⟩) N N)) (first | exact HS9.out _ hS1 | exact HS9.out _ (Below.refl w9.heap.size w9).drew) ((go_at_call 12; refine (HTO.out _).mono ?_; rintro e w10 ⟨rfl, hb10⟩; have hS1 := heldB (Below.refl w9.heap.size w9).drew hb10 (Nat.le_refl _)))
  have HB10 := hide (heldB HB9.out hS1 (Nat.le_refl _))
  clear hS1 hb10
  obtain ⟨c0, c1, c2, c3, c4, d0, d1, d2⟩ := HS8.out _ HB10.out
  have HT10 := hide (HTN.out _ (HZ1.out.trans ((heldB HB8.out HB10.out (Nat.le_refl _)).mono HZ1.out.size)))
  have HG10 := hide (HG8.out.on HB10.out)
  go_wp2_with fail
  refine (HTP.out _ g HT10.out HG10.out).mono ?_
  rintro e w11 ⟨rfl, hb11⟩
  have HB11 := hide (heldB (heldB HB8.out HB10.out (Nat.le_refl _)) hb11 (Nat.le_refl _))
  clear hb11 c0 c1 c2 c3 c4 d0 d1 d2
  go_wp2
  go_ret
  exact ⟨rfl, HZ1.out.trans (HB11.out.mono HZ1.out.size)⟩
end Go.Proofs.YtgaoeoijdpdjiabDoor
