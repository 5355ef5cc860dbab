/-
  The statement Follows where Split refuses the text, its calls' answers being given. The program's Join where all is right. The program's IsIndex.
-/
import Derived.Test.YtgaoeoijdpdjiabDoorPart26
import Derived.Test.YtgaoeoijdpdjiabDoorPart30
import Derived.Test.YtgaoeoijdpdjiabDoorPart25
import Derived.Test.YtgaoeoijdpdjiabDoorPart28
namespace Go.Proofs.YtgaoeoijdpdjiabDoor
open Go.RowKit

theorem blk5V {V : World} {g : Nat} {T : TypeId} {u0 u1 u2 u3 u4 : Value} (h : Blk V g [u0, u1, u2, u3, u4] T) (v0 v1 v2 v3 v4 : Value) : Blk (((((V.setCell ⟨g, 0, none⟩ v0).setCell ⟨g, 1, none⟩ v1).setCell ⟨g, 2, none⟩ v2).setCell ⟨g, 3, none⟩ v3).setCell ⟨g, 4, none⟩ v4) g [v0, v1, v2, v3, v4] T :=
  ((((h.set 0 v0).set 1 v1).set 2 v2).set 3 v3).set 4 v4

/-- The key's text of a set. -/
def headS (k b x t l : Int) : ByteArray := numB 1 k ++ numB 1 b ++ numB 1 x ++ numB 1 t ++ numB 1 l

set_option maxRecDepth 20000 in
set_option maxHeartbeats 8000000 in
theorem follows_form (k0 b0 x0 t0 l0 k b x t l : Int) (r0 u0 m0 sig root pub msg : ByteArray) (w : World) (hT : Tn w) (q0 : 0 ≤ k ∧ k ≤ 100) (q1 : 0 ≤ b ∧ b ≤ 16) (q2 : 0 ≤ x ∧ x ≤ 100) (q3 : 0 ≤ t ∧ t ≤ 100) (q4 : 0 ≤ l ∧ l ≤ 100) (z1 : root.size ≤ 16) (z2 : pub.size ≤ 16)
    (hF : ∀ V : World, Calls Tryd.prog 4 #[.agg #[.int .i64 k0, .int .i64 b0, .int .i64 x0, .int .i64 t0, .int .i64 l0]] V fun e w' => e = .returned (.agg #[.int .i64 k, .int .i64 b, .int .i64 x, .int .i64 t, .int .i64 l]) ∧ Below V.heap.size V w')
    (hS1 : ∀ V : World, Calls Tryd.prog 5 #[.string r0, .int .i64 b] V fun e w' => e = .returned (.string root) ∧ Below V.heap.size V w')
    (hS2 : ∀ V : World, Calls Tryd.prog 5 #[.string u0, .int .i64 b] V fun e w' => e = .returned (.string pub) ∧ Below V.heap.size V w')
    (hU : ∀ V : World, Calls Tryd.prog 6 #[.string m0, .int .i64 200] V fun e w' => e = .returned (.string msg) ∧ w' = V)
    (hB : ∀ V : World, Tn V → Calls Tryd.prog 7 #[.agg #[.int .i64 k, .int .i64 b, .int .i64 x, .int .i64 t, .int .i64 l]] V fun e w' => e = .returned (.bool true) ∧ Below V.heap.size V w')
    (hVe : ∀ V : World, Tn V → Calls Tryd.prog 9 #[.string (headS k b x t l ++ root ++ pub), .string msg, .string sig] V fun e w' => e = .returned (.int .i64 12) ∧ Below V.heap.size V w')
    (hSp : ∀ V : World, Calls Tryd.prog 10 #[.agg #[.int .i64 k, .int .i64 b, .int .i64 x, .int .i64 t, .int .i64 l], .string sig] V fun r w' => r = .returned (.tuple #[.agg #[.int .i64 0, .string ⟨#[]⟩, .slice none 0 0], .int .i64 12]) ∧ Below V.heap.size V w') :
    Calls Tryd.prog 3 #[.agg #[.int .i64 k0, .int .i64 b0, .int .i64 x0, .int .i64 t0, .int .i64 l0], .string r0, .string u0, .string m0, .string sig] w fun e w' => e = .returned (.bool true) ∧ Below w.heap.size w w' := by
  have HFI := hide hF
  have HS1 := hide hS1
  have HS2 := hide hS2
  have HU := hide hU
  have HBL := hide hB
  have HVE := hide hVe
  have HSP := hide hSp
  have HN0 := hide (fun V : World => keepNumber_any 1 k V (by decide) q0.1 (by omega))
  have HN1 := hide (fun V : World => keepNumber_any 1 b V (by decide) q1.1 (by omega))
  have HN2 := hide (fun V : World => keepNumber_any 1 x V (by decide) q2.1 (by omega))
  have HN3 := hide (fun V : World => keepNumber_any 1 t V (by decide) q3.1 (by omega))
  have HN4 := hide (fun V : World => keepNumber_any 1 l V (by decide) q4.1 (by omega))
  have cc1 := sadd (numB 1 k) (numB 1 b) (by rw [numB_size]; omega) (by rw [numB_size]; omega)
  have cc2 := sadd (numB 1 k ++ numB 1 b) (numB 1 x) (by simp only [ByteArray.size_append, numB_size]; omega) (by rw [numB_size]; omega)
  have cc3 := sadd (numB 1 k ++ numB 1 b ++ numB 1 x) (numB 1 t) (by simp only [ByteArray.size_append, numB_size]; omega) (by rw [numB_size]; omega)
  have cc4 := sadd (numB 1 k ++ numB 1 b ++ numB 1 x ++ numB 1 t) (numB 1 l) (by simp only [ByteArray.size_append, numB_size]; omega) (by rw [numB_size]; omega)
  have hhs : (headS k b x t l).size ≤ 16 := by simp only [headS, ByteArray.size_append, numB_size]; omega
  have cc5 := sadd (headS k b x t l) root (by omega) (by omega)
  have cc6 := sadd (headS k b x t l ++ root) pub (by simp only [ByteArray.size_append]; omega) (by omega)
  rw [show numB 1 k ++ numB 1 b ++ numB 1 x ++ numB 1 t ++ numB 1 l = headS k b x t l from rfl] at cc4
  generalize headS k b x t l ++ root ++ pub = key at cc6 HVE
  generalize headS k b x t l ++ root = hr at cc5 cc6
  generalize headS k b x t l = hs5 at cc4 cc5 hhs
  generalize numB 1 k ++ numB 1 b ++ numB 1 x ++ numB 1 t = hs4 at cc3 cc4
  generalize numB 1 k ++ numB 1 b ++ numB 1 x = hs3 at cc2 cc3
  generalize numB 1 k ++ numB 1 b = hs2 at cc1 cc2
  generalize numB 1 k = n0 at cc1 HN0
  generalize numB 1 b = n1 at cc1 HN1
  generalize numB 1 x = n2 at cc2 HN2
  generalize numB 1 t = n3 at cc3 HN3
  generalize numB 1 l = n4 at cc4 HN4
  clear hF hS1 hS2 hU hB hVe hSp q0 q1 q2 q3 q4 z1 z2 hhs
  obtain ⟨W0, hW⟩ : ∃ W0, w.alloc (.cells #[.int .i64 k0, .int .i64 b0, .int .i64 x0, .int .i64 t0, .int .i64 l0] 23) = W0 := ⟨_, rfl⟩
  have HK0 := hide (show Blk W0 w.heap.size [.int .i64 k0, .int .i64 b0, .int .i64 x0, .int .i64 t0, .int .i64 l0] 23 by rw [← hW]; exact Blk.new w _ _)
  have HB0 := hide (show Below w.heap.size w W0 by subst hW; exact (Below.refl _ _).alloc (Nat.le_refl _) _)
  have HTN := hide (fun (V : World) (h : Below w.heap.size w V) => hT.on h)
  clear hT
  have HWE := hide hW
  clear hW
  go_enter Tryd.func3, Tryd.ntmps3
  go_wp2_with fail
  rw [HWE.out]
  clear HWE
  refine (HFI.out W0).mono ?_
  rintro e w1 ⟨rfl, hb1⟩
  have HK1 := hide (HK0.out.on hb1)
  have HB1 := hide (heldB HB0.out hb1 (Nat.le_refl _))
  clear hb1 HK0 HB0
  have c0 := HK1.out.cell 0
  have c1 := HK1.out.cell 1
  have c2 := HK1.out.cell 2
  have c3 := HK1.out.cell 3
  have c4 := HK1.out.cell 4
  have f0 := HK1.out.free 0
  have f1 := HK1.out.free 1
  have f2 := HK1.out.free 2
  have f3 := HK1.out.free 3
  have f4 := HK1.out.free 4
  simp only [List.getElem?_cons_zero, List.getElem?_cons_succ] at c0 c1 c2 c3 c4
  obtain ⟨V1, HV1⟩ : ∃ V1, Hid ((((((w1.setCell ⟨w.heap.size, 0, none⟩ (.int .i64 k)).setCell ⟨w.heap.size, 1, none⟩ (.int .i64 b)).setCell ⟨w.heap.size, 2, none⟩ (.int .i64 x)).setCell ⟨w.heap.size, 3, none⟩ (.int .i64 t)).setCell ⟨w.heap.size, 4, none⟩ (.int .i64 l)) = V1) := ⟨_, rfl⟩
  go_wp2_with fail
  rw [HV1.out]
  have HY1 := hide (show Blk V1 w.heap.size [.int .i64 k, .int .i64 b, .int .i64 x, .int .i64 t, .int .i64 l] 23 by rw [← HV1.out]; exact blk5V HK1.out _ _ _ _ _)
  have HZ1 := hide (show Below w.heap.size w V1 by
    rw [← HV1.out]
    have h := HB1.out
    iterate 5 refine Below.setCell ?_ (by simp <;> omega) _
    exact h)
  clear HV1 HK1 HB1 c0 c1 c2 c3 c4 f0 f1 f2 f3 f4
  have HS := hide (fun (V : World) (h : Below V1.heap.size V1 V) => (by
    have q := HY1.out.on h
    exact ⟨q.cell 0, q.cell 1, q.cell 2, q.cell 3, q.cell 4⟩ : V.cell? ⟨w.heap.size, 0, none⟩ = some (.int .i64 k) ∧ V.cell? ⟨w.heap.size, 1, none⟩ = some (.int .i64 b) ∧ V.cell? ⟨w.heap.size, 2, none⟩ = some (.int .i64 x) ∧ V.cell? ⟨w.heap.size, 3, none⟩ = some (.int .i64 t) ∧ V.cell? ⟨w.heap.size, 4, none⟩ = some (.int .i64 l)))
  refine (HS1.out V1).mono ?_
  rintro e w2 ⟨rfl, hb2⟩
  have HB2 := hide (heldB (Below.refl V1.heap.size V1) hb2 (Nat.le_refl _))
  clear hb2
  obtain ⟨c0, c1, c2, c3, c4⟩ := HS.out w2 HB2.out
  go_wp2_with fail
  refine (HS2.out _).mono ?_
  rintro e w3 ⟨rfl, hb3⟩
  have HB3 := hide (heldB HB2.out hb3 (Nat.le_refl _))
  clear hb3 c0 c1 c2 c3 c4
  obtain ⟨c0, c1, c2, c3, c4⟩ := HS.out w3 HB3.out
  go_wp2_with fail
  refine (HU.out _).mono ?_
  rintro e w4 ⟨rfl, hw4⟩
  obtain rfl := hw4.symm
  clear hw4
  have HT3 := hide (HTN.out _ (HZ1.out.trans (HB3.out.mono HZ1.out.size)))
  go_wp2_with fail
  refine (HBL.out _ HT3.out).mono ?_
  rintro e w4 ⟨rfl, hb4⟩
  have HB4 := hide (heldB HB3.out hb4 (Nat.le_refl _))
  clear hb4 c0 c1 c2 c3 c4 HT3
  go_wp2_with fail
  have HS4 := hide (fun (V : World) (h : Below w4.heap.size w4 V) => HS.out V (heldB HB4.out h (Nat.le_refl _)))
  go_region_held3 (fun V => V.cell? ⟨w.heap.size, 0, none⟩ = some (.int .i64 k) ∧ V.cell? ⟨w.heap.size, 1, none⟩ = some (.int .i64 b) ∧ V.cell? ⟨w.heap.size, 2, none⟩ = some (.int .i64 x) ∧ V.cell? ⟨w.heap.size, 3, none⟩ = some (.int .i64 t) ∧ V.cell? ⟨w.heap.size, 4, none⟩ = some (.int .i64 l)) (first | exact HS4.out _ hS5 | exact HS4.out _ hS4 | exact HS4.out _ hS3 | exact HS4.out _ hS2 | exact HS4.out _ hS1 | exact HS4.out _ (Below.refl w4.heap.size w4).drew) (first | (go_at_call 8; have hx := hS4; clear hx; refine (HN4.out _).mono ?_; rintro e y5 ⟨rfl, hx5⟩; have hS5 := heldB hS4 hx5 (Nat.le_refl _)) | (go_at_call 8; have hx := hS3; clear hx; refine (HN3.out _).mono ?_; rintro e y4 ⟨rfl, hx4⟩; have hS4 := heldB hS3 hx4 (Nat.le_refl _)) | (go_at_call 8; have hx := hS2; clear hx; refine (HN2.out _).mono ?_; rintro e y3 ⟨rfl, hx3⟩; have hS3 := heldB hS2 hx3 (Nat.le_refl _)) | (go_at_call 8; have hx := hS1; clear hx; refine (HN1.out _).mono ?_; rintro e y2 ⟨rfl, hx2⟩; have hS2 := heldB hS1 hx2 (Nat.le_refl _)) | (go_at_call 8; refine (HN0.out _).mono ?_; rintro e y1 ⟨rfl, hx1⟩; have hS1 := heldB (Below.refl w4.heap.size w4).drew hx1 (Nat.le_refl _)))
  have HB5 := hide (heldB HB4.out hS5 (Nat.le_refl _))
  clear hS1 hS2 hS3 hS4 hS5 hx1 hx2 hx3 hx4 hx5 cc1 cc2 cc3 cc4
  have HT5 := hide (HTN.out _ (HZ1.out.trans (HB5.out.mono HZ1.out.size)))
  go_wp2_with fail
  refine (HVE.out _ HT5.out).mono ?_
  rintro e w6 ⟨rfl, hb6⟩
  have HB6 := hide (heldB HB5.out hb6 (Nat.le_refl _))
  clear hb6 HT5
  obtain ⟨c0, c1, c2, c3, c4⟩ := HS.out w6 HB6.out
  go_wp2_with fail
  refine (HSP.out _).mono ?_
  rintro e w7 ⟨rfl, hb7⟩
  have HB7 := hide (heldB HB6.out hb7 (Nat.le_refl _))
  clear hb7 c0 c1 c2 c3 c4
  go_wp2
  go_ret
  exact ⟨rfl, (HZ1.out.trans (HB7.out.mono HZ1.out.size)).alloc (by have := HZ1.out.size; have := HB7.out.size; omega) _⟩
end Go.Proofs.YtgaoeoijdpdjiabDoor

namespace Go.Proofs.YtgaoeoijdpdjiabDoor
open Go.RowKit

set_option maxRecDepth 20000 in
set_option maxHeartbeats 8000000 in
theorem join_yes (k b x t l a0 a1 a2 a3 a4 a5 idx : Int) (n g c : Nat) (rnd cs : ByteArray) (w : World) (hw1 : IntKind.i64.wrap (a2 + t) = a2 + t) (hw2 : IntKind.i64.wrap (l * (a2 + t)) = (n : Int)) (z1 : rnd.size ≤ 16) (z2 : cs.size ≤ 1000)
    (hM : ∀ V : World, Calls Tryd.prog 27 #[.agg #[.int .i64 k, .int .i64 b, .int .i64 x, .int .i64 t, .int .i64 l]] V fun e w' => e = .returned (.tuple #[.agg #[.int .i64 a0, .int .i64 a1, .int .i64 a2, .int .i64 a3, .int .i64 a4, .int .i64 a5], .int .i64 0]) ∧ Below V.heap.size V w')
    (hI : ∀ V : World, Calls Tryd.prog 29 #[.agg #[.int .i64 k, .int .i64 b, .int .i64 x, .int .i64 t, .int .i64 l], .int .i64 idx] V fun e w' => e = .returned (.bool true) ∧ Below V.heap.size V w')
    (hV1 : ∀ (V : World) (B : Nat), B = V.heap.size → Calls Tryd.prog 31 #[.agg #[.int .i64 k, .int .i64 b, .int .i64 x, .int .i64 t, .int .i64 l], .slice (some ⟨B, 0, none⟩) 1 1] (V.alloc (.cells #[.string rnd] 9)) fun e w' => e = .returned (.bool true) ∧ Below (V.alloc (.cells #[.string rnd] 9)).heap.size (V.alloc (.cells #[.string rnd] 9)) w')
    (hV2 : ∀ V : World, Below w.heap.size w V → Calls Tryd.prog 31 #[.agg #[.int .i64 k, .int .i64 b, .int .i64 x, .int .i64 t, .int .i64 l], .slice (some ⟨g, 0, none⟩) n c] V fun e w' => e = .returned (.bool true) ∧ Below V.heap.size V w')
    (hJ : ∀ V : World, Below w.heap.size w V → Calls Tryd.prog 33 #[.slice (some ⟨g, 0, none⟩) n c, .string ⟨#[]⟩] V fun e w' => e = .returned (.string cs) ∧ Below V.heap.size V w') :
    Calls Tryd.prog 20 #[.agg #[.int .i64 k, .int .i64 b, .int .i64 x, .int .i64 t, .int .i64 l], .agg #[.int .i64 idx, .string rnd, .slice (some ⟨g, 0, none⟩) n c]] w fun r w' => r = .returned (.tuple #[.string (numB 4 idx ++ rnd ++ cs), .int .i64 0]) ∧ Below w.heap.size w w' := by
  have HM := hide hM
  have HI := hide hI
  have HV1 := hide hV1
  have HV2 := hide hV2
  have HJ := hide hJ
  have HN := hide (fun V : World => number_any 4 idx V (by decide))
  have cc1 := sadd (numB 4 idx) rnd (by rw [numB_size]; omega) (by omega)
  have cc2 := sadd (numB 4 idx ++ rnd) cs (by simp only [ByteArray.size_append, numB_size]; omega) (by omega)
  clear hM hI hV1 hV2 hJ
  generalize numB 4 idx ++ rnd ++ cs = res at cc2 ⊢
  generalize numB 4 idx ++ rnd = hd at cc1 cc2
  generalize numB 4 idx = nb at HN cc1
  obtain ⟨W0, hW⟩ : ∃ W0, (w.alloc (.cells #[.int .i64 k, .int .i64 b, .int .i64 x, .int .i64 t, .int .i64 l] 23)).alloc (.cells #[.int .i64 idx, .string rnd, .slice (some ⟨g, 0, none⟩) n c] 32) = W0 := ⟨_, rfl⟩
  have HK := hide (show Blk W0 w.heap.size [.int .i64 k, .int .i64 b, .int .i64 x, .int .i64 t, .int .i64 l] 23 by rw [← hW]; exact (Blk.new w _ _).alloc _)
  have HPA := hide (show Blk W0 (w.heap.size + 1) [.int .i64 idx, .string rnd, .slice (some ⟨g, 0, none⟩) n c] 32 by
    rw [← hW]
    have h := Blk.new (w.alloc (.cells #[.int .i64 k, .int .i64 b, .int .i64 x, .int .i64 t, .int .i64 l] 23)) [.int .i64 idx, .string rnd, .slice (some ⟨g, 0, none⟩) n c] 32
    simp only [World.size_alloc] at h
    exact h)
  have HB := hide (show Below w.heap.size w W0 by subst hW; exact ((Below.refl _ _).alloc (Nat.le_refl _) _).alloc (by simp) _)
  have HS := hide (fun (V : World) (h : Below W0.heap.size W0 V) => (by
    have q1 := HK.out.on h
    have q2 := HPA.out.on h
    exact ⟨q1.cell 0, q1.cell 1, q1.cell 2, q1.cell 3, q1.cell 4, q2.cell 0, q2.cell 1, q2.cell 2⟩ : V.cell? ⟨w.heap.size, 0, none⟩ = some (.int .i64 k) ∧ V.cell? ⟨w.heap.size, 1, none⟩ = some (.int .i64 b) ∧ V.cell? ⟨w.heap.size, 2, none⟩ = some (.int .i64 x) ∧ V.cell? ⟨w.heap.size, 3, none⟩ = some (.int .i64 t) ∧ V.cell? ⟨w.heap.size, 4, none⟩ = some (.int .i64 l) ∧ V.cell? ⟨w.heap.size + 1, 0, none⟩ = some (.int .i64 idx) ∧ V.cell? ⟨w.heap.size + 1, 1, none⟩ = some (.string rnd) ∧ V.cell? ⟨w.heap.size + 1, 2, none⟩ = some (.slice (some ⟨g, 0, none⟩) n c)))
  obtain ⟨c0, c1, c2, c3, c4, d0, d1, d2⟩ := HS.out W0 (Below.refl _ _)
  have HWE := hide hW
  clear hW
  go_enter Tryd.func20, Tryd.ntmps20
  go_wp2_with fail
  rw [HWE.out]
  refine (HM.out _).mono ?_
  rintro e w1 ⟨rfl, hb1⟩
  have HB1 := hide (heldB (Below.refl W0.heap.size W0) hb1 (Nat.le_refl _))
  clear hb1 c0 c1 c2 c3 c4 d0 d1 d2 HWE
  have HB2 := hide (HB1.out.alloc HB1.out.size (.cells #[.int .i64 a0, .int .i64 a1, .int .i64 a2, .int .i64 a3, .int .i64 a4, .int .i64 a5] 56))
  have HZ2 := hide (Blk.new w1 [.int .i64 a0, .int .i64 a1, .int .i64 a2, .int .i64 a3, .int .i64 a4, .int .i64 a5] 56)
  obtain ⟨W2, hW2⟩ : ∃ W2, w1.alloc (.cells #[.int .i64 a0, .int .i64 a1, .int .i64 a2, .int .i64 a3, .int .i64 a4, .int .i64 a5] 56) = W2 := ⟨_, rfl⟩
  rw [hW2] at HB2 HZ2
  obtain ⟨c0, c1, c2, c3, c4, d0, d1, d2⟩ := HS.out W2 HB2.out
  go_wp2_with fail
  try rw [hW2]
  clear hW2
  refine (HI.out _).mono ?_
  rintro e w3 ⟨rfl, hb3⟩
  have HB3 := hide (heldB HB2.out hb3 (Nat.le_refl _))
  have HZ3 := hide (HZ2.out.on hb3)
  clear hb3 c0 c1 c2 c3 c4 d0 d1 d2 HB2 HZ2
  obtain ⟨c0, c1, c2, c3, c4, d0, d1, d2⟩ := HS.out w3 HB3.out
  have z2' := HZ3.out.cell 2
  simp only [List.getElem?_cons_zero, List.getElem?_cons_succ] at z2'
  have HV1a := hide (HV1.out w3 w3.heap.size rfl)
  go_wp2_with fail
  refine HV1a.out.mono ?_
  rintro e w4 ⟨rfl, hb4⟩
  have HB4 := hide (heldB (HB3.out.alloc HB3.out.size _) hb4 (Nat.le_refl _))
  clear hb4 c0 c1 c2 c3 c4 d0 d1 d2 z2' HV1a
  obtain ⟨c0, c1, c2, c3, c4, d0, d1, d2⟩ := HS.out w4 HB4.out
  have HV2a := hide (HV2.out w4 (HB.out.trans (HB4.out.mono HB.out.size)))
  go_wp2_with fail
  refine HV2a.out.mono ?_
  rintro e w5 ⟨rfl, hb5⟩
  have HB5 := hide (heldB HB4.out hb5 (Nat.le_refl _))
  clear hb5 c0 c1 c2 c3 c4 d0 d1 d2 HV2a
  go_wp2_with fail
  have HSW := hide (fun (V : World) (h : Below w5.heap.size w5 V) => HS.out V (heldB HB5.out h (Nat.le_refl _)))
  have HBW := hide (fun (V : World) (h : Below w5.heap.size w5 V) => HB.out.trans ((heldB HB5.out h (Nat.le_refl _)).mono HB.out.size))
  go_region_held3 (fun V => V.cell? ⟨w.heap.size, 0, none⟩ = some (.int .i64 k) ∧ V.cell? ⟨w.heap.size, 1, none⟩ = some (.int .i64 b) ∧ V.cell? ⟨w.heap.size, 2, none⟩ = some (.int .i64 x) ∧ V.cell? ⟨w.heap.size, 3, none⟩ = some (.int .i64 t) ∧ V.cell? ⟨w.heap.size, 4, none⟩ = some (.int .i64 l) ∧ V.cell? ⟨w.heap.size + 1, 0, none⟩ = some (.int .i64 idx) ∧ V.cell? ⟨w.heap.size + 1, 1, none⟩ = some (.string rnd) ∧ V.cell? ⟨w.heap.size + 1, 2, none⟩ = some (.slice (some ⟨g, 0, none⟩) n c)) (first | exact HSW.out _ hS2 | exact HSW.out _ hS1 | exact HSW.out _ (Below.refl w5.heap.size w5).drew) (first | (go_at_call 32; refine (HN.out _).mono ?_; rintro e w6 ⟨rfl, hb6⟩; have hS1 := heldB (Below.refl w5.heap.size w5).drew hb6 (Nat.le_refl _)) | (go_at_call 33; refine (HJ.out _ (HBW.out _ hS1)).mono ?_; rintro e w7 ⟨rfl, hb7⟩; have hS2 := heldB hS1 hb7 (Nat.le_refl _)))
  have HB7 := hide (HBW.out _ hS2)
  clear hS1 hS2 hb6 hb7
  go_wp2
  go_ret2
  exact ⟨rfl, HB7.out⟩
end Go.Proofs.YtgaoeoijdpdjiabDoor

namespace Go.Proofs.YtgaoeoijdpdjiabDoor
open Go.RowKit

set_option maxRecDepth 20000 in
set_option maxHeartbeats 4000000 in
theorem isIndex_on (k b x t l i a0 a1 a2 tot a4 a5 : Int) (w : World)
    (hM : ∀ V : World, Calls Tryd.prog 27 #[.agg #[.int .i64 k, .int .i64 b, .int .i64 x, .int .i64 t, .int .i64 l]] V fun e w' => e = .returned (.tuple #[.agg #[.int .i64 a0, .int .i64 a1, .int .i64 a2, .int .i64 tot, .int .i64 a4, .int .i64 a5], .int .i64 0]) ∧ Below V.heap.size V w') :
    Calls Tryd.prog 29 #[.agg #[.int .i64 k, .int .i64 b, .int .i64 x, .int .i64 t, .int .i64 l], .int .i64 i] w fun e w' => e = .returned (.bool (decide (0 ≤ i ∧ i < tot))) ∧ Below w.heap.size w w' := by
  have HM := hide (hM (w.alloc (.cells #[.int .i64 k, .int .i64 b, .int .i64 x, .int .i64 t, .int .i64 l] 23)))
  have HW := hide (fun V : World => within_any i tot V)
  clear hM
  generalize decide (0 ≤ i ∧ i < tot) = r at HW ⊢
  go_enter Tryd.func29, Tryd.ntmps29
  go_wp2_with fail
  refine HM.out.mono ?_
  rintro e w1 ⟨rfl, hb1⟩
  have HB1 := hide (((Below.refl w.heap.size w).alloc (Nat.le_refl _) _).trans (hb1.mono (by simp)))
  clear hb1 HM
  go_wp2_with fail
  refine (HW.out _).mono ?_
  rintro e w2 ⟨rfl, hw⟩
  obtain rfl := hw.symm
  clear hw
  go_wp2
  go_ret
  exact ⟨rfl, HB1.out.alloc HB1.out.size _⟩
end Go.Proofs.YtgaoeoijdpdjiabDoor
