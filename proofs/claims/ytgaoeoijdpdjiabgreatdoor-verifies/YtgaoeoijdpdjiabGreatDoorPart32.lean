/-
  The document's Split where it refuses. The program's Join where it refuses. From a leaf up to the root: the document's own climb.
-/
import Derived.Test.YtgaoeoijdpdjiabGreatDoorPart26
import Derived.Test.YtgaoeoijdpdjiabGreatDoorPart31
import Derived.Test.YtgaoeoijdpdjiabGreatDoorPart28
import Derived.Test.YtgaoeoijdpdjiabGreatDoorPart6
namespace Go.Proofs.YtgaoeoijdpdjiabGreatDoor
open Go.RowKit

set_option maxRecDepth 20000 in
set_option maxHeartbeats 4000000 in
theorem refSplit_set (k b x t l er : Int) (sig : ByteArray) (w : World) (her : er ≠ 0)
    (hC : ∀ V : World, Calls Tryz.prog 82 #[.agg #[.int .i64 k, .int .i64 b, .int .i64 x, .int .i64 t, .int .i64 l]] V fun e w' => e = .returned (.int .i64 er) ∧ Below V.heap.size V w') :
    Calls Tryz.prog 36 #[.agg #[.int .i64 k, .int .i64 b, .int .i64 x, .int .i64 t, .int .i64 l], .string sig] w fun r w' => r = .returned (.tuple #[.agg #[.int .i64 0, .string ⟨#[]⟩, .slice none 0 0], .int .i64 er]) ∧ Below w.heap.size w w' := by
  have n0 : ((er : Int) != 0) = true := by simpa using her
  have n1 : ((er : Int) == 0) = false := by simpa using her
  have HC := hide hC
  clear hC
  obtain ⟨W0, hW⟩ : ∃ W0, (w.alloc (.cells #[.int .i64 k, .int .i64 b, .int .i64 x, .int .i64 t, .int .i64 l] 26)).alloc (.cells #[.int .i64 0, .string ⟨#[]⟩, .slice none 0 0] 29) = W0 := ⟨_, rfl⟩
  have HK := hide (show Blk W0 w.heap.size [.int .i64 k, .int .i64 b, .int .i64 x, .int .i64 t, .int .i64 l] 26 by rw [← hW]; exact (Blk.new w _ _).alloc _)
  have HR := hide (show Blk W0 (w.heap.size + 1) [.int .i64 0, .string ⟨#[]⟩, .slice none 0 0] 29 by
    rw [← hW]
    have h := Blk.new (w.alloc (.cells #[.int .i64 k, .int .i64 b, .int .i64 x, .int .i64 t, .int .i64 l] 26)) [.int .i64 0, .string ⟨#[]⟩, .slice none 0 0] 29
    simp only [World.size_alloc] at h
    exact h)
  have HB := hide (show Below w.heap.size w W0 by subst hW; exact ((Below.refl _ _).alloc (Nat.le_refl _) _).alloc (by simp) _)
  have hz' : w.heap.size + 2 ≤ W0.heap.size := by subst hW; simp
  have HS := hide (fun (V : World) (h : Below W0.heap.size W0 V) => (by
    have q1 := HK.out.on h
    have q2 := HR.out.on h
    exact ⟨q1.cell 0, q1.cell 1, q1.cell 2, q1.cell 3, q1.cell 4, q2.cell 0, q2.cell 1, q2.cell 2, q2.free 0, q2.free 1, q2.free 2⟩ : V.cell? ⟨w.heap.size, 0, none⟩ = some (.int .i64 k) ∧ V.cell? ⟨w.heap.size, 1, none⟩ = some (.int .i64 b) ∧ V.cell? ⟨w.heap.size, 2, none⟩ = some (.int .i64 x) ∧ V.cell? ⟨w.heap.size, 3, none⟩ = some (.int .i64 t) ∧ V.cell? ⟨w.heap.size, 4, none⟩ = some (.int .i64 l) ∧ V.cell? ⟨w.heap.size + 1, 0, none⟩ = some (.int .i64 0) ∧ V.cell? ⟨w.heap.size + 1, 1, none⟩ = some (.string ⟨#[]⟩) ∧ V.cell? ⟨w.heap.size + 1, 2, none⟩ = some (.slice none 0 0) ∧ V.frozen? ⟨w.heap.size + 1, 0, none⟩ = false ∧ V.frozen? ⟨w.heap.size + 1, 1, none⟩ = false ∧ V.frozen? ⟨w.heap.size + 1, 2, none⟩ = false))
  obtain ⟨c0, c1, c2, c3, c4, r0, r1, r2, f0, f1, f2⟩ := HS.out W0 (Below.refl _ _)
  have HWE := hide hW
  clear hW
  go_enter Tryz.func36, Tryz.ntmps36
  go_wp2_with fail
  rw [HWE.out]
  refine (HC.out _).mono ?_
  rintro e w1 ⟨rfl, hb1⟩
  have HB1 := hide (heldB (Below.refl W0.heap.size W0) hb1 (Nat.le_refl _))
  clear hb1 c0 c1 c2 c3 c4 r0 r1 r2 f0 f1 f2 HWE
  obtain ⟨c0, c1, c2, c3, c4, r0, r1, r2, f0, f1, f2⟩ := HS.out w1 HB1.out
  go_wp2
  refine bodyPost_ret (v := .tuple #[.agg #[.int .i64 0, .string ⟨#[]⟩, .slice none 0 0], .int .i64 er]) (by simp [results, Tryz.results36, go_sem, r0, r1, r2]) rfl ⟨rfl, ?_⟩
  have HBB := HB.out.trans (HB1.out.mono HB.out.size)
  iterate 3 refine Below.setCell ?_ (by simp <;> omega) _
  exact HBB

set_option maxRecDepth 20000 in
set_option maxHeartbeats 4000000 in
theorem refSplit_len (k b x t l a0 a1 a2 a3 a4 a5 v : Int) (sig : ByteArray) (w : World) (hne : (sig.size : Int) ≠ a4)
    (hC : ∀ V : World, Calls Tryz.prog 82 #[.agg #[.int .i64 k, .int .i64 b, .int .i64 x, .int .i64 t, .int .i64 l]] V fun e w' => e = .returned (.int .i64 0) ∧ Below V.heap.size V w')
    (hZ : ∀ V : World, Calls Tryz.prog 83 #[.agg #[.int .i64 k, .int .i64 b, .int .i64 x, .int .i64 t, .int .i64 l]] V fun e w' => e = .returned (.agg #[.int .i64 a0, .int .i64 a1, .int .i64 a2, .int .i64 a3, .int .i64 a4, .int .i64 a5]) ∧ Below V.heap.size V w')
    (hV : ∀ V : World, Calls Tryz.prog 84 #[.string sig, .int .i64 0, .int .i64 4] V fun e w' => e = .returned (.int .i64 v) ∧ w' = V) :
    Calls Tryz.prog 36 #[.agg #[.int .i64 k, .int .i64 b, .int .i64 x, .int .i64 t, .int .i64 l], .string sig] w fun r w' => r = .returned (.tuple #[.agg #[.int .i64 0, .string ⟨#[]⟩, .slice none 0 0], .int .i64 12]) ∧ Below w.heap.size w w' := by
  have n0 : ((sig.size : Int) != a4) = true := by simpa using hne
  have n1 : ((sig.size : Int) == a4) = false := by simpa using hne
  have HC := hide hC
  have HZ := hide hZ
  have HV := hide hV
  clear hC hZ hV
  obtain ⟨W0, hW⟩ : ∃ W0, (w.alloc (.cells #[.int .i64 k, .int .i64 b, .int .i64 x, .int .i64 t, .int .i64 l] 26)).alloc (.cells #[.int .i64 0, .string ⟨#[]⟩, .slice none 0 0] 29) = W0 := ⟨_, rfl⟩
  have HK := hide (show Blk W0 w.heap.size [.int .i64 k, .int .i64 b, .int .i64 x, .int .i64 t, .int .i64 l] 26 by rw [← hW]; exact (Blk.new w _ _).alloc _)
  have HR := hide (show Blk W0 (w.heap.size + 1) [.int .i64 0, .string ⟨#[]⟩, .slice none 0 0] 29 by
    rw [← hW]
    have h := Blk.new (w.alloc (.cells #[.int .i64 k, .int .i64 b, .int .i64 x, .int .i64 t, .int .i64 l] 26)) [.int .i64 0, .string ⟨#[]⟩, .slice none 0 0] 29
    simp only [World.size_alloc] at h
    exact h)
  have HB := hide (show Below w.heap.size w W0 by subst hW; exact ((Below.refl _ _).alloc (Nat.le_refl _) _).alloc (by simp) _)
  have hz' : w.heap.size + 2 ≤ W0.heap.size := by subst hW; simp
  have HS := hide (fun (V : World) (h : Below W0.heap.size W0 V) => (by
    have q1 := HK.out.on h
    have q2 := HR.out.on h
    exact ⟨q1.cell 0, q1.cell 1, q1.cell 2, q1.cell 3, q1.cell 4, q2.cell 0, q2.cell 1, q2.cell 2, q2.free 0, q2.free 1, q2.free 2⟩ : V.cell? ⟨w.heap.size, 0, none⟩ = some (.int .i64 k) ∧ V.cell? ⟨w.heap.size, 1, none⟩ = some (.int .i64 b) ∧ V.cell? ⟨w.heap.size, 2, none⟩ = some (.int .i64 x) ∧ V.cell? ⟨w.heap.size, 3, none⟩ = some (.int .i64 t) ∧ V.cell? ⟨w.heap.size, 4, none⟩ = some (.int .i64 l) ∧ V.cell? ⟨w.heap.size + 1, 0, none⟩ = some (.int .i64 0) ∧ V.cell? ⟨w.heap.size + 1, 1, none⟩ = some (.string ⟨#[]⟩) ∧ V.cell? ⟨w.heap.size + 1, 2, none⟩ = some (.slice none 0 0) ∧ V.frozen? ⟨w.heap.size + 1, 0, none⟩ = false ∧ V.frozen? ⟨w.heap.size + 1, 1, none⟩ = false ∧ V.frozen? ⟨w.heap.size + 1, 2, none⟩ = false))
  obtain ⟨c0, c1, c2, c3, c4, r0, r1, r2, f0, f1, f2⟩ := HS.out W0 (Below.refl _ _)
  have HWE := hide hW
  clear hW
  go_enter Tryz.func36, Tryz.ntmps36
  go_wp2_with fail
  rw [HWE.out]
  refine (HC.out _).mono ?_
  rintro e w1 ⟨rfl, hb1⟩
  have HB1 := hide (heldB (Below.refl W0.heap.size W0) hb1 (Nat.le_refl _))
  clear hb1 c0 c1 c2 c3 c4 r0 r1 r2 f0 f1 f2 HWE
  obtain ⟨c0, c1, c2, c3, c4, r0, r1, r2, f0, f1, f2⟩ := HS.out w1 HB1.out
  go_wp2_with fail
  refine (HZ.out _).mono ?_
  rintro e w2 ⟨rfl, hb2⟩
  have HB2 := hide (heldB HB1.out hb2 (Nat.le_refl _))
  clear hb2 c0 c1 c2 c3 c4 r0 r1 r2 f0 f1 f2
  have HB3 := hide (HB2.out.alloc HB2.out.size (.cells #[.int .i64 a0, .int .i64 a1, .int .i64 a2, .int .i64 a3, .int .i64 a4, .int .i64 a5] 158))
  have HZ3 := hide (Blk.new w2 [.int .i64 a0, .int .i64 a1, .int .i64 a2, .int .i64 a3, .int .i64 a4, .int .i64 a5] 158)
  obtain ⟨W3, hW3⟩ : ∃ W3, w2.alloc (.cells #[.int .i64 a0, .int .i64 a1, .int .i64 a2, .int .i64 a3, .int .i64 a4, .int .i64 a5] 158) = W3 := ⟨_, rfl⟩
  rw [hW3] at HB3 HZ3
  obtain ⟨c0, c1, c2, c3, c4, r0, r1, r2, f0, f1, f2⟩ := HS.out W3 HB3.out
  go_wp2_with fail
  try rw [hW3]
  clear hW3
  refine (HV.out _).mono ?_
  rintro e W3 ⟨rfl, hw⟩
  obtain rfl := hw.symm
  clear hw
  have z3 := HZ3.out.cell 3
  have z4 := HZ3.out.cell 4
  simp only [List.getElem?_cons_zero, List.getElem?_cons_succ] at z3 z4
  go_wp2
  refine bodyPost_ret (v := .tuple #[.agg #[.int .i64 0, .string ⟨#[]⟩, .slice none 0 0], .int .i64 12]) (by simp [results, Tryz.results36, go_sem, r0, r1, r2]) rfl ⟨rfl, ?_⟩
  have HBB := HB.out.trans (HB3.out.mono HB.out.size)
  iterate 3 refine Below.setCell ?_ (by simp <;> omega) _
  exact HBB

set_option maxRecDepth 20000 in
set_option maxHeartbeats 4000000 in
theorem refSplit_idx (k b x t l a0 a1 a2 a3 a4 a5 v : Int) (sig : ByteArray) (w : World) (hsz : (sig.size : Int) = a4) (hv : a3 ≤ v)
    (hC : ∀ V : World, Calls Tryz.prog 82 #[.agg #[.int .i64 k, .int .i64 b, .int .i64 x, .int .i64 t, .int .i64 l]] V fun e w' => e = .returned (.int .i64 0) ∧ Below V.heap.size V w')
    (hZ : ∀ V : World, Calls Tryz.prog 83 #[.agg #[.int .i64 k, .int .i64 b, .int .i64 x, .int .i64 t, .int .i64 l]] V fun e w' => e = .returned (.agg #[.int .i64 a0, .int .i64 a1, .int .i64 a2, .int .i64 a3, .int .i64 a4, .int .i64 a5]) ∧ Below V.heap.size V w')
    (hV : ∀ V : World, Calls Tryz.prog 84 #[.string sig, .int .i64 0, .int .i64 4] V fun e w' => e = .returned (.int .i64 v) ∧ w' = V) :
    Calls Tryz.prog 36 #[.agg #[.int .i64 k, .int .i64 b, .int .i64 x, .int .i64 t, .int .i64 l], .string sig] w fun r w' => r = .returned (.tuple #[.agg #[.int .i64 0, .string ⟨#[]⟩, .slice none 0 0], .int .i64 12]) ∧ Below w.heap.size w w' := by
  have n0 : ((sig.size : Int) != a4) = false := by simp [hsz]
  have n1 : ((sig.size : Int) == a4) = true := by simp [hsz]
  have n2 : decide (a3 ≤ v) = true := by simpa using hv
  have n3 : ¬ v < a3 := by omega
  have HC := hide hC
  have HZ := hide hZ
  have HV := hide hV
  clear hC hZ hV
  obtain ⟨W0, hW⟩ : ∃ W0, (w.alloc (.cells #[.int .i64 k, .int .i64 b, .int .i64 x, .int .i64 t, .int .i64 l] 26)).alloc (.cells #[.int .i64 0, .string ⟨#[]⟩, .slice none 0 0] 29) = W0 := ⟨_, rfl⟩
  have HK := hide (show Blk W0 w.heap.size [.int .i64 k, .int .i64 b, .int .i64 x, .int .i64 t, .int .i64 l] 26 by rw [← hW]; exact (Blk.new w _ _).alloc _)
  have HR := hide (show Blk W0 (w.heap.size + 1) [.int .i64 0, .string ⟨#[]⟩, .slice none 0 0] 29 by
    rw [← hW]
    have h := Blk.new (w.alloc (.cells #[.int .i64 k, .int .i64 b, .int .i64 x, .int .i64 t, .int .i64 l] 26)) [.int .i64 0, .string ⟨#[]⟩, .slice none 0 0] 29
    simp only [World.size_alloc] at h
    exact h)
  have HB := hide (show Below w.heap.size w W0 by subst hW; exact ((Below.refl _ _).alloc (Nat.le_refl _) _).alloc (by simp) _)
  have hz' : w.heap.size + 2 ≤ W0.heap.size := by subst hW; simp
  have HS := hide (fun (V : World) (h : Below W0.heap.size W0 V) => (by
    have q1 := HK.out.on h
    have q2 := HR.out.on h
    exact ⟨q1.cell 0, q1.cell 1, q1.cell 2, q1.cell 3, q1.cell 4, q2.cell 0, q2.cell 1, q2.cell 2, q2.free 0, q2.free 1, q2.free 2⟩ : V.cell? ⟨w.heap.size, 0, none⟩ = some (.int .i64 k) ∧ V.cell? ⟨w.heap.size, 1, none⟩ = some (.int .i64 b) ∧ V.cell? ⟨w.heap.size, 2, none⟩ = some (.int .i64 x) ∧ V.cell? ⟨w.heap.size, 3, none⟩ = some (.int .i64 t) ∧ V.cell? ⟨w.heap.size, 4, none⟩ = some (.int .i64 l) ∧ V.cell? ⟨w.heap.size + 1, 0, none⟩ = some (.int .i64 0) ∧ V.cell? ⟨w.heap.size + 1, 1, none⟩ = some (.string ⟨#[]⟩) ∧ V.cell? ⟨w.heap.size + 1, 2, none⟩ = some (.slice none 0 0) ∧ V.frozen? ⟨w.heap.size + 1, 0, none⟩ = false ∧ V.frozen? ⟨w.heap.size + 1, 1, none⟩ = false ∧ V.frozen? ⟨w.heap.size + 1, 2, none⟩ = false))
  obtain ⟨c0, c1, c2, c3, c4, r0, r1, r2, f0, f1, f2⟩ := HS.out W0 (Below.refl _ _)
  have HWE := hide hW
  clear hW
  go_enter Tryz.func36, Tryz.ntmps36
  go_wp2_with fail
  rw [HWE.out]
  refine (HC.out _).mono ?_
  rintro e w1 ⟨rfl, hb1⟩
  have HB1 := hide (heldB (Below.refl W0.heap.size W0) hb1 (Nat.le_refl _))
  clear hb1 c0 c1 c2 c3 c4 r0 r1 r2 f0 f1 f2 HWE
  obtain ⟨c0, c1, c2, c3, c4, r0, r1, r2, f0, f1, f2⟩ := HS.out w1 HB1.out
  go_wp2_with fail
  refine (HZ.out _).mono ?_
  rintro e w2 ⟨rfl, hb2⟩
  have HB2 := hide (heldB HB1.out hb2 (Nat.le_refl _))
  clear hb2 c0 c1 c2 c3 c4 r0 r1 r2 f0 f1 f2
  have HB3 := hide (HB2.out.alloc HB2.out.size (.cells #[.int .i64 a0, .int .i64 a1, .int .i64 a2, .int .i64 a3, .int .i64 a4, .int .i64 a5] 158))
  have HZ3 := hide (Blk.new w2 [.int .i64 a0, .int .i64 a1, .int .i64 a2, .int .i64 a3, .int .i64 a4, .int .i64 a5] 158)
  obtain ⟨W3, hW3⟩ : ∃ W3, w2.alloc (.cells #[.int .i64 a0, .int .i64 a1, .int .i64 a2, .int .i64 a3, .int .i64 a4, .int .i64 a5] 158) = W3 := ⟨_, rfl⟩
  rw [hW3] at HB3 HZ3
  obtain ⟨c0, c1, c2, c3, c4, r0, r1, r2, f0, f1, f2⟩ := HS.out W3 HB3.out
  go_wp2_with fail
  try rw [hW3]
  clear hW3
  refine (HV.out _).mono ?_
  rintro e W3 ⟨rfl, hw⟩
  obtain rfl := hw.symm
  clear hw
  have z3 := HZ3.out.cell 3
  have z4 := HZ3.out.cell 4
  simp only [List.getElem?_cons_zero, List.getElem?_cons_succ] at z3 z4
  go_wp2
  refine bodyPost_ret (v := .tuple #[.agg #[.int .i64 0, .string ⟨#[]⟩, .slice none 0 0], .int .i64 12]) (by simp [results, Tryz.results36, go_sem, r0, r1, r2]) rfl ⟨rfl, ?_⟩
  have HBB := HB.out.trans (HB3.out.mono HB.out.size)
  iterate 3 refine Below.setCell ?_ (by simp <;> omega) _
  exact HBB

end Go.Proofs.YtgaoeoijdpdjiabGreatDoor

namespace Go.Proofs.YtgaoeoijdpdjiabGreatDoor
open Go.RowKit

set_option maxRecDepth 20000 in
set_option maxHeartbeats 4000000 in
theorem join_set (k b x t l a0 a1 a2 a3 a4 a5 idx : Int) (sp : Option Addr) (n c : Nat) (rnd : ByteArray) (w : World) (er : Int) (her : er ≠ 0) 
    (hM : ∀ V : World, Calls Tryz.prog 155 #[.agg #[.int .i64 k, .int .i64 b, .int .i64 x, .int .i64 t, .int .i64 l]] V fun e w' => e = .returned (.tuple #[.agg #[.int .i64 a0, .int .i64 a1, .int .i64 a2, .int .i64 a3, .int .i64 a4, .int .i64 a5], .int .i64 er]) ∧ Below V.heap.size V w') :
    Calls Tryz.prog 85 #[.agg #[.int .i64 k, .int .i64 b, .int .i64 x, .int .i64 t, .int .i64 l], .agg #[.int .i64 idx, .string rnd, .slice sp n c]] w fun r w' => r = .returned (.tuple #[.string ⟨#[]⟩, .int .i64 er]) ∧ Below w.heap.size w w' := by
  have n0 : ((er : Int) != 0) = true := by simpa using her
  have n1 : ((er : Int) == 0) = false := by simpa using her
  have HM := hide hM
  clear hM
  obtain ⟨W0, hW⟩ : ∃ W0, (w.alloc (.cells #[.int .i64 k, .int .i64 b, .int .i64 x, .int .i64 t, .int .i64 l] 26)).alloc (.cells #[.int .i64 idx, .string rnd, .slice sp n c] 29) = W0 := ⟨_, rfl⟩
  have HK := hide (show Blk W0 w.heap.size [.int .i64 k, .int .i64 b, .int .i64 x, .int .i64 t, .int .i64 l] 26 by rw [← hW]; exact (Blk.new w _ _).alloc _)
  have HPA := hide (show Blk W0 (w.heap.size + 1) [.int .i64 idx, .string rnd, .slice sp n c] 29 by
    rw [← hW]
    have h := Blk.new (w.alloc (.cells #[.int .i64 k, .int .i64 b, .int .i64 x, .int .i64 t, .int .i64 l] 26)) [.int .i64 idx, .string rnd, .slice sp n c] 29
    simp only [World.size_alloc] at h
    exact h)
  have HB := hide (show Below w.heap.size w W0 by subst hW; exact ((Below.refl _ _).alloc (Nat.le_refl _) _).alloc (by simp) _)
  have HS := hide (fun (V : World) (h : Below W0.heap.size W0 V) => (by
    have q1 := HK.out.on h
    have q2 := HPA.out.on h
    exact ⟨q1.cell 0, q1.cell 1, q1.cell 2, q1.cell 3, q1.cell 4, q2.cell 0, q2.cell 1, q2.cell 2⟩ : V.cell? ⟨w.heap.size, 0, none⟩ = some (.int .i64 k) ∧ V.cell? ⟨w.heap.size, 1, none⟩ = some (.int .i64 b) ∧ V.cell? ⟨w.heap.size, 2, none⟩ = some (.int .i64 x) ∧ V.cell? ⟨w.heap.size, 3, none⟩ = some (.int .i64 t) ∧ V.cell? ⟨w.heap.size, 4, none⟩ = some (.int .i64 l) ∧ V.cell? ⟨w.heap.size + 1, 0, none⟩ = some (.int .i64 idx) ∧ V.cell? ⟨w.heap.size + 1, 1, none⟩ = some (.string rnd) ∧ V.cell? ⟨w.heap.size + 1, 2, none⟩ = some (.slice sp n c)))
  obtain ⟨c0, c1, c2, c3, c4, d0, d1, d2⟩ := HS.out W0 (Below.refl _ _)
  have HWE := hide hW
  clear hW
  go_enter Tryz.func85, Tryz.ntmps85
  go_wp2_with fail
  rw [HWE.out]
  refine (HM.out _).mono ?_
  rintro e w1 ⟨rfl, hb1⟩
  have HB1 := hide (heldB (Below.refl W0.heap.size W0) hb1 (Nat.le_refl _))
  clear hb1 c0 c1 c2 c3 c4 d0 d1 d2 HWE
  have HB2 := hide (HB1.out.alloc HB1.out.size (.cells #[.int .i64 a0, .int .i64 a1, .int .i64 a2, .int .i64 a3, .int .i64 a4, .int .i64 a5] 158))
  go_wp2
  go_ret2
  exact ⟨rfl, HB.out.trans (HB2.out.mono HB.out.size)⟩

set_option maxRecDepth 20000 in
set_option maxHeartbeats 4000000 in
theorem join_idx (k b x t l a0 a1 a2 a3 a4 a5 idx : Int) (sp : Option Addr) (n c : Nat) (rnd : ByteArray) (w : World) 
    (hM : ∀ V : World, Calls Tryz.prog 155 #[.agg #[.int .i64 k, .int .i64 b, .int .i64 x, .int .i64 t, .int .i64 l]] V fun e w' => e = .returned (.tuple #[.agg #[.int .i64 a0, .int .i64 a1, .int .i64 a2, .int .i64 a3, .int .i64 a4, .int .i64 a5], .int .i64 0]) ∧ Below V.heap.size V w')
    (hI : ∀ V : World, Calls Tryz.prog 157 #[.agg #[.int .i64 k, .int .i64 b, .int .i64 x, .int .i64 t, .int .i64 l], .int .i64 idx] V fun e w' => e = .returned (.bool false) ∧ Below V.heap.size V w') :
    Calls Tryz.prog 85 #[.agg #[.int .i64 k, .int .i64 b, .int .i64 x, .int .i64 t, .int .i64 l], .agg #[.int .i64 idx, .string rnd, .slice sp n c]] w fun r w' => r = .returned (.tuple #[.string ⟨#[]⟩, .int .i64 12]) ∧ Below w.heap.size w w' := by
  have HM := hide hM
  have HI := hide hI
  clear hM hI
  obtain ⟨W0, hW⟩ : ∃ W0, (w.alloc (.cells #[.int .i64 k, .int .i64 b, .int .i64 x, .int .i64 t, .int .i64 l] 26)).alloc (.cells #[.int .i64 idx, .string rnd, .slice sp n c] 29) = W0 := ⟨_, rfl⟩
  have HK := hide (show Blk W0 w.heap.size [.int .i64 k, .int .i64 b, .int .i64 x, .int .i64 t, .int .i64 l] 26 by rw [← hW]; exact (Blk.new w _ _).alloc _)
  have HPA := hide (show Blk W0 (w.heap.size + 1) [.int .i64 idx, .string rnd, .slice sp n c] 29 by
    rw [← hW]
    have h := Blk.new (w.alloc (.cells #[.int .i64 k, .int .i64 b, .int .i64 x, .int .i64 t, .int .i64 l] 26)) [.int .i64 idx, .string rnd, .slice sp n c] 29
    simp only [World.size_alloc] at h
    exact h)
  have HB := hide (show Below w.heap.size w W0 by subst hW; exact ((Below.refl _ _).alloc (Nat.le_refl _) _).alloc (by simp) _)
  have HS := hide (fun (V : World) (h : Below W0.heap.size W0 V) => (by
    have q1 := HK.out.on h
    have q2 := HPA.out.on h
    exact ⟨q1.cell 0, q1.cell 1, q1.cell 2, q1.cell 3, q1.cell 4, q2.cell 0, q2.cell 1, q2.cell 2⟩ : V.cell? ⟨w.heap.size, 0, none⟩ = some (.int .i64 k) ∧ V.cell? ⟨w.heap.size, 1, none⟩ = some (.int .i64 b) ∧ V.cell? ⟨w.heap.size, 2, none⟩ = some (.int .i64 x) ∧ V.cell? ⟨w.heap.size, 3, none⟩ = some (.int .i64 t) ∧ V.cell? ⟨w.heap.size, 4, none⟩ = some (.int .i64 l) ∧ V.cell? ⟨w.heap.size + 1, 0, none⟩ = some (.int .i64 idx) ∧ V.cell? ⟨w.heap.size + 1, 1, none⟩ = some (.string rnd) ∧ V.cell? ⟨w.heap.size + 1, 2, none⟩ = some (.slice sp n c)))
  obtain ⟨c0, c1, c2, c3, c4, d0, d1, d2⟩ := HS.out W0 (Below.refl _ _)
  have HWE := hide hW
  clear hW
  go_enter Tryz.func85, Tryz.ntmps85
  go_wp2_with fail
  rw [HWE.out]
  refine (HM.out _).mono ?_
  rintro e w1 ⟨rfl, hb1⟩
  have HB1 := hide (heldB (Below.refl W0.heap.size W0) hb1 (Nat.le_refl _))
  clear hb1 c0 c1 c2 c3 c4 d0 d1 d2 HWE
  have HB2 := hide (HB1.out.alloc HB1.out.size (.cells #[.int .i64 a0, .int .i64 a1, .int .i64 a2, .int .i64 a3, .int .i64 a4, .int .i64 a5] 158))
  have HZ2 := hide (Blk.new w1 [.int .i64 a0, .int .i64 a1, .int .i64 a2, .int .i64 a3, .int .i64 a4, .int .i64 a5] 158)
  obtain ⟨W2, hW2⟩ : ∃ W2, w1.alloc (.cells #[.int .i64 a0, .int .i64 a1, .int .i64 a2, .int .i64 a3, .int .i64 a4, .int .i64 a5] 158) = W2 := ⟨_, rfl⟩
  rw [hW2] at HB2 HZ2
  obtain ⟨c0, c1, c2, c3, c4, d0, d1, d2⟩ := HS.out W2 HB2.out
  go_wp2_with fail
  try rw [hW2]
  clear hW2
  refine (HI.out _).mono ?_
  rintro e w3 ⟨rfl, hb3⟩
  have HB3 := hide (heldB HB2.out hb3 (Nat.le_refl _))
  have HZ3 := hide (HZ2.out.on hb3)
  clear hb3 c0 c1 c2 c3 c4 d0 d1 d2 HB2 HZ2
  go_wp2
  go_ret2
  exact ⟨rfl, HB.out.trans (HB3.out.mono HB.out.size)⟩

set_option maxRecDepth 20000 in
set_option maxHeartbeats 4000000 in
theorem join_len (k b x t l a0 a1 a2 a3 a4 a5 idx : Int) (sp : Option Addr) (n c : Nat) (rnd : ByteArray) (w : World) (N : Nat) (hw1 : IntKind.i64.wrap (a2 + t) = a2 + t) (hw2 : IntKind.i64.wrap (l * (a2 + t)) = (N : Int)) (hne : n ≠ N) 
    (hM : ∀ V : World, Calls Tryz.prog 155 #[.agg #[.int .i64 k, .int .i64 b, .int .i64 x, .int .i64 t, .int .i64 l]] V fun e w' => e = .returned (.tuple #[.agg #[.int .i64 a0, .int .i64 a1, .int .i64 a2, .int .i64 a3, .int .i64 a4, .int .i64 a5], .int .i64 0]) ∧ Below V.heap.size V w')
    (hI : ∀ V : World, Calls Tryz.prog 157 #[.agg #[.int .i64 k, .int .i64 b, .int .i64 x, .int .i64 t, .int .i64 l], .int .i64 idx] V fun e w' => e = .returned (.bool true) ∧ Below V.heap.size V w') :
    Calls Tryz.prog 85 #[.agg #[.int .i64 k, .int .i64 b, .int .i64 x, .int .i64 t, .int .i64 l], .agg #[.int .i64 idx, .string rnd, .slice sp n c]] w fun r w' => r = .returned (.tuple #[.string ⟨#[]⟩, .int .i64 12]) ∧ Below w.heap.size w w' := by
  have n0 : ((n : Int) != (N : Int)) = true := by simp; omega
  have n1 : ((n : Int) == (N : Int)) = false := by simp; omega
  clear hne
  have HM := hide hM
  have HI := hide hI
  clear hM hI
  obtain ⟨W0, hW⟩ : ∃ W0, (w.alloc (.cells #[.int .i64 k, .int .i64 b, .int .i64 x, .int .i64 t, .int .i64 l] 26)).alloc (.cells #[.int .i64 idx, .string rnd, .slice sp n c] 29) = W0 := ⟨_, rfl⟩
  have HK := hide (show Blk W0 w.heap.size [.int .i64 k, .int .i64 b, .int .i64 x, .int .i64 t, .int .i64 l] 26 by rw [← hW]; exact (Blk.new w _ _).alloc _)
  have HPA := hide (show Blk W0 (w.heap.size + 1) [.int .i64 idx, .string rnd, .slice sp n c] 29 by
    rw [← hW]
    have h := Blk.new (w.alloc (.cells #[.int .i64 k, .int .i64 b, .int .i64 x, .int .i64 t, .int .i64 l] 26)) [.int .i64 idx, .string rnd, .slice sp n c] 29
    simp only [World.size_alloc] at h
    exact h)
  have HB := hide (show Below w.heap.size w W0 by subst hW; exact ((Below.refl _ _).alloc (Nat.le_refl _) _).alloc (by simp) _)
  have HS := hide (fun (V : World) (h : Below W0.heap.size W0 V) => (by
    have q1 := HK.out.on h
    have q2 := HPA.out.on h
    exact ⟨q1.cell 0, q1.cell 1, q1.cell 2, q1.cell 3, q1.cell 4, q2.cell 0, q2.cell 1, q2.cell 2⟩ : V.cell? ⟨w.heap.size, 0, none⟩ = some (.int .i64 k) ∧ V.cell? ⟨w.heap.size, 1, none⟩ = some (.int .i64 b) ∧ V.cell? ⟨w.heap.size, 2, none⟩ = some (.int .i64 x) ∧ V.cell? ⟨w.heap.size, 3, none⟩ = some (.int .i64 t) ∧ V.cell? ⟨w.heap.size, 4, none⟩ = some (.int .i64 l) ∧ V.cell? ⟨w.heap.size + 1, 0, none⟩ = some (.int .i64 idx) ∧ V.cell? ⟨w.heap.size + 1, 1, none⟩ = some (.string rnd) ∧ V.cell? ⟨w.heap.size + 1, 2, none⟩ = some (.slice sp n c)))
  obtain ⟨c0, c1, c2, c3, c4, d0, d1, d2⟩ := HS.out W0 (Below.refl _ _)
  have HWE := hide hW
  clear hW
  go_enter Tryz.func85, Tryz.ntmps85
  go_wp2_with fail
  rw [HWE.out]
  refine (HM.out _).mono ?_
  rintro e w1 ⟨rfl, hb1⟩
  have HB1 := hide (heldB (Below.refl W0.heap.size W0) hb1 (Nat.le_refl _))
  clear hb1 c0 c1 c2 c3 c4 d0 d1 d2 HWE
  have HB2 := hide (HB1.out.alloc HB1.out.size (.cells #[.int .i64 a0, .int .i64 a1, .int .i64 a2, .int .i64 a3, .int .i64 a4, .int .i64 a5] 158))
  have HZ2 := hide (Blk.new w1 [.int .i64 a0, .int .i64 a1, .int .i64 a2, .int .i64 a3, .int .i64 a4, .int .i64 a5] 158)
  obtain ⟨W2, hW2⟩ : ∃ W2, w1.alloc (.cells #[.int .i64 a0, .int .i64 a1, .int .i64 a2, .int .i64 a3, .int .i64 a4, .int .i64 a5] 158) = W2 := ⟨_, rfl⟩
  rw [hW2] at HB2 HZ2
  obtain ⟨c0, c1, c2, c3, c4, d0, d1, d2⟩ := HS.out W2 HB2.out
  go_wp2_with fail
  try rw [hW2]
  clear hW2
  refine (HI.out _).mono ?_
  rintro e w3 ⟨rfl, hb3⟩
  have HB3 := hide (heldB HB2.out hb3 (Nat.le_refl _))
  have HZ3 := hide (HZ2.out.on hb3)
  clear hb3 c0 c1 c2 c3 c4 d0 d1 d2 HB2 HZ2
  obtain ⟨c0, c1, c2, c3, c4, d0, d1, d2⟩ := HS.out w3 HB3.out
  have z2' := HZ3.out.cell 2
  simp only [List.getElem?_cons_zero, List.getElem?_cons_succ] at z2'
  go_wp2
  go_ret2
  exact ⟨rfl, HB.out.trans (HB3.out.mono HB.out.size)⟩

set_option maxRecDepth 20000 in
set_option maxHeartbeats 4000000 in
theorem join_rnd (k b x t l a0 a1 a2 a3 a4 a5 idx : Int) (sp : Option Addr) (n c : Nat) (rnd : ByteArray) (w : World) (N : Nat) (hw1 : IntKind.i64.wrap (a2 + t) = a2 + t) (hw2 : IntKind.i64.wrap (l * (a2 + t)) = (N : Int)) (hne : n = N) 
    (hM : ∀ V : World, Calls Tryz.prog 155 #[.agg #[.int .i64 k, .int .i64 b, .int .i64 x, .int .i64 t, .int .i64 l]] V fun e w' => e = .returned (.tuple #[.agg #[.int .i64 a0, .int .i64 a1, .int .i64 a2, .int .i64 a3, .int .i64 a4, .int .i64 a5], .int .i64 0]) ∧ Below V.heap.size V w')
    (hI : ∀ V : World, Calls Tryz.prog 157 #[.agg #[.int .i64 k, .int .i64 b, .int .i64 x, .int .i64 t, .int .i64 l], .int .i64 idx] V fun e w' => e = .returned (.bool true) ∧ Below V.heap.size V w')
    (hV1 : ∀ (V : World) (B : Nat), B = V.heap.size → Calls Tryz.prog 159 #[.agg #[.int .i64 k, .int .i64 b, .int .i64 x, .int .i64 t, .int .i64 l], .slice (some ⟨B, 0, none⟩) 1 1] (V.alloc (.cells #[.string rnd] 9)) fun e w' => e = .returned (.bool false) ∧ Below (V.alloc (.cells #[.string rnd] 9)).heap.size (V.alloc (.cells #[.string rnd] 9)) w') :
    Calls Tryz.prog 85 #[.agg #[.int .i64 k, .int .i64 b, .int .i64 x, .int .i64 t, .int .i64 l], .agg #[.int .i64 idx, .string rnd, .slice sp n c]] w fun r w' => r = .returned (.tuple #[.string ⟨#[]⟩, .int .i64 12]) ∧ Below w.heap.size w w' := by
  subst hne
  have HM := hide hM
  have HI := hide hI
  have HV1 := hide hV1
  clear hM hI hV1
  obtain ⟨W0, hW⟩ : ∃ W0, (w.alloc (.cells #[.int .i64 k, .int .i64 b, .int .i64 x, .int .i64 t, .int .i64 l] 26)).alloc (.cells #[.int .i64 idx, .string rnd, .slice sp n c] 29) = W0 := ⟨_, rfl⟩
  have HK := hide (show Blk W0 w.heap.size [.int .i64 k, .int .i64 b, .int .i64 x, .int .i64 t, .int .i64 l] 26 by rw [← hW]; exact (Blk.new w _ _).alloc _)
  have HPA := hide (show Blk W0 (w.heap.size + 1) [.int .i64 idx, .string rnd, .slice sp n c] 29 by
    rw [← hW]
    have h := Blk.new (w.alloc (.cells #[.int .i64 k, .int .i64 b, .int .i64 x, .int .i64 t, .int .i64 l] 26)) [.int .i64 idx, .string rnd, .slice sp n c] 29
    simp only [World.size_alloc] at h
    exact h)
  have HB := hide (show Below w.heap.size w W0 by subst hW; exact ((Below.refl _ _).alloc (Nat.le_refl _) _).alloc (by simp) _)
  have HS := hide (fun (V : World) (h : Below W0.heap.size W0 V) => (by
    have q1 := HK.out.on h
    have q2 := HPA.out.on h
    exact ⟨q1.cell 0, q1.cell 1, q1.cell 2, q1.cell 3, q1.cell 4, q2.cell 0, q2.cell 1, q2.cell 2⟩ : V.cell? ⟨w.heap.size, 0, none⟩ = some (.int .i64 k) ∧ V.cell? ⟨w.heap.size, 1, none⟩ = some (.int .i64 b) ∧ V.cell? ⟨w.heap.size, 2, none⟩ = some (.int .i64 x) ∧ V.cell? ⟨w.heap.size, 3, none⟩ = some (.int .i64 t) ∧ V.cell? ⟨w.heap.size, 4, none⟩ = some (.int .i64 l) ∧ V.cell? ⟨w.heap.size + 1, 0, none⟩ = some (.int .i64 idx) ∧ V.cell? ⟨w.heap.size + 1, 1, none⟩ = some (.string rnd) ∧ V.cell? ⟨w.heap.size + 1, 2, none⟩ = some (.slice sp n c)))
  obtain ⟨c0, c1, c2, c3, c4, d0, d1, d2⟩ := HS.out W0 (Below.refl _ _)
  have HWE := hide hW
  clear hW
  go_enter Tryz.func85, Tryz.ntmps85
  go_wp2_with fail
  rw [HWE.out]
  refine (HM.out _).mono ?_
  rintro e w1 ⟨rfl, hb1⟩
  have HB1 := hide (heldB (Below.refl W0.heap.size W0) hb1 (Nat.le_refl _))
  clear hb1 c0 c1 c2 c3 c4 d0 d1 d2 HWE
  have HB2 := hide (HB1.out.alloc HB1.out.size (.cells #[.int .i64 a0, .int .i64 a1, .int .i64 a2, .int .i64 a3, .int .i64 a4, .int .i64 a5] 158))
  have HZ2 := hide (Blk.new w1 [.int .i64 a0, .int .i64 a1, .int .i64 a2, .int .i64 a3, .int .i64 a4, .int .i64 a5] 158)
  obtain ⟨W2, hW2⟩ : ∃ W2, w1.alloc (.cells #[.int .i64 a0, .int .i64 a1, .int .i64 a2, .int .i64 a3, .int .i64 a4, .int .i64 a5] 158) = W2 := ⟨_, rfl⟩
  rw [hW2] at HB2 HZ2
  obtain ⟨c0, c1, c2, c3, c4, d0, d1, d2⟩ := HS.out W2 HB2.out
  go_wp2_with fail
  try rw [hW2]
  clear hW2
  refine (HI.out _).mono ?_
  rintro e w3 ⟨rfl, hb3⟩
  have HB3 := hide (heldB HB2.out hb3 (Nat.le_refl _))
  have HZ3 := hide (HZ2.out.on hb3)
  clear hb3 c0 c1 c2 c3 c4 d0 d1 d2 HB2 HZ2
  obtain ⟨c0, c1, c2, c3, c4, d0, d1, d2⟩ := HS.out w3 HB3.out
  have z2' := HZ3.out.cell 2
  simp only [List.getElem?_cons_zero, List.getElem?_cons_succ] at z2'
  have HV1a := hide (HV1.out w3 w3.heap.size rfl)
  go_wp2_with fail
  refine HV1a.out.mono ?_
  rintro e w4 ⟨rfl, hb4⟩
  have HB4 := hide (heldB (HB3.out.alloc HB3.out.size _) hb4 (Nat.le_refl _))
  clear hb4 c0 c1 c2 c3 c4 d0 d1 d2 z2' HV1a
  go_wp2
  go_ret2
  exact ⟨rfl, HB.out.trans (HB4.out.mono HB.out.size)⟩

set_option maxRecDepth 20000 in
set_option maxHeartbeats 4000000 in
theorem join_val (k b x t l a0 a1 a2 a3 a4 a5 idx : Int) (sp : Option Addr) (n c : Nat) (rnd : ByteArray) (w : World) (N : Nat) (hw1 : IntKind.i64.wrap (a2 + t) = a2 + t) (hw2 : IntKind.i64.wrap (l * (a2 + t)) = (N : Int)) (hne : n = N) 
    (hM : ∀ V : World, Calls Tryz.prog 155 #[.agg #[.int .i64 k, .int .i64 b, .int .i64 x, .int .i64 t, .int .i64 l]] V fun e w' => e = .returned (.tuple #[.agg #[.int .i64 a0, .int .i64 a1, .int .i64 a2, .int .i64 a3, .int .i64 a4, .int .i64 a5], .int .i64 0]) ∧ Below V.heap.size V w')
    (hI : ∀ V : World, Calls Tryz.prog 157 #[.agg #[.int .i64 k, .int .i64 b, .int .i64 x, .int .i64 t, .int .i64 l], .int .i64 idx] V fun e w' => e = .returned (.bool true) ∧ Below V.heap.size V w')
    (hV1 : ∀ (V : World) (B : Nat), B = V.heap.size → Calls Tryz.prog 159 #[.agg #[.int .i64 k, .int .i64 b, .int .i64 x, .int .i64 t, .int .i64 l], .slice (some ⟨B, 0, none⟩) 1 1] (V.alloc (.cells #[.string rnd] 9)) fun e w' => e = .returned (.bool true) ∧ Below (V.alloc (.cells #[.string rnd] 9)).heap.size (V.alloc (.cells #[.string rnd] 9)) w')
    (hV2 : ∀ V : World, Below w.heap.size w V → Calls Tryz.prog 159 #[.agg #[.int .i64 k, .int .i64 b, .int .i64 x, .int .i64 t, .int .i64 l], .slice sp n c] V fun e w' => e = .returned (.bool false) ∧ Below V.heap.size V w') :
    Calls Tryz.prog 85 #[.agg #[.int .i64 k, .int .i64 b, .int .i64 x, .int .i64 t, .int .i64 l], .agg #[.int .i64 idx, .string rnd, .slice sp n c]] w fun r w' => r = .returned (.tuple #[.string ⟨#[]⟩, .int .i64 12]) ∧ Below w.heap.size w w' := by
  subst hne
  have HM := hide hM
  have HI := hide hI
  have HV1 := hide hV1
  have HV2 := hide hV2
  clear hM hI hV1 hV2
  obtain ⟨W0, hW⟩ : ∃ W0, (w.alloc (.cells #[.int .i64 k, .int .i64 b, .int .i64 x, .int .i64 t, .int .i64 l] 26)).alloc (.cells #[.int .i64 idx, .string rnd, .slice sp n c] 29) = W0 := ⟨_, rfl⟩
  have HK := hide (show Blk W0 w.heap.size [.int .i64 k, .int .i64 b, .int .i64 x, .int .i64 t, .int .i64 l] 26 by rw [← hW]; exact (Blk.new w _ _).alloc _)
  have HPA := hide (show Blk W0 (w.heap.size + 1) [.int .i64 idx, .string rnd, .slice sp n c] 29 by
    rw [← hW]
    have h := Blk.new (w.alloc (.cells #[.int .i64 k, .int .i64 b, .int .i64 x, .int .i64 t, .int .i64 l] 26)) [.int .i64 idx, .string rnd, .slice sp n c] 29
    simp only [World.size_alloc] at h
    exact h)
  have HB := hide (show Below w.heap.size w W0 by subst hW; exact ((Below.refl _ _).alloc (Nat.le_refl _) _).alloc (by simp) _)
  have HS := hide (fun (V : World) (h : Below W0.heap.size W0 V) => (by
    have q1 := HK.out.on h
    have q2 := HPA.out.on h
    exact ⟨q1.cell 0, q1.cell 1, q1.cell 2, q1.cell 3, q1.cell 4, q2.cell 0, q2.cell 1, q2.cell 2⟩ : V.cell? ⟨w.heap.size, 0, none⟩ = some (.int .i64 k) ∧ V.cell? ⟨w.heap.size, 1, none⟩ = some (.int .i64 b) ∧ V.cell? ⟨w.heap.size, 2, none⟩ = some (.int .i64 x) ∧ V.cell? ⟨w.heap.size, 3, none⟩ = some (.int .i64 t) ∧ V.cell? ⟨w.heap.size, 4, none⟩ = some (.int .i64 l) ∧ V.cell? ⟨w.heap.size + 1, 0, none⟩ = some (.int .i64 idx) ∧ V.cell? ⟨w.heap.size + 1, 1, none⟩ = some (.string rnd) ∧ V.cell? ⟨w.heap.size + 1, 2, none⟩ = some (.slice sp n c)))
  obtain ⟨c0, c1, c2, c3, c4, d0, d1, d2⟩ := HS.out W0 (Below.refl _ _)
  have HWE := hide hW
  clear hW
  go_enter Tryz.func85, Tryz.ntmps85
  go_wp2_with fail
  rw [HWE.out]
  refine (HM.out _).mono ?_
  rintro e w1 ⟨rfl, hb1⟩
  have HB1 := hide (heldB (Below.refl W0.heap.size W0) hb1 (Nat.le_refl _))
  clear hb1 c0 c1 c2 c3 c4 d0 d1 d2 HWE
  have HB2 := hide (HB1.out.alloc HB1.out.size (.cells #[.int .i64 a0, .int .i64 a1, .int .i64 a2, .int .i64 a3, .int .i64 a4, .int .i64 a5] 158))
  have HZ2 := hide (Blk.new w1 [.int .i64 a0, .int .i64 a1, .int .i64 a2, .int .i64 a3, .int .i64 a4, .int .i64 a5] 158)
  obtain ⟨W2, hW2⟩ : ∃ W2, w1.alloc (.cells #[.int .i64 a0, .int .i64 a1, .int .i64 a2, .int .i64 a3, .int .i64 a4, .int .i64 a5] 158) = W2 := ⟨_, rfl⟩
  rw [hW2] at HB2 HZ2
  obtain ⟨c0, c1, c2, c3, c4, d0, d1, d2⟩ := HS.out W2 HB2.out
  go_wp2_with fail
  try rw [hW2]
  clear hW2
  refine (HI.out _).mono ?_
  rintro e w3 ⟨rfl, hb3⟩
  have HB3 := hide (heldB HB2.out hb3 (Nat.le_refl _))
  have HZ3 := hide (HZ2.out.on hb3)
  clear hb3 c0 c1 c2 c3 c4 d0 d1 d2 HB2 HZ2
  obtain ⟨c0, c1, c2, c3, c4, d0, d1, d2⟩ := HS.out w3 HB3.out
  have z2' := HZ3.out.cell 2
  simp only [List.getElem?_cons_zero, List.getElem?_cons_succ] at z2'
  have HV1a := hide (HV1.out w3 w3.heap.size rfl)
  go_wp2_with fail
  refine HV1a.out.mono ?_
  rintro e w4 ⟨rfl, hb4⟩
  have HB4 := hide (heldB (HB3.out.alloc HB3.out.size _) hb4 (Nat.le_refl _))
  clear hb4 c0 c1 c2 c3 c4 d0 d1 d2 z2' HV1a
  obtain ⟨c0, c1, c2, c3, c4, d0, d1, d2⟩ := HS.out w4 HB4.out
  have HV2a := hide (HV2.out w4 (HB.out.trans (HB4.out.mono HB.out.size)))
  go_wp2_with fail
  refine HV2a.out.mono ?_
  rintro e w5 ⟨rfl, hb5⟩
  have HB5 := hide (heldB HB4.out hb5 (Nat.le_refl _))
  clear hb5 c0 c1 c2 c3 c4 d0 d1 d2 HV2a
  go_wp2
  go_ret2
  exact ⟨rfl, HB.out.trans (HB5.out.mono HB.out.size)⟩

end Go.Proofs.YtgaoeoijdpdjiabGreatDoor

namespace Go.Proofs.YtgaoeoijdpdjiabGreatDoor
open Go.RowKit

set_option maxRecDepth 20000 in
set_option maxHeartbeats 4000000 in
theorem rclimb_any (k x t l p0 p1 p3 : Int) (F : Nat) (b g o c : Nat) (pub y : ByteArray) (path : List ByteArray) (hk : k = 1 ∨ k = 2) (h1 : 1 ≤ b) (h2 : b ≤ 16) (hs : pub.size ≤ 16) (hy : (y.size : Int) = b) (hxs : ∀ z ∈ path, (z.size : Int) = b) (hF : F ≤ 1000) (q0 : 0 ≤ p0 ∧ p0 ≤ 100000) (q1 : 0 ≤ p1 ∧ p1 ≤ 100000) : ∀ (h : Nat) (_ : h ≤ 4) (_ : h ≤ path.length) (w : World) (_ : ∀ (j : Nat) z, path[j]? = some z → w.cell? ⟨g, o + j, none⟩ = some (.string z)) (_ : g < w.heap.size),
    Calls Tryz.prog 96 #[.agg #[.int .i64 k, .int .i64 b, .int .i64 x, .int .i64 t, .int .i64 l], .string pub, .agg #[.int .i64 p0, .int .i64 p1, .int .i64 F, .int .i64 p3], .string y, .slice (some ⟨g, o, none⟩) path.length c, .int .i64 h] w fun e w' => e = .returned (.string (climbS k b pub p0 p1 F path y h)) ∧ Below w.heap.size w w' := by
  obtain ⟨p2, hp2⟩ : ∃ p2 : Int, p2 = (F : Int) := ⟨_, rfl⟩
  rw [← hp2]
  have HP2 := hide hp2
  clear hp2
  intro h
  induction h with
  | zero =>
    intro _ _ w _ _
    clear hxs
    go_enter Tryz.func96, Tryz.ntmps96
    go_wp2
    go_ret
    exact ⟨rfl, ((Below.refl _ _).alloc (Nat.le_refl _) _).alloc (by simp) _⟩
  | succ h ih =>
    intro hh hhp w hcells hg
    obtain ⟨W0, hW⟩ : ∃ W0, (w.alloc (.cells #[.int .i64 k, .int .i64 b, .int .i64 x, .int .i64 t, .int .i64 l] 26)).alloc (.cells #[.int .i64 p0, .int .i64 p1, .int .i64 p2, .int .i64 p3] 91) = W0 := ⟨_, rfl⟩
    have HF := hide (show FiveC w.heap.size W0 k b x t l by subst hW; refine ⟨?_, ?_, ?_, ?_, ?_⟩ <;> simp [go_sem])
    have HP := hide (show FourC (w.heap.size + 1) W0 p0 p1 p2 p3 by subst hW; refine ⟨?_, ?_, ?_, ?_⟩ <;> simp [go_sem])
    have HB := hide (show Below w.heap.size w W0 by subst hW; exact ((Below.refl _ _).alloc (Nat.le_refl _) _).alloc (by simp) _)
    have hz : W0.heap.size ≤ w.heap.size + 2 := by subst hW; simp
    have hz' : w.heap.size + 2 ≤ W0.heap.size := by subst hW; simp
    obtain ⟨z, hz0⟩ : ∃ z, path[h]? = some z := ⟨_, List.getElem?_eq_getElem hhp⟩
    have hzz : z.size ≤ 16 := by have := hxs z (List.mem_of_getElem? hz0); omega
    have HGD := hide (show path.getD h ⟨#[]⟩ = z by rw [List.getD_eq_getElem?_getD, hz0]; rfl)
    have HC0 := hide (fun (V : World) (hb : Below W0.heap.size W0 V) (j : Nat) (z : ByteArray) (hj : path[j]? = some z) => (hb.cell (p := ⟨g, o + j, none⟩) (by show g < _; omega)).trans ((HB.out.cell (p := ⟨g, o + j, none⟩) hg).trans (hcells j z hj)))
    have hus := climbS_size k b pub p0 p1 F path y hk (by omega) (by omega) hs hy hxs h (by omega)
    have HI := hide (ih (by omega) (by omega) W0 (HC0.out W0 (Below.refl _ _)) (by omega))
    have hq1 : F / 2 ^ h ≤ 1000 := Nat.le_trans (Nat.div_le_self _ _) hF
    have HQ : Hid (F / 2 ^ h / 2 = F / 2 ^ (h + 1)) := by show F / 2 ^ h / 2 = F / 2 ^ (h + 1); rw [Nat.div_div_eq_div_mul, ← Nat.pow_succ]
    have hp16 : 2 ^ h ≤ 2 ^ 4 := Nat.pow_le_pow_right (by decide) (by omega)
    have HPW := hide (fun V : World => power_any 2 h V (by decide) (by omega) (Nat.le_trans hp16 (by decide)) (by decide))
    have hpp : 1 ≤ 2 ^ h := Nat.one_le_two_pow
    have hd1 : Int.tdiv p2 ((2 ^ h : Nat) : Int) = ((F / 2 ^ h : Nat) : Int) := by rw [HP2.out, Int.tdiv_eq_ediv_of_nonneg (by omega)]; rfl
    have HJ := hide (fun (jj : Nat) (u v : ByteArray) (hu : u.size ≤ 16) (hv : v.size ≤ 16) (hj : jj ≤ 1000) (V : World) => rjoin_any k x t l p0 p1 p2 p3 (h + 1 : Nat) jj b pub u v V hk h1 h2 hs hu hv q0 q1 (by omega) (by omega))
    have HST : Hid (climbS k b pub p0 p1 F path y (h + 1) = if F / 2 ^ h % 2 = 0 then joinS k b pub p0 p1 (h + 1 : Nat) (F / 2 ^ (h + 1) : Nat) (climbS k b pub p0 p1 F path y h) (path.getD h ⟨#[]⟩) else joinS k b pub p0 p1 (h + 1 : Nat) (F / 2 ^ (h + 1) : Nat) (path.getD h ⟨#[]⟩) (climbS k b pub p0 p1 F path y h)) := rfl
    rw [HGD.out, ← HQ.out] at HST
    have HS := hide (fun (V : World) (hb : Below W0.heap.size W0 V) => (by
      obtain ⟨c0, c1, c2, c3, c4⟩ := HF.out.below hb (by omega)
      obtain ⟨d0, d1, d2, d3⟩ := HP.out.below hb (by omega)
      exact ⟨c0, c1, c2, c3, c4, d0, d1, d2, d3, HC0.out V hb h z hz0, hb⟩ : V.cell? ⟨w.heap.size, 0, none⟩ = some (.int .i64 k) ∧ V.cell? ⟨w.heap.size, 1, none⟩ = some (.int .i64 b) ∧ V.cell? ⟨w.heap.size, 2, none⟩ = some (.int .i64 x) ∧ V.cell? ⟨w.heap.size, 3, none⟩ = some (.int .i64 t) ∧ V.cell? ⟨w.heap.size, 4, none⟩ = some (.int .i64 l) ∧ V.cell? ⟨w.heap.size + 1, 0, none⟩ = some (.int .i64 p0) ∧ V.cell? ⟨w.heap.size + 1, 1, none⟩ = some (.int .i64 p1) ∧ V.cell? ⟨w.heap.size + 1, 2, none⟩ = some (.int .i64 p2) ∧ V.cell? ⟨w.heap.size + 1, 3, none⟩ = some (.int .i64 p3) ∧ V.cell? ⟨g, o + h, none⟩ = some (.string z) ∧ Below W0.heap.size W0 V))
    have hus' : (climbS k b pub p0 p1 F path y h).size ≤ 16 := by omega
    clear ih hcells hxs q0 q1 HQ HGD HC0 hus hz0
    generalize climbS k b pub p0 p1 F path y h = u at HI HST hus'
    generalize F / 2 ^ h = q at hq1 hd1 HST
    generalize 2 ^ h = pw at hp16 HPW hpp hd1
    obtain ⟨q2, hq2⟩ : ∃ q2, q / 2 = q2 := ⟨_, rfl⟩
    have hq3 : q2 ≤ 1000 := by omega
    have hd2 : Int.tdiv (q : Int) 2 = (q2 : Int) := by rw [Int.tdiv_eq_ediv_of_nonneg (by omega)]; omega
    rw [hq2] at HST
    have HQ2 := hide hq2
    clear hq2
    have hwq : IntKind.i64.wrap (q : Int) = (q : Int) := by rw [IntKind.wrap_i64]; omega
    have hwq2 : IntKind.i64.wrap (q2 : Int) = (q2 : Int) := by rw [IntKind.wrap_i64]; omega
    have hpn : ((pw : Nat) : Int) ≠ 0 := by omega
    have hpb : ((pw : Int) == 0) = false := by rw [beq_eq_false_iff_ne]; omega
    have hpo : pw ≠ 0 := by omega
    have HJ1 := hide (HJ.out q2 u z hus' hzz hq3)
    have HJ2 := hide (HJ.out q2 z u hzz hus' hq3)
    clear HJ
    obtain ⟨Hh, hHh⟩ : ∃ Hh : Int, ((h + 1 : Nat) : Int) = Hh := ⟨_, rfl⟩
    have e1 : ((h : Nat) : Int) = Hh - 1 := by omega
    rw [e1] at HI HPW
    rw [hHh] at HJ1 HJ2 HST ⊢
    have g1 : 1 ≤ Hh := by omega
    have g2 : Hh ≤ 4 := by omega
    have g3 : Hh ≤ path.length := by omega
    have g4 : (Hh - 1).toNat = h := by omega
    have g5 : (0 : Int) ≤ Hh - 1 := by omega
    have g6 : Hh - 1 < path.length := by omega
    have g7 : IntKind.i64.wrap (Hh - 1) = Hh - 1 := by rw [IntKind.wrap_i64]; omega
    clear e1 hHh hh hhp
    obtain ⟨c0, c1, c2, c3, c4, d0, d1, d2, d3, _⟩ := HS.out W0 (Below.refl _ _)
    go_enter Tryz.func96, Tryz.ntmps96
    go_wp2_with fail
    try rw [hW]
    refine HI.out.mono ?_
    rintro e w1 ⟨rfl, hb1⟩
    have HB1 := hide (heldB (Below.refl W0.heap.size W0) hb1 (Nat.le_refl _))
    clear hb1 c0 c1 c2 c3 c4 d0 d1 d2 d3
    obtain ⟨c0, c1, c2, c3, c4, d0, d1, d2, d3, _⟩ := HS.out w1 HB1.out
    by_cases hev : q % 2 = 0
    · have hmo : Int.tmod (q : Int) 2 = 0 := by rw [Int.tmod_eq_emod_of_nonneg (by omega)]; omega
      have HE := hide (HST.out.trans (if_pos hev))
      clear hev HST
      go_wp2_with fail
      go_region_held3 (fun V => V.cell? ⟨w.heap.size, 0, none⟩ = some (.int .i64 k) ∧ V.cell? ⟨w.heap.size, 1, none⟩ = some (.int .i64 b) ∧ V.cell? ⟨w.heap.size, 2, none⟩ = some (.int .i64 x) ∧ V.cell? ⟨w.heap.size, 3, none⟩ = some (.int .i64 t) ∧ V.cell? ⟨w.heap.size, 4, none⟩ = some (.int .i64 l) ∧ V.cell? ⟨w.heap.size + 1, 0, none⟩ = some (.int .i64 p0) ∧ V.cell? ⟨w.heap.size + 1, 1, none⟩ = some (.int .i64 p1) ∧ V.cell? ⟨w.heap.size + 1, 2, none⟩ = some (.int .i64 p2) ∧ V.cell? ⟨w.heap.size + 1, 3, none⟩ = some (.int .i64 p3) ∧ V.cell? ⟨g, o + h, none⟩ = some (.string z) ∧ Below W0.heap.size W0 V) (first | exact HS.out _ hS2 | exact HS.out _ HB1.out.drew) (first | (go_at_call 91; refine (HPW.out _).mono ?_; rintro e w2 ⟨rfl, rfl⟩; have hS2 := HB1.out.drew))
      have HB2 := hide hS2
      clear hS2 c0 c1 c2 c3 c4 d0 d1 d2 d3
      go_wp2_with fail
      go_region_held3 (fun V => V.cell? ⟨w.heap.size, 0, none⟩ = some (.int .i64 k) ∧ V.cell? ⟨w.heap.size, 1, none⟩ = some (.int .i64 b) ∧ V.cell? ⟨w.heap.size, 2, none⟩ = some (.int .i64 x) ∧ V.cell? ⟨w.heap.size, 3, none⟩ = some (.int .i64 t) ∧ V.cell? ⟨w.heap.size, 4, none⟩ = some (.int .i64 l) ∧ V.cell? ⟨w.heap.size + 1, 0, none⟩ = some (.int .i64 p0) ∧ V.cell? ⟨w.heap.size + 1, 1, none⟩ = some (.int .i64 p1) ∧ V.cell? ⟨w.heap.size + 1, 2, none⟩ = some (.int .i64 p2) ∧ V.cell? ⟨w.heap.size + 1, 3, none⟩ = some (.int .i64 p3) ∧ V.cell? ⟨g, o + h, none⟩ = some (.string z) ∧ Below W0.heap.size W0 V) (first | exact HS.out _ hS3 | exact HS.out _ HB2.out.drew) (first | (go_at_call 168; refine (HJ1.out _).mono ?_; rintro e w3 ⟨rfl, hb3⟩; have hS3 := heldB HB2.out.drew hb3 (Nat.le_refl _)))
      have HB3 := hide hS3
      clear hS3 hb3
      go_wp2
      go_ret
      exact ⟨by rw [HE.out]; rfl, HB.out.trans (HB3.out.mono (by omega))⟩
    · have hmo : Int.tmod (q : Int) 2 = 1 := by rw [Int.tmod_eq_emod_of_nonneg (by omega)]; omega
      have HE := hide (HST.out.trans (if_neg hev))
      clear hev HST
      go_wp2_with fail
      go_region_held3 (fun V => V.cell? ⟨w.heap.size, 0, none⟩ = some (.int .i64 k) ∧ V.cell? ⟨w.heap.size, 1, none⟩ = some (.int .i64 b) ∧ V.cell? ⟨w.heap.size, 2, none⟩ = some (.int .i64 x) ∧ V.cell? ⟨w.heap.size, 3, none⟩ = some (.int .i64 t) ∧ V.cell? ⟨w.heap.size, 4, none⟩ = some (.int .i64 l) ∧ V.cell? ⟨w.heap.size + 1, 0, none⟩ = some (.int .i64 p0) ∧ V.cell? ⟨w.heap.size + 1, 1, none⟩ = some (.int .i64 p1) ∧ V.cell? ⟨w.heap.size + 1, 2, none⟩ = some (.int .i64 p2) ∧ V.cell? ⟨w.heap.size + 1, 3, none⟩ = some (.int .i64 p3) ∧ V.cell? ⟨g, o + h, none⟩ = some (.string z) ∧ Below W0.heap.size W0 V) (first | exact HS.out _ hS2 | exact HS.out _ HB1.out.drew) (first | (go_at_call 91; refine (HPW.out _).mono ?_; rintro e w2 ⟨rfl, rfl⟩; have hS2 := HB1.out.drew))
      have HB2 := hide hS2
      clear hS2 c0 c1 c2 c3 c4 d0 d1 d2 d3
      go_wp2_with fail
      go_region_held3 (fun V => V.cell? ⟨w.heap.size, 0, none⟩ = some (.int .i64 k) ∧ V.cell? ⟨w.heap.size, 1, none⟩ = some (.int .i64 b) ∧ V.cell? ⟨w.heap.size, 2, none⟩ = some (.int .i64 x) ∧ V.cell? ⟨w.heap.size, 3, none⟩ = some (.int .i64 t) ∧ V.cell? ⟨w.heap.size, 4, none⟩ = some (.int .i64 l) ∧ V.cell? ⟨w.heap.size + 1, 0, none⟩ = some (.int .i64 p0) ∧ V.cell? ⟨w.heap.size + 1, 1, none⟩ = some (.int .i64 p1) ∧ V.cell? ⟨w.heap.size + 1, 2, none⟩ = some (.int .i64 p2) ∧ V.cell? ⟨w.heap.size + 1, 3, none⟩ = some (.int .i64 p3) ∧ V.cell? ⟨g, o + h, none⟩ = some (.string z) ∧ Below W0.heap.size W0 V) (first | exact HS.out _ hS3 | exact HS.out _ HB2.out.drew) (first | (go_at_call 168; refine (HJ2.out _).mono ?_; rintro e w3 ⟨rfl, hb3⟩; have hS3 := heldB HB2.out.drew hb3 (Nat.le_refl _)))
      have HB3 := hide hS3
      clear hS3 hb3
      go_wp2
      go_ret
      exact ⟨by rw [HE.out]; rfl, HB.out.trans (HB3.out.mono (by omega))⟩
end Go.Proofs.YtgaoeoijdpdjiabGreatDoor
