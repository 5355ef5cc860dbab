/-
  The document's Join. The program's rootBy: the root that comes of a signature's parts, layer by layer. The statement's own joins: where the program's answer is the document's.
-/
import Derived.Test.YtgaoeoijdpdjiabGreatDoorPart26
import Derived.Test.YtgaoeoijdpdjiabGreatDoorPart31
import Derived.Test.YtgaoeoijdpdjiabGreatDoorPart21
import Derived.Test.YtgaoeoijdpdjiabGreatDoorPart38
import Derived.Test.YtgaoeoijdpdjiabGreatDoorPart36
import Derived.Test.YtgaoeoijdpdjiabGreatDoorPart33
import Derived.Test.YtgaoeoijdpdjiabGreatDoorPart35
namespace Go.Proofs.YtgaoeoijdpdjiabGreatDoor
open Go.RowKit

set_option maxRecDepth 20000 in
set_option maxHeartbeats 4000000 in
theorem refJoin_set (k b x t l idx er : Int) (sp : Option Addr) (n c : Nat) (rnd : ByteArray) (w : World) (her : er ≠ 0)
    (hC : ∀ V : World, Calls Tryz.prog 82 #[.agg #[.int .i64 k, .int .i64 b, .int .i64 x, .int .i64 t, .int .i64 l]] V fun e w' => e = .returned (.int .i64 er) ∧ Below V.heap.size V w') :
    Calls Tryz.prog 42 #[.agg #[.int .i64 k, .int .i64 b, .int .i64 x, .int .i64 t, .int .i64 l], .agg #[.int .i64 idx, .string rnd, .slice sp n c]] w fun r w' => r = .returned (.tuple #[.string ⟨#[]⟩, .int .i64 er]) ∧ Below w.heap.size w w' := by
  have n0 : ((er : Int) != 0) = true := by simpa using her
  have n1 : ((er : Int) == 0) = false := by simpa using her
  have HC := hide hC
  clear hC
  obtain ⟨W0, hW⟩ : ∃ W0, (w.alloc (.cells #[.int .i64 k, .int .i64 b, .int .i64 x, .int .i64 t, .int .i64 l] 26)).alloc (.cells #[.int .i64 idx, .string rnd, .slice sp n c] 29) = W0 := ⟨_, rfl⟩
  have HK := hide (show Blk W0 w.heap.size [.int .i64 k, .int .i64 b, .int .i64 x, .int .i64 t, .int .i64 l] 26 by rw [← hW]; exact (Blk.new w _ _).alloc _)
  have HPA := hide (show Blk W0 (w.heap.size + 1) [.int .i64 idx, .string rnd, .slice sp n c] 29 by
    rw [← hW]
    have h := Blk.new (w.alloc (.cells #[.int .i64 k, .int .i64 b, .int .i64 x, .int .i64 t, .int .i64 l] 26)) [.int .i64 idx, .string rnd, .slice sp n c] 29
    simp only [World.size_alloc] at h
    exact h)
  have HB := hide (show Below w.heap.size w W0 by subst hW; exact ((Below.refl _ _).alloc (Nat.le_refl _) _).alloc (by simp) _)
  have HS := hide (fun (V : World) (h : Below W0.heap.size W0 V) => (by
    have q1 := HK.out.on h
    have q2 := HPA.out.on h
    exact ⟨q1.cell 0, q1.cell 1, q1.cell 2, q1.cell 3, q1.cell 4, q2.cell 0, q2.cell 1, q2.cell 2⟩ : V.cell? ⟨w.heap.size, 0, none⟩ = some (.int .i64 k) ∧ V.cell? ⟨w.heap.size, 1, none⟩ = some (.int .i64 b) ∧ V.cell? ⟨w.heap.size, 2, none⟩ = some (.int .i64 x) ∧ V.cell? ⟨w.heap.size, 3, none⟩ = some (.int .i64 t) ∧ V.cell? ⟨w.heap.size, 4, none⟩ = some (.int .i64 l) ∧ V.cell? ⟨w.heap.size + 1, 0, none⟩ = some (.int .i64 idx) ∧ V.cell? ⟨w.heap.size + 1, 1, none⟩ = some (.string rnd) ∧ V.cell? ⟨w.heap.size + 1, 2, none⟩ = some (.slice sp n c)))
  obtain ⟨c0, c1, c2, c3, c4, d0, d1, d2⟩ := HS.out W0 (Below.refl _ _)
  have HWE := hide hW
  clear hW
  go_enter Tryz.func42, Tryz.ntmps42
  go_wp2_with fail
  rw [HWE.out]
  refine (HC.out _).mono ?_
  rintro e w1 ⟨rfl, hb1⟩
  have HB1 := hide (heldB (Below.refl W0.heap.size W0) hb1 (Nat.le_refl _))
  clear hb1 c0 c1 c2 c3 c4 d0 d1 d2 HWE
  obtain ⟨c0, c1, c2, c3, c4, d0, d1, d2⟩ := HS.out w1 HB1.out
  go_wp2
  go_ret2
  exact ⟨rfl, HB.out.trans (HB1.out.mono HB.out.size)⟩

set_option maxRecDepth 20000 in
set_option maxHeartbeats 4000000 in
theorem refJoin_neg (k b x t l a0 a1 a2 a3 a4 a5 idx N : Int) (sp : Option Addr) (n c : Nat) (rnd : ByteArray) (r : Bool) (w : World) (hw1 : IntKind.i64.wrap (a2 + t) = a2 + t) (hw2 : IntKind.i64.wrap (l * (a2 + t)) = N) (q0 : idx < 0)
    (hC : ∀ V : World, Calls Tryz.prog 82 #[.agg #[.int .i64 k, .int .i64 b, .int .i64 x, .int .i64 t, .int .i64 l]] V fun e w' => e = .returned (.int .i64 0) ∧ Below V.heap.size V w')
    (hZ : ∀ V : World, Calls Tryz.prog 83 #[.agg #[.int .i64 k, .int .i64 b, .int .i64 x, .int .i64 t, .int .i64 l]] V fun e w' => e = .returned (.agg #[.int .i64 a0, .int .i64 a1, .int .i64 a2, .int .i64 a3, .int .i64 a4, .int .i64 a5]) ∧ Below V.heap.size V w')
    (hV : ∀ V : World, Below w.heap.size w V → Calls Tryz.prog 86 #[.agg #[.int .i64 k, .int .i64 b, .int .i64 x, .int .i64 t, .int .i64 l], .slice sp n c, .int .i64 N] V fun e w' => e = .returned (.bool r) ∧ Below V.heap.size V w') :
    Calls Tryz.prog 42 #[.agg #[.int .i64 k, .int .i64 b, .int .i64 x, .int .i64 t, .int .i64 l], .agg #[.int .i64 idx, .string rnd, .slice sp n c]] w fun r w' => r = .returned (.tuple #[.string ⟨#[]⟩, .int .i64 12]) ∧ Below w.heap.size w w' := by
  have n0 : decide (idx < 0) = true := by simpa using q0
  have HC := hide hC
  have HZ := hide hZ
  have HV := hide hV
  clear hC hZ hV q0
  obtain ⟨W0, hW⟩ : ∃ W0, (w.alloc (.cells #[.int .i64 k, .int .i64 b, .int .i64 x, .int .i64 t, .int .i64 l] 26)).alloc (.cells #[.int .i64 idx, .string rnd, .slice sp n c] 29) = W0 := ⟨_, rfl⟩
  have HK := hide (show Blk W0 w.heap.size [.int .i64 k, .int .i64 b, .int .i64 x, .int .i64 t, .int .i64 l] 26 by rw [← hW]; exact (Blk.new w _ _).alloc _)
  have HPA := hide (show Blk W0 (w.heap.size + 1) [.int .i64 idx, .string rnd, .slice sp n c] 29 by
    rw [← hW]
    have h := Blk.new (w.alloc (.cells #[.int .i64 k, .int .i64 b, .int .i64 x, .int .i64 t, .int .i64 l] 26)) [.int .i64 idx, .string rnd, .slice sp n c] 29
    simp only [World.size_alloc] at h
    exact h)
  have HB := hide (show Below w.heap.size w W0 by subst hW; exact ((Below.refl _ _).alloc (Nat.le_refl _) _).alloc (by simp) _)
  have HS := hide (fun (V : World) (h : Below W0.heap.size W0 V) => (by
    have q1 := HK.out.on h
    have q2 := HPA.out.on h
    exact ⟨q1.cell 0, q1.cell 1, q1.cell 2, q1.cell 3, q1.cell 4, q2.cell 0, q2.cell 1, q2.cell 2⟩ : V.cell? ⟨w.heap.size, 0, none⟩ = some (.int .i64 k) ∧ V.cell? ⟨w.heap.size, 1, none⟩ = some (.int .i64 b) ∧ V.cell? ⟨w.heap.size, 2, none⟩ = some (.int .i64 x) ∧ V.cell? ⟨w.heap.size, 3, none⟩ = some (.int .i64 t) ∧ V.cell? ⟨w.heap.size, 4, none⟩ = some (.int .i64 l) ∧ V.cell? ⟨w.heap.size + 1, 0, none⟩ = some (.int .i64 idx) ∧ V.cell? ⟨w.heap.size + 1, 1, none⟩ = some (.string rnd) ∧ V.cell? ⟨w.heap.size + 1, 2, none⟩ = some (.slice sp n c)))
  obtain ⟨c0, c1, c2, c3, c4, d0, d1, d2⟩ := HS.out W0 (Below.refl _ _)
  have HWE := hide hW
  clear hW
  go_enter Tryz.func42, Tryz.ntmps42
  go_wp2_with fail
  rw [HWE.out]
  refine (HC.out _).mono ?_
  rintro e w1 ⟨rfl, hb1⟩
  have HB1 := hide (heldB (Below.refl W0.heap.size W0) hb1 (Nat.le_refl _))
  clear hb1 c0 c1 c2 c3 c4 d0 d1 d2 HWE
  obtain ⟨c0, c1, c2, c3, c4, d0, d1, d2⟩ := HS.out w1 HB1.out
  go_wp2_with fail
  refine (HZ.out _).mono ?_
  rintro e w2 ⟨rfl, hb2⟩
  have HB2 := hide (heldB HB1.out hb2 (Nat.le_refl _))
  clear hb2 c0 c1 c2 c3 c4 d0 d1 d2
  have HB3 := hide (HB2.out.alloc HB2.out.size (.cells #[.int .i64 a0, .int .i64 a1, .int .i64 a2, .int .i64 a3, .int .i64 a4, .int .i64 a5] 158))
  have HZ3 := hide (Blk.new w2 [.int .i64 a0, .int .i64 a1, .int .i64 a2, .int .i64 a3, .int .i64 a4, .int .i64 a5] 158)
  obtain ⟨W3, hW3⟩ : ∃ W3, w2.alloc (.cells #[.int .i64 a0, .int .i64 a1, .int .i64 a2, .int .i64 a3, .int .i64 a4, .int .i64 a5] 158) = W3 := ⟨_, rfl⟩
  rw [hW3] at HB3 HZ3
  obtain ⟨c0, c1, c2, c3, c4, d0, d1, d2⟩ := HS.out W3 HB3.out
  have z2 := HZ3.out.cell 2
  have z3 := HZ3.out.cell 3
  simp only [List.getElem?_cons_zero, List.getElem?_cons_succ] at z2 z3
  have HV3 := hide (HV.out W3 (HB.out.trans (HB3.out.mono HB.out.size)))
  go_wp2_with fail
  try rw [hW3]
  clear hW3
  refine HV3.out.mono ?_
  rintro e w4 ⟨rfl, hb4⟩
  have HB4 := hide (heldB HB3.out hb4 (Nat.le_refl _))
  have HZ4 := hide (HZ3.out.on hb4)
  clear hb4 c0 c1 c2 c3 c4 d0 d1 d2 z2 z3
  obtain ⟨c0, c1, c2, c3, c4, d0, d1, d2⟩ := HS.out w4 HB4.out
  have z3 := HZ4.out.cell 3
  simp only [List.getElem?_cons_zero, List.getElem?_cons_succ] at z3
  go_wp2
  go_ret2
  exact ⟨rfl, HB.out.trans (HB4.out.mono HB.out.size)⟩

set_option maxRecDepth 20000 in
set_option maxHeartbeats 4000000 in
theorem refJoin_big (k b x t l a0 a1 a2 a3 a4 a5 idx N : Int) (sp : Option Addr) (n c : Nat) (rnd : ByteArray) (r : Bool) (w : World) (hw1 : IntKind.i64.wrap (a2 + t) = a2 + t) (hw2 : IntKind.i64.wrap (l * (a2 + t)) = N) (q0 : 0 ≤ idx) (q1 : a3 ≤ idx)
    (hC : ∀ V : World, Calls Tryz.prog 82 #[.agg #[.int .i64 k, .int .i64 b, .int .i64 x, .int .i64 t, .int .i64 l]] V fun e w' => e = .returned (.int .i64 0) ∧ Below V.heap.size V w')
    (hZ : ∀ V : World, Calls Tryz.prog 83 #[.agg #[.int .i64 k, .int .i64 b, .int .i64 x, .int .i64 t, .int .i64 l]] V fun e w' => e = .returned (.agg #[.int .i64 a0, .int .i64 a1, .int .i64 a2, .int .i64 a3, .int .i64 a4, .int .i64 a5]) ∧ Below V.heap.size V w')
    (hV : ∀ V : World, Below w.heap.size w V → Calls Tryz.prog 86 #[.agg #[.int .i64 k, .int .i64 b, .int .i64 x, .int .i64 t, .int .i64 l], .slice sp n c, .int .i64 N] V fun e w' => e = .returned (.bool r) ∧ Below V.heap.size V w') :
    Calls Tryz.prog 42 #[.agg #[.int .i64 k, .int .i64 b, .int .i64 x, .int .i64 t, .int .i64 l], .agg #[.int .i64 idx, .string rnd, .slice sp n c]] w fun r w' => r = .returned (.tuple #[.string ⟨#[]⟩, .int .i64 12]) ∧ Below w.heap.size w w' := by
  have n0 : decide (idx < 0) = false := by simp; omega
  have n1 : decide (a3 ≤ idx) = true := by simpa using q1
  have HC := hide hC
  have HZ := hide hZ
  have HV := hide hV
  clear hC hZ hV q0 q1
  obtain ⟨W0, hW⟩ : ∃ W0, (w.alloc (.cells #[.int .i64 k, .int .i64 b, .int .i64 x, .int .i64 t, .int .i64 l] 26)).alloc (.cells #[.int .i64 idx, .string rnd, .slice sp n c] 29) = W0 := ⟨_, rfl⟩
  have HK := hide (show Blk W0 w.heap.size [.int .i64 k, .int .i64 b, .int .i64 x, .int .i64 t, .int .i64 l] 26 by rw [← hW]; exact (Blk.new w _ _).alloc _)
  have HPA := hide (show Blk W0 (w.heap.size + 1) [.int .i64 idx, .string rnd, .slice sp n c] 29 by
    rw [← hW]
    have h := Blk.new (w.alloc (.cells #[.int .i64 k, .int .i64 b, .int .i64 x, .int .i64 t, .int .i64 l] 26)) [.int .i64 idx, .string rnd, .slice sp n c] 29
    simp only [World.size_alloc] at h
    exact h)
  have HB := hide (show Below w.heap.size w W0 by subst hW; exact ((Below.refl _ _).alloc (Nat.le_refl _) _).alloc (by simp) _)
  have HS := hide (fun (V : World) (h : Below W0.heap.size W0 V) => (by
    have q1 := HK.out.on h
    have q2 := HPA.out.on h
    exact ⟨q1.cell 0, q1.cell 1, q1.cell 2, q1.cell 3, q1.cell 4, q2.cell 0, q2.cell 1, q2.cell 2⟩ : V.cell? ⟨w.heap.size, 0, none⟩ = some (.int .i64 k) ∧ V.cell? ⟨w.heap.size, 1, none⟩ = some (.int .i64 b) ∧ V.cell? ⟨w.heap.size, 2, none⟩ = some (.int .i64 x) ∧ V.cell? ⟨w.heap.size, 3, none⟩ = some (.int .i64 t) ∧ V.cell? ⟨w.heap.size, 4, none⟩ = some (.int .i64 l) ∧ V.cell? ⟨w.heap.size + 1, 0, none⟩ = some (.int .i64 idx) ∧ V.cell? ⟨w.heap.size + 1, 1, none⟩ = some (.string rnd) ∧ V.cell? ⟨w.heap.size + 1, 2, none⟩ = some (.slice sp n c)))
  obtain ⟨c0, c1, c2, c3, c4, d0, d1, d2⟩ := HS.out W0 (Below.refl _ _)
  have HWE := hide hW
  clear hW
  go_enter Tryz.func42, Tryz.ntmps42
  go_wp2_with fail
  rw [HWE.out]
  refine (HC.out _).mono ?_
  rintro e w1 ⟨rfl, hb1⟩
  have HB1 := hide (heldB (Below.refl W0.heap.size W0) hb1 (Nat.le_refl _))
  clear hb1 c0 c1 c2 c3 c4 d0 d1 d2 HWE
  obtain ⟨c0, c1, c2, c3, c4, d0, d1, d2⟩ := HS.out w1 HB1.out
  go_wp2_with fail
  refine (HZ.out _).mono ?_
  rintro e w2 ⟨rfl, hb2⟩
  have HB2 := hide (heldB HB1.out hb2 (Nat.le_refl _))
  clear hb2 c0 c1 c2 c3 c4 d0 d1 d2
  have HB3 := hide (HB2.out.alloc HB2.out.size (.cells #[.int .i64 a0, .int .i64 a1, .int .i64 a2, .int .i64 a3, .int .i64 a4, .int .i64 a5] 158))
  have HZ3 := hide (Blk.new w2 [.int .i64 a0, .int .i64 a1, .int .i64 a2, .int .i64 a3, .int .i64 a4, .int .i64 a5] 158)
  obtain ⟨W3, hW3⟩ : ∃ W3, w2.alloc (.cells #[.int .i64 a0, .int .i64 a1, .int .i64 a2, .int .i64 a3, .int .i64 a4, .int .i64 a5] 158) = W3 := ⟨_, rfl⟩
  rw [hW3] at HB3 HZ3
  obtain ⟨c0, c1, c2, c3, c4, d0, d1, d2⟩ := HS.out W3 HB3.out
  have z2 := HZ3.out.cell 2
  have z3 := HZ3.out.cell 3
  simp only [List.getElem?_cons_zero, List.getElem?_cons_succ] at z2 z3
  have HV3 := hide (HV.out W3 (HB.out.trans (HB3.out.mono HB.out.size)))
  go_wp2_with fail
  try rw [hW3]
  clear hW3
  refine HV3.out.mono ?_
  rintro e w4 ⟨rfl, hb4⟩
  have HB4 := hide (heldB HB3.out hb4 (Nat.le_refl _))
  have HZ4 := hide (HZ3.out.on hb4)
  clear hb4 c0 c1 c2 c3 c4 d0 d1 d2 z2 z3
  obtain ⟨c0, c1, c2, c3, c4, d0, d1, d2⟩ := HS.out w4 HB4.out
  have z3 := HZ4.out.cell 3
  simp only [List.getElem?_cons_zero, List.getElem?_cons_succ] at z3
  go_wp2
  go_ret2
  exact ⟨rfl, HB.out.trans (HB4.out.mono HB.out.size)⟩

set_option maxRecDepth 20000 in
set_option maxHeartbeats 4000000 in
theorem refJoin_rnd (k b x t l a0 a1 a2 a3 a4 a5 idx N : Int) (sp : Option Addr) (n c : Nat) (rnd : ByteArray) (r : Bool) (w : World) (hw1 : IntKind.i64.wrap (a2 + t) = a2 + t) (hw2 : IntKind.i64.wrap (l * (a2 + t)) = N) (q0 : 0 ≤ idx) (q1 : idx < a3) (q2 : (rnd.size : Int) ≠ b)
    (hC : ∀ V : World, Calls Tryz.prog 82 #[.agg #[.int .i64 k, .int .i64 b, .int .i64 x, .int .i64 t, .int .i64 l]] V fun e w' => e = .returned (.int .i64 0) ∧ Below V.heap.size V w')
    (hZ : ∀ V : World, Calls Tryz.prog 83 #[.agg #[.int .i64 k, .int .i64 b, .int .i64 x, .int .i64 t, .int .i64 l]] V fun e w' => e = .returned (.agg #[.int .i64 a0, .int .i64 a1, .int .i64 a2, .int .i64 a3, .int .i64 a4, .int .i64 a5]) ∧ Below V.heap.size V w')
    (hV : ∀ V : World, Below w.heap.size w V → Calls Tryz.prog 86 #[.agg #[.int .i64 k, .int .i64 b, .int .i64 x, .int .i64 t, .int .i64 l], .slice sp n c, .int .i64 N] V fun e w' => e = .returned (.bool r) ∧ Below V.heap.size V w') :
    Calls Tryz.prog 42 #[.agg #[.int .i64 k, .int .i64 b, .int .i64 x, .int .i64 t, .int .i64 l], .agg #[.int .i64 idx, .string rnd, .slice sp n c]] w fun r w' => r = .returned (.tuple #[.string ⟨#[]⟩, .int .i64 12]) ∧ Below w.heap.size w w' := by
  have n0 : decide (idx < 0) = false := by simp; omega
  have n1 : decide (a3 ≤ idx) = false := by simp; omega
  have n2 : ((rnd.size : Int) != b) = true := by simpa using q2
  have n3 : ((rnd.size : Int) == b) = false := by simpa using q2
  have HC := hide hC
  have HZ := hide hZ
  have HV := hide hV
  clear hC hZ hV q0 q1 q2
  obtain ⟨W0, hW⟩ : ∃ W0, (w.alloc (.cells #[.int .i64 k, .int .i64 b, .int .i64 x, .int .i64 t, .int .i64 l] 26)).alloc (.cells #[.int .i64 idx, .string rnd, .slice sp n c] 29) = W0 := ⟨_, rfl⟩
  have HK := hide (show Blk W0 w.heap.size [.int .i64 k, .int .i64 b, .int .i64 x, .int .i64 t, .int .i64 l] 26 by rw [← hW]; exact (Blk.new w _ _).alloc _)
  have HPA := hide (show Blk W0 (w.heap.size + 1) [.int .i64 idx, .string rnd, .slice sp n c] 29 by
    rw [← hW]
    have h := Blk.new (w.alloc (.cells #[.int .i64 k, .int .i64 b, .int .i64 x, .int .i64 t, .int .i64 l] 26)) [.int .i64 idx, .string rnd, .slice sp n c] 29
    simp only [World.size_alloc] at h
    exact h)
  have HB := hide (show Below w.heap.size w W0 by subst hW; exact ((Below.refl _ _).alloc (Nat.le_refl _) _).alloc (by simp) _)
  have HS := hide (fun (V : World) (h : Below W0.heap.size W0 V) => (by
    have q1 := HK.out.on h
    have q2 := HPA.out.on h
    exact ⟨q1.cell 0, q1.cell 1, q1.cell 2, q1.cell 3, q1.cell 4, q2.cell 0, q2.cell 1, q2.cell 2⟩ : V.cell? ⟨w.heap.size, 0, none⟩ = some (.int .i64 k) ∧ V.cell? ⟨w.heap.size, 1, none⟩ = some (.int .i64 b) ∧ V.cell? ⟨w.heap.size, 2, none⟩ = some (.int .i64 x) ∧ V.cell? ⟨w.heap.size, 3, none⟩ = some (.int .i64 t) ∧ V.cell? ⟨w.heap.size, 4, none⟩ = some (.int .i64 l) ∧ V.cell? ⟨w.heap.size + 1, 0, none⟩ = some (.int .i64 idx) ∧ V.cell? ⟨w.heap.size + 1, 1, none⟩ = some (.string rnd) ∧ V.cell? ⟨w.heap.size + 1, 2, none⟩ = some (.slice sp n c)))
  obtain ⟨c0, c1, c2, c3, c4, d0, d1, d2⟩ := HS.out W0 (Below.refl _ _)
  have HWE := hide hW
  clear hW
  go_enter Tryz.func42, Tryz.ntmps42
  go_wp2_with fail
  rw [HWE.out]
  refine (HC.out _).mono ?_
  rintro e w1 ⟨rfl, hb1⟩
  have HB1 := hide (heldB (Below.refl W0.heap.size W0) hb1 (Nat.le_refl _))
  clear hb1 c0 c1 c2 c3 c4 d0 d1 d2 HWE
  obtain ⟨c0, c1, c2, c3, c4, d0, d1, d2⟩ := HS.out w1 HB1.out
  go_wp2_with fail
  refine (HZ.out _).mono ?_
  rintro e w2 ⟨rfl, hb2⟩
  have HB2 := hide (heldB HB1.out hb2 (Nat.le_refl _))
  clear hb2 c0 c1 c2 c3 c4 d0 d1 d2
  have HB3 := hide (HB2.out.alloc HB2.out.size (.cells #[.int .i64 a0, .int .i64 a1, .int .i64 a2, .int .i64 a3, .int .i64 a4, .int .i64 a5] 158))
  have HZ3 := hide (Blk.new w2 [.int .i64 a0, .int .i64 a1, .int .i64 a2, .int .i64 a3, .int .i64 a4, .int .i64 a5] 158)
  obtain ⟨W3, hW3⟩ : ∃ W3, w2.alloc (.cells #[.int .i64 a0, .int .i64 a1, .int .i64 a2, .int .i64 a3, .int .i64 a4, .int .i64 a5] 158) = W3 := ⟨_, rfl⟩
  rw [hW3] at HB3 HZ3
  obtain ⟨c0, c1, c2, c3, c4, d0, d1, d2⟩ := HS.out W3 HB3.out
  have z2 := HZ3.out.cell 2
  have z3 := HZ3.out.cell 3
  simp only [List.getElem?_cons_zero, List.getElem?_cons_succ] at z2 z3
  have HV3 := hide (HV.out W3 (HB.out.trans (HB3.out.mono HB.out.size)))
  go_wp2_with fail
  try rw [hW3]
  clear hW3
  refine HV3.out.mono ?_
  rintro e w4 ⟨rfl, hb4⟩
  have HB4 := hide (heldB HB3.out hb4 (Nat.le_refl _))
  have HZ4 := hide (HZ3.out.on hb4)
  clear hb4 c0 c1 c2 c3 c4 d0 d1 d2 z2 z3
  obtain ⟨c0, c1, c2, c3, c4, d0, d1, d2⟩ := HS.out w4 HB4.out
  have z3 := HZ4.out.cell 3
  simp only [List.getElem?_cons_zero, List.getElem?_cons_succ] at z3
  go_wp2
  go_ret2
  exact ⟨rfl, HB.out.trans (HB4.out.mono HB.out.size)⟩

set_option maxRecDepth 20000 in
set_option maxHeartbeats 4000000 in
theorem refJoin_val (k b x t l a0 a1 a2 a3 a4 a5 idx N : Int) (sp : Option Addr) (n c : Nat) (rnd : ByteArray) (w : World) (hw1 : IntKind.i64.wrap (a2 + t) = a2 + t) (hw2 : IntKind.i64.wrap (l * (a2 + t)) = N) (q0 : 0 ≤ idx) (q1 : idx < a3) (q2 : (rnd.size : Int) = b)
    (hC : ∀ V : World, Calls Tryz.prog 82 #[.agg #[.int .i64 k, .int .i64 b, .int .i64 x, .int .i64 t, .int .i64 l]] V fun e w' => e = .returned (.int .i64 0) ∧ Below V.heap.size V w')
    (hZ : ∀ V : World, Calls Tryz.prog 83 #[.agg #[.int .i64 k, .int .i64 b, .int .i64 x, .int .i64 t, .int .i64 l]] V fun e w' => e = .returned (.agg #[.int .i64 a0, .int .i64 a1, .int .i64 a2, .int .i64 a3, .int .i64 a4, .int .i64 a5]) ∧ Below V.heap.size V w')
    (hV : ∀ V : World, Below w.heap.size w V → Calls Tryz.prog 86 #[.agg #[.int .i64 k, .int .i64 b, .int .i64 x, .int .i64 t, .int .i64 l], .slice sp n c, .int .i64 N] V fun e w' => e = .returned (.bool false) ∧ Below V.heap.size V w') :
    Calls Tryz.prog 42 #[.agg #[.int .i64 k, .int .i64 b, .int .i64 x, .int .i64 t, .int .i64 l], .agg #[.int .i64 idx, .string rnd, .slice sp n c]] w fun r w' => r = .returned (.tuple #[.string ⟨#[]⟩, .int .i64 12]) ∧ Below w.heap.size w w' := by
  have n0 : decide (idx < 0) = false := by simp; omega
  have n1 : decide (a3 ≤ idx) = false := by simp; omega
  have n2 : ((rnd.size : Int) != b) = false := by simp [q2]
  have n3 : ((rnd.size : Int) == b) = true := by simp [q2]
  have HC := hide hC
  have HZ := hide hZ
  have HV := hide hV
  clear hC hZ hV q0 q1 q2
  obtain ⟨W0, hW⟩ : ∃ W0, (w.alloc (.cells #[.int .i64 k, .int .i64 b, .int .i64 x, .int .i64 t, .int .i64 l] 26)).alloc (.cells #[.int .i64 idx, .string rnd, .slice sp n c] 29) = W0 := ⟨_, rfl⟩
  have HK := hide (show Blk W0 w.heap.size [.int .i64 k, .int .i64 b, .int .i64 x, .int .i64 t, .int .i64 l] 26 by rw [← hW]; exact (Blk.new w _ _).alloc _)
  have HPA := hide (show Blk W0 (w.heap.size + 1) [.int .i64 idx, .string rnd, .slice sp n c] 29 by
    rw [← hW]
    have h := Blk.new (w.alloc (.cells #[.int .i64 k, .int .i64 b, .int .i64 x, .int .i64 t, .int .i64 l] 26)) [.int .i64 idx, .string rnd, .slice sp n c] 29
    simp only [World.size_alloc] at h
    exact h)
  have HB := hide (show Below w.heap.size w W0 by subst hW; exact ((Below.refl _ _).alloc (Nat.le_refl _) _).alloc (by simp) _)
  have HS := hide (fun (V : World) (h : Below W0.heap.size W0 V) => (by
    have q1 := HK.out.on h
    have q2 := HPA.out.on h
    exact ⟨q1.cell 0, q1.cell 1, q1.cell 2, q1.cell 3, q1.cell 4, q2.cell 0, q2.cell 1, q2.cell 2⟩ : V.cell? ⟨w.heap.size, 0, none⟩ = some (.int .i64 k) ∧ V.cell? ⟨w.heap.size, 1, none⟩ = some (.int .i64 b) ∧ V.cell? ⟨w.heap.size, 2, none⟩ = some (.int .i64 x) ∧ V.cell? ⟨w.heap.size, 3, none⟩ = some (.int .i64 t) ∧ V.cell? ⟨w.heap.size, 4, none⟩ = some (.int .i64 l) ∧ V.cell? ⟨w.heap.size + 1, 0, none⟩ = some (.int .i64 idx) ∧ V.cell? ⟨w.heap.size + 1, 1, none⟩ = some (.string rnd) ∧ V.cell? ⟨w.heap.size + 1, 2, none⟩ = some (.slice sp n c)))
  obtain ⟨c0, c1, c2, c3, c4, d0, d1, d2⟩ := HS.out W0 (Below.refl _ _)
  have HWE := hide hW
  clear hW
  go_enter Tryz.func42, Tryz.ntmps42
  go_wp2_with fail
  rw [HWE.out]
  refine (HC.out _).mono ?_
  rintro e w1 ⟨rfl, hb1⟩
  have HB1 := hide (heldB (Below.refl W0.heap.size W0) hb1 (Nat.le_refl _))
  clear hb1 c0 c1 c2 c3 c4 d0 d1 d2 HWE
  obtain ⟨c0, c1, c2, c3, c4, d0, d1, d2⟩ := HS.out w1 HB1.out
  go_wp2_with fail
  refine (HZ.out _).mono ?_
  rintro e w2 ⟨rfl, hb2⟩
  have HB2 := hide (heldB HB1.out hb2 (Nat.le_refl _))
  clear hb2 c0 c1 c2 c3 c4 d0 d1 d2
  have HB3 := hide (HB2.out.alloc HB2.out.size (.cells #[.int .i64 a0, .int .i64 a1, .int .i64 a2, .int .i64 a3, .int .i64 a4, .int .i64 a5] 158))
  have HZ3 := hide (Blk.new w2 [.int .i64 a0, .int .i64 a1, .int .i64 a2, .int .i64 a3, .int .i64 a4, .int .i64 a5] 158)
  obtain ⟨W3, hW3⟩ : ∃ W3, w2.alloc (.cells #[.int .i64 a0, .int .i64 a1, .int .i64 a2, .int .i64 a3, .int .i64 a4, .int .i64 a5] 158) = W3 := ⟨_, rfl⟩
  rw [hW3] at HB3 HZ3
  obtain ⟨c0, c1, c2, c3, c4, d0, d1, d2⟩ := HS.out W3 HB3.out
  have z2 := HZ3.out.cell 2
  have z3 := HZ3.out.cell 3
  simp only [List.getElem?_cons_zero, List.getElem?_cons_succ] at z2 z3
  have HV3 := hide (HV.out W3 (HB.out.trans (HB3.out.mono HB.out.size)))
  go_wp2_with fail
  try rw [hW3]
  clear hW3
  refine HV3.out.mono ?_
  rintro e w4 ⟨rfl, hb4⟩
  have HB4 := hide (heldB HB3.out hb4 (Nat.le_refl _))
  have HZ4 := hide (HZ3.out.on hb4)
  clear hb4 c0 c1 c2 c3 c4 d0 d1 d2 z2 z3
  obtain ⟨c0, c1, c2, c3, c4, d0, d1, d2⟩ := HS.out w4 HB4.out
  have z3 := HZ4.out.cell 3
  simp only [List.getElem?_cons_zero, List.getElem?_cons_succ] at z3
  go_wp2
  go_ret2
  exact ⟨rfl, HB.out.trans (HB4.out.mono HB.out.size)⟩

set_option maxRecDepth 20000 in
set_option maxHeartbeats 8000000 in
theorem refJoin_yes (k b x t l a0 a1 a2 a3 a4 a5 idx N : Int) (bk o c : Nat) (xs : List ByteArray) (rnd : ByteArray) (w : World) (hw1 : IntKind.i64.wrap (a2 + t) = a2 + t) (hw2 : IntKind.i64.wrap (l * (a2 + t)) = N) (q0 : 0 ≤ idx) (q1 : idx < a3) (q2 : (rnd.size : Int) = b) (q3 : a3 ≤ 100000) (q4 : rnd.size ≤ 16) (hx : xs.length ≤ 200) (hcat : ∀ m, (cat (xs.take m)).size ≤ 960) (hxs : ∀ y ∈ xs, y.size ≤ 16) (hbk : bk < w.heap.size) (hcells : ∀ (j : Nat) y, xs[j]? = some y → w.cell? ⟨bk, o + j, none⟩ = some (.string y))
    (hC : ∀ V : World, Calls Tryz.prog 82 #[.agg #[.int .i64 k, .int .i64 b, .int .i64 x, .int .i64 t, .int .i64 l]] V fun e w' => e = .returned (.int .i64 0) ∧ Below V.heap.size V w')
    (hZ : ∀ V : World, Calls Tryz.prog 83 #[.agg #[.int .i64 k, .int .i64 b, .int .i64 x, .int .i64 t, .int .i64 l]] V fun e w' => e = .returned (.agg #[.int .i64 a0, .int .i64 a1, .int .i64 a2, .int .i64 a3, .int .i64 a4, .int .i64 a5]) ∧ Below V.heap.size V w')
    (hV : ∀ V : World, Below w.heap.size w V → Calls Tryz.prog 86 #[.agg #[.int .i64 k, .int .i64 b, .int .i64 x, .int .i64 t, .int .i64 l], .slice (some ⟨bk, o, none⟩) xs.length c, .int .i64 N] V fun e w' => e = .returned (.bool true) ∧ Below V.heap.size V w') :
    Calls Tryz.prog 42 #[.agg #[.int .i64 k, .int .i64 b, .int .i64 x, .int .i64 t, .int .i64 l], .agg #[.int .i64 idx, .string rnd, .slice (some ⟨bk, o, none⟩) xs.length c]] w fun r w' => r = .returned (.tuple #[.string (numB 4 idx ++ rnd ++ cat xs), .int .i64 0]) ∧ Below w.heap.size w w' := by
  have n0 : decide (idx < 0) = false := by simp; omega
  have n1 : decide (a3 ≤ idx) = false := by simp; omega
  have n2 : ((rnd.size : Int) != b) = false := by simp [q2]
  have n3 : ((rnd.size : Int) == b) = true := by simp [q2]
  have HC := hide hC
  have HZ := hide hZ
  have HV := hide hV
  have HN := hide (fun V : World => refNumber_any 4 idx V (by decide) q0 (by omega))
  have cc1 := sadd (numB 4 idx) rnd (by rw [numB_size]; omega) (by omega)
  have hhd : (numB 4 idx ++ rnd).size ≤ 20 := by rw [ByteArray.size_append, numB_size]; omega
  generalize numB 4 idx ++ rnd = hd at cc1 hhd ⊢
  generalize numB 4 idx = nb at HN cc1
  have HADD := hide (fun (m : Nat) (hm : m < xs.length) (wx : World) => (by
    have h := sadd (hd ++ cat (xs.take m)) xs[m] (by rw [ByteArray.size_append]; have := hcat m; omega) (by have := hxs _ (List.getElem_mem hm); omega) wx
    have e : hd ++ cat (xs.take m) ++ xs[m] = hd ++ cat (xs.take (m + 1)) := by
      rw [List.take_succ_eq_append_getElem hm, cat_snoc, ByteArray.append_assoc]
    rw [e] at h
    exact h : (Op.stringOp .add (hd ++ cat (xs.take m)) xs[m]).run Tryz.prog wx = .ok (.string (hd ++ cat (xs.take (m + 1)))) wx))
  have HCE := hide (fun (V : World) (h : Below w.heap.size w V) (j : Nat) (y : ByteArray) (hj : xs[j]? = some y) => (h.cell (p := ⟨bk, o + j, none⟩) hbk).trans (hcells j y hj))
  clear hC hZ hV q0 q1 q2 q3 q4 hcat hxs hcells hbk hhd
  obtain ⟨W0, hW⟩ : ∃ W0, (w.alloc (.cells #[.int .i64 k, .int .i64 b, .int .i64 x, .int .i64 t, .int .i64 l] 26)).alloc (.cells #[.int .i64 idx, .string rnd, .slice (some ⟨bk, o, none⟩) xs.length c] 29) = W0 := ⟨_, rfl⟩
  have HK := hide (show Blk W0 w.heap.size [.int .i64 k, .int .i64 b, .int .i64 x, .int .i64 t, .int .i64 l] 26 by rw [← hW]; exact (Blk.new w _ _).alloc _)
  have HPA := hide (show Blk W0 (w.heap.size + 1) [.int .i64 idx, .string rnd, .slice (some ⟨bk, o, none⟩) xs.length c] 29 by
    rw [← hW]
    have h := Blk.new (w.alloc (.cells #[.int .i64 k, .int .i64 b, .int .i64 x, .int .i64 t, .int .i64 l] 26)) [.int .i64 idx, .string rnd, .slice (some ⟨bk, o, none⟩) xs.length c] 29
    simp only [World.size_alloc] at h
    exact h)
  have HB := hide (show Below w.heap.size w W0 by subst hW; exact ((Below.refl _ _).alloc (Nat.le_refl _) _).alloc (by simp) _)
  have HS := hide (fun (V : World) (h : Below W0.heap.size W0 V) => (by
    have q1 := HK.out.on h
    have q2 := HPA.out.on h
    exact ⟨q1.cell 0, q1.cell 1, q1.cell 2, q1.cell 3, q1.cell 4, q2.cell 0, q2.cell 1, q2.cell 2⟩ : V.cell? ⟨w.heap.size, 0, none⟩ = some (.int .i64 k) ∧ V.cell? ⟨w.heap.size, 1, none⟩ = some (.int .i64 b) ∧ V.cell? ⟨w.heap.size, 2, none⟩ = some (.int .i64 x) ∧ V.cell? ⟨w.heap.size, 3, none⟩ = some (.int .i64 t) ∧ V.cell? ⟨w.heap.size, 4, none⟩ = some (.int .i64 l) ∧ V.cell? ⟨w.heap.size + 1, 0, none⟩ = some (.int .i64 idx) ∧ V.cell? ⟨w.heap.size + 1, 1, none⟩ = some (.string rnd) ∧ V.cell? ⟨w.heap.size + 1, 2, none⟩ = some (.slice (some ⟨bk, o, none⟩) xs.length c)))
  obtain ⟨c0, c1, c2, c3, c4, d0, d1, d2⟩ := HS.out W0 (Below.refl _ _)
  have HWE := hide hW
  clear hW
  go_enter Tryz.func42, Tryz.ntmps42
  go_wp2_with fail
  rw [HWE.out]
  refine (HC.out _).mono ?_
  rintro e w1 ⟨rfl, hb1⟩
  have HB1 := hide (heldB (Below.refl W0.heap.size W0) hb1 (Nat.le_refl _))
  clear hb1 c0 c1 c2 c3 c4 d0 d1 d2 HWE
  obtain ⟨c0, c1, c2, c3, c4, d0, d1, d2⟩ := HS.out w1 HB1.out
  go_wp2_with fail
  refine (HZ.out _).mono ?_
  rintro e w2 ⟨rfl, hb2⟩
  have HB2 := hide (heldB HB1.out hb2 (Nat.le_refl _))
  clear hb2 c0 c1 c2 c3 c4 d0 d1 d2
  have HB3 := hide (HB2.out.alloc HB2.out.size (.cells #[.int .i64 a0, .int .i64 a1, .int .i64 a2, .int .i64 a3, .int .i64 a4, .int .i64 a5] 158))
  have HZ3 := hide (Blk.new w2 [.int .i64 a0, .int .i64 a1, .int .i64 a2, .int .i64 a3, .int .i64 a4, .int .i64 a5] 158)
  obtain ⟨W3, hW3⟩ : ∃ W3, w2.alloc (.cells #[.int .i64 a0, .int .i64 a1, .int .i64 a2, .int .i64 a3, .int .i64 a4, .int .i64 a5] 158) = W3 := ⟨_, rfl⟩
  rw [hW3] at HB3 HZ3
  obtain ⟨c0, c1, c2, c3, c4, d0, d1, d2⟩ := HS.out W3 HB3.out
  have z2 := HZ3.out.cell 2
  have z3 := HZ3.out.cell 3
  simp only [List.getElem?_cons_zero, List.getElem?_cons_succ] at z2 z3
  have HV3 := hide (HV.out W3 (HB.out.trans (HB3.out.mono HB.out.size)))
  go_wp2_with fail
  try rw [hW3]
  clear hW3
  refine HV3.out.mono ?_
  rintro e w4 ⟨rfl, hb4⟩
  have HB4 := hide (heldB HB3.out hb4 (Nat.le_refl _))
  have HZ4 := hide (HZ3.out.on hb4)
  clear hb4 c0 c1 c2 c3 c4 d0 d1 d2 z2 z3
  obtain ⟨c0, c1, c2, c3, c4, d0, d1, d2⟩ := HS.out w4 HB4.out
  have z3 := HZ4.out.cell 3
  simp only [List.getElem?_cons_zero, List.getElem?_cons_succ] at z3
  have HSW := hide (fun (V : World) (h : Below w4.heap.size w4 V) => HS.out V (heldB HB4.out h (Nat.le_refl _)))
  go_wp2_with fail
  go_region_held3 (fun V => V.cell? ⟨w.heap.size, 0, none⟩ = some (.int .i64 k) ∧ V.cell? ⟨w.heap.size, 1, none⟩ = some (.int .i64 b) ∧ V.cell? ⟨w.heap.size, 2, none⟩ = some (.int .i64 x) ∧ V.cell? ⟨w.heap.size, 3, none⟩ = some (.int .i64 t) ∧ V.cell? ⟨w.heap.size, 4, none⟩ = some (.int .i64 l) ∧ V.cell? ⟨w.heap.size + 1, 0, none⟩ = some (.int .i64 idx) ∧ V.cell? ⟨w.heap.size + 1, 1, none⟩ = some (.string rnd) ∧ V.cell? ⟨w.heap.size + 1, 2, none⟩ = some (.slice (some ⟨bk, o, none⟩) xs.length c)) (first | exact HSW.out _ hS1 | exact HSW.out _ (Below.refl w4.heap.size w4).drew) ((go_at_call 87; refine (HN.out _).mono ?_; rintro e w5 ⟨rfl, hb5⟩; have hS1 := heldB (Below.refl w4.heap.size w4).drew hb5 (Nat.le_refl _)))
  have HB5 := hide (heldB HB4.out hS1 (Nat.le_refl _))
  have HB6 := hide (HB.out.trans (HB5.out.mono HB.out.size))
  clear hS1 hb5 c0 c1 c2 c3 c4 d0 d1 d2 z3 n0 n1 n2 n3 cc1
  obtain ⟨c0, c1, c2, c3, c4, d0, d1, d2⟩ := HS.out w5 HB5.out
  go_wp2_with fail
  go_loop [9, 10] (fun s i => ∃ m : Nat, m ≤ xs.length ∧ i = .int .i64 m ∧ s = .string (hd ++ cat (xs.take m))) (fun _ i => xs.length - (intOf i).toNat)
  case atStart => exact ⟨0, Nat.zero_le _, rfl, by rw [List.take_zero, cat, append_empty]⟩
  case round =>
    obtain ⟨m, hm, rfl, rfl⟩ := hrel
    by_cases hlt : m < xs.length
    · have had := HADD.out m hlt
      have hce := HCE.out w5 HB6.out m xs[m] (List.getElem?_eq_getElem hlt)
      generalize xs[m] = y at had hce
      generalize hd ++ cat (xs.take m) = s0 at had ⊢
      obtain ⟨s1, hs1⟩ : ∃ s1, hd ++ cat (xs.take (m + 1)) = s1 := ⟨_, rfl⟩
      rw [hs1] at had
      have HS1 := hide hs1
      clear hs1
      have hlti : (m : Int) < (xs.length : Int) := by omega
      go_wp2
      go_round
      case rel => exact ⟨m + 1, by omega, by go_num, by rw [HS1.out]⟩
      case measure => simp [intOf]; omega
    · obtain rfl : m = xs.length := by omega
      have HE : Hid (hd ++ cat (xs.take xs.length) = hd ++ cat xs) := by show _ = _; rw [List.take_of_length_le (Nat.le_refl _)]
      go_wp2
      go_ret2
      first | exact ⟨rfl, HB6.out⟩ | exact ⟨by rw [HE.out], HB6.out⟩
end Go.Proofs.YtgaoeoijdpdjiabGreatDoor

namespace Go.Proofs.YtgaoeoijdpdjiabGreatDoor
open Go.RowKit

theorem cutR (g o n c lo hi : Nat) (h1 : lo ≤ hi) (h2 : hi ≤ c) (h3 : lo < c) (wx : World) : (Instr.slice 27 (.slice (some ⟨g, o, none⟩) n c) (some (.int .i64 lo)) (some (.int .i64 hi)) none).run Tryz.prog wx = .ok (.slice (some ⟨g, o + lo, none⟩) (hi - lo) (c - lo)) wx := by
  have e2 : (lo : Int) ≤ hi := by omega
  have e3 : (0 : Int) ≤ lo := by omega
  have e4 : (hi : Int) ≤ c := by omega
  simp [go_sem, e2, e3, e4]
  omega
theorem cutR_to (g o n c hi : Nat) (h2 : hi ≤ c) (wx : World) : (Instr.slice 27 (.slice (some ⟨g, o, none⟩) n c) none (some (.int .i64 hi)) none).run Tryz.prog wx = .ok (.slice (some ⟨g, o, none⟩) hi c) wx := by
  have e3 : (0 : Int) ≤ hi := by omega
  have e4 : (hi : Int) ≤ c := by omega
  simp [go_sem, e3, e4]
theorem cutR_from (g o n c lo : Nat) (h1 : lo < n) (h2 : n ≤ c) (wx : World) : (Instr.slice 27 (.slice (some ⟨g, o, none⟩) n c) (some (.int .i64 lo)) none none).run Tryz.prog wx = .ok (.slice (some ⟨g, o + lo, none⟩) (n - lo) (c - lo)) wx := by
  have e2 : (lo : Int) ≤ n := by omega
  have e3 : (0 : Int) ≤ lo := by omega
  simp [go_sem, e2, e3]
  omega

/-- What comes out behind so many layers. -/
def layS (k b : Int) (x e f t ch : Nat) (pub : ByteArray) (idx : Nat) (ps : List ByteArray) (m0 : ByteArray) : Nat → ByteArray
  | 0 => m0
  | i + 1 => rootS k b x pub i ((idx / 2 ^ (t * i) / 2 ^ t : Nat) : Int) (idx / 2 ^ (t * i) % 2 ^ t) (digitsN x e f (bytesN (layS k b x e f t ch pub idx ps m0 i))) ((ps.drop (i * (ch + t))).take ch) ((ps.drop (i * (ch + t) + ch)).take t)

theorem layS_size (k b : Int) (x e f t ch : Nat) (pub : ByteArray) (idx : Nat) (ps : List ByteArray) (m0 : ByteArray) (hk : k = 1 ∨ k = 2) (h1 : 1 ≤ b) (h2 : b ≤ 16) (hp : pub.size ≤ 16) (hc : 1 ≤ ch) (l : Nat) (hn : ps.length = l * (ch + t)) (hps : ∀ y ∈ ps, (y.size : Int) = b) (hm : (m0.size : Int) = b) : ∀ i, i ≤ l → ((layS k b x e f t ch pub idx ps m0 i).size : Int) = b := by
  intro i
  induction i with
  | zero => intro _; exact hm
  | succ i _ =>
    intro hi
    have h3 : (i + 1) * (ch + t) ≤ l * (ch + t) := Nat.mul_le_mul_right _ hi
    rw [Nat.add_mul, Nat.one_mul] at h3
    refine rootS_size k b x pub i _ _ _ _ _ hk h1 h2 hp ?_ (fun y hy => hps y (List.mem_of_mem_drop (List.mem_of_mem_take hy))) (fun y hy => hps y (List.mem_of_mem_drop (List.mem_of_mem_take hy)))
    rw [List.length_take, List.length_drop, hn]
    omega

set_option maxRecDepth 20000 in
set_option maxHeartbeats 8000000 in
theorem sigRootBy_any (k : Int) (b x e f t l ch idx : Nat) (hpr : Pair b x e f) (hch : ch = b * e + f) (pub root rnd msg : ByteArray) (g o n c : Nat) (ps : List ByteArray) (w : World) (hk : k = 1 ∨ k = 2) (t1 : 1 ≤ t) (t2 : t ≤ 4) (l1 : 1 ≤ l) (l2 : l ≤ 3) (hi : idx ≤ 100000)
    (s1 : (pub.size : Int) = b) (s2 : (root.size : Int) = b) (s3 : (rnd.size : Int) = b) (s4 : msg.size ≤ 200) (hn : ps.length = n) (hnl : n = l * (ch + t)) (hc : n ≤ c) (hps : ∀ y ∈ ps, (y.size : Int) = b) (hg : g < w.heap.size) (hcells : ∀ (j : Nat) y, ps[j]? = some y → w.cell? ⟨g, o + j, none⟩ = some (.string y)) (hT : Tn w) :
    Calls Tryz.prog 163 #[.agg #[.int .i64 k, .int .i64 b, .int .i64 x, .int .i64 t, .int .i64 l, .string root, .string pub], .agg #[.int .i64 idx, .string rnd, .slice (some ⟨g, o, none⟩) n c], .string msg] w fun r w' => r = .returned (.string (layS k b x e f t ch pub idx ps (mixS k b rnd root pub idx msg) l)) ∧ Below w.heap.size w w' := by
  obtain ⟨g1, g2, g3, g4, g5, g6⟩ := pair_small hpr
  rw [← hch] at g3 g4
  have hne : l * (ch + t) ≤ 300 := Nat.le_trans (Nat.mul_le_mul l2 (show ch + t ≤ 68 by omega)) (by decide)
  have hx2 : 2 ≤ x := by rcases hpr with ⟨rfl, rfl, rfl, rfl⟩ | ⟨rfl, rfl, rfl, rfl⟩ | ⟨rfl, rfl, rfl, rfl⟩ | ⟨rfl, rfl, rfl, rfl⟩ <;> decide
  have HMX := hide (fun (V : World) (hV : Tn V) => mixed_any k b x t l idx root pub rnd msg (.slice (some ⟨g, o, none⟩) n c) V hk (by omega) (by omega) (by omega) (by omega) (by omega) s4 hV)
  have HM0 := hide (mixS_size k b rnd root pub idx msg hk (by omega) (by omega) (by omega) (by omega) (by omega) s4)
  generalize mixS k b rnd root pub idx msg = m0 at HMX HM0 ⊢
  have HSG := hide (fun (q : Nat) (hq : q < l) (V : World) => signing_any k b x l t q idx V t1 t2 (by omega) hi)
  have HDG := hide (fun (m : ByteArray) (hm : (m.size : Int) = b) (V : World) => setsDigits_any b x e f hpr k t l m V hk (by omega) (by omega) (by omega) (by omega) (by omega))
  rw [← hch] at HDG
  have HLS := hide (layS_size k b x e f t ch pub idx ps m0 hk (by omega) (by omega) (by omega) g3 l (by omega) hps HM0.out)
  have HDL := hide (fun (m : ByteArray) (hm : (m.size : Int) = b) => (show (digitsN x e f (bytesN m)).length = ch by rw [digitsN_length, bytesN_length, hch]; congr 2; omega))
  have HDX := hide (fun (m : ByteArray) => (show ∀ d ∈ digitsN x e f (bytesN m), d < x from digitsN_lt x e f (bytesN m) (by omega)))
  obtain ⟨E, hE⟩ : ∃ E, ch + t = E := ⟨_, rfl⟩
  have hEl : n = l * E := by rw [← hE]; exact hnl
  have htd : Int.tdiv (n : Int) (l : Int) = (E : Int) := by rw [hEl, Int.natCast_mul, Int.mul_tdiv_cancel_left _ (by omega)]
  have vE : IntKind.i64.wrap (E : Int) = (E : Int) := by rw [IntKind.wrap_i64] <;> omega
  have hl0 : l ≠ 0 := by omega
  have HRB := hide (fun (q : Nat) (hq : q < l) (m : ByteArray) (hm : (m.size : Int) = b) (gD : Nat) (V : World) (hV : Tn V) (hb : Below w.heap.size w V) (hD : RowZ V gD ((digitsN x e f (bytesN m)).map Int.ofNat)) => (by
    have hqE : (q + 1) * E ≤ l * E := Nat.mul_le_mul_right _ hq
    rw [Nat.add_mul, Nat.one_mul] at hqE
    have lv : ((ps.drop (q * E)).take ch).length = ch := by rw [List.length_take, List.length_drop, hn]; omega
    have lp : ((ps.drop (q * E + ch)).take t).length = t := by rw [List.length_take, List.length_drop, hn]; omega
    have ld : (digitsN x e f (bytesN m)).length = ch := HDL.out m hm
    have gDl : gD < V.heap.size := lt_of_block hD
    have h := rootBy_any k b t l x pub q ((idx / 2 ^ (t * q) / 2 ^ t : Nat) : Int) 0 (idx / 2 ^ (t * q) % 2 ^ t) gD 0 ch g (o + q * E) (c - q * E) g (o + q * E + ch) (c - q * E - ch) (digitsN x e f (bytesN m)) ((ps.drop (q * E)).take ch) ((ps.drop (q * E + ch)).take t) V hk (by omega) (by omega) (by omega) (by omega) (by
        have : idx / 2 ^ (t * q) % 2 ^ t < 2 ^ t := Nat.mod_lt _ (Nat.two_pow_pos t)
        have : 2 ^ t ≤ 16 := Nat.le_trans (Nat.pow_le_pow_right (by decide) t2) (by decide)
        omega) (by omega) (by omega) (by omega) (HDX.out m) (fun y hy => hps y (List.mem_of_mem_drop (List.mem_of_mem_take hy))) (by omega) (fun y hy => hps y (List.mem_of_mem_drop (List.mem_of_mem_take hy))) gDl (by
        intro j d hj
        have hjl : j < ch := by
          have := (List.getElem?_eq_some_iff.1 hj).1
          omega
        rw [Nat.zero_add, hD.cell (by rw [List.length_map]; omega), List.getElem?_map, hj]
        rfl) (Nat.lt_of_lt_of_le hg hb.size) (by
        intro j y hj
        rw [List.getElem?_take] at hj
        split at hj
        · rw [List.getElem?_drop] at hj
          rw [Nat.add_assoc]
          exact (hb.cell (p := ⟨g, o + (q * E + j), none⟩) hg).trans (hcells _ y hj)
        · cases hj) (Nat.lt_of_lt_of_le hg hb.size) (by
        intro j y hj
        rw [List.getElem?_take] at hj
        split at hj
        · rw [List.getElem?_drop] at hj
          rw [show o + q * E + ch + j = o + (q * E + ch + j) by omega]
          exact (hb.cell (p := ⟨g, o + (q * E + ch + j), none⟩) hg).trans (hcells _ y hj)
        · cases hj) hV
    rw [lv, lp] at h
    exact h : Calls Tryz.prog 242 #[.agg #[.int .i64 k, .int .i64 b, .int .i64 x, .int .i64 t, .int .i64 l], .string pub, .agg #[.int .i64 q, .int .i64 ((idx / 2 ^ (t * q) / 2 ^ t : Nat) : Int), .int .i64 ((idx / 2 ^ (t * q) % 2 ^ t : Nat) : Int), .int .i64 0], .slice (some ⟨gD, 0, none⟩) ch ch, .slice (some ⟨g, o + q * E, none⟩) ch (c - q * E), .slice (some ⟨g, o + q * E + ch, none⟩) t (c - q * E - ch)] V fun r w' => r = .returned (.string (rootS k b x pub q ((idx / 2 ^ (t * q) / 2 ^ t : Nat) : Int) (idx / 2 ^ (t * q) % 2 ^ t) (digitsN x e f (bytesN m)) ((ps.drop (q * E)).take ch) ((ps.drop (q * E + ch)).take t))) ∧ Below V.heap.size V w'))
  have HSU := hide (fun q : Nat => (show layS k b x e f t ch pub idx ps m0 (q + 1) = rootS k b x pub q ((idx / 2 ^ (t * q) / 2 ^ t : Nat) : Int) (idx / 2 ^ (t * q) % 2 ^ t) (digitsN x e f (bytesN (layS k b x e f t ch pub idx ps m0 q))) ((ps.drop (q * E)).take ch) ((ps.drop (q * E + ch)).take t) by rw [layS, hE]))
  have HCU := hide (fun (q : Nat) (hq : q < l) => (by
    have hqE : (q + 1) * E ≤ l * E := Nat.mul_le_mul_right _ hq
    have hq1 : (q + 1) * E = q * E + E := by rw [Nat.add_mul, Nat.one_mul]
    have e1 : ∀ wx, (Instr.slice 27 (.slice (some ⟨g, o, none⟩) n c) (some (.int .i64 ((q * E : Nat) : Int))) (some (.int .i64 (((q + 1) * E : Nat) : Int))) none).run Tryz.prog wx = .ok (.slice (some ⟨g, o + q * E, none⟩) E (c - q * E)) wx := fun wx => by
      have h := cutR g o n c (q * E) ((q + 1) * E) (by omega) (by omega) (by omega) wx
      rw [show (q + 1) * E - q * E = E by omega] at h
      exact h
    have e2 : ∀ wx, (Instr.slice 27 (.slice (some ⟨g, o + q * E, none⟩) E (c - q * E)) none (some (.int .i64 ch)) none).run Tryz.prog wx = .ok (.slice (some ⟨g, o + q * E, none⟩) ch (c - q * E)) wx := cutR_to g (o + q * E) E (c - q * E) ch (by omega)
    have e3 : ∀ wx, (Instr.slice 27 (.slice (some ⟨g, o + q * E, none⟩) E (c - q * E)) (some (.int .i64 ch)) none none).run Tryz.prog wx = .ok (.slice (some ⟨g, o + q * E + ch, none⟩) t (c - q * E - ch)) wx := fun wx => by
      have h := cutR_from g (o + q * E) E (c - q * E) ch (by omega) (by omega) wx
      rw [show E - ch = t by omega] at h
      exact h
    have v1 : IntKind.i64.wrap ((q : Int) * (E : Int)) = ((q * E : Nat) : Int) := by
      have e : (q : Int) * (E : Int) = ((q * E : Nat) : Int) := by rw [Int.natCast_mul]
      rw [e, IntKind.wrap_i64] <;> omega
    have v2 : IntKind.i64.wrap (((q : Int) + 1) * (E : Int)) = (((q + 1) * E : Nat) : Int) := by
      have e : ((q : Int) + 1) * (E : Int) = (((q + 1) * E : Nat) : Int) := by rw [Int.natCast_mul]; rfl
      rw [e, IntKind.wrap_i64] <;> omega
    exact ⟨e1, e2, e3, v1, v2⟩ : (∀ wx, (Instr.slice 27 (.slice (some ⟨g, o, none⟩) n c) (some (.int .i64 ((q * E : Nat) : Int))) (some (.int .i64 (((q + 1) * E : Nat) : Int))) none).run Tryz.prog wx = .ok (.slice (some ⟨g, o + q * E, none⟩) E (c - q * E)) wx) ∧ (∀ wx, (Instr.slice 27 (.slice (some ⟨g, o + q * E, none⟩) E (c - q * E)) none (some (.int .i64 ch)) none).run Tryz.prog wx = .ok (.slice (some ⟨g, o + q * E, none⟩) ch (c - q * E)) wx) ∧ (∀ wx, (Instr.slice 27 (.slice (some ⟨g, o + q * E, none⟩) E (c - q * E)) (some (.int .i64 ch)) none none).run Tryz.prog wx = .ok (.slice (some ⟨g, o + q * E + ch, none⟩) t (c - q * E - ch)) wx) ∧ IntKind.i64.wrap ((q : Int) * (E : Int)) = ((q * E : Nat) : Int) ∧ IntKind.i64.wrap (((q : Int) + 1) * (E : Int)) = (((q + 1) * E : Nat) : Int)))
  have HE := hide hE
  have hn300 : n ≤ 300 := by rw [hnl]; exact hne
  clear hcells hps hn hnl hEl hch hpr hne hE s1 s2 s3 s4 HM0
  obtain ⟨W0, hW⟩ : ∃ W0, (w.alloc (.cells #[.int .i64 k, .int .i64 b, .int .i64 x, .int .i64 t, .int .i64 l, .string root, .string pub] 184)).alloc (.cells #[.int .i64 idx, .string rnd, .slice (some ⟨g, o, none⟩) n c] 29) = W0 := ⟨_, rfl⟩
  have HK := hide (show Blk W0 w.heap.size [.int .i64 k, .int .i64 b, .int .i64 x, .int .i64 t, .int .i64 l, .string root, .string pub] 184 by rw [← hW]; exact (Blk.new w _ _).alloc _)
  have HPA := hide (show Blk W0 (w.heap.size + 1) [.int .i64 idx, .string rnd, .slice (some ⟨g, o, none⟩) n c] 29 by
    rw [← hW]
    have h := Blk.new (w.alloc (.cells #[.int .i64 k, .int .i64 b, .int .i64 x, .int .i64 t, .int .i64 l, .string root, .string pub] 184)) [.int .i64 idx, .string rnd, .slice (some ⟨g, o, none⟩) n c] 29
    simp only [World.size_alloc] at h
    exact h)
  have HB := hide (show Below w.heap.size w W0 by subst hW; exact ((Below.refl _ _).alloc (Nat.le_refl _) _).alloc (by simp) _)
  have HTW := hide (hT.on HB.out)
  have HS := hide (fun (V : World) (h : Below W0.heap.size W0 V) => (by
    have q1 := HK.out.on h
    have q2 := HPA.out.on h
    exact ⟨q1.cell 0, q1.cell 1, q1.cell 2, q1.cell 3, q1.cell 4, q1.cell 5, q1.cell 6, q2.cell 0, q2.cell 1, q2.cell 2⟩ : V.cell? ⟨w.heap.size, 0, none⟩ = some (.int .i64 k) ∧ V.cell? ⟨w.heap.size, 1, none⟩ = some (.int .i64 b) ∧ V.cell? ⟨w.heap.size, 2, none⟩ = some (.int .i64 x) ∧ V.cell? ⟨w.heap.size, 3, none⟩ = some (.int .i64 t) ∧ V.cell? ⟨w.heap.size, 4, none⟩ = some (.int .i64 l) ∧ V.cell? ⟨w.heap.size, 5, none⟩ = some (.string root) ∧ V.cell? ⟨w.heap.size, 6, none⟩ = some (.string pub) ∧ V.cell? ⟨w.heap.size + 1, 0, none⟩ = some (.int .i64 idx) ∧ V.cell? ⟨w.heap.size + 1, 1, none⟩ = some (.string rnd) ∧ V.cell? ⟨w.heap.size + 1, 2, none⟩ = some (.slice (some ⟨g, o, none⟩) n c)))
  obtain ⟨c0, c1, c2, c3, c4, c5, c6, d0, d1, d2⟩ := HS.out W0 (Below.refl _ _)
  clear hT
  have HWE := hide hW
  clear hW
  go_enter Tryz.func163, Tryz.ntmps163
  go_wp2_with fail
  rw [HWE.out]
  refine (HMX.out _ HTW.out).mono ?_
  rintro r w1 ⟨rfl, hb1⟩
  have HB1 := hide (heldB (Below.refl W0.heap.size W0) hb1 (Nat.le_refl _))
  clear hb1 c0 c1 c2 c3 c4 c5 c6 d0 d1 d2 HWE
  obtain ⟨c0, c1, c2, c3, c4, c5, c6, d0, d1, d2⟩ := HS.out w1 HB1.out
  go_wp2_with fail
  go_loopw [8, 28] (fun u i wr => ∃ q : Nat, q ≤ l ∧ i = .int .i64 q ∧ u = .string (layS k b x e f t ch pub idx ps m0 q) ∧ Hid (Below W0.heap.size W0 wr)) (fun _ i _ => l - (intOf i).toNat)
  case atStart => exact ⟨0, Nat.zero_le _, rfl, rfl, HB1.out⟩
  case round =>
    clear c0 c1 c2 c3 c4 c5 c6 d0 d1 d2
    obtain ⟨q, hq, rfl, rfl, hb⟩ := hrel
    by_cases hlt : q < l
    · have hms := HLS.out q hq
      have HSU1 := hide (HSU.out q)
      have HDG1 := hide (HDG.out _ hms)
      have HRB1 := hide (HRB.out q hlt _ hms)
      obtain ⟨e1, e2, e3, v1, v2⟩ := HCU.out q hlt
      have HSG1 := hide (HSG.out q hlt)
      clear hms
      generalize layS k b x e f t ch pub idx ps m0 q = mq at HSU1 HDG1 HRB1 ⊢
      rw [← HSU1.out] at HRB1
      obtain ⟨mq', HLQ⟩ : ∃ mq', Hid (layS k b x e f t ch pub idx ps m0 (q + 1) = mq') := ⟨_, rfl⟩
      rw [HLQ.out] at HRB1
      generalize ((idx / 2 ^ (t * q) / 2 ^ t : Nat) : Int) = Q1 at HSG1 HRB1
      generalize ((idx / 2 ^ (t * q) % 2 ^ t : Nat) : Int) = Q2 at HSG1 HRB1
      generalize (q + 1) * E = C2 at e1 v2
      generalize q * E = C1 at e1 e2 e3 v1 HRB1
      clear HSU1
      obtain ⟨c0, c1, c2, c3, c4, c5, c6, d0, d1, d2⟩ := HS.out wr hb.out
      have hql : (q : Int) < (l : Int) := by omega
      go_wp2_with fail
      refine (HSG1.out _).mono ?_
      rintro r w2 ⟨rfl, hb2⟩
      have HB2 := hide (heldB hb.out hb2 (Nat.le_refl _))
      clear hb2 c0 c1 c2 c3 c4 c5 c6 d0 d1 d2
      have HB3 := hide (HB2.out.alloc HB2.out.size (.cells #[.int .i64 q, .int .i64 Q1, .int .i64 Q2, .int .i64 0] 91))
      have HPB := hide (Blk.new w2 [.int .i64 q, .int .i64 Q1, .int .i64 Q2, .int .i64 0] 91)
      obtain ⟨c0, c1, c2, c3, c4, c5, c6, d0, d1, d2⟩ := HS.out _ HB3.out
      have HD3 := hide (HDG1.out (w2.alloc (.cells #[.int .i64 q, .int .i64 Q1, .int .i64 Q2, .int .i64 0] 91)))
      go_wp2_with fail
      refine HD3.out.mono ?_
      rintro r w3 ⟨gD, rfl, hgD, hrow, hb3⟩
      have HB4 := hide (heldB HB3.out hb3 (Nat.le_refl _))
      have HPC := hide (HPB.out.on hb3)
      have HRW := hide hrow
      clear hb3 hrow hgD c0 c1 c2 c3 c4 c5 c6 d0 d1 d2 HB3 HPB HD3
      obtain ⟨c0, c1, c2, c3, c4, c5, c6, d0, d1, d2⟩ := HS.out _ HB4.out
      have HS9 := hide (fun (V : World) (h : Below w3.heap.size w3 V) => (by
        obtain ⟨c0, c1, c2, c3, c4, c5, c6, _, _, _⟩ := HS.out V (heldB HB4.out h (Nat.le_refl _))
        have q2 := HPC.out.on h
        exact ⟨c0, c1, c2, c3, c4, c5, c6, q2.cell 0, q2.cell 1, q2.cell 2, q2.cell 3⟩ : V.cell? ⟨w.heap.size, 0, none⟩ = some (.int .i64 k) ∧ V.cell? ⟨w.heap.size, 1, none⟩ = some (.int .i64 b) ∧ V.cell? ⟨w.heap.size, 2, none⟩ = some (.int .i64 x) ∧ V.cell? ⟨w.heap.size, 3, none⟩ = some (.int .i64 t) ∧ V.cell? ⟨w.heap.size, 4, none⟩ = some (.int .i64 l) ∧ V.cell? ⟨w.heap.size, 5, none⟩ = some (.string root) ∧ V.cell? ⟨w.heap.size, 6, none⟩ = some (.string pub) ∧ V.cell? ⟨w2.heap.size, 0, none⟩ = some (.int .i64 q) ∧ V.cell? ⟨w2.heap.size, 1, none⟩ = some (.int .i64 Q1) ∧ V.cell? ⟨w2.heap.size, 2, none⟩ = some (.int .i64 Q2) ∧ V.cell? ⟨w2.heap.size, 3, none⟩ = some (.int .i64 0)))
      go_wp2_with fail
      clear c0 c1 c2 c3 c4 c5 c6 d0 d1 d2
      go_region_held3 (fun V => V.cell? ⟨w.heap.size, 0, none⟩ = some (.int .i64 k) ∧ V.cell? ⟨w.heap.size, 1, none⟩ = some (.int .i64 b) ∧ V.cell? ⟨w.heap.size, 2, none⟩ = some (.int .i64 x) ∧ V.cell? ⟨w.heap.size, 3, none⟩ = some (.int .i64 t) ∧ V.cell? ⟨w.heap.size, 4, none⟩ = some (.int .i64 l) ∧ V.cell? ⟨w.heap.size, 5, none⟩ = some (.string root) ∧ V.cell? ⟨w.heap.size, 6, none⟩ = some (.string pub) ∧ V.cell? ⟨w2.heap.size, 0, none⟩ = some (.int .i64 q) ∧ V.cell? ⟨w2.heap.size, 1, none⟩ = some (.int .i64 Q1) ∧ V.cell? ⟨w2.heap.size, 2, none⟩ = some (.int .i64 Q2) ∧ V.cell? ⟨w2.heap.size, 3, none⟩ = some (.int .i64 0)) (first | exact HS9.out _ hS1 | exact HS9.out _ (Below.refl w3.heap.size w3).drew) ((go_at_call 242; refine (HRB1.out gD _ (HTW.out.on HB4.out.drew) ((HB.out.trans (HB4.out.mono HB.out.size)).drew) HRW.out).mono ?_; rintro r w5 ⟨rfl, hb5⟩; have hS1 := heldB (Below.refl w3.heap.size w3).drew hb5 (Nat.le_refl _)))
      have HB5 := hide (heldB HB4.out hS1 (Nat.le_refl _))
      clear hS1 hb5
      go_wp2
      go_roundw
      case rel =>
        have R : ∃ q' : Nat, q' ≤ l ∧ Value.int .i64 ((q : Int) + 1) = .int .i64 q' ∧ Value.string mq' = .string (layS k b x e f t ch pub idx ps m0 q') ∧ Hid (Below W0.heap.size W0 w5) := ⟨q + 1, by omega, by go_num, by rw [HLQ.out], HB5.out⟩
        first | exact R | ((repeat apply Exists.intro); exact ⟨R, rfl⟩)
      case measure => simp [intOf]; omega
    · obtain rfl : q = l := by omega
      go_wp2
      go_ret
      exact ⟨rfl, HB.out.trans (hb.out.mono HB.out.size)⟩
end Go.Proofs.YtgaoeoijdpdjiabGreatDoor

namespace Go.Proofs.YtgaoeoijdpdjiabGreatDoor
open Go.RowKit

theorem mixL_cellsW {V : World} {g : Nat} {xs : List ByteArray} {T : TypeId} (h : Blk V g (mixL (xs.length + 5) (fun _ => spoiltS) (lentV xs) 0) T) : StrsAt V (some ⟨g, 0, none⟩) xs.length (xs.length + 5) xs := by
  refine .inr (.inr ⟨g, 0, rfl, rfl, by omega, h.lt, ?_⟩)
  intro j y hj
  have hl : j < xs.length := (List.getElem?_eq_some_iff.1 hj).1
  rw [Nat.zero_add, h.cell, mixL_get _ _ _ _ _ (by omega), if_neg (by omega)]
  unfold lentV
  rw [if_pos hl, List.getD_eq_getElem?_getD, hj]
  rfl

set_option maxRecDepth 20000 in
set_option maxHeartbeats 4000000 in
theorem joins_some (k b x t l idx : Int) (rnd : ByteArray) (bk o c : Nat) (xs : List ByteArray) (cv : ByteArray) (er : Int) (w : World) (hcells : ∀ (j : Nat) y, xs[j]? = some y → w.cell? ⟨bk, o + j, none⟩ = some (.string y)) (hbk : bk < w.heap.size) (hN : xs.length ≤ 8796093022208)
    (hC : ∀ (V : World) (g : Nat), StrsAt V (some ⟨g, 0, none⟩) xs.length (xs.length + 5) xs → Calls Tryz.prog 41 #[.agg #[.int .i64 k, .int .i64 b, .int .i64 x, .int .i64 t, .int .i64 l], .agg #[.int .i64 idx, .string rnd, .slice (some ⟨g, 0, none⟩) xs.length (xs.length + 5)]] V fun e w' => e = .returned (.tuple #[.string cv, .int .i64 er]) ∧ Below V.heap.size V w')
    (hR : ∀ V : World, Below w.heap.size w V → Calls Tryz.prog 42 #[.agg #[.int .i64 k, .int .i64 b, .int .i64 x, .int .i64 t, .int .i64 l], .agg #[.int .i64 idx, .string rnd, .slice (some ⟨bk, o, none⟩) xs.length c]] V fun e w' => e = .returned (.tuple #[.string cv, .int .i64 er]) ∧ Below V.heap.size V w') :
    Calls Tryz.prog 11 #[.agg #[.int .i64 k, .int .i64 b, .int .i64 x, .int .i64 t, .int .i64 l], .agg #[.int .i64 idx, .string rnd, .slice (some ⟨bk, o, none⟩) xs.length c]] w fun e w' => e = .returned (.bool true) ∧ Below w.heap.size w w' := by
  obtain ⟨W0, hW⟩ : ∃ W0, (w.alloc (.cells #[.int .i64 k, .int .i64 b, .int .i64 x, .int .i64 t, .int .i64 l] 26)).alloc (.cells #[.int .i64 idx, .string rnd, .slice (some ⟨bk, o, none⟩) xs.length c] 29) = W0 := ⟨_, rfl⟩
  have HK := hide (show Blk W0 w.heap.size [.int .i64 k, .int .i64 b, .int .i64 x, .int .i64 t, .int .i64 l] 26 by rw [← hW]; exact (Blk.new w _ _).alloc _)
  have HPA := hide (show Blk W0 (w.heap.size + 1) [.int .i64 idx, .string rnd, .slice (some ⟨bk, o, none⟩) xs.length c] 29 by
    rw [← hW]
    have h := Blk.new (w.alloc (.cells #[.int .i64 k, .int .i64 b, .int .i64 x, .int .i64 t, .int .i64 l] 26)) [.int .i64 idx, .string rnd, .slice (some ⟨bk, o, none⟩) xs.length c] 29
    simp only [World.size_alloc] at h
    exact h)
  have HB := hide (show Below w.heap.size w W0 by subst hW; exact ((Below.refl _ _).alloc (Nat.le_refl _) _).alloc (by simp) _)
  have HBU := hide (fun (V : World) (h : Below W0.heap.size W0 V) => HB.out.trans (h.mono HB.out.size))
  have HS := hide (fun (V : World) (h : Below W0.heap.size W0 V) => (by
    have q1 := HK.out.on h
    have q2 := HPA.out.on h
    exact ⟨q1.cell 0, q1.cell 1, q1.cell 2, q1.cell 3, q1.cell 4, q2.cell 0, q2.cell 1, q2.cell 2⟩ : V.cell? ⟨w.heap.size, 0, none⟩ = some (.int .i64 k) ∧ V.cell? ⟨w.heap.size, 1, none⟩ = some (.int .i64 b) ∧ V.cell? ⟨w.heap.size, 2, none⟩ = some (.int .i64 x) ∧ V.cell? ⟨w.heap.size, 3, none⟩ = some (.int .i64 t) ∧ V.cell? ⟨w.heap.size, 4, none⟩ = some (.int .i64 l) ∧ V.cell? ⟨w.heap.size + 1, 0, none⟩ = some (.int .i64 idx) ∧ V.cell? ⟨w.heap.size + 1, 1, none⟩ = some (.string rnd) ∧ V.cell? ⟨w.heap.size + 1, 2, none⟩ = some (.slice (some ⟨bk, o, none⟩) xs.length c)))
  obtain ⟨c0, c1, c2, c3, c4, d0, d1, d2⟩ := HS.out W0 (Below.refl _ _)
  have HC := hide hC
  have HR := hide hR
  clear hC hR
  have HCE := hide (fun (V : World) (h : Below W0.heap.size W0 V) (j : Nat) (y : ByteArray) (hj : xs[j]? = some y) => ((HBU.out V h).cell (p := ⟨bk, o + j, none⟩) hbk).trans (hcells j y hj))
  have HBK := hide (show bk < W0.heap.size from Nat.lt_of_lt_of_le hbk HB.out.size)
  have HN := hide hN
  clear hcells hbk hN
  have HWE := hide hW
  clear hW
  go_enter Tryz.func11, Tryz.ntmps11
  go_wp2_with fail
  rw [HWE.out]
  refine (lent_some bk o c xs W0 (HCE.out W0 (Below.refl _ _)) HBK.out HN.out).mono ?_
  rintro e w1 ⟨rfl, hbl, hb1⟩
  have HL1 := hide hbl
  clear hbl
  have HB1 := hide (heldB (Below.refl W0.heap.size W0) hb1 (Nat.le_refl _))
  clear hb1 c0 c1 c2 c3 c4 d0 d1 d2
  obtain ⟨c0, c1, c2, c3, c4, d0, d1, d2⟩ := HS.out w1 HB1.out
  go_wp2_with fail
  refine (HC.out w1 W0.heap.size (mixL_cellsW HL1.out)).mono ?_
  rintro e w2 ⟨rfl, hb2⟩
  have HB2 := hide (heldB HB1.out hb2 (Nat.le_refl _))
  have HBY := hide hb2
  clear hb2 c0 c1 c2 c3 c4 d0 d1 d2
  obtain ⟨c0, c1, c2, c3, c4, d0, d1, d2⟩ := HS.out w2 HB2.out
  go_wp2_with fail
  refine (HR.out _ (HBU.out _ HB2.out)).mono ?_
  rintro e w3 ⟨rfl, hb3⟩
  have HB3 := hide (heldB HB2.out hb3 (Nat.le_refl _))
  have HBX := hide (heldB HBY.out hb3 (Nat.le_refl _))
  clear hb3 c0 c1 c2 c3 c4 d0 d1 d2
  obtain ⟨c0, c1, c2, c3, c4, d0, d1, d2⟩ := HS.out w3 HB3.out
  have HL3 := hide (HL1.out.below HBX.out HL1.out.lt)
  go_wp2_with (first | (go_at_call 43; refine (whole_some W0.heap.size bk o c xs w3 (HCE.out w3 HB3.out) HBK.out HN.out HL3.out).mono ?_; rintro e w4 ⟨rfl, hb4⟩; have HB4 := hide (HB3.out.trans hb4)) | (go_at_call 38; refine (numW_any er _).mono ?_; rintro e w5 ⟨rfl, rfl⟩))
  go_ret
  exact ⟨rfl, HBU.out _ HB4.out⟩

set_option maxRecDepth 20000 in
set_option maxHeartbeats 4000000 in
theorem joins_emp (k b x t l idx : Int) (rnd : ByteArray) (a : Addr) (c : Nat) (xs : List ByteArray) (cv : ByteArray) (er : Int) (w : World) (hX : xs = [])
    (hC : ∀ (V : World) (g : Nat), StrsAt V (some ⟨g, 0, none⟩) xs.length (xs.length + 5) xs → Calls Tryz.prog 41 #[.agg #[.int .i64 k, .int .i64 b, .int .i64 x, .int .i64 t, .int .i64 l], .agg #[.int .i64 idx, .string rnd, .slice (some ⟨g, 0, none⟩) xs.length (xs.length + 5)]] V fun e w' => e = .returned (.tuple #[.string cv, .int .i64 er]) ∧ Below V.heap.size V w')
    (hR : ∀ V : World, Below w.heap.size w V → Calls Tryz.prog 42 #[.agg #[.int .i64 k, .int .i64 b, .int .i64 x, .int .i64 t, .int .i64 l], .agg #[.int .i64 idx, .string rnd, .slice (some a) xs.length c]] V fun e w' => e = .returned (.tuple #[.string cv, .int .i64 er]) ∧ Below V.heap.size V w') :
    Calls Tryz.prog 11 #[.agg #[.int .i64 k, .int .i64 b, .int .i64 x, .int .i64 t, .int .i64 l], .agg #[.int .i64 idx, .string rnd, .slice (some a) xs.length c]] w fun e w' => e = .returned (.bool true) ∧ Below w.heap.size w w' := by
  obtain ⟨W0, hW⟩ : ∃ W0, (w.alloc (.cells #[.int .i64 k, .int .i64 b, .int .i64 x, .int .i64 t, .int .i64 l] 26)).alloc (.cells #[.int .i64 idx, .string rnd, .slice (some a) xs.length c] 29) = W0 := ⟨_, rfl⟩
  have HK := hide (show Blk W0 w.heap.size [.int .i64 k, .int .i64 b, .int .i64 x, .int .i64 t, .int .i64 l] 26 by rw [← hW]; exact (Blk.new w _ _).alloc _)
  have HPA := hide (show Blk W0 (w.heap.size + 1) [.int .i64 idx, .string rnd, .slice (some a) xs.length c] 29 by
    rw [← hW]
    have h := Blk.new (w.alloc (.cells #[.int .i64 k, .int .i64 b, .int .i64 x, .int .i64 t, .int .i64 l] 26)) [.int .i64 idx, .string rnd, .slice (some a) xs.length c] 29
    simp only [World.size_alloc] at h
    exact h)
  have HB := hide (show Below w.heap.size w W0 by subst hW; exact ((Below.refl _ _).alloc (Nat.le_refl _) _).alloc (by simp) _)
  have HBU := hide (fun (V : World) (h : Below W0.heap.size W0 V) => HB.out.trans (h.mono HB.out.size))
  have HS := hide (fun (V : World) (h : Below W0.heap.size W0 V) => (by
    have q1 := HK.out.on h
    have q2 := HPA.out.on h
    exact ⟨q1.cell 0, q1.cell 1, q1.cell 2, q1.cell 3, q1.cell 4, q2.cell 0, q2.cell 1, q2.cell 2⟩ : V.cell? ⟨w.heap.size, 0, none⟩ = some (.int .i64 k) ∧ V.cell? ⟨w.heap.size, 1, none⟩ = some (.int .i64 b) ∧ V.cell? ⟨w.heap.size, 2, none⟩ = some (.int .i64 x) ∧ V.cell? ⟨w.heap.size, 3, none⟩ = some (.int .i64 t) ∧ V.cell? ⟨w.heap.size, 4, none⟩ = some (.int .i64 l) ∧ V.cell? ⟨w.heap.size + 1, 0, none⟩ = some (.int .i64 idx) ∧ V.cell? ⟨w.heap.size + 1, 1, none⟩ = some (.string rnd) ∧ V.cell? ⟨w.heap.size + 1, 2, none⟩ = some (.slice (some a) xs.length c)))
  obtain ⟨c0, c1, c2, c3, c4, d0, d1, d2⟩ := HS.out W0 (Below.refl _ _)
  have HC := hide hC
  have HR := hide hR
  clear hC hR
  have HX := hide hX
  have hXN : xs.length ≤ 0 := by rw [hX]; simp
  clear hX
  have HWE := hide hW
  clear hW
  go_enter Tryz.func11, Tryz.ntmps11
  go_wp2_with fail
  rw [HWE.out]
  refine (lent_emp a c xs W0 HX.out).mono ?_
  rintro e w1 ⟨rfl, hbl, hb1⟩
  have HL1 := hide hbl
  clear hbl
  have HB1 := hide (heldB (Below.refl W0.heap.size W0) hb1 (Nat.le_refl _))
  clear hb1 c0 c1 c2 c3 c4 d0 d1 d2
  obtain ⟨c0, c1, c2, c3, c4, d0, d1, d2⟩ := HS.out w1 HB1.out
  go_wp2_with fail
  refine (HC.out w1 W0.heap.size (mixL_cellsW HL1.out)).mono ?_
  rintro e w2 ⟨rfl, hb2⟩
  have HB2 := hide (heldB HB1.out hb2 (Nat.le_refl _))
  have HBY := hide hb2
  clear hb2 c0 c1 c2 c3 c4 d0 d1 d2
  obtain ⟨c0, c1, c2, c3, c4, d0, d1, d2⟩ := HS.out w2 HB2.out
  go_wp2_with fail
  refine (HR.out _ (HBU.out _ HB2.out)).mono ?_
  rintro e w3 ⟨rfl, hb3⟩
  have HB3 := hide (heldB HB2.out hb3 (Nat.le_refl _))
  have HBX := hide (heldB HBY.out hb3 (Nat.le_refl _))
  clear hb3 c0 c1 c2 c3 c4 d0 d1 d2
  obtain ⟨c0, c1, c2, c3, c4, d0, d1, d2⟩ := HS.out w3 HB3.out
  have HL3 := hide (HL1.out.below HBX.out HL1.out.lt)
  go_wp2_with (first | (go_at_call 43; refine (whole_emp W0.heap.size a c xs w3 HX.out HL3.out).mono ?_; rintro e w4 ⟨rfl, hb4⟩; have HB4 := hide (HB3.out.trans hb4)) | (go_at_call 38; refine (numW_any er _).mono ?_; rintro e w5 ⟨rfl, rfl⟩))
  go_ret
  exact ⟨rfl, HBU.out _ HB4.out⟩

set_option maxRecDepth 20000 in
set_option maxHeartbeats 4000000 in
theorem joins_nil (k b x t l idx : Int) (rnd : ByteArray) (cv : ByteArray) (er : Int) (w : World) 
    (hC : ∀ V : World, Calls Tryz.prog 41 #[.agg #[.int .i64 k, .int .i64 b, .int .i64 x, .int .i64 t, .int .i64 l], .agg #[.int .i64 idx, .string rnd, .slice none 0 0]] V fun e w' => e = .returned (.tuple #[.string cv, .int .i64 er]) ∧ Below V.heap.size V w')
    (hR : ∀ V : World, Below w.heap.size w V → Calls Tryz.prog 42 #[.agg #[.int .i64 k, .int .i64 b, .int .i64 x, .int .i64 t, .int .i64 l], .agg #[.int .i64 idx, .string rnd, .slice none 0 0]] V fun e w' => e = .returned (.tuple #[.string cv, .int .i64 er]) ∧ Below V.heap.size V w') :
    Calls Tryz.prog 11 #[.agg #[.int .i64 k, .int .i64 b, .int .i64 x, .int .i64 t, .int .i64 l], .agg #[.int .i64 idx, .string rnd, .slice none 0 0]] w fun e w' => e = .returned (.bool true) ∧ Below w.heap.size w w' := by
  obtain ⟨W0, hW⟩ : ∃ W0, (w.alloc (.cells #[.int .i64 k, .int .i64 b, .int .i64 x, .int .i64 t, .int .i64 l] 26)).alloc (.cells #[.int .i64 idx, .string rnd, .slice none 0 0] 29) = W0 := ⟨_, rfl⟩
  have HK := hide (show Blk W0 w.heap.size [.int .i64 k, .int .i64 b, .int .i64 x, .int .i64 t, .int .i64 l] 26 by rw [← hW]; exact (Blk.new w _ _).alloc _)
  have HPA := hide (show Blk W0 (w.heap.size + 1) [.int .i64 idx, .string rnd, .slice none 0 0] 29 by
    rw [← hW]
    have h := Blk.new (w.alloc (.cells #[.int .i64 k, .int .i64 b, .int .i64 x, .int .i64 t, .int .i64 l] 26)) [.int .i64 idx, .string rnd, .slice none 0 0] 29
    simp only [World.size_alloc] at h
    exact h)
  have HB := hide (show Below w.heap.size w W0 by subst hW; exact ((Below.refl _ _).alloc (Nat.le_refl _) _).alloc (by simp) _)
  have HBU := hide (fun (V : World) (h : Below W0.heap.size W0 V) => HB.out.trans (h.mono HB.out.size))
  have HS := hide (fun (V : World) (h : Below W0.heap.size W0 V) => (by
    have q1 := HK.out.on h
    have q2 := HPA.out.on h
    exact ⟨q1.cell 0, q1.cell 1, q1.cell 2, q1.cell 3, q1.cell 4, q2.cell 0, q2.cell 1, q2.cell 2⟩ : V.cell? ⟨w.heap.size, 0, none⟩ = some (.int .i64 k) ∧ V.cell? ⟨w.heap.size, 1, none⟩ = some (.int .i64 b) ∧ V.cell? ⟨w.heap.size, 2, none⟩ = some (.int .i64 x) ∧ V.cell? ⟨w.heap.size, 3, none⟩ = some (.int .i64 t) ∧ V.cell? ⟨w.heap.size, 4, none⟩ = some (.int .i64 l) ∧ V.cell? ⟨w.heap.size + 1, 0, none⟩ = some (.int .i64 idx) ∧ V.cell? ⟨w.heap.size + 1, 1, none⟩ = some (.string rnd) ∧ V.cell? ⟨w.heap.size + 1, 2, none⟩ = some (.slice none 0 0)))
  obtain ⟨c0, c1, c2, c3, c4, d0, d1, d2⟩ := HS.out W0 (Below.refl _ _)
  have HC := hide hC
  have HR := hide hR
  clear hC hR
  have HWE := hide hW
  clear hW
  go_enter Tryz.func11, Tryz.ntmps11
  go_wp2_with fail
  rw [HWE.out]
  refine (lent_nil _).mono ?_
  rintro e w1 ⟨rfl, hw1⟩
  obtain rfl := hw1.symm
  clear hw1
  go_wp2_with fail
  refine (HC.out _).mono ?_
  rintro e w2 ⟨rfl, hb2⟩
  have HB2 := hide (heldB (Below.refl W0.heap.size W0) hb2 (Nat.le_refl _))
  clear hb2 c0 c1 c2 c3 c4 d0 d1 d2
  obtain ⟨c0, c1, c2, c3, c4, d0, d1, d2⟩ := HS.out w2 HB2.out
  go_wp2_with fail
  refine (HR.out _ (HBU.out _ HB2.out)).mono ?_
  rintro e w3 ⟨rfl, hb3⟩
  have HB3 := hide (heldB HB2.out hb3 (Nat.le_refl _))
  clear hb3 c0 c1 c2 c3 c4 d0 d1 d2
  obtain ⟨c0, c1, c2, c3, c4, d0, d1, d2⟩ := HS.out w3 HB3.out
  go_wp2_with (first | (go_at_call 43; refine (whole_nil _).mono ?_; rintro e w4 ⟨rfl, rfl⟩; have HB4 := HB3) | (go_at_call 38; refine (numW_any er _).mono ?_; rintro e w5 ⟨rfl, rfl⟩))
  go_ret
  exact ⟨rfl, HBU.out _ HB4.out⟩

end Go.Proofs.YtgaoeoijdpdjiabGreatDoor
