/-
  The statement's turned: one call of a disk, of the program's and of the document's.
-/
import Derived.Test.YtgaoeoijdpdjiaaGreatDoorPart1
import Derived.Test.YtgaoeoijdpdjiaaGreatDoorPart24
namespace Go.Proofs.YtgaoeoijdpdjiaaGreatDoor
open Go.RowKit
theorem blkQ {w w' : World} {X : Nat → Prop} {b : Nat} {vs : List Value} {T : TypeId} (h : Blk w b vs T) (hk : Kept X w w') (hn : ¬ X b) : Blk w' b vs T := by
  unfold Blk
  rw [hk.block b h.lt hn]
  exact h
theorem blkN1 (w : World) (o : Obj) (vs : List Value) (T : TypeId) : Blk ((w.alloc o).alloc (.cells vs.toArray T)) (w.heap.size + 1) vs T := by
  have := Blk.new (w.alloc o) vs T
  rw [World.size_alloc] at this
  exact this
theorem numQ_any (x : Int) (w : World) : Calls Tryz.prog 27 #[.int .i64 x] w fun e w' => e = .returned (.int .i64 x) ∧ w' = w := by
  go_enter Tryz.func27, Tryz.ntmps27
  go_wp2
  go_ret
  exact ⟨rfl, rfl⟩
set_option maxRecDepth 20000 in
set_option maxHeartbeats 4000000 in
theorem turned_read (X R : Nat) (on a b : Int) (s t u : ByteArray) (l1 : Option Addr) (l2 l3 : Nat) (ka : Option Addr) (kn kc : Nat) (c0 c1 c2 c3 c4 : Int) (d0 d1 d2 : ByteArray) (p0 p1 p2 p3 : Int) (y : ByteArray) (c : Int) (Z : Nat → Prop) (Q1 Q2 : World → Prop) (w : World) (hXl : ∀ q, Z q → q < w.heap.size)
    (hX : ∀ V, Below w.heap.size w V → Calls Tryz.prog 120 #[.pointer (some ⟨X, 0, none⟩), .int .i64 a] V fun e w' => e = .returned (.tuple #[.string y, .int .i64 c]) ∧ Kept Z V w' ∧ Q1 w')
    (hR : ∀ V, Q1 V → Calls Tryz.prog 121 #[.pointer (some ⟨R, 0, none⟩), .int .i64 a] V fun e w' => e = .returned (.tuple #[.string y, .int .i64 c]) ∧ Kept Z V w' ∧ Q2 w') :
    Calls Tryz.prog 62 #[.agg #[.pointer (some ⟨X, 0, none⟩), .pointer (some ⟨R, 0, none⟩)], .agg #[.int .i64 31, .int .i64 on, .int .i64 a, .int .i64 b, .string s, .string t, .string u, .slice l1 l2 l3, .slice ka kn kc, .int .i64 c0, .int .i64 c1, .int .i64 c2, .int .i64 c3, .int .i64 c4, .string d0, .string d1, .string d2, .int .i64 p0, .int .i64 p1, .int .i64 p2, .int .i64 p3]] w fun e w' => e = .returned (.bool true) ∧ Q2 w' := by
  have HX := hide hX
  have HR := hide hR
  have HXL := hide hXl
  obtain ⟨W0, hW⟩ : ∃ W0, (w.alloc (.cells #[.pointer (some ⟨X, 0, none⟩), .pointer (some ⟨R, 0, none⟩)] 115)).alloc (.cells #[.int .i64 31, .int .i64 on, .int .i64 a, .int .i64 b, .string s, .string t, .string u, .slice l1 l2 l3, .slice ka kn kc, .int .i64 c0, .int .i64 c1, .int .i64 c2, .int .i64 c3, .int .i64 c4, .string d0, .string d1, .string d2, .int .i64 p0, .int .i64 p1, .int .i64 p2, .int .i64 p3] 77) = W0 := ⟨_, rfl⟩
  have HB := hide (show Below w.heap.size w W0 by subst hW; exact ((Below.refl _ _).alloc (Nat.le_refl _) _).alloc (by simp) _)
  have HP0 := hide (show Blk W0 w.heap.size [.pointer (some ⟨X, 0, none⟩), .pointer (some ⟨R, 0, none⟩)] 115 by rw [← hW]; exact (Blk.new w _ _).alloc _)
  have HO0 := hide (show Blk W0 (w.heap.size + 1) [.int .i64 31, .int .i64 on, .int .i64 a, .int .i64 b, .string s, .string t, .string u, .slice l1 l2 l3, .slice ka kn kc, .int .i64 c0, .int .i64 c1, .int .i64 c2, .int .i64 c3, .int .i64 c4, .string d0, .string d1, .string d2, .int .i64 p0, .int .i64 p1, .int .i64 p2, .int .i64 p3] 77 by rw [← hW]; exact blkN1 w _ _ _)
  have HWE := hide hW
  have ec : (c == c) = true := by simp
  have ey : (y.toList == y.toList) = true := by simp
  have pc0 : W0.cell? ⟨w.heap.size, 0, none⟩ = some (.pointer (some ⟨X, 0, none⟩)) := HP0.out.cell 0
  have oc0 : W0.cell? ⟨w.heap.size + 1, 0, none⟩ = some (.int .i64 31) := HO0.out.cell 0
  have oc2 : W0.cell? ⟨w.heap.size + 1, 2, none⟩ = some (.int .i64 a) := HO0.out.cell 2
  clear hW hX hR hXl
  go_enter Tryz.func62, Tryz.ntmps62
  go_wp2_with fail
  rw [HWE.out]
  refine (HX.out _ HB.out).mono ?_
  rintro e w1 ⟨rfl, hk1, hq1⟩
  have HP1 := hide (blkQ HP0.out hk1 (fun e => by have := HXL.out _ e; omega))
  have HO1 := hide (blkQ HO0.out hk1 (fun e => by have := HXL.out _ e; omega))
  have HQ1 := hide hq1
  clear hk1 hq1 pc0 oc0 oc2
  have pc1 : w1.cell? ⟨w.heap.size, 1, none⟩ = some (.pointer (some ⟨R, 0, none⟩)) := HP1.out.cell 1
  have oc2 : w1.cell? ⟨w.heap.size + 1, 2, none⟩ = some (.int .i64 a) := HO1.out.cell 2
  go_wp2_with fail
  refine (HR.out _ HQ1.out).mono ?_
  rintro e w2 ⟨rfl, hk2, hq2⟩
  have HQ2 := hide hq2
  clear hk2 hq2 pc1 oc2
  go_wp2_with fail
  refine (numQ_any c _).mono ?_
  rintro e w3 ⟨rfl, hw3⟩
  subst w3
  go_wp2
  go_ret
  exact ⟨by simp, HQ2.out⟩
set_option maxRecDepth 20000 in
set_option maxHeartbeats 4000000 in
theorem turned_write (X R : Nat) (on a b : Int) (s t u : ByteArray) (l1 : Option Addr) (l2 l3 : Nat) (ka : Option Addr) (kn kc : Nat) (c0 c1 c2 c3 c4 : Int) (d0 d1 d2 : ByteArray) (p0 p1 p2 p3 : Int) (c : Int) (Z : Nat → Prop) (Q1 Q2 : World → Prop) (w : World) (hXl : ∀ q, Z q → q < w.heap.size)
    (hX : ∀ V, Below w.heap.size w V → Calls Tryz.prog 122 #[.pointer (some ⟨X, 0, none⟩), .int .i64 a, .string s] V fun e w' => e = .returned (.int .i64 c) ∧ Kept Z V w' ∧ Q1 w')
    (hR : ∀ V, Q1 V → Calls Tryz.prog 123 #[.pointer (some ⟨R, 0, none⟩), .int .i64 a, .string s] V fun e w' => e = .returned (.int .i64 c) ∧ Kept Z V w' ∧ Q2 w') :
    Calls Tryz.prog 62 #[.agg #[.pointer (some ⟨X, 0, none⟩), .pointer (some ⟨R, 0, none⟩)], .agg #[.int .i64 32, .int .i64 on, .int .i64 a, .int .i64 b, .string s, .string t, .string u, .slice l1 l2 l3, .slice ka kn kc, .int .i64 c0, .int .i64 c1, .int .i64 c2, .int .i64 c3, .int .i64 c4, .string d0, .string d1, .string d2, .int .i64 p0, .int .i64 p1, .int .i64 p2, .int .i64 p3]] w fun e w' => e = .returned (.bool true) ∧ Q2 w' := by
  have HX := hide hX
  have HR := hide hR
  have HXL := hide hXl
  obtain ⟨W0, hW⟩ : ∃ W0, (w.alloc (.cells #[.pointer (some ⟨X, 0, none⟩), .pointer (some ⟨R, 0, none⟩)] 115)).alloc (.cells #[.int .i64 32, .int .i64 on, .int .i64 a, .int .i64 b, .string s, .string t, .string u, .slice l1 l2 l3, .slice ka kn kc, .int .i64 c0, .int .i64 c1, .int .i64 c2, .int .i64 c3, .int .i64 c4, .string d0, .string d1, .string d2, .int .i64 p0, .int .i64 p1, .int .i64 p2, .int .i64 p3] 77) = W0 := ⟨_, rfl⟩
  have HB := hide (show Below w.heap.size w W0 by subst hW; exact ((Below.refl _ _).alloc (Nat.le_refl _) _).alloc (by simp) _)
  have HP0 := hide (show Blk W0 w.heap.size [.pointer (some ⟨X, 0, none⟩), .pointer (some ⟨R, 0, none⟩)] 115 by rw [← hW]; exact (Blk.new w _ _).alloc _)
  have HO0 := hide (show Blk W0 (w.heap.size + 1) [.int .i64 32, .int .i64 on, .int .i64 a, .int .i64 b, .string s, .string t, .string u, .slice l1 l2 l3, .slice ka kn kc, .int .i64 c0, .int .i64 c1, .int .i64 c2, .int .i64 c3, .int .i64 c4, .string d0, .string d1, .string d2, .int .i64 p0, .int .i64 p1, .int .i64 p2, .int .i64 p3] 77 by rw [← hW]; exact blkN1 w _ _ _)
  have HWE := hide hW
  have ec : (c == c) = true := by simp
  have pc0 : W0.cell? ⟨w.heap.size, 0, none⟩ = some (.pointer (some ⟨X, 0, none⟩)) := HP0.out.cell 0
  have oc0 : W0.cell? ⟨w.heap.size + 1, 0, none⟩ = some (.int .i64 32) := HO0.out.cell 0
  have oc2 : W0.cell? ⟨w.heap.size + 1, 2, none⟩ = some (.int .i64 a) := HO0.out.cell 2
  have oc4 : W0.cell? ⟨w.heap.size + 1, 4, none⟩ = some (.string s) := HO0.out.cell 4
  clear hW hX hR hXl
  go_enter Tryz.func62, Tryz.ntmps62
  go_wp2_with fail
  rw [HWE.out]
  refine (HX.out _ HB.out).mono ?_
  rintro e w1 ⟨rfl, hk1, hq1⟩
  have HP1 := hide (blkQ HP0.out hk1 (fun e => by have := HXL.out _ e; omega))
  have HO1 := hide (blkQ HO0.out hk1 (fun e => by have := HXL.out _ e; omega))
  have HQ1 := hide hq1
  clear hk1 hq1 pc0 oc0 oc2 oc4
  have pc1 : w1.cell? ⟨w.heap.size, 1, none⟩ = some (.pointer (some ⟨R, 0, none⟩)) := HP1.out.cell 1
  have oc2 : w1.cell? ⟨w.heap.size + 1, 2, none⟩ = some (.int .i64 a) := HO1.out.cell 2
  have oc4 : w1.cell? ⟨w.heap.size + 1, 4, none⟩ = some (.string s) := HO1.out.cell 4
  go_wp2_with fail
  refine (HR.out _ HQ1.out).mono ?_
  rintro e w2 ⟨rfl, hk2, hq2⟩
  have HQ2 := hide hq2
  clear hk2 hq2 pc1 oc2 oc4
  go_wp2_with fail
  refine (numQ_any c _).mono ?_
  rintro e w3 ⟨rfl, hw3⟩
  subst w3
  go_wp2
  go_ret
  exact ⟨by simp, HQ2.out⟩
set_option maxRecDepth 20000 in
set_option maxHeartbeats 4000000 in
theorem turned_sync (X R : Nat) (on a b : Int) (s t u : ByteArray) (l1 : Option Addr) (l2 l3 : Nat) (ka : Option Addr) (kn kc : Nat) (c0 c1 c2 c3 c4 : Int) (d0 d1 d2 : ByteArray) (p0 p1 p2 p3 : Int) (c : Int) (Z : Nat → Prop) (Q1 Q2 : World → Prop) (w : World) (hXl : ∀ q, Z q → q < w.heap.size)
    (hX : ∀ V, Below w.heap.size w V → Calls Tryz.prog 124 #[.pointer (some ⟨X, 0, none⟩)] V fun e w' => e = .returned (.int .i64 c) ∧ Kept Z V w' ∧ Q1 w')
    (hR : ∀ V, Q1 V → Calls Tryz.prog 125 #[.pointer (some ⟨R, 0, none⟩)] V fun e w' => e = .returned (.int .i64 c) ∧ Kept Z V w' ∧ Q2 w') :
    Calls Tryz.prog 62 #[.agg #[.pointer (some ⟨X, 0, none⟩), .pointer (some ⟨R, 0, none⟩)], .agg #[.int .i64 33, .int .i64 on, .int .i64 a, .int .i64 b, .string s, .string t, .string u, .slice l1 l2 l3, .slice ka kn kc, .int .i64 c0, .int .i64 c1, .int .i64 c2, .int .i64 c3, .int .i64 c4, .string d0, .string d1, .string d2, .int .i64 p0, .int .i64 p1, .int .i64 p2, .int .i64 p3]] w fun e w' => e = .returned (.bool true) ∧ Q2 w' := by
  have HX := hide hX
  have HR := hide hR
  have HXL := hide hXl
  obtain ⟨W0, hW⟩ : ∃ W0, (w.alloc (.cells #[.pointer (some ⟨X, 0, none⟩), .pointer (some ⟨R, 0, none⟩)] 115)).alloc (.cells #[.int .i64 33, .int .i64 on, .int .i64 a, .int .i64 b, .string s, .string t, .string u, .slice l1 l2 l3, .slice ka kn kc, .int .i64 c0, .int .i64 c1, .int .i64 c2, .int .i64 c3, .int .i64 c4, .string d0, .string d1, .string d2, .int .i64 p0, .int .i64 p1, .int .i64 p2, .int .i64 p3] 77) = W0 := ⟨_, rfl⟩
  have HB := hide (show Below w.heap.size w W0 by subst hW; exact ((Below.refl _ _).alloc (Nat.le_refl _) _).alloc (by simp) _)
  have HP0 := hide (show Blk W0 w.heap.size [.pointer (some ⟨X, 0, none⟩), .pointer (some ⟨R, 0, none⟩)] 115 by rw [← hW]; exact (Blk.new w _ _).alloc _)
  have HO0 := hide (show Blk W0 (w.heap.size + 1) [.int .i64 33, .int .i64 on, .int .i64 a, .int .i64 b, .string s, .string t, .string u, .slice l1 l2 l3, .slice ka kn kc, .int .i64 c0, .int .i64 c1, .int .i64 c2, .int .i64 c3, .int .i64 c4, .string d0, .string d1, .string d2, .int .i64 p0, .int .i64 p1, .int .i64 p2, .int .i64 p3] 77 by rw [← hW]; exact blkN1 w _ _ _)
  have HWE := hide hW
  have ec : (c == c) = true := by simp
  have pc0 : W0.cell? ⟨w.heap.size, 0, none⟩ = some (.pointer (some ⟨X, 0, none⟩)) := HP0.out.cell 0
  have oc0 : W0.cell? ⟨w.heap.size + 1, 0, none⟩ = some (.int .i64 33) := HO0.out.cell 0
  clear hW hX hR hXl
  go_enter Tryz.func62, Tryz.ntmps62
  go_wp2_with fail
  rw [HWE.out]
  refine (HX.out _ HB.out).mono ?_
  rintro e w1 ⟨rfl, hk1, hq1⟩
  have HP1 := hide (blkQ HP0.out hk1 (fun e => by have := HXL.out _ e; omega))
  have HO1 := hide (blkQ HO0.out hk1 (fun e => by have := HXL.out _ e; omega))
  have HQ1 := hide hq1
  clear hk1 hq1 pc0 oc0
  have pc1 : w1.cell? ⟨w.heap.size, 1, none⟩ = some (.pointer (some ⟨R, 0, none⟩)) := HP1.out.cell 1
  go_wp2_with fail
  refine (HR.out _ HQ1.out).mono ?_
  rintro e w2 ⟨rfl, hk2, hq2⟩
  have HQ2 := hide hq2
  clear hk2 hq2 pc1
  go_wp2_with fail
  refine (numQ_any c _).mono ?_
  rintro e w3 ⟨rfl, hw3⟩
  subst w3
  go_wp2
  go_ret
  exact ⟨by simp, HQ2.out⟩
set_option maxRecDepth 20000 in
set_option maxHeartbeats 4000000 in
theorem turned_trouble (X R : Nat) (on a b : Int) (s t u : ByteArray) (l1 : Option Addr) (l2 l3 : Nat) (ka : Option Addr) (kn kc : Nat) (c0 c1 c2 c3 c4 : Int) (d0 d1 d2 : ByteArray) (p0 p1 p2 p3 : Int) (c : Int) (Z : Nat → Prop) (Q1 Q2 : World → Prop) (w : World) (hXl : ∀ q, Z q → q < w.heap.size)
    (hX : ∀ V, Below w.heap.size w V → Calls Tryz.prog 126 #[.pointer (some ⟨X, 0, none⟩), .int .i64 a] V fun e w' => e = .returned (.int .i64 c) ∧ Kept Z V w' ∧ Q1 w')
    (hR : ∀ V, Q1 V → Calls Tryz.prog 127 #[.pointer (some ⟨R, 0, none⟩), .int .i64 a] V fun e w' => e = .returned (.int .i64 c) ∧ Kept Z V w' ∧ Q2 w') :
    Calls Tryz.prog 62 #[.agg #[.pointer (some ⟨X, 0, none⟩), .pointer (some ⟨R, 0, none⟩)], .agg #[.int .i64 34, .int .i64 on, .int .i64 a, .int .i64 b, .string s, .string t, .string u, .slice l1 l2 l3, .slice ka kn kc, .int .i64 c0, .int .i64 c1, .int .i64 c2, .int .i64 c3, .int .i64 c4, .string d0, .string d1, .string d2, .int .i64 p0, .int .i64 p1, .int .i64 p2, .int .i64 p3]] w fun e w' => e = .returned (.bool true) ∧ Q2 w' := by
  have HX := hide hX
  have HR := hide hR
  have HXL := hide hXl
  obtain ⟨W0, hW⟩ : ∃ W0, (w.alloc (.cells #[.pointer (some ⟨X, 0, none⟩), .pointer (some ⟨R, 0, none⟩)] 115)).alloc (.cells #[.int .i64 34, .int .i64 on, .int .i64 a, .int .i64 b, .string s, .string t, .string u, .slice l1 l2 l3, .slice ka kn kc, .int .i64 c0, .int .i64 c1, .int .i64 c2, .int .i64 c3, .int .i64 c4, .string d0, .string d1, .string d2, .int .i64 p0, .int .i64 p1, .int .i64 p2, .int .i64 p3] 77) = W0 := ⟨_, rfl⟩
  have HB := hide (show Below w.heap.size w W0 by subst hW; exact ((Below.refl _ _).alloc (Nat.le_refl _) _).alloc (by simp) _)
  have HP0 := hide (show Blk W0 w.heap.size [.pointer (some ⟨X, 0, none⟩), .pointer (some ⟨R, 0, none⟩)] 115 by rw [← hW]; exact (Blk.new w _ _).alloc _)
  have HO0 := hide (show Blk W0 (w.heap.size + 1) [.int .i64 34, .int .i64 on, .int .i64 a, .int .i64 b, .string s, .string t, .string u, .slice l1 l2 l3, .slice ka kn kc, .int .i64 c0, .int .i64 c1, .int .i64 c2, .int .i64 c3, .int .i64 c4, .string d0, .string d1, .string d2, .int .i64 p0, .int .i64 p1, .int .i64 p2, .int .i64 p3] 77 by rw [← hW]; exact blkN1 w _ _ _)
  have HWE := hide hW
  have ec : (c == c) = true := by simp
  have pc0 : W0.cell? ⟨w.heap.size, 0, none⟩ = some (.pointer (some ⟨X, 0, none⟩)) := HP0.out.cell 0
  have oc0 : W0.cell? ⟨w.heap.size + 1, 0, none⟩ = some (.int .i64 34) := HO0.out.cell 0
  have oc2 : W0.cell? ⟨w.heap.size + 1, 2, none⟩ = some (.int .i64 a) := HO0.out.cell 2
  clear hW hX hR hXl
  go_enter Tryz.func62, Tryz.ntmps62
  go_wp2_with fail
  rw [HWE.out]
  refine (HX.out _ HB.out).mono ?_
  rintro e w1 ⟨rfl, hk1, hq1⟩
  have HP1 := hide (blkQ HP0.out hk1 (fun e => by have := HXL.out _ e; omega))
  have HO1 := hide (blkQ HO0.out hk1 (fun e => by have := HXL.out _ e; omega))
  have HQ1 := hide hq1
  clear hk1 hq1 pc0 oc0 oc2
  have pc1 : w1.cell? ⟨w.heap.size, 1, none⟩ = some (.pointer (some ⟨R, 0, none⟩)) := HP1.out.cell 1
  have oc2 : w1.cell? ⟨w.heap.size + 1, 2, none⟩ = some (.int .i64 a) := HO1.out.cell 2
  go_wp2_with fail
  refine (HR.out _ HQ1.out).mono ?_
  rintro e w2 ⟨rfl, hk2, hq2⟩
  have HQ2 := hide hq2
  clear hk2 hq2 pc1 oc2
  go_wp2_with fail
  refine (numQ_any c _).mono ?_
  rintro e w3 ⟨rfl, hw3⟩
  subst w3
  go_wp2
  go_ret
  exact ⟨by simp, HQ2.out⟩
set_option maxRecDepth 20000 in
set_option maxHeartbeats 4000000 in
theorem turned_crash (X R : Nat) (on a b : Int) (s t u : ByteArray) (l1 : Option Addr) (l2 l3 : Nat) (ka : Option Addr) (kn kc : Nat) (c0 c1 c2 c3 c4 : Int) (d0 d1 d2 : ByteArray) (p0 p1 p2 p3 : Int) (lv : Value) (Q0 Q3 : World → Prop) (Z : Nat → Prop) (Q1 Q2 : World → Prop) (w : World) (hXl : ∀ q, Z q → q < w.heap.size)
    (hL : ∀ V, Below w.heap.size w V → V.heap.size = w.heap.size + 2 → Calls Tryz.prog 128 #[.slice ka kn kc] V fun e w' => e = .returned lv ∧ Below V.heap.size V w' ∧ Q0 w')
    (hX : ∀ V, Q0 V → Calls Tryz.prog 129 #[.pointer (some ⟨X, 0, none⟩), lv] V fun e w' => e = .returned (.tuple #[]) ∧ Kept Z V w' ∧ Q1 w')
    (hR : ∀ V, Q1 V → Calls Tryz.prog 130 #[.pointer (some ⟨R, 0, none⟩), .slice ka kn kc] V fun e w' => e = .returned (.tuple #[]) ∧ Kept Z V w' ∧ Q2 w')
    (hE : ∀ V, Q2 V → Calls Tryz.prog 131 #[lv, .slice ka kn kc] V fun e w' => e = .returned (.bool true) ∧ Q3 w') :
    Calls Tryz.prog 62 #[.agg #[.pointer (some ⟨X, 0, none⟩), .pointer (some ⟨R, 0, none⟩)], .agg #[.int .i64 35, .int .i64 on, .int .i64 a, .int .i64 b, .string s, .string t, .string u, .slice l1 l2 l3, .slice ka kn kc, .int .i64 c0, .int .i64 c1, .int .i64 c2, .int .i64 c3, .int .i64 c4, .string d0, .string d1, .string d2, .int .i64 p0, .int .i64 p1, .int .i64 p2, .int .i64 p3]] w fun e w' => e = .returned (.bool true) ∧ Q3 w' := by
  have HX := hide hX
  have HR := hide hR
  have HXL := hide hXl
  obtain ⟨W0, hW⟩ : ∃ W0, (w.alloc (.cells #[.pointer (some ⟨X, 0, none⟩), .pointer (some ⟨R, 0, none⟩)] 115)).alloc (.cells #[.int .i64 35, .int .i64 on, .int .i64 a, .int .i64 b, .string s, .string t, .string u, .slice l1 l2 l3, .slice ka kn kc, .int .i64 c0, .int .i64 c1, .int .i64 c2, .int .i64 c3, .int .i64 c4, .string d0, .string d1, .string d2, .int .i64 p0, .int .i64 p1, .int .i64 p2, .int .i64 p3] 77) = W0 := ⟨_, rfl⟩
  have HB := hide (show Below w.heap.size w W0 by subst hW; exact ((Below.refl _ _).alloc (Nat.le_refl _) _).alloc (by simp) _)
  have HP0 := hide (show Blk W0 w.heap.size [.pointer (some ⟨X, 0, none⟩), .pointer (some ⟨R, 0, none⟩)] 115 by rw [← hW]; exact (Blk.new w _ _).alloc _)
  have HO0 := hide (show Blk W0 (w.heap.size + 1) [.int .i64 35, .int .i64 on, .int .i64 a, .int .i64 b, .string s, .string t, .string u, .slice l1 l2 l3, .slice ka kn kc, .int .i64 c0, .int .i64 c1, .int .i64 c2, .int .i64 c3, .int .i64 c4, .string d0, .string d1, .string d2, .int .i64 p0, .int .i64 p1, .int .i64 p2, .int .i64 p3] 77 by rw [← hW]; exact blkN1 w _ _ _)
  have HWE := hide hW
  have HL := hide hL
  have HE := hide hE
  have HSZ := hide (show W0.heap.size = w.heap.size + 2 by rw [← hW]; simp)
  have oc0 : W0.cell? ⟨w.heap.size + 1, 0, none⟩ = some (.int .i64 35) := HO0.out.cell 0
  have oc8 : W0.cell? ⟨w.heap.size + 1, 8, none⟩ = some (.slice ka kn kc) := HO0.out.cell 8
  clear hW hX hR hXl hL hE
  go_enter Tryz.func62, Tryz.ntmps62
  go_wp2_with fail
  rw [HWE.out]
  refine (HL.out _ HB.out HSZ.out).mono ?_
  rintro e w1 ⟨rfl, hb1, hq1⟩
  have HP1 := hide (HP0.out.on hb1)
  have HO1 := hide (HO0.out.on hb1)
  have HQ0 := hide hq1
  clear hb1 hq1 oc0 oc8
  have pc0 : w1.cell? ⟨w.heap.size, 0, none⟩ = some (.pointer (some ⟨X, 0, none⟩)) := HP1.out.cell 0
  go_wp2_with fail
  refine (HX.out _ HQ0.out).mono ?_
  rintro e w2 ⟨rfl, hk2, hq2⟩
  have HP2 := hide (blkQ HP1.out hk2 (fun e => by have := HXL.out _ e; omega))
  have HO2 := hide (blkQ HO1.out hk2 (fun e => by have := HXL.out _ e; omega))
  have HQ1 := hide hq2
  clear hk2 hq2 pc0
  have pc1 : w2.cell? ⟨w.heap.size, 1, none⟩ = some (.pointer (some ⟨R, 0, none⟩)) := HP2.out.cell 1
  have oc8 : w2.cell? ⟨w.heap.size + 1, 8, none⟩ = some (.slice ka kn kc) := HO2.out.cell 8
  go_wp2_with fail
  refine (HR.out _ HQ1.out).mono ?_
  rintro e w3 ⟨rfl, hk3, hq3⟩
  have HP3 := hide (blkQ HP2.out hk3 (fun e => by have := HXL.out _ e; omega))
  have HO3 := hide (blkQ HO2.out hk3 (fun e => by have := HXL.out _ e; omega))
  have HQ2 := hide hq3
  clear hk3 hq3 pc1 oc8
  have oc8 : w3.cell? ⟨w.heap.size + 1, 8, none⟩ = some (.slice ka kn kc) := HO3.out.cell 8
  go_wp2_with fail
  refine (HE.out _ HQ2.out).mono ?_
  rintro e w4 ⟨rfl, hq4⟩
  have HQ3 := hide hq4
  clear hq4 oc8
  go_wp2
  go_ret
  exact ⟨rfl, HQ3.out⟩
set_option maxRecDepth 20000 in
set_option maxHeartbeats 4000000 in
theorem turned_count (X R : Nat) (on a b : Int) (s t u : ByteArray) (l1 : Option Addr) (l2 l3 : Nat) (ka : Option Addr) (kn kc : Nat) (c0 c1 c2 c3 c4 : Int) (d0 d1 d2 : ByteArray) (p0 p1 p2 p3 : Int) (n1 n2 n3 : Int) (Z : Nat → Prop) (_Q1 _Q2 : World → Prop) (w : World) (hXl : ∀ q, Z q → q < w.heap.size)
    (hX : ∀ V, Below w.heap.size w V → Calls Tryz.prog 132 #[.pointer (some ⟨X, 0, none⟩)] V fun e w' => e = .returned (.agg #[.int .i64 n1, .int .i64 n2, .int .i64 n3]) ∧ Below V.heap.size V w')
    (hR : ∀ V, Below w.heap.size w V → Calls Tryz.prog 133 #[.pointer (some ⟨R, 0, none⟩)] V fun e w' => e = .returned (.agg #[.int .i64 n1, .int .i64 n2, .int .i64 n3]) ∧ Below V.heap.size V w') :
    Calls Tryz.prog 62 #[.agg #[.pointer (some ⟨X, 0, none⟩), .pointer (some ⟨R, 0, none⟩)], .agg #[.int .i64 36, .int .i64 on, .int .i64 a, .int .i64 b, .string s, .string t, .string u, .slice l1 l2 l3, .slice ka kn kc, .int .i64 c0, .int .i64 c1, .int .i64 c2, .int .i64 c3, .int .i64 c4, .string d0, .string d1, .string d2, .int .i64 p0, .int .i64 p1, .int .i64 p2, .int .i64 p3]] w fun e w' => e = .returned (.bool true) ∧ Below w.heap.size w w' := by
  have HX := hide hX
  have HR := hide hR
  have HXL := hide hXl
  obtain ⟨W0, hW⟩ : ∃ W0, (w.alloc (.cells #[.pointer (some ⟨X, 0, none⟩), .pointer (some ⟨R, 0, none⟩)] 115)).alloc (.cells #[.int .i64 36, .int .i64 on, .int .i64 a, .int .i64 b, .string s, .string t, .string u, .slice l1 l2 l3, .slice ka kn kc, .int .i64 c0, .int .i64 c1, .int .i64 c2, .int .i64 c3, .int .i64 c4, .string d0, .string d1, .string d2, .int .i64 p0, .int .i64 p1, .int .i64 p2, .int .i64 p3] 77) = W0 := ⟨_, rfl⟩
  have HB := hide (show Below w.heap.size w W0 by subst hW; exact ((Below.refl _ _).alloc (Nat.le_refl _) _).alloc (by simp) _)
  have HP0 := hide (show Blk W0 w.heap.size [.pointer (some ⟨X, 0, none⟩), .pointer (some ⟨R, 0, none⟩)] 115 by rw [← hW]; exact (Blk.new w _ _).alloc _)
  have HO0 := hide (show Blk W0 (w.heap.size + 1) [.int .i64 36, .int .i64 on, .int .i64 a, .int .i64 b, .string s, .string t, .string u, .slice l1 l2 l3, .slice ka kn kc, .int .i64 c0, .int .i64 c1, .int .i64 c2, .int .i64 c3, .int .i64 c4, .string d0, .string d1, .string d2, .int .i64 p0, .int .i64 p1, .int .i64 p2, .int .i64 p3] 77 by rw [← hW]; exact blkN1 w _ _ _)
  have HWE := hide hW
  have pc0 : W0.cell? ⟨w.heap.size, 0, none⟩ = some (.pointer (some ⟨X, 0, none⟩)) := HP0.out.cell 0
  have oc0 : W0.cell? ⟨w.heap.size + 1, 0, none⟩ = some (.int .i64 36) := HO0.out.cell 0
  clear hW hX hR hXl
  go_enter Tryz.func62, Tryz.ntmps62
  go_wp2_with fail
  rw [HWE.out]
  refine (HX.out _ HB.out).mono ?_
  rintro e w1 ⟨rfl, hb1⟩
  have HB1 := hide (HB.out.trans (hb1.mono HB.out.size))
  have HP1 := hide (HP0.out.on hb1)
  obtain ⟨W1, hW1⟩ : ∃ W1, w1.alloc (.cells #[.int .i64 n1, .int .i64 n2, .int .i64 n3] 189) = W1 := ⟨_, rfl⟩
  have HBW := hide (show Below w1.heap.size w1 W1 by rw [← hW1]; exact (Below.refl _ _).alloc (Nat.le_refl _) _)
  have HN1 := hide (show Blk W1 w1.heap.size [.int .i64 n1, .int .i64 n2, .int .i64 n3] 189 by rw [← hW1]; exact Blk.new _ _ _)
  have HB2 := hide (HB1.out.trans (HBW.out.mono HB1.out.size))
  have HP2 := hide (HP1.out.on HBW.out)
  have nl := HP1.out.lt
  have pc1 : ∀ o, (w1.alloc o).cell? ⟨w.heap.size, 1, none⟩ = some (.pointer (some ⟨R, 0, none⟩)) := fun o => (World.cell?_alloc_lt _ _ _ nl).trans (HP1.out.cell 1)
  have HWE1 := hide hW1
  clear hb1 hW1 pc0 oc0 nl
  go_wp2_with fail
  rw [HWE1.out]
  refine (HR.out _ HB2.out).mono ?_
  rintro e w2 ⟨rfl, hb2⟩
  have HB3 := hide (HB2.out.trans (hb2.mono HB2.out.size))
  have HN2 := hide (HN1.out.on hb2)
  have n0 := HN2.out.lt
  have e0 : ∀ o, (w2.alloc o).cell? ⟨w1.heap.size, 0, none⟩ = some (.int .i64 n1) := fun o => (World.cell?_alloc_lt _ _ _ n0).trans (HN2.out.cell 0)
  have e1 : ∀ o, (w2.alloc o).cell? ⟨w1.heap.size, 1, none⟩ = some (.int .i64 n2) := fun o => (World.cell?_alloc_lt _ _ _ n0).trans (HN2.out.cell 1)
  have e2 : ∀ o, (w2.alloc o).cell? ⟨w1.heap.size, 2, none⟩ = some (.int .i64 n3) := fun o => (World.cell?_alloc_lt _ _ _ n0).trans (HN2.out.cell 2)
  clear hb2 pc1 n0
  go_wp2
  go_ret
  exact ⟨by simp, HB3.out.alloc HB3.out.size _⟩
end Go.Proofs.YtgaoeoijdpdjiaaGreatDoor
