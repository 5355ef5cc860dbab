/-
  The program's keys.In: the key that stands in a text. The program's Leaf. The place of a tree. Small facts about sets, seeds, places. The pieces of a text.
-/
import Derived.Test.YtgaoeoijdpdjiabGreatDoorPart3
import Derived.Test.YtgaoeoijdpdjiabGreatDoorPart16
import Derived.Test.YtgaoeoijdpdjiabGreatDoorPart14
import Derived.Test.YtgaoeoijdpdjiabGreatDoorPart2
namespace Go.Proofs.YtgaoeoijdpdjiabGreatDoor
open Go.RowKit

theorem idxV (s : ByteArray) (i : Nat) (h : i < s.size) (w : World) : (Instr.index 9 (.string s) (.int .i64 (i : Int))).run Tryz.prog w = .ok (.int .u8 ((byt s i : Nat) : Int)) w := by
  have e1 : (i : Int) < (s.size : Int) := by omega
  have e2 : (0 : Int) ≤ (i : Int) := by omega
  have e3 : byt s i = (s[i]'h).toNat := byte_eq s i h
  rw [e3]
  simp [go_sem, e1, e2]

set_option maxRecDepth 20000 in
set_option maxHeartbeats 4000000 in
theorem setIn_any (s : ByteArray) (w : World) (h : 5 ≤ s.size) :
    Calls Tryz.prog 238 #[.string s] w fun e w' => e = .returned (.agg #[.int .i64 ((byt s 0 : Nat) : Int), .int .i64 ((byt s 1 : Nat) : Int), .int .i64 ((byt s 2 : Nat) : Int), .int .i64 ((byt s 3 : Nat) : Int), .int .i64 ((byt s 4 : Nat) : Int)]) ∧ Below w.heap.size w w' := by
  have i0 : ∀ wx : World, (Instr.index 9 (.string s) (.int .i64 0)).run Tryz.prog wx = .ok (.int .u8 ((byt s 0 : Nat) : Int)) wx := idxV s 0 (by omega)
  have i1 : ∀ wx : World, (Instr.index 9 (.string s) (.int .i64 1)).run Tryz.prog wx = .ok (.int .u8 ((byt s 1 : Nat) : Int)) wx := idxV s 1 (by omega)
  have i2 : ∀ wx : World, (Instr.index 9 (.string s) (.int .i64 2)).run Tryz.prog wx = .ok (.int .u8 ((byt s 2 : Nat) : Int)) wx := idxV s 2 (by omega)
  have i3 : ∀ wx : World, (Instr.index 9 (.string s) (.int .i64 3)).run Tryz.prog wx = .ok (.int .u8 ((byt s 3 : Nat) : Int)) wx := idxV s 3 (by omega)
  have i4 : ∀ wx : World, (Instr.index 9 (.string s) (.int .i64 4)).run Tryz.prog wx = .ok (.int .u8 ((byt s 4 : Nat) : Int)) wx := idxV s 4 (by omega)
  have b0 := byt_lt s 0
  have b1 := byt_lt s 1
  have b2 := byt_lt s 2
  have b3 := byt_lt s 3
  have b4 := byt_lt s 4
  generalize byt s 0 = B0 at *
  generalize byt s 1 = B1 at *
  generalize byt s 2 = B2 at *
  generalize byt s 3 = B3 at *
  generalize byt s 4 = B4 at *
  have v0 : IntKind.i64.wrap (B0 : Int) = (B0 : Int) := by rw [IntKind.wrap_i64] <;> omega
  have v1 : IntKind.i64.wrap (B1 : Int) = (B1 : Int) := by rw [IntKind.wrap_i64] <;> omega
  have v2 : IntKind.i64.wrap (B2 : Int) = (B2 : Int) := by rw [IntKind.wrap_i64] <;> omega
  have v3 : IntKind.i64.wrap (B3 : Int) = (B3 : Int) := by rw [IntKind.wrap_i64] <;> omega
  have v4 : IntKind.i64.wrap (B4 : Int) = (B4 : Int) := by rw [IntKind.wrap_i64] <;> omega
  clear b0 b1 b2 b3 b4 h
  go_enter Tryz.func238, Tryz.ntmps238
  go_wp2_with fail
  go_region
  go_wp2
  refine bodyPost_ret (v := .agg #[.int .i64 B0, .int .i64 B1, .int .i64 B2, .int .i64 B3, .int .i64 B4]) (by simp [results, Tryz.results238, go_sem]) rfl ⟨rfl, ?_⟩
  exact ((Below.refl _ _).alloc (Nat.le_refl _) _).drew

set_option maxRecDepth 20000 in
theorem keyIn_short (s : ByteArray) (w : World) (h : s.size < 5) :
    Calls Tryz.prog 162 #[.string s] w fun e w' => e = .returned (.tuple #[.agg #[.int .i64 0, .int .i64 0, .int .i64 0, .int .i64 0, .int .i64 0, .string ⟨#[]⟩, .string ⟨#[]⟩], .int .i64 11]) ∧ Below w.heap.size w w' := by
  have e : (s.size : Int) < 5 := by omega
  go_enter Tryz.func162, Tryz.ntmps162
  go_wp2
  refine bodyPost_ret (v := .tuple #[.agg #[.int .i64 0, .int .i64 0, .int .i64 0, .int .i64 0, .int .i64 0, .string ⟨#[]⟩, .string ⟨#[]⟩], .int .i64 11]) (by simp [results, Tryz.results162, go_sem]) rfl ⟨rfl, ?_⟩
  exact (Below.refl _ _).alloc (Nat.le_refl _) _

set_option maxRecDepth 20000 in
set_option maxHeartbeats 4000000 in
theorem keyIn_set (k b x t l a0 a1 a2 a3 a4 a5 : Int) (er : Int) (s : ByteArray) (w : World) (hs : 5 ≤ s.size) (her : er ≠ 0)
    (hS : ∀ V : World, Calls Tryz.prog 238 #[.string s] V fun e w' => e = .returned (.agg #[.int .i64 k, .int .i64 b, .int .i64 x, .int .i64 t, .int .i64 l]) ∧ Below V.heap.size V w')
    (hM : ∀ V : World, Calls Tryz.prog 155 #[.agg #[.int .i64 k, .int .i64 b, .int .i64 x, .int .i64 t, .int .i64 l]] V fun e w' => e = .returned (.tuple #[.agg #[.int .i64 a0, .int .i64 a1, .int .i64 a2, .int .i64 a3, .int .i64 a4, .int .i64 a5], .int .i64 er]) ∧ Below V.heap.size V w') :
    Calls Tryz.prog 162 #[.string s] w fun e w' => e = .returned (.tuple #[.agg #[.int .i64 0, .int .i64 0, .int .i64 0, .int .i64 0, .int .i64 0, .string ⟨#[]⟩, .string ⟨#[]⟩], .int .i64 11]) ∧ Below w.heap.size w w' := by
  have h5 : ¬ (s.size : Int) < 5 := by omega
  have HST := hide hS
  have HMT := hide hM
  clear hS hM
  have HW0 := hide (Blk.new w [.int .i64 0, .int .i64 0, .int .i64 0, .int .i64 0, .int .i64 0, .string ⟨#[]⟩, .string ⟨#[]⟩] 184)
  have HB0 := hide ((Below.refl w.heap.size w).alloc (Nat.le_refl _) (.cells #[.int .i64 0, .int .i64 0, .int .i64 0, .int .i64 0, .int .i64 0, .string ⟨#[]⟩, .string ⟨#[]⟩] 184))
  obtain ⟨W0, hW⟩ : ∃ W0, w.alloc (.cells #[.int .i64 0, .int .i64 0, .int .i64 0, .int .i64 0, .int .i64 0, .string ⟨#[]⟩, .string ⟨#[]⟩] 184) = W0 := ⟨_, rfl⟩
  rw [hW] at HW0 HB0
  have HWE := hide hW
  clear hW
  go_enter Tryz.func162, Tryz.ntmps162
  go_wp2_with fail
  rw [HWE.out]
  refine (HST.out _).mono ?_
  rintro e w1 ⟨rfl, hb1⟩
  have HB1 := hide (heldB HB0.out hb1 (Nat.le_refl _))
  have HK1 := hide (HW0.out.on hb1)
  clear hb1
  have HB2 := hide (HB1.out.alloc HB1.out.size (.cells #[.int .i64 k, .int .i64 b, .int .i64 x, .int .i64 t, .int .i64 l] 26))
  have HK2 := hide (HK1.out.alloc (.cells #[.int .i64 k, .int .i64 b, .int .i64 x, .int .i64 t, .int .i64 l] 26))
  have HN2 := hide (Blk.new w1 [.int .i64 k, .int .i64 b, .int .i64 x, .int .i64 t, .int .i64 l] 26)
  obtain ⟨W2, hW2⟩ : ∃ W2, w1.alloc (.cells #[.int .i64 k, .int .i64 b, .int .i64 x, .int .i64 t, .int .i64 l] 26) = W2 := ⟨_, rfl⟩
  rw [hW2] at HB2 HK2 HN2
  have HM2 := hide (HMT.out W2)
  rw [← hW2] at HM2
  have HW2 := hide hW2
  clear hW2
  go_wp2_with fail
  refine HM2.out.mono ?_
  rintro e w3 ⟨rfl, hb3⟩
  rw [HW2.out] at hb3
  have HB3 := hide (heldB HB2.out hb3 (Nat.le_refl _))
  have HK3 := hide (HK2.out.on hb3)
  have HN3 := hide (HN2.out.on hb3)
  clear hb3 HB2 HK2 HN2
  have HB4 := hide (HB3.out.alloc HB3.out.size (.cells #[.int .i64 a0, .int .i64 a1, .int .i64 a2, .int .i64 a3, .int .i64 a4, .int .i64 a5] 158))
  have HK4 := hide (HK3.out.alloc (.cells #[.int .i64 a0, .int .i64 a1, .int .i64 a2, .int .i64 a3, .int .i64 a4, .int .i64 a5] 158))
  have HN4 := hide (HN3.out.alloc (.cells #[.int .i64 a0, .int .i64 a1, .int .i64 a2, .int .i64 a3, .int .i64 a4, .int .i64 a5] 158))
  have HZ4 := hide (Blk.new w3 [.int .i64 a0, .int .i64 a1, .int .i64 a2, .int .i64 a3, .int .i64 a4, .int .i64 a5] 158)
  obtain ⟨W4, hW4⟩ : ∃ W4, w3.alloc (.cells #[.int .i64 a0, .int .i64 a1, .int .i64 a2, .int .i64 a3, .int .i64 a4, .int .i64 a5] 158) = W4 := ⟨_, rfl⟩
  rw [hW4] at HB4 HK4 HN4 HZ4
  have z5 := HZ4.out.cell 5
  have n0 := HN4.out.cell 0
  have n1 := HN4.out.cell 1
  have n2 := HN4.out.cell 2
  have n3 := HN4.out.cell 3
  have n4 := HN4.out.cell 4
  simp only [List.getElem?_cons_zero, List.getElem?_cons_succ] at z5 n0 n1 n2 n3 n4
  have r0 := HK4.out.cell 0
  have r1 := HK4.out.cell 1
  have r2 := HK4.out.cell 2
  have r3 := HK4.out.cell 3
  have r4 := HK4.out.cell 4
  have r5 := HK4.out.cell 5
  have r6 := HK4.out.cell 6
  have f0 := HK4.out.free 0
  have f1 := HK4.out.free 1
  have f2 := HK4.out.free 2
  have f3 := HK4.out.free 3
  have f4 := HK4.out.free 4
  have f5 := HK4.out.free 5
  have f6 := HK4.out.free 6
  simp only [List.getElem?_cons_zero, List.getElem?_cons_succ] at r0 r1 r2 r3 r4 r5 r6
  clear HK3 HN3 HN4 HZ4 HWE HW2
  have m0 : ((er : Int) != 0) = true := by simpa using her
  have m1 : ((er : Int) == 0) = false := by simpa using her
  go_wp2
  refine bodyPost_ret (v := .tuple #[.agg #[.int .i64 0, .int .i64 0, .int .i64 0, .int .i64 0, .int .i64 0, .string ⟨#[]⟩, .string ⟨#[]⟩], .int .i64 11]) (by simp [results, Tryz.results162, go_sem, r0, r1, r2, r3, r4, r5, r6]) rfl ⟨rfl, ?_⟩
  have HBB := HB4.out
  iterate 7 refine Below.setCell ?_ (by simp) _
  exact HBB

set_option maxRecDepth 20000 in
set_option maxHeartbeats 4000000 in
theorem keyIn_len (k b x t l a0 a1 a2 a3 a4 a5 : Int)  (s : ByteArray) (w : World) (hs : 5 ≤ s.size) (hne : (s.size : Int) ≠ a5)
    (hS : ∀ V : World, Calls Tryz.prog 238 #[.string s] V fun e w' => e = .returned (.agg #[.int .i64 k, .int .i64 b, .int .i64 x, .int .i64 t, .int .i64 l]) ∧ Below V.heap.size V w')
    (hM : ∀ V : World, Calls Tryz.prog 155 #[.agg #[.int .i64 k, .int .i64 b, .int .i64 x, .int .i64 t, .int .i64 l]] V fun e w' => e = .returned (.tuple #[.agg #[.int .i64 a0, .int .i64 a1, .int .i64 a2, .int .i64 a3, .int .i64 a4, .int .i64 a5], .int .i64 0]) ∧ Below V.heap.size V w') :
    Calls Tryz.prog 162 #[.string s] w fun e w' => e = .returned (.tuple #[.agg #[.int .i64 0, .int .i64 0, .int .i64 0, .int .i64 0, .int .i64 0, .string ⟨#[]⟩, .string ⟨#[]⟩], .int .i64 11]) ∧ Below w.heap.size w w' := by
  have h5 : ¬ (s.size : Int) < 5 := by omega
  have HST := hide hS
  have HMT := hide hM
  clear hS hM
  have HW0 := hide (Blk.new w [.int .i64 0, .int .i64 0, .int .i64 0, .int .i64 0, .int .i64 0, .string ⟨#[]⟩, .string ⟨#[]⟩] 184)
  have HB0 := hide ((Below.refl w.heap.size w).alloc (Nat.le_refl _) (.cells #[.int .i64 0, .int .i64 0, .int .i64 0, .int .i64 0, .int .i64 0, .string ⟨#[]⟩, .string ⟨#[]⟩] 184))
  obtain ⟨W0, hW⟩ : ∃ W0, w.alloc (.cells #[.int .i64 0, .int .i64 0, .int .i64 0, .int .i64 0, .int .i64 0, .string ⟨#[]⟩, .string ⟨#[]⟩] 184) = W0 := ⟨_, rfl⟩
  rw [hW] at HW0 HB0
  have HWE := hide hW
  clear hW
  go_enter Tryz.func162, Tryz.ntmps162
  go_wp2_with fail
  rw [HWE.out]
  refine (HST.out _).mono ?_
  rintro e w1 ⟨rfl, hb1⟩
  have HB1 := hide (heldB HB0.out hb1 (Nat.le_refl _))
  have HK1 := hide (HW0.out.on hb1)
  clear hb1
  have HB2 := hide (HB1.out.alloc HB1.out.size (.cells #[.int .i64 k, .int .i64 b, .int .i64 x, .int .i64 t, .int .i64 l] 26))
  have HK2 := hide (HK1.out.alloc (.cells #[.int .i64 k, .int .i64 b, .int .i64 x, .int .i64 t, .int .i64 l] 26))
  have HN2 := hide (Blk.new w1 [.int .i64 k, .int .i64 b, .int .i64 x, .int .i64 t, .int .i64 l] 26)
  obtain ⟨W2, hW2⟩ : ∃ W2, w1.alloc (.cells #[.int .i64 k, .int .i64 b, .int .i64 x, .int .i64 t, .int .i64 l] 26) = W2 := ⟨_, rfl⟩
  rw [hW2] at HB2 HK2 HN2
  have HM2 := hide (HMT.out W2)
  rw [← hW2] at HM2
  have HW2 := hide hW2
  clear hW2
  go_wp2_with fail
  refine HM2.out.mono ?_
  rintro e w3 ⟨rfl, hb3⟩
  rw [HW2.out] at hb3
  have HB3 := hide (heldB HB2.out hb3 (Nat.le_refl _))
  have HK3 := hide (HK2.out.on hb3)
  have HN3 := hide (HN2.out.on hb3)
  clear hb3 HB2 HK2 HN2
  have HB4 := hide (HB3.out.alloc HB3.out.size (.cells #[.int .i64 a0, .int .i64 a1, .int .i64 a2, .int .i64 a3, .int .i64 a4, .int .i64 a5] 158))
  have HK4 := hide (HK3.out.alloc (.cells #[.int .i64 a0, .int .i64 a1, .int .i64 a2, .int .i64 a3, .int .i64 a4, .int .i64 a5] 158))
  have HN4 := hide (HN3.out.alloc (.cells #[.int .i64 a0, .int .i64 a1, .int .i64 a2, .int .i64 a3, .int .i64 a4, .int .i64 a5] 158))
  have HZ4 := hide (Blk.new w3 [.int .i64 a0, .int .i64 a1, .int .i64 a2, .int .i64 a3, .int .i64 a4, .int .i64 a5] 158)
  obtain ⟨W4, hW4⟩ : ∃ W4, w3.alloc (.cells #[.int .i64 a0, .int .i64 a1, .int .i64 a2, .int .i64 a3, .int .i64 a4, .int .i64 a5] 158) = W4 := ⟨_, rfl⟩
  rw [hW4] at HB4 HK4 HN4 HZ4
  have z5 := HZ4.out.cell 5
  have n0 := HN4.out.cell 0
  have n1 := HN4.out.cell 1
  have n2 := HN4.out.cell 2
  have n3 := HN4.out.cell 3
  have n4 := HN4.out.cell 4
  simp only [List.getElem?_cons_zero, List.getElem?_cons_succ] at z5 n0 n1 n2 n3 n4
  have r0 := HK4.out.cell 0
  have r1 := HK4.out.cell 1
  have r2 := HK4.out.cell 2
  have r3 := HK4.out.cell 3
  have r4 := HK4.out.cell 4
  have r5 := HK4.out.cell 5
  have r6 := HK4.out.cell 6
  have f0 := HK4.out.free 0
  have f1 := HK4.out.free 1
  have f2 := HK4.out.free 2
  have f3 := HK4.out.free 3
  have f4 := HK4.out.free 4
  have f5 := HK4.out.free 5
  have f6 := HK4.out.free 6
  simp only [List.getElem?_cons_zero, List.getElem?_cons_succ] at r0 r1 r2 r3 r4 r5 r6
  clear HK3 HN3 HN4 HZ4 HWE HW2
  have m0 : ((s.size : Int) != a5) = true := by simpa using hne
  have m1 : ((s.size : Int) == a5) = false := by simpa using hne
  go_wp2
  refine bodyPost_ret (v := .tuple #[.agg #[.int .i64 0, .int .i64 0, .int .i64 0, .int .i64 0, .int .i64 0, .string ⟨#[]⟩, .string ⟨#[]⟩], .int .i64 11]) (by simp [results, Tryz.results162, go_sem, r0, r1, r2, r3, r4, r5, r6]) rfl ⟨rfl, ?_⟩
  have HBB := HB4.out
  iterate 7 refine Below.setCell ?_ (by simp) _
  exact HBB

set_option maxRecDepth 20000 in
set_option maxHeartbeats 4000000 in
theorem keyIn_yes (k b x t l a0 a1 a2 a3 a4 a5 : Int) (B : Nat) (s : ByteArray) (w : World) (hB : b = (B : Int)) (hb1 : B ≤ 16) (hz : s.size = 5 + 2 * B) (hsz : (s.size : Int) = a5)
    (hS : ∀ V : World, Calls Tryz.prog 238 #[.string s] V fun e w' => e = .returned (.agg #[.int .i64 k, .int .i64 b, .int .i64 x, .int .i64 t, .int .i64 l]) ∧ Below V.heap.size V w')
    (hM : ∀ V : World, Calls Tryz.prog 155 #[.agg #[.int .i64 k, .int .i64 b, .int .i64 x, .int .i64 t, .int .i64 l]] V fun e w' => e = .returned (.tuple #[.agg #[.int .i64 a0, .int .i64 a1, .int .i64 a2, .int .i64 a3, .int .i64 a4, .int .i64 a5], .int .i64 0]) ∧ Below V.heap.size V w') :
    Calls Tryz.prog 162 #[.string s] w fun e w' => e = .returned (.tuple #[.agg #[.int .i64 k, .int .i64 b, .int .i64 x, .int .i64 t, .int .i64 l, .string (s.extract 5 (5 + B)), .string (s.extract (5 + B) s.size)], .int .i64 0]) ∧ Below w.heap.size w w' := by
  have hsA : ∀ wx, (Instr.slice 9 (.string s) (some (.int .i64 5)) (some (.int .i64 (5 + b))) none).run Tryz.prog wx = .ok (.string (s.extract 5 (5 + B))) wx := fun wx => by
    have h := sliceV s 5 (5 + B) (by omega) (by omega) wx
    rw [Int.natCast_add, ← hB] at h
    exact h
  have hsB : ∀ wx, (Instr.slice 9 (.string s) (some (.int .i64 (5 + b))) none none).run Tryz.prog wx = .ok (.string (s.extract (5 + B) s.size)) wx := fun wx => by
    have h := sliceVE s (5 + B) (by omega) wx
    rw [Int.natCast_add, ← hB] at h
    exact h
  generalize s.extract (5 + B) s.size = sB at hsB ⊢
  generalize s.extract 5 (5 + B) = sA at hsA ⊢
  have b1 : 0 ≤ b := by omega
  have b2 : b ≤ 16 := by omega
  clear hB
  have h5 : ¬ (s.size : Int) < 5 := by omega
  have HST := hide hS
  have HMT := hide hM
  clear hS hM
  have HW0 := hide (Blk.new w [.int .i64 0, .int .i64 0, .int .i64 0, .int .i64 0, .int .i64 0, .string ⟨#[]⟩, .string ⟨#[]⟩] 184)
  have HB0 := hide ((Below.refl w.heap.size w).alloc (Nat.le_refl _) (.cells #[.int .i64 0, .int .i64 0, .int .i64 0, .int .i64 0, .int .i64 0, .string ⟨#[]⟩, .string ⟨#[]⟩] 184))
  obtain ⟨W0, hW⟩ : ∃ W0, w.alloc (.cells #[.int .i64 0, .int .i64 0, .int .i64 0, .int .i64 0, .int .i64 0, .string ⟨#[]⟩, .string ⟨#[]⟩] 184) = W0 := ⟨_, rfl⟩
  rw [hW] at HW0 HB0
  have HWE := hide hW
  clear hW
  go_enter Tryz.func162, Tryz.ntmps162
  go_wp2_with fail
  rw [HWE.out]
  refine (HST.out _).mono ?_
  rintro e w1 ⟨rfl, hb1⟩
  have HB1 := hide (heldB HB0.out hb1 (Nat.le_refl _))
  have HK1 := hide (HW0.out.on hb1)
  clear hb1
  have HB2 := hide (HB1.out.alloc HB1.out.size (.cells #[.int .i64 k, .int .i64 b, .int .i64 x, .int .i64 t, .int .i64 l] 26))
  have HK2 := hide (HK1.out.alloc (.cells #[.int .i64 k, .int .i64 b, .int .i64 x, .int .i64 t, .int .i64 l] 26))
  have HN2 := hide (Blk.new w1 [.int .i64 k, .int .i64 b, .int .i64 x, .int .i64 t, .int .i64 l] 26)
  obtain ⟨W2, hW2⟩ : ∃ W2, w1.alloc (.cells #[.int .i64 k, .int .i64 b, .int .i64 x, .int .i64 t, .int .i64 l] 26) = W2 := ⟨_, rfl⟩
  rw [hW2] at HB2 HK2 HN2
  have HM2 := hide (HMT.out W2)
  rw [← hW2] at HM2
  have HW2 := hide hW2
  clear hW2
  go_wp2_with fail
  refine HM2.out.mono ?_
  rintro e w3 ⟨rfl, hb3⟩
  rw [HW2.out] at hb3
  have HB3 := hide (heldB HB2.out hb3 (Nat.le_refl _))
  have HK3 := hide (HK2.out.on hb3)
  have HN3 := hide (HN2.out.on hb3)
  clear hb3 HB2 HK2 HN2
  have HB4 := hide (HB3.out.alloc HB3.out.size (.cells #[.int .i64 a0, .int .i64 a1, .int .i64 a2, .int .i64 a3, .int .i64 a4, .int .i64 a5] 158))
  have HK4 := hide (HK3.out.alloc (.cells #[.int .i64 a0, .int .i64 a1, .int .i64 a2, .int .i64 a3, .int .i64 a4, .int .i64 a5] 158))
  have HN4 := hide (HN3.out.alloc (.cells #[.int .i64 a0, .int .i64 a1, .int .i64 a2, .int .i64 a3, .int .i64 a4, .int .i64 a5] 158))
  have HZ4 := hide (Blk.new w3 [.int .i64 a0, .int .i64 a1, .int .i64 a2, .int .i64 a3, .int .i64 a4, .int .i64 a5] 158)
  obtain ⟨W4, hW4⟩ : ∃ W4, w3.alloc (.cells #[.int .i64 a0, .int .i64 a1, .int .i64 a2, .int .i64 a3, .int .i64 a4, .int .i64 a5] 158) = W4 := ⟨_, rfl⟩
  rw [hW4] at HB4 HK4 HN4 HZ4
  have z5 := HZ4.out.cell 5
  have n0 := HN4.out.cell 0
  have n1 := HN4.out.cell 1
  have n2 := HN4.out.cell 2
  have n3 := HN4.out.cell 3
  have n4 := HN4.out.cell 4
  simp only [List.getElem?_cons_zero, List.getElem?_cons_succ] at z5 n0 n1 n2 n3 n4
  have r0 := HK4.out.cell 0
  have r1 := HK4.out.cell 1
  have r2 := HK4.out.cell 2
  have r3 := HK4.out.cell 3
  have r4 := HK4.out.cell 4
  have r5 := HK4.out.cell 5
  have r6 := HK4.out.cell 6
  have f0 := HK4.out.free 0
  have f1 := HK4.out.free 1
  have f2 := HK4.out.free 2
  have f3 := HK4.out.free 3
  have f4 := HK4.out.free 4
  have f5 := HK4.out.free 5
  have f6 := HK4.out.free 6
  simp only [List.getElem?_cons_zero, List.getElem?_cons_succ] at r0 r1 r2 r3 r4 r5 r6
  clear HK3 HN3 HN4 HZ4 HWE HW2
  have m0 : ((s.size : Int) != a5) = false := by simpa using hsz
  have m1 : ((s.size : Int) == a5) = true := by simpa using hsz
  go_wp2_with fail
  clear hW4
  have HW1 := hide HK1.out.lt
  have HS := hide (show W4.cell? ⟨w1.heap.size, 0, none⟩ = some (.int .i64 k) ∧ W4.cell? ⟨w1.heap.size, 1, none⟩ = some (.int .i64 b) ∧ W4.cell? ⟨w1.heap.size, 2, none⟩ = some (.int .i64 x) ∧ W4.cell? ⟨w1.heap.size, 3, none⟩ = some (.int .i64 t) ∧ W4.cell? ⟨w1.heap.size, 4, none⟩ = some (.int .i64 l) from ⟨n0, n1, n2, n3, n4⟩)
  refine wp_region_held_drew (S := fun V => V.cell? ⟨w1.heap.size, 0, none⟩ = some (.int .i64 k) ∧ V.cell? ⟨w1.heap.size, 1, none⟩ = some (.int .i64 b) ∧ V.cell? ⟨w1.heap.size, 2, none⟩ = some (.int .i64 x) ∧ V.cell? ⟨w1.heap.size, 3, none⟩ = some (.int .i64 t) ∧ V.cell? ⟨w1.heap.size, 4, none⟩ = some (.int .i64 l)) (by kernel_rfl) HS.out (fun hHeld => ?_)
  refine tk 0 hHeld (h := ?_)
  refine tk 1 hHeld (h := ?_)
  refine tk 2 hHeld (h := ?_)
  refine tk 3 hHeld (h := ?_)
  refine tk 4 hHeld (h := ?_)
  refine tk 5 hHeld (h := ?_)
  refine tk 6 hHeld (h := ?_)
  refine tk 7 hHeld (h := ?_)
  refine wpAnyH_ready (rs := [8]) (by kernel_rfl) (by simp) ?_
  refine AllReadyH.cons (o := ?oa8) ?hoa8 (fun K hK => ?hsa8) AllReadyH.nil
  case hoa8 => (simp only [List.getElem?_toArray, List.getElem?_cons_succ, List.getElem?_cons_zero]; rfl)
  have q0 : W4.drew.cell? ⟨w.heap.size, 0, none⟩ = _ := r0
  have q1 : W4.drew.cell? ⟨w.heap.size, 1, none⟩ = _ := r1
  have q2 : W4.drew.cell? ⟨w.heap.size, 2, none⟩ = _ := r2
  have q3 : W4.drew.cell? ⟨w.heap.size, 3, none⟩ = _ := r3
  have q4 : W4.drew.cell? ⟨w.heap.size, 4, none⟩ = _ := r4
  have q5 : W4.drew.cell? ⟨w.heap.size, 5, none⟩ = _ := r5
  have q6 : W4.drew.cell? ⟨w.heap.size, 6, none⟩ = _ := r6
  have e0 : W4.drew.frozen? ⟨w.heap.size, 0, none⟩ = _ := f0
  have e1 : W4.drew.frozen? ⟨w.heap.size, 1, none⟩ = _ := f1
  have e2 : W4.drew.frozen? ⟨w.heap.size, 2, none⟩ = _ := f2
  have e3 : W4.drew.frozen? ⟨w.heap.size, 3, none⟩ = _ := f3
  have e4 : W4.drew.frozen? ⟨w.heap.size, 4, none⟩ = _ := f4
  have e5 : W4.drew.frozen? ⟨w.heap.size, 5, none⟩ = _ := f5
  have e6 : W4.drew.frozen? ⟨w.heap.size, 6, none⟩ = _ := f6
  go_simp
  refine hK.out _ _ ?hSS (fun hHeld => ?_)
  case hSS =>
    have hw1 := HW1.out
    have hdr : ∀ (V : World) (p : Addr), V.drew.cell? p = V.cell? p := fun _ _ => rfl
    refine ⟨?_, ?_, ?_, ?_, ?_⟩
    all_goals
      rw [hdr]
      iterate 7 refine (World.cell?_setCell_other _ _ _ _ (by simp <;> omega)).trans ?_
    · exact n0
    · exact n1
    · exact n2
    · exact n3
    · exact n4
  clear hK K
  try simp only [Act.put, List.setIfInBounds_toArray, List.set_cons_zero, List.set_cons_succ]
  refine tk 9 hHeld (h := ?_)
  refine wpAnyH_done (by kernel_rfl) ?_ _
  go_wp2
  refine bodyPost_ret (v := .tuple #[.agg #[.int .i64 k, .int .i64 b, .int .i64 x, .int .i64 t, .int .i64 l, .string sA, .string sB], .int .i64 0]) (by simp [results, Tryz.results162, go_sem, r0, r1, r2, r3, r4, r5, r6]) rfl ⟨rfl, ?_⟩
  have HBB := HB4.out
  refine Below.drew ?_
  iterate 7 refine Below.setCell ?_ (by simp) _
  exact HBB
end Go.Proofs.YtgaoeoijdpdjiabGreatDoor

namespace Go.Proofs.YtgaoeoijdpdjiabGreatDoor
open Go.RowKit

theorem rev_ends (k b : Int) (sec pub : ByteArray) (p0 p1 F : Int) (wd ch : Nat) : revS k b sec pub p0 p1 F (List.replicate ch wd) ch = endsS k b wd sec pub p0 p1 F ch := by
  unfold revS endsS
  refine List.map_congr_left ?_
  intro i hi
  have h : i < ch := by simpa using hi
  simp [endS, h]

set_option maxRecDepth 20000 in
set_option maxHeartbeats 4000000 in
theorem leaf_any (k b x t l : Int) (sec rnd pub : ByteArray) (p0 p1 p2 p3 F : Int) (ch wd : Nat) (w : World) (hk : k = 1 ∨ k = 2) (h1 : 1 ≤ b) (h2 : b ≤ 16) (hs : sec.size ≤ 16) (hp : pub.size ≤ 16) (hc1 : 1 ≤ ch) (hc2 : ch ≤ 64) (hch : Ch4 ch) (hwd : wd ≤ 15) (hx : x = (wd : Int) + 1) (hT : Tn w) :
    Calls Tryz.prog 210 #[.agg #[.int .i64 k, .int .i64 b, .int .i64 x, .int .i64 t, .int .i64 l, .string sec, .string rnd, .string pub, .int .i64 p0, .int .i64 p1, .int .i64 p2, .int .i64 p3, .int .i64 ch], .int .i64 F] w fun e w' => e = .returned (.string (leafS k b wd ch sec pub p0 p1 F)) ∧ Below w.heap.size w w' := by
  have hx1 : 1 ≤ x := by omega
  have hx2 : x ≤ 16 := by omega
  have HRP := hide (fun (V : World) (g : Nat) (hg : g < V.heap.size) (hc : V.cell? ⟨g, 0, none⟩ = some (.int .i64 (x - 1))) => repeat_one (x - 1) g ch V hc1 (by omega) hg hc (mul_one ch hch))
  have HSP := hide (fun (V : World) => spotOf_any k b x t l sec rnd pub pub p0 p1 p2 p3 ch F 0 V)
  have HRV := hide (fun (V : World) (q : Nat) (hV : Tn V) (hq : Blk V q (List.replicate ch (.int .i64 (x - 1))) 3) => (by
    have h := reveal_any k b x t l sec rnd pub p0 p1 p2 p3 ch F q 0 ch (List.replicate ch wd) V hk h1 h2 hs hp (by simpa using hc2) (by intro d hd; rw [List.mem_replicate] at hd; omega) hq.lt (by
      intro j d hj
      rw [List.getElem?_replicate] at hj
      split at hj
      · rename_i hjc
        cases hj
        rw [Nat.zero_add, hq.cell, List.getElem?_replicate, if_pos hjc, hx]
        congr 2
        omega
      · cases hj) hV
    rw [List.length_replicate, rev_ends] at h
    exact h.mono fun e w' ⟨a, b, c⟩ => ⟨_, a, b, c⟩ : Calls Tryz.prog 249 #[.agg #[.int .i64 k, .int .i64 b, .int .i64 x, .int .i64 t, .int .i64 l, .string sec, .string rnd, .string pub, .int .i64 p0, .int .i64 p1, .int .i64 p2, .int .i64 p3, .int .i64 ch], .int .i64 F, .slice (some ⟨q, 0, none⟩) ch ch] V fun e w' => ∃ g, e = .returned (.slice (some ⟨g, 0, none⟩) ch ch) ∧ Blk w' g ((endsS k b wd sec pub p0 p1 F ch).map Value.string) 9 ∧ Below V.heap.size V w'))
  have HFO := hide (fun (V : World) (g : Nat) (hV : Tn V) (hg : Blk V g ((endsS k b wd sec pub p0 p1 F ch).map Value.string) 9) => (by
    have h := sfold_any k b x t l pub p0 p1 F 0 g 0 ch (endsS k b wd sec pub p0 p1 F ch) V (by
      intro j y hj
      rw [Nat.zero_add, hg.cell, List.getElem?_map, hj]
      rfl) hg.lt (by rw [endsS_length]; exact Nat.le_refl _) (by rw [endsS_length]; exact hc2) (by rw [endsS_length]; exact hc1) hk h1 h2 hp (endsS_size k b wd sec pub p0 p1 F ch hk h1 h2 hs hp) hV
    rw [endsS_length] at h
    exact h : Calls Tryz.prog 270 #[.agg #[.int .i64 k, .int .i64 b, .int .i64 x, .int .i64 t, .int .i64 l, .string pub, .int .i64 p0, .int .i64 p1, .int .i64 F, .int .i64 0], .slice (some ⟨g, 0, none⟩) ch ch] V fun e w' => e = .returned (.string (leafS k b wd ch sec pub p0 p1 F)) ∧ Below V.heap.size V w'))
  generalize leafS k b wd ch sec pub p0 p1 F = lf at HFO ⊢
  have HX := hide hx
  clear hx
  obtain ⟨WT, hWT⟩ : ∃ WT, w.alloc (.cells #[.int .i64 k, .int .i64 b, .int .i64 x, .int .i64 t, .int .i64 l, .string sec, .string rnd, .string pub, .int .i64 p0, .int .i64 p1, .int .i64 p2, .int .i64 p3, .int .i64 ch] 274) = WT := ⟨_, rfl⟩
  have HWT := hide (show Blk WT w.heap.size [.int .i64 k, .int .i64 b, .int .i64 x, .int .i64 t, .int .i64 l, .string sec, .string rnd, .string pub, .int .i64 p0, .int .i64 p1, .int .i64 p2, .int .i64 p3, .int .i64 ch] 274 by rw [← hWT]; exact Blk.new _ _ _)
  have hzT : WT.heap.size ≤ w.heap.size + 1 := by rw [← hWT]; simp
  have hzT' : w.heap.size + 1 ≤ WT.heap.size := by rw [← hWT]; simp
  have HB := hide (show Below w.heap.size w WT by rw [← hWT]; exact (Below.refl _ _).alloc (Nat.le_refl _) _)
  have HTT := hide (hT.on HB.out)
  have HS := hide (fun (V : World) (h : Below WT.heap.size WT V) => (by
    have hb := HWT.out.below h (by omega)
    exact ⟨hb.cell 0, hb.cell 1, hb.cell 2, hb.cell 3, hb.cell 4, hb.cell 5, hb.cell 6, hb.cell 7, hb.cell 8, hb.cell 9, hb.cell 10, hb.cell 11, hb.cell 12⟩ : V.cell? ⟨w.heap.size, 0, none⟩ = some (.int .i64 k) ∧ V.cell? ⟨w.heap.size, 1, none⟩ = some (.int .i64 b) ∧ V.cell? ⟨w.heap.size, 2, none⟩ = some (.int .i64 x) ∧ V.cell? ⟨w.heap.size, 3, none⟩ = some (.int .i64 t) ∧ V.cell? ⟨w.heap.size, 4, none⟩ = some (.int .i64 l) ∧ V.cell? ⟨w.heap.size, 5, none⟩ = some (.string sec) ∧ V.cell? ⟨w.heap.size, 6, none⟩ = some (.string rnd) ∧ V.cell? ⟨w.heap.size, 7, none⟩ = some (.string pub) ∧ V.cell? ⟨w.heap.size, 8, none⟩ = some (.int .i64 p0) ∧ V.cell? ⟨w.heap.size, 9, none⟩ = some (.int .i64 p1) ∧ V.cell? ⟨w.heap.size, 10, none⟩ = some (.int .i64 p2) ∧ V.cell? ⟨w.heap.size, 11, none⟩ = some (.int .i64 p3) ∧ V.cell? ⟨w.heap.size, 12, none⟩ = some (.int .i64 ch)))
  have HA := hide ((Below.refl WT.heap.size WT).alloc (Nat.le_refl _) (.cells #[.int .i64 (x - 1)] 3))
  have HR0 := hide (HRP.out (WT.alloc (.cells #[.int .i64 (x - 1)] 3)) (w.heap.size + 1) (by simp; omega) (by rw [show w.heap.size + 1 = WT.heap.size by omega]; simp [go_sem]))
  obtain ⟨c0, c1, c2, c3, c4, c5, c6, c7, c8, c9, c10, c11, c12⟩ := HS.out WT (Below.refl _ _)
  clear hT HRP
  have HWE := hide hWT
  clear hWT
  go_enter Tryz.func210, Tryz.ntmps210
  go_wp2_with fail
  rw [HWE.out]
  refine HR0.out.mono ?_
  rintro e w1 ⟨q, rfl, hq0, hq, hb1⟩
  have HQ := hide hq
  have HB1 := hide (heldB HA.out hb1 (Nat.le_refl _))
  have hqw : q < w1.heap.size := hq.lt
  clear hq hb1 hq0 c0 c1 c2 c3 c4 c5 c6 c7 c8 c9 c10 c11 c12 HA HR0
  go_wp2_with fail
  go_region_held3 (fun V => V.cell? ⟨w.heap.size, 0, none⟩ = some (.int .i64 k) ∧ V.cell? ⟨w.heap.size, 1, none⟩ = some (.int .i64 b) ∧ V.cell? ⟨w.heap.size, 2, none⟩ = some (.int .i64 x) ∧ V.cell? ⟨w.heap.size, 3, none⟩ = some (.int .i64 t) ∧ V.cell? ⟨w.heap.size, 4, none⟩ = some (.int .i64 l) ∧ V.cell? ⟨w.heap.size, 5, none⟩ = some (.string sec) ∧ V.cell? ⟨w.heap.size, 6, none⟩ = some (.string rnd) ∧ V.cell? ⟨w.heap.size, 7, none⟩ = some (.string pub) ∧ V.cell? ⟨w.heap.size, 8, none⟩ = some (.int .i64 p0) ∧ V.cell? ⟨w.heap.size, 9, none⟩ = some (.int .i64 p1) ∧ V.cell? ⟨w.heap.size, 10, none⟩ = some (.int .i64 p2) ∧ V.cell? ⟨w.heap.size, 11, none⟩ = some (.int .i64 p3) ∧ V.cell? ⟨w.heap.size, 12, none⟩ = some (.int .i64 ch)) (first | exact HS.out _ hS4 | exact HS.out _ hS3 | exact HS.out _ hS2 | exact HS.out _ HB1.out.drew) (first | (go_at_call 269; refine (HSP.out _).mono ?_; rintro e w2 ⟨rfl, hb2⟩; have hS2 := heldB HB1.out.drew hb2 (Nat.le_refl _); have hK2 := (HQ.out.below (Below.refl w1.heap.size w1).drew hqw).on hb2) | (go_at_call 249; refine (HRV.out _ q (HTT.out.on hS2) hK2).mono ?_; rintro e w3 ⟨g, rfl, hg3, hb3⟩; have hS3 := heldB hS2 hb3 (Nat.le_refl _)) | (go_at_call 270; refine (HFO.out _ g (HTT.out.on hS3) hg3).mono ?_; rintro e w4 ⟨rfl, hb4⟩; have hS4 := heldB hS3 hb4 (Nat.le_refl _)))
  have HB4 := hide hS4
  clear hS2 hS3 hS4 hb2 hb3 hb4 hg3 hK2
  go_wp2
  go_ret
  exact ⟨rfl, HB.out.trans (HB4.out.mono (by omega))⟩
end Go.Proofs.YtgaoeoijdpdjiabGreatDoor

namespace Go.Proofs.YtgaoeoijdpdjiabGreatDoor
open Go.RowKit

set_option maxRecDepth 20000 in
set_option maxHeartbeats 2000000 in
theorem isTree_any (k b x : Int) (t l : Nat) (p0 p1 p2 p3 : Int) (w : World) (h1 : 1 ≤ t) (h2 : t ≤ 4) (h4 : l ≤ 3) :
    Calls Tryz.prog 266 #[.agg #[.int .i64 k, .int .i64 b, .int .i64 x, .int .i64 t, .int .i64 l], .agg #[.int .i64 p0, .int .i64 p1, .int .i64 p2, .int .i64 p3]] w fun e w' => e = .returned (.bool ((leafB t l p0 p1 p2 && p3 == 0) && p2 == 0)) ∧ Below w.heap.size w w' := by
  have HL := hide (isLeaf_any k b x t l p0 p1 p2 p3 ((w.alloc (.cells #[.int .i64 k, .int .i64 b, .int .i64 x, .int .i64 t, .int .i64 l] 26)).alloc (.cells #[.int .i64 p0, .int .i64 p1, .int .i64 p2, .int .i64 p3] 91)) h1 h2 h4)
  generalize (leafB t l p0 p1 p2 && p3 == 0) = r at HL ⊢
  cases r with
  | false =>
    go_enter Tryz.func266, Tryz.ntmps266
    go_wp2_with fail
    refine HL.out.mono ?_
    rintro e w1 ⟨rfl, hb1⟩
    have HB1 := hide ((((Below.refl w.heap.size w).alloc (Nat.le_refl _) _).alloc (by simp) _).trans (hb1.mono (by simp; omega)))
    clear hb1
    go_wp2
    go_ret
    exact ⟨rfl, HB1.out⟩
  | true =>
    generalize hr : (p2 == 0) = r
    go_enter Tryz.func266, Tryz.ntmps266
    go_wp2_with fail
    refine HL.out.mono ?_
    rintro e w1 ⟨rfl, hb1⟩
    have d2 : w1.cell? ⟨w.heap.size + 1, 2, none⟩ = some (.int .i64 p2) := (hb1.cell (p := ⟨w.heap.size + 1, 2, none⟩) (by simp)).trans (by simp [go_sem])
    have HB1 := hide ((((Below.refl w.heap.size w).alloc (Nat.le_refl _) _).alloc (by simp) _).trans (hb1.mono (by simp; omega)))
    clear hb1
    go_wp2
    go_ret
    exact ⟨by simp, HB1.out⟩
end Go.Proofs.YtgaoeoijdpdjiabGreatDoor

namespace Go.Proofs.YtgaoeoijdpdjiabGreatDoor
open Go.RowKit

theorem chainB_bounds {t l ch : Nat} {p0 p1 p2 p3 : Int} (h : chainB t l ch p0 p1 p2 p3 = true) (h2 : t ≤ 4) (h4 : l ≤ 3) (hc : ch ≤ 64) : (0 ≤ p0 ∧ p0 ≤ 100000) ∧ (0 ≤ p1 ∧ p1 ≤ 100000) ∧ (0 ≤ p2 ∧ p2 ≤ 100000) ∧ (0 ≤ p3 ∧ p3 ≤ 100000) := by
  unfold chainB leafB at h
  simp only [Bool.and_eq_true, decide_eq_true_eq] at h
  obtain ⟨⟨⟨a0, a1⟩, ⟨b0, b1⟩, ⟨c0, c1⟩⟩, d0, d1⟩ := h
  have e1 : 2 ^ (t * (l - 1 - p0.toNat)) ≤ 2 ^ 8 := Nat.pow_le_pow_right (by decide) (Nat.le_trans (Nat.mul_le_mul h2 (show l - 1 - p0.toNat ≤ 2 by omega)) (by decide))
  have e2 : 2 ^ t ≤ 2 ^ 4 := Nat.pow_le_pow_right (by decide) h2
  have e3 : (2 : Nat) ^ 8 = 256 := by decide
  have e4 : (2 : Nat) ^ 4 = 16 := by decide
  rw [e3] at e1
  rw [e4] at e2
  generalize 2 ^ (t * (l - 1 - p0.toNat)) = u at e1 b1
  generalize 2 ^ t = v at e2 c1
  omega

theorem pair_small {b x e f : Nat} (h : Pair b x e f) : 1 ≤ b ∧ b ≤ 16 ∧ 1 ≤ b * e + f ∧ b * e + f ≤ 64 ∧ 1 ≤ x ∧ x ≤ 16 := by
  rcases h with ⟨rfl, rfl, rfl, rfl⟩ | ⟨rfl, rfl, rfl, rfl⟩ | ⟨rfl, rfl, rfl, rfl⟩ | ⟨rfl, rfl, rfl, rfl⟩ <;> decide
end Go.Proofs.YtgaoeoijdpdjiabGreatDoor

namespace Go.Proofs.YtgaoeoijdpdjiabGreatDoor
open Go.RowKit

theorem cat_snoc (y : ByteArray) : ∀ xs : List ByteArray, cat (xs ++ [y]) = cat xs ++ y
  | [] => by
    show y ++ cat [] = cat [] ++ y
    rw [show cat [] = (⟨#[]⟩ : ByteArray) from rfl]
    apply ByteArray.ext
    simp
  | x :: xs => by
    show x ++ cat (xs ++ [y]) = x ++ cat xs ++ y
    rw [cat_snoc y xs, ByteArray.append_assoc]
theorem cut_two (s : ByteArray) (i j : Nat) (h1 : i ≤ j) (h2 : j ≤ s.size) : s.extract 0 i ++ s.extract i j = s.extract 0 j := by
  refine byt_ext _ _ ?_ ?_
  · simp only [ByteArray.size_append, ByteArray.size_extract]; omega
  · intro k hk
    simp only [ByteArray.size_append, ByteArray.size_extract] at hk
    rw [byt_part s 0 j k h2 (by omega), Nat.zero_add]
    by_cases h : k < i
    · rw [byt_left _ _ _ (by rw [ByteArray.size_extract]; omega), byt_part s 0 i k (by omega) (by omega), Nat.zero_add]
    · rw [byt_right _ _ _ (by rw [ByteArray.size_extract]; omega), ByteArray.size_extract, byt_part s i j _ h2 (by omega)]
      congr 1
      omega
theorem cut_all (s : ByteArray) : s.extract 0 s.size = s := by
  refine byt_ext _ _ ?_ ?_
  · rw [ByteArray.size_extract]; omega
  · intro k hk
    rw [ByteArray.size_extract] at hk
    rw [byt_part s 0 s.size k (Nat.le_refl _) (by omega), Nat.zero_add]
/-- The pieces of a text make the text. -/
theorem cat_cut (s : ByteArray) (b : Nat) : ∀ n, n * b ≤ s.size → cat (cutS s b n) = s.extract 0 (n * b) := by
  intro n
  induction n with
  | zero =>
    intro _
    refine byt_ext _ _ ?_ ?_
    · rw [ByteArray.size_extract, Nat.zero_mul, Nat.zero_min, Nat.zero_sub]
      rfl
    · intro k hk
      exact absurd hk (Nat.not_lt_zero k)
  | succ n ih =>
    intro h
    have h2 : n * b ≤ (n + 1) * b := Nat.mul_le_mul_right _ (by omega)
    rw [cutS_succ, cat_snoc, ih (by omega), cut_two s (n * b) ((n + 1) * b) h2 h]
/-- A signature's parts make it. -/
theorem sig_parts (sig : ByteArray) (b n : Nat) (h : sig.size = 4 + b + n * b) : numB 4 ((valN sig 0 4 : Nat) : Int) ++ sig.extract 4 (4 + b) ++ cat (cutS (sig.extract (4 + b) sig.size) b n) = sig := by
  have hs : (sig.extract (4 + b) sig.size).size = n * b := by rw [ByteArray.size_extract]; omega
  rw [cat_cut _ b n (by rw [hs]; exact Nat.le_refl _), ← hs, cut_all, num_val sig 0 (by omega), Nat.zero_add, cut_two sig 4 (4 + b) (by omega) (by omega), cut_two sig (4 + b) sig.size (by omega) (Nat.le_refl _), cut_all]
theorem cat_cut_size (sig : ByteArray) (b n : Nat) (h : sig.size = 4 + b + n * b) : (cat (cutS (sig.extract (4 + b) sig.size) b n)).size = n * b := by
  have hs : (sig.extract (4 + b) sig.size).size = n * b := by rw [ByteArray.size_extract]; omega
  rw [cat_cut _ b n (by rw [hs]; exact Nat.le_refl _), ← hs, cut_all]
end Go.Proofs.YtgaoeoijdpdjiabGreatDoor
