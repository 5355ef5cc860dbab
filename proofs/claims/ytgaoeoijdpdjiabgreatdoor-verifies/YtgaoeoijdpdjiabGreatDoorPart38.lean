/-
  The program's keys.In: the key that stands in a text. The statement's own splits: where the program's answer is the document's. The pieces of a text. Small facts about sets, seeds, places.
-/
import Derived.Test.YtgaoeoijdpdjiabGreatDoorPart36
import Derived.Test.YtgaoeoijdpdjiabGreatDoorPart27
import Derived.Test.YtgaoeoijdpdjiabGreatDoorPart34
import Derived.Test.YtgaoeoijdpdjiabGreatDoorPart37
import Derived.Test.YtgaoeoijdpdjiabGreatDoorPart4
namespace Go.Proofs.YtgaoeoijdpdjiabGreatDoor
open Go.RowKit

theorem idxV (s : ByteArray) (i : Nat) (h : i < s.size) (w : World) : (Instr.index 9 (.string s) (.int .i64 (i : Int))).run Tryz.prog w = .ok (.int .u8 ((byt s i : Nat) : Int)) w := by
  have e1 : (i : Int) < (s.size : Int) := by omega
  have e2 : (0 : Int) ≤ (i : Int) := by omega
  have e3 : byt s i = (s[i]'h).toNat := byte_eq s i h
  rw [e3]
  simp [go_sem, e1, e2]

set_option maxRecDepth 20000 in
set_option maxHeartbeats 4000000 in
theorem setIn_any (s : ByteArray) (w : World) (h : 5 ≤ s.size) :
    Calls Tryz.prog 238 #[.string s] w fun e w' => e = .returned (.agg #[.int .i64 ((byt s 0 : Nat) : Int), .int .i64 ((byt s 1 : Nat) : Int), .int .i64 ((byt s 2 : Nat) : Int), .int .i64 ((byt s 3 : Nat) : Int), .int .i64 ((byt s 4 : Nat) : Int)]) ∧ Below w.heap.size w w' := by
  have i0 : ∀ wx : World, (Instr.index 9 (.string s) (.int .i64 0)).run Tryz.prog wx = .ok (.int .u8 ((byt s 0 : Nat) : Int)) wx := idxV s 0 (by omega)
  have i1 : ∀ wx : World, (Instr.index 9 (.string s) (.int .i64 1)).run Tryz.prog wx = .ok (.int .u8 ((byt s 1 : Nat) : Int)) wx := idxV s 1 (by omega)
  have i2 : ∀ wx : World, (Instr.index 9 (.string s) (.int .i64 2)).run Tryz.prog wx = .ok (.int .u8 ((byt s 2 : Nat) : Int)) wx := idxV s 2 (by omega)
  have i3 : ∀ wx : World, (Instr.index 9 (.string s) (.int .i64 3)).run Tryz.prog wx = .ok (.int .u8 ((byt s 3 : Nat) : Int)) wx := idxV s 3 (by omega)
  have i4 : ∀ wx : World, (Instr.index 9 (.string s) (.int .i64 4)).run Tryz.prog wx = .ok (.int .u8 ((byt s 4 : Nat) : Int)) wx := idxV s 4 (by omega)
  have b0 := byt_lt s 0
  have b1 := byt_lt s 1
  have b2 := byt_lt s 2
  have b3 := byt_lt s 3
  have b4 := byt_lt s 4
  generalize byt s 0 = B0 at *
  generalize byt s 1 = B1 at *
  generalize byt s 2 = B2 at *
  generalize byt s 3 = B3 at *
  generalize byt s 4 = B4 at *
  have v0 : IntKind.i64.wrap (B0 : Int) = (B0 : Int) := by rw [IntKind.wrap_i64] <;> omega
  have v1 : IntKind.i64.wrap (B1 : Int) = (B1 : Int) := by rw [IntKind.wrap_i64] <;> omega
  have v2 : IntKind.i64.wrap (B2 : Int) = (B2 : Int) := by rw [IntKind.wrap_i64] <;> omega
  have v3 : IntKind.i64.wrap (B3 : Int) = (B3 : Int) := by rw [IntKind.wrap_i64] <;> omega
  have v4 : IntKind.i64.wrap (B4 : Int) = (B4 : Int) := by rw [IntKind.wrap_i64] <;> omega
  clear b0 b1 b2 b3 b4 h
  go_enter Tryz.func238, Tryz.ntmps238
  go_wp2_with fail
  go_region
  go_wp2
  refine bodyPost_ret (v := .agg #[.int .i64 B0, .int .i64 B1, .int .i64 B2, .int .i64 B3, .int .i64 B4]) (by simp [results, Tryz.results238, go_sem]) rfl ⟨rfl, ?_⟩
  exact ((Below.refl _ _).alloc (Nat.le_refl _) _).drew

set_option maxRecDepth 20000 in
theorem keyIn_short (s : ByteArray) (w : World) (h : s.size < 5) :
    Calls Tryz.prog 162 #[.string s] w fun e w' => e = .returned (.tuple #[.agg #[.int .i64 0, .int .i64 0, .int .i64 0, .int .i64 0, .int .i64 0, .string ⟨#[]⟩, .string ⟨#[]⟩], .int .i64 11]) ∧ Below w.heap.size w w' := by
  have e : (s.size : Int) < 5 := by omega
  go_enter Tryz.func162, Tryz.ntmps162
  go_wp2
  refine bodyPost_ret (v := .tuple #[.agg #[.int .i64 0, .int .i64 0, .int .i64 0, .int .i64 0, .int .i64 0, .string ⟨#[]⟩, .string ⟨#[]⟩], .int .i64 11]) (by simp [results, Tryz.results162, go_sem]) rfl ⟨rfl, ?_⟩
  exact (Below.refl _ _).alloc (Nat.le_refl _) _

set_option maxRecDepth 20000 in
set_option maxHeartbeats 4000000 in
theorem keyIn_set (k b x t l a0 a1 a2 a3 a4 a5 : Int) (er : Int) (s : ByteArray) (w : World) (hs : 5 ≤ s.size) (her : er ≠ 0)
    (hS : ∀ V : World, Calls Tryz.prog 238 #[.string s] V fun e w' => e = .returned (.agg #[.int .i64 k, .int .i64 b, .int .i64 x, .int .i64 t, .int .i64 l]) ∧ Below V.heap.size V w')
    (hM : ∀ V : World, Calls Tryz.prog 155 #[.agg #[.int .i64 k, .int .i64 b, .int .i64 x, .int .i64 t, .int .i64 l]] V fun e w' => e = .returned (.tuple #[.agg #[.int .i64 a0, .int .i64 a1, .int .i64 a2, .int .i64 a3, .int .i64 a4, .int .i64 a5], .int .i64 er]) ∧ Below V.heap.size V w') :
    Calls Tryz.prog 162 #[.string s] w fun e w' => e = .returned (.tuple #[.agg #[.int .i64 0, .int .i64 0, .int .i64 0, .int .i64 0, .int .i64 0, .string ⟨#[]⟩, .string ⟨#[]⟩], .int .i64 11]) ∧ Below w.heap.size w w' := by
  have h5 : ¬ (s.size : Int) < 5 := by omega
  have HST := hide hS
  have HMT := hide hM
  clear hS hM
  have HW0 := hide (Blk.new w [.int .i64 0, .int .i64 0, .int .i64 0, .int .i64 0, .int .i64 0, .string ⟨#[]⟩, .string ⟨#[]⟩] 184)
  have HB0 := hide ((Below.refl w.heap.size w).alloc (Nat.le_refl _) (.cells #[.int .i64 0, .int .i64 0, .int .i64 0, .int .i64 0, .int .i64 0, .string ⟨#[]⟩, .string ⟨#[]⟩] 184))
  obtain ⟨W0, hW⟩ : ∃ W0, w.alloc (.cells #[.int .i64 0, .int .i64 0, .int .i64 0, .int .i64 0, .int .i64 0, .string ⟨#[]⟩, .string ⟨#[]⟩] 184) = W0 := ⟨_, rfl⟩
  rw [hW] at HW0 HB0
  have HWE := hide hW
  clear hW
  go_enter Tryz.func162, Tryz.ntmps162
  go_wp2_with fail
  rw [HWE.out]
  refine (HST.out _).mono ?_
  rintro e w1 ⟨rfl, hb1⟩
  have HB1 := hide (heldB HB0.out hb1 (Nat.le_refl _))
  have HK1 := hide (HW0.out.on hb1)
  clear hb1
  have HB2 := hide (HB1.out.alloc HB1.out.size (.cells #[.int .i64 k, .int .i64 b, .int .i64 x, .int .i64 t, .int .i64 l] 26))
  have HK2 := hide (HK1.out.alloc (.cells #[.int .i64 k, .int .i64 b, .int .i64 x, .int .i64 t, .int .i64 l] 26))
  have HN2 := hide (Blk.new w1 [.int .i64 k, .int .i64 b, .int .i64 x, .int .i64 t, .int .i64 l] 26)
  obtain ⟨W2, hW2⟩ : ∃ W2, w1.alloc (.cells #[.int .i64 k, .int .i64 b, .int .i64 x, .int .i64 t, .int .i64 l] 26) = W2 := ⟨_, rfl⟩
  rw [hW2] at HB2 HK2 HN2
  have HM2 := hide (HMT.out W2)
  rw [← hW2] at HM2
  have HW2 := hide hW2
  clear hW2
  go_wp2_with fail
  refine HM2.out.mono ?_
  rintro e w3 ⟨rfl, hb3⟩
  rw [HW2.out] at hb3
  have HB3 := hide (heldB HB2.out hb3 (Nat.le_refl _))
  have HK3 := hide (HK2.out.on hb3)
  have HN3 := hide (HN2.out.on hb3)
  clear hb3 HB2 HK2 HN2
  have HB4 := hide (HB3.out.alloc HB3.out.size (.cells #[.int .i64 a0, .int .i64 a1, .int .i64 a2, .int .i64 a3, .int .i64 a4, .int .i64 a5] 158))
  have HK4 := hide (HK3.out.alloc (.cells #[.int .i64 a0, .int .i64 a1, .int .i64 a2, .int .i64 a3, .int .i64 a4, .int .i64 a5] 158))
  have HN4 := hide (HN3.out.alloc (.cells #[.int .i64 a0, .int .i64 a1, .int .i64 a2, .int .i64 a3, .int .i64 a4, .int .i64 a5] 158))
  have HZ4 := hide (Blk.new w3 [.int .i64 a0, .int .i64 a1, .int .i64 a2, .int .i64 a3, .int .i64 a4, .int .i64 a5] 158)
  obtain ⟨W4, hW4⟩ : ∃ W4, w3.alloc (.cells #[.int .i64 a0, .int .i64 a1, .int .i64 a2, .int .i64 a3, .int .i64 a4, .int .i64 a5] 158) = W4 := ⟨_, rfl⟩
  rw [hW4] at HB4 HK4 HN4 HZ4
  have z5 := HZ4.out.cell 5
  have n0 := HN4.out.cell 0
  have n1 := HN4.out.cell 1
  have n2 := HN4.out.cell 2
  have n3 := HN4.out.cell 3
  have n4 := HN4.out.cell 4
  simp only [List.getElem?_cons_zero, List.getElem?_cons_succ] at z5 n0 n1 n2 n3 n4
  have r0 := HK4.out.cell 0
  have r1 := HK4.out.cell 1
  have r2 := HK4.out.cell 2
  have r3 := HK4.out.cell 3
  have r4 := HK4.out.cell 4
  have r5 := HK4.out.cell 5
  have r6 := HK4.out.cell 6
  have f0 := HK4.out.free 0
  have f1 := HK4.out.free 1
  have f2 := HK4.out.free 2
  have f3 := HK4.out.free 3
  have f4 := HK4.out.free 4
  have f5 := HK4.out.free 5
  have f6 := HK4.out.free 6
  simp only [List.getElem?_cons_zero, List.getElem?_cons_succ] at r0 r1 r2 r3 r4 r5 r6
  clear HK3 HN3 HN4 HZ4 HWE HW2
  have m0 : ((er : Int) != 0) = true := by simpa using her
  have m1 : ((er : Int) == 0) = false := by simpa using her
  go_wp2
  refine bodyPost_ret (v := .tuple #[.agg #[.int .i64 0, .int .i64 0, .int .i64 0, .int .i64 0, .int .i64 0, .string ⟨#[]⟩, .string ⟨#[]⟩], .int .i64 11]) (by simp [results, Tryz.results162, go_sem, r0, r1, r2, r3, r4, r5, r6]) rfl ⟨rfl, ?_⟩
  have HBB := HB4.out
  iterate 7 refine Below.setCell ?_ (by simp) _
  exact HBB

set_option maxRecDepth 20000 in
set_option maxHeartbeats 4000000 in
theorem keyIn_len (k b x t l a0 a1 a2 a3 a4 a5 : Int)  (s : ByteArray) (w : World) (hs : 5 ≤ s.size) (hne : (s.size : Int) ≠ a5)
    (hS : ∀ V : World, Calls Tryz.prog 238 #[.string s] V fun e w' => e = .returned (.agg #[.int .i64 k, .int .i64 b, .int .i64 x, .int .i64 t, .int .i64 l]) ∧ Below V.heap.size V w')
    (hM : ∀ V : World, Calls Tryz.prog 155 #[.agg #[.int .i64 k, .int .i64 b, .int .i64 x, .int .i64 t, .int .i64 l]] V fun e w' => e = .returned (.tuple #[.agg #[.int .i64 a0, .int .i64 a1, .int .i64 a2, .int .i64 a3, .int .i64 a4, .int .i64 a5], .int .i64 0]) ∧ Below V.heap.size V w') :
    Calls Tryz.prog 162 #[.string s] w fun e w' => e = .returned (.tuple #[.agg #[.int .i64 0, .int .i64 0, .int .i64 0, .int .i64 0, .int .i64 0, .string ⟨#[]⟩, .string ⟨#[]⟩], .int .i64 11]) ∧ Below w.heap.size w w' := by
  have h5 : ¬ (s.size : Int) < 5 := by omega
  have HST := hide hS
  have HMT := hide hM
  clear hS hM
  have HW0 := hide (Blk.new w [.int .i64 0, .int .i64 0, .int .i64 0, .int .i64 0, .int .i64 0, .string ⟨#[]⟩, .string ⟨#[]⟩] 184)
  have HB0 := hide ((Below.refl w.heap.size w).alloc (Nat.le_refl _) (.cells #[.int .i64 0, .int .i64 0, .int .i64 0, .int .i64 0, .int .i64 0, .string ⟨#[]⟩, .string ⟨#[]⟩] 184))
  obtain ⟨W0, hW⟩ : ∃ W0, w.alloc (.cells #[.int .i64 0, .int .i64 0, .int .i64 0, .int .i64 0, .int .i64 0, .string ⟨#[]⟩, .string ⟨#[]⟩] 184) = W0 := ⟨_, rfl⟩
  rw [hW] at HW0 HB0
  have HWE := hide hW
  clear hW
  go_enter Tryz.func162, Tryz.ntmps162
  go_wp2_with fail
  rw [HWE.out]
  refine (HST.out _).mono ?_
  rintro e w1 ⟨rfl, hb1⟩
  have HB1 := hide (heldB HB0.out hb1 (Nat.le_refl _))
  have HK1 := hide (HW0.out.on hb1)
  clear hb1
  have HB2 := hide (HB1.out.alloc HB1.out.size (.cells #[.int .i64 k, .int .i64 b, .int .i64 x, .int .i64 t, .int .i64 l] 26))
  have HK2 := hide (HK1.out.alloc (.cells #[.int .i64 k, .int .i64 b, .int .i64 x, .int .i64 t, .int .i64 l] 26))
  have HN2 := hide (Blk.new w1 [.int .i64 k, .int .i64 b, .int .i64 x, .int .i64 t, .int .i64 l] 26)
  obtain ⟨W2, hW2⟩ : ∃ W2, w1.alloc (.cells #[.int .i64 k, .int .i64 b, .int .i64 x, .int .i64 t, .int .i64 l] 26) = W2 := ⟨_, rfl⟩
  rw [hW2] at HB2 HK2 HN2
  have HM2 := hide (HMT.out W2)
  rw [← hW2] at HM2
  have HW2 := hide hW2
  clear hW2
  go_wp2_with fail
  refine HM2.out.mono ?_
  rintro e w3 ⟨rfl, hb3⟩
  rw [HW2.out] at hb3
  have HB3 := hide (heldB HB2.out hb3 (Nat.le_refl _))
  have HK3 := hide (HK2.out.on hb3)
  have HN3 := hide (HN2.out.on hb3)
  clear hb3 HB2 HK2 HN2
  have HB4 := hide (HB3.out.alloc HB3.out.size (.cells #[.int .i64 a0, .int .i64 a1, .int .i64 a2, .int .i64 a3, .int .i64 a4, .int .i64 a5] 158))
  have HK4 := hide (HK3.out.alloc (.cells #[.int .i64 a0, .int .i64 a1, .int .i64 a2, .int .i64 a3, .int .i64 a4, .int .i64 a5] 158))
  have HN4 := hide (HN3.out.alloc (.cells #[.int .i64 a0, .int .i64 a1, .int .i64 a2, .int .i64 a3, .int .i64 a4, .int .i64 a5] 158))
  have HZ4 := hide (Blk.new w3 [.int .i64 a0, .int .i64 a1, .int .i64 a2, .int .i64 a3, .int .i64 a4, .int .i64 a5] 158)
  obtain ⟨W4, hW4⟩ : ∃ W4, w3.alloc (.cells #[.int .i64 a0, .int .i64 a1, .int .i64 a2, .int .i64 a3, .int .i64 a4, .int .i64 a5] 158) = W4 := ⟨_, rfl⟩
  rw [hW4] at HB4 HK4 HN4 HZ4
  have z5 := HZ4.out.cell 5
  have n0 := HN4.out.cell 0
  have n1 := HN4.out.cell 1
  have n2 := HN4.out.cell 2
  have n3 := HN4.out.cell 3
  have n4 := HN4.out.cell 4
  simp only [List.getElem?_cons_zero, List.getElem?_cons_succ] at z5 n0 n1 n2 n3 n4
  have r0 := HK4.out.cell 0
  have r1 := HK4.out.cell 1
  have r2 := HK4.out.cell 2
  have r3 := HK4.out.cell 3
  have r4 := HK4.out.cell 4
  have r5 := HK4.out.cell 5
  have r6 := HK4.out.cell 6
  have f0 := HK4.out.free 0
  have f1 := HK4.out.free 1
  have f2 := HK4.out.free 2
  have f3 := HK4.out.free 3
  have f4 := HK4.out.free 4
  have f5 := HK4.out.free 5
  have f6 := HK4.out.free 6
  simp only [List.getElem?_cons_zero, List.getElem?_cons_succ] at r0 r1 r2 r3 r4 r5 r6
  clear HK3 HN3 HN4 HZ4 HWE HW2
  have m0 : ((s.size : Int) != a5) = true := by simpa using hne
  have m1 : ((s.size : Int) == a5) = false := by simpa using hne
  go_wp2
  refine bodyPost_ret (v := .tuple #[.agg #[.int .i64 0, .int .i64 0, .int .i64 0, .int .i64 0, .int .i64 0, .string ⟨#[]⟩, .string ⟨#[]⟩], .int .i64 11]) (by simp [results, Tryz.results162, go_sem, r0, r1, r2, r3, r4, r5, r6]) rfl ⟨rfl, ?_⟩
  have HBB := HB4.out
  iterate 7 refine Below.setCell ?_ (by simp) _
  exact HBB

set_option maxRecDepth 20000 in
set_option maxHeartbeats 4000000 in
theorem keyIn_yes (k b x t l a0 a1 a2 a3 a4 a5 : Int) (B : Nat) (s : ByteArray) (w : World) (hB : b = (B : Int)) (hb1 : B ≤ 16) (hz : s.size = 5 + 2 * B) (hsz : (s.size : Int) = a5)
    (hS : ∀ V : World, Calls Tryz.prog 238 #[.string s] V fun e w' => e = .returned (.agg #[.int .i64 k, .int .i64 b, .int .i64 x, .int .i64 t, .int .i64 l]) ∧ Below V.heap.size V w')
    (hM : ∀ V : World, Calls Tryz.prog 155 #[.agg #[.int .i64 k, .int .i64 b, .int .i64 x, .int .i64 t, .int .i64 l]] V fun e w' => e = .returned (.tuple #[.agg #[.int .i64 a0, .int .i64 a1, .int .i64 a2, .int .i64 a3, .int .i64 a4, .int .i64 a5], .int .i64 0]) ∧ Below V.heap.size V w') :
    Calls Tryz.prog 162 #[.string s] w fun e w' => e = .returned (.tuple #[.agg #[.int .i64 k, .int .i64 b, .int .i64 x, .int .i64 t, .int .i64 l, .string (s.extract 5 (5 + B)), .string (s.extract (5 + B) s.size)], .int .i64 0]) ∧ Below w.heap.size w w' := by
  have hsA : ∀ wx, (Instr.slice 9 (.string s) (some (.int .i64 5)) (some (.int .i64 (5 + b))) none).run Tryz.prog wx = .ok (.string (s.extract 5 (5 + B))) wx := fun wx => by
    have h := sliceV s 5 (5 + B) (by omega) (by omega) wx
    rw [Int.natCast_add, ← hB] at h
    exact h
  have hsB : ∀ wx, (Instr.slice 9 (.string s) (some (.int .i64 (5 + b))) none none).run Tryz.prog wx = .ok (.string (s.extract (5 + B) s.size)) wx := fun wx => by
    have h := sliceVE s (5 + B) (by omega) wx
    rw [Int.natCast_add, ← hB] at h
    exact h
  generalize s.extract (5 + B) s.size = sB at hsB ⊢
  generalize s.extract 5 (5 + B) = sA at hsA ⊢
  have b1 : 0 ≤ b := by omega
  have b2 : b ≤ 16 := by omega
  clear hB
  have h5 : ¬ (s.size : Int) < 5 := by omega
  have HST := hide hS
  have HMT := hide hM
  clear hS hM
  have HW0 := hide (Blk.new w [.int .i64 0, .int .i64 0, .int .i64 0, .int .i64 0, .int .i64 0, .string ⟨#[]⟩, .string ⟨#[]⟩] 184)
  have HB0 := hide ((Below.refl w.heap.size w).alloc (Nat.le_refl _) (.cells #[.int .i64 0, .int .i64 0, .int .i64 0, .int .i64 0, .int .i64 0, .string ⟨#[]⟩, .string ⟨#[]⟩] 184))
  obtain ⟨W0, hW⟩ : ∃ W0, w.alloc (.cells #[.int .i64 0, .int .i64 0, .int .i64 0, .int .i64 0, .int .i64 0, .string ⟨#[]⟩, .string ⟨#[]⟩] 184) = W0 := ⟨_, rfl⟩
  rw [hW] at HW0 HB0
  have HWE := hide hW
  clear hW
  go_enter Tryz.func162, Tryz.ntmps162
  go_wp2_with fail
  rw [HWE.out]
  refine (HST.out _).mono ?_
  rintro e w1 ⟨rfl, hb1⟩
  have HB1 := hide (heldB HB0.out hb1 (Nat.le_refl _))
  have HK1 := hide (HW0.out.on hb1)
  clear hb1
  have HB2 := hide (HB1.out.alloc HB1.out.size (.cells #[.int .i64 k, .int .i64 b, .int .i64 x, .int .i64 t, .int .i64 l] 26))
  have HK2 := hide (HK1.out.alloc (.cells #[.int .i64 k, .int .i64 b, .int .i64 x, .int .i64 t, .int .i64 l] 26))
  have HN2 := hide (Blk.new w1 [.int .i64 k, .int .i64 b, .int .i64 x, .int .i64 t, .int .i64 l] 26)
  obtain ⟨W2, hW2⟩ : ∃ W2, w1.alloc (.cells #[.int .i64 k, .int .i64 b, .int .i64 x, .int .i64 t, .int .i64 l] 26) = W2 := ⟨_, rfl⟩
  rw [hW2] at HB2 HK2 HN2
  have HM2 := hide (HMT.out W2)
  rw [← hW2] at HM2
  have HW2 := hide hW2
  clear hW2
  go_wp2_with fail
  refine HM2.out.mono ?_
  rintro e w3 ⟨rfl, hb3⟩
  rw [HW2.out] at hb3
  have HB3 := hide (heldB HB2.out hb3 (Nat.le_refl _))
  have HK3 := hide (HK2.out.on hb3)
  have HN3 := hide (HN2.out.on hb3)
  clear hb3 HB2 HK2 HN2
  have HB4 := hide (HB3.out.alloc HB3.out.size (.cells #[.int .i64 a0, .int .i64 a1, .int .i64 a2, .int .i64 a3, .int .i64 a4, .int .i64 a5] 158))
  have HK4 := hide (HK3.out.alloc (.cells #[.int .i64 a0, .int .i64 a1, .int .i64 a2, .int .i64 a3, .int .i64 a4, .int .i64 a5] 158))
  have HN4 := hide (HN3.out.alloc (.cells #[.int .i64 a0, .int .i64 a1, .int .i64 a2, .int .i64 a3, .int .i64 a4, .int .i64 a5] 158))
  have HZ4 := hide (Blk.new w3 [.int .i64 a0, .int .i64 a1, .int .i64 a2, .int .i64 a3, .int .i64 a4, .int .i64 a5] 158)
  obtain ⟨W4, hW4⟩ : ∃ W4, w3.alloc (.cells #[.int .i64 a0, .int .i64 a1, .int .i64 a2, .int .i64 a3, .int .i64 a4, .int .i64 a5] 158) = W4 := ⟨_, rfl⟩
  rw [hW4] at HB4 HK4 HN4 HZ4
  have z5 := HZ4.out.cell 5
  have n0 := HN4.out.cell 0
  have n1 := HN4.out.cell 1
  have n2 := HN4.out.cell 2
  have n3 := HN4.out.cell 3
  have n4 := HN4.out.cell 4
  simp only [List.getElem?_cons_zero, List.getElem?_cons_succ] at z5 n0 n1 n2 n3 n4
  have r0 := HK4.out.cell 0
  have r1 := HK4.out.cell 1
  have r2 := HK4.out.cell 2
  have r3 := HK4.out.cell 3
  have r4 := HK4.out.cell 4
  have r5 := HK4.out.cell 5
  have r6 := HK4.out.cell 6
  have f0 := HK4.out.free 0
  have f1 := HK4.out.free 1
  have f2 := HK4.out.free 2
  have f3 := HK4.out.free 3
  have f4 := HK4.out.free 4
  have f5 := HK4.out.free 5
  have f6 := HK4.out.free 6
  simp only [List.getElem?_cons_zero, List.getElem?_cons_succ] at r0 r1 r2 r3 r4 r5 r6
  clear HK3 HN3 HN4 HZ4 HWE HW2
  have m0 : ((s.size : Int) != a5) = false := by simpa using hsz
  have m1 : ((s.size : Int) == a5) = true := by simpa using hsz
  go_wp2_with fail
  clear hW4
  have HW1 := hide HK1.out.lt
  have HS := hide (show W4.cell? ⟨w1.heap.size, 0, none⟩ = some (.int .i64 k) ∧ W4.cell? ⟨w1.heap.size, 1, none⟩ = some (.int .i64 b) ∧ W4.cell? ⟨w1.heap.size, 2, none⟩ = some (.int .i64 x) ∧ W4.cell? ⟨w1.heap.size, 3, none⟩ = some (.int .i64 t) ∧ W4.cell? ⟨w1.heap.size, 4, none⟩ = some (.int .i64 l) from ⟨n0, n1, n2, n3, n4⟩)
  refine wp_region_held_drew (S := fun V => V.cell? ⟨w1.heap.size, 0, none⟩ = some (.int .i64 k) ∧ V.cell? ⟨w1.heap.size, 1, none⟩ = some (.int .i64 b) ∧ V.cell? ⟨w1.heap.size, 2, none⟩ = some (.int .i64 x) ∧ V.cell? ⟨w1.heap.size, 3, none⟩ = some (.int .i64 t) ∧ V.cell? ⟨w1.heap.size, 4, none⟩ = some (.int .i64 l)) (by kernel_rfl) HS.out (fun hHeld => ?_)
  refine wpAnyH_take (i := 0) (oi := ?oia0) (v := ?va0) ?hia0 (by kernel_rfl) (by kernel_rfl) (by kernel_rfl) ?hQa0 (Or.inl ⟨?h1a0, ?hya0⟩) hHeld ?resta0
  case hia0 => (simp only [List.getElem?_toArray, List.getElem?_cons_zero]; rfl)
  case hQa0 => exact fun _ _ _ h => h
  case h1a0 => rfl
  case hya0 => intro V hSV; (try dsimp only at hSV); go_simp; (try with_reducible rfl)
  try simp only [Act.put, List.setIfInBounds_toArray, List.set_cons_zero, List.set_cons_succ]
  refine wpAnyH_take (i := 1) (oi := ?oia1) (v := ?va1) ?hia1 (by kernel_rfl) (by kernel_rfl) (by kernel_rfl) ?hQa1 (Or.inl ⟨?h1a1, ?hya1⟩) hHeld ?resta1
  case hia1 => (simp only [List.getElem?_toArray, List.getElem?_cons_succ, List.getElem?_cons_zero]; rfl)
  case hQa1 => exact fun _ _ _ h => h
  case h1a1 => rfl
  case hya1 => intro V hSV; (try dsimp only at hSV); go_simp; (try with_reducible rfl)
  try simp only [Act.put, List.setIfInBounds_toArray, List.set_cons_zero, List.set_cons_succ]
  refine wpAnyH_take (i := 2) (oi := ?oia2) (v := ?va2) ?hia2 (by kernel_rfl) (by kernel_rfl) (by kernel_rfl) ?hQa2 (Or.inl ⟨?h1a2, ?hya2⟩) hHeld ?resta2
  case hia2 => (simp only [List.getElem?_toArray, List.getElem?_cons_succ, List.getElem?_cons_zero]; rfl)
  case hQa2 => exact fun _ _ _ h => h
  case h1a2 => rfl
  case hya2 => intro V hSV; (try dsimp only at hSV); go_simp; (try with_reducible rfl)
  try simp only [Act.put, List.setIfInBounds_toArray, List.set_cons_zero, List.set_cons_succ]
  refine wpAnyH_take (i := 3) (oi := ?oia3) (v := ?va3) ?hia3 (by kernel_rfl) (by kernel_rfl) (by kernel_rfl) ?hQa3 (Or.inl ⟨?h1a3, ?hya3⟩) hHeld ?resta3
  case hia3 => (simp only [List.getElem?_toArray, List.getElem?_cons_succ, List.getElem?_cons_zero]; rfl)
  case hQa3 => exact fun _ _ _ h => h
  case h1a3 => rfl
  case hya3 => intro V hSV; (try dsimp only at hSV); go_simp; (try with_reducible rfl)
  try simp only [Act.put, List.setIfInBounds_toArray, List.set_cons_zero, List.set_cons_succ]
  refine wpAnyH_take (i := 4) (oi := ?oia4) (v := ?va4) ?hia4 (by kernel_rfl) (by kernel_rfl) (by kernel_rfl) ?hQa4 (Or.inl ⟨?h1a4, ?hya4⟩) hHeld ?resta4
  case hia4 => (simp only [List.getElem?_toArray, List.getElem?_cons_succ, List.getElem?_cons_zero]; rfl)
  case hQa4 => exact fun _ _ _ h => h
  case h1a4 => rfl
  case hya4 => intro V hSV; (try dsimp only at hSV); go_simp; (try with_reducible rfl)
  try simp only [Act.put, List.setIfInBounds_toArray, List.set_cons_zero, List.set_cons_succ]
  refine wpAnyH_take (i := 5) (oi := ?oia5) (v := ?va5) ?hia5 (by kernel_rfl) (by kernel_rfl) (by kernel_rfl) ?hQa5 (Or.inl ⟨?h1a5, ?hya5⟩) hHeld ?resta5
  case hia5 => (simp only [List.getElem?_toArray, List.getElem?_cons_succ, List.getElem?_cons_zero]; rfl)
  case hQa5 => exact fun _ _ _ h => h
  case h1a5 => rfl
  case hya5 => intro V hSV; (try dsimp only at hSV); go_simp; (try with_reducible rfl)
  try simp only [Act.put, List.setIfInBounds_toArray, List.set_cons_zero, List.set_cons_succ]
  refine wpAnyH_take (i := 6) (oi := ?oia6) (v := ?va6) ?hia6 (by kernel_rfl) (by kernel_rfl) (by kernel_rfl) ?hQa6 (Or.inl ⟨?h1a6, ?hya6⟩) hHeld ?resta6
  case hia6 => (simp only [List.getElem?_toArray, List.getElem?_cons_succ, List.getElem?_cons_zero]; rfl)
  case hQa6 => exact fun _ _ _ h => h
  case h1a6 => rfl
  case hya6 => intro V hSV; (try dsimp only at hSV); go_simp; (try with_reducible rfl)
  try simp only [Act.put, List.setIfInBounds_toArray, List.set_cons_zero, List.set_cons_succ]
  refine wpAnyH_take (i := 7) (oi := ?oia7) (v := ?va7) ?hia7 (by kernel_rfl) (by kernel_rfl) (by kernel_rfl) ?hQa7 (Or.inl ⟨?h1a7, ?hya7⟩) hHeld ?resta7
  case hia7 => (simp only [List.getElem?_toArray, List.getElem?_cons_succ, List.getElem?_cons_zero]; rfl)
  case hQa7 => exact fun _ _ _ h => h
  case h1a7 => rfl
  case hya7 => intro V hSV; (try dsimp only at hSV); go_simp; (try with_reducible rfl)
  try simp only [Act.put, List.setIfInBounds_toArray, List.set_cons_zero, List.set_cons_succ]
  refine wpAnyH_ready (rs := [8]) (by kernel_rfl) (by simp) ?_
  refine AllReadyH.cons (o := ?oa8) ?hoa8 (fun K hK => ?hsa8) AllReadyH.nil
  case hoa8 => (simp only [List.getElem?_toArray, List.getElem?_cons_succ, List.getElem?_cons_zero]; rfl)
  have q0 : W4.drew.cell? ⟨w.heap.size, 0, none⟩ = _ := r0
  have q1 : W4.drew.cell? ⟨w.heap.size, 1, none⟩ = _ := r1
  have q2 : W4.drew.cell? ⟨w.heap.size, 2, none⟩ = _ := r2
  have q3 : W4.drew.cell? ⟨w.heap.size, 3, none⟩ = _ := r3
  have q4 : W4.drew.cell? ⟨w.heap.size, 4, none⟩ = _ := r4
  have q5 : W4.drew.cell? ⟨w.heap.size, 5, none⟩ = _ := r5
  have q6 : W4.drew.cell? ⟨w.heap.size, 6, none⟩ = _ := r6
  have e0 : W4.drew.frozen? ⟨w.heap.size, 0, none⟩ = _ := f0
  have e1 : W4.drew.frozen? ⟨w.heap.size, 1, none⟩ = _ := f1
  have e2 : W4.drew.frozen? ⟨w.heap.size, 2, none⟩ = _ := f2
  have e3 : W4.drew.frozen? ⟨w.heap.size, 3, none⟩ = _ := f3
  have e4 : W4.drew.frozen? ⟨w.heap.size, 4, none⟩ = _ := f4
  have e5 : W4.drew.frozen? ⟨w.heap.size, 5, none⟩ = _ := f5
  have e6 : W4.drew.frozen? ⟨w.heap.size, 6, none⟩ = _ := f6
  go_simp
  refine hK.out _ _ ?hSS (fun hHeld => ?_)
  case hSS =>
    have hw1 := HW1.out
    have hdr : ∀ (V : World) (p : Addr), V.drew.cell? p = V.cell? p := fun _ _ => rfl
    refine ⟨?_, ?_, ?_, ?_, ?_⟩
    all_goals
      rw [hdr]
      iterate 7 refine (World.cell?_setCell_other _ _ _ _ (by simp <;> omega)).trans ?_
    · exact n0
    · exact n1
    · exact n2
    · exact n3
    · exact n4
  clear hK K
  try simp only [Act.put, List.setIfInBounds_toArray, List.set_cons_zero, List.set_cons_succ]
  refine wpAnyH_take (i := 9) (oi := ?oia9) (v := ?va9) ?hia9 (by kernel_rfl) (by kernel_rfl) (by kernel_rfl) ?hQa9 (Or.inl ⟨?h1a9, ?hya9⟩) hHeld ?resta9
  case hia9 => (simp only [List.getElem?_toArray, List.getElem?_cons_succ, List.getElem?_cons_zero]; rfl)
  case hQa9 => exact fun _ _ _ h => h
  case h1a9 => rfl
  case hya9 => intro V hSV; (try dsimp only at hSV); go_simp; (try with_reducible rfl)
  try simp only [Act.put, List.setIfInBounds_toArray, List.set_cons_zero, List.set_cons_succ]
  refine wpAnyH_done (by kernel_rfl) ?_ _
  go_wp2
  refine bodyPost_ret (v := .tuple #[.agg #[.int .i64 k, .int .i64 b, .int .i64 x, .int .i64 t, .int .i64 l, .string sA, .string sB], .int .i64 0]) (by simp [results, Tryz.results162, go_sem, r0, r1, r2, r3, r4, r5, r6]) rfl ⟨rfl, ?_⟩
  have HBB := HB4.out
  refine Below.drew ?_
  iterate 7 refine Below.setCell ?_ (by simp) _
  exact HBB
end Go.Proofs.YtgaoeoijdpdjiabGreatDoor

namespace Go.Proofs.YtgaoeoijdpdjiabGreatDoor
open Go.RowKit

/-- What a call of splits leaves. -/
def Left4T (B0 B bk : Nat) (v : Value) (S : List Value) (w w' : World) : Prop := ∃ v' S', BookT w' B bk v' S' ∧ S'.length = S.length + 4 ∧ Below B0 w w' ∧ (∀ q, q < w.heap.size → q ≠ bk → v.ownBlock ≠ some q → w'.heap[q]? = w.heap[q]?) ∧ w.heap.size ≤ w'.heap.size

theorem numW_any (x : Int) (w : World) : Calls Tryz.prog 38 #[.int .i64 x] w fun e w' => e = .returned (.int .i64 x) ∧ w' = w := by
  go_enter Tryz.func38, Tryz.ntmps38
  go_wp2
  go_ret
  exact ⟨rfl, rfl⟩

set_option maxRecDepth 20000 in
set_option maxHeartbeats 4000000 in
theorem splits_err (B0 B bk : Nat) (v : Value) (S : List Value) (k b x t l e : Int) (sig : ByteArray) (w : World) (hB : BookT w B bk v S) (h4 : S.length % 4 = 0) (hS : S.length ≤ 90) (b1 : B0 ≤ B) (b2 : B0 ≤ bk) (b3 : B0 ≤ w.heap.size) (b4 : B ≤ w.heap.size)
    (h1 : ∀ V : World, Calls Tryz.prog 35 #[.agg #[.int .i64 k, .int .i64 b, .int .i64 x, .int .i64 t, .int .i64 l], .string sig] V fun r w' => r = .returned (.tuple #[.agg #[.int .i64 0, .string ⟨#[]⟩, .slice none 0 0], .int .i64 e]) ∧ Below V.heap.size V w')
    (h2 : ∀ V : World, Calls Tryz.prog 36 #[.agg #[.int .i64 k, .int .i64 b, .int .i64 x, .int .i64 t, .int .i64 l], .string sig] V fun r w' => r = .returned (.tuple #[.agg #[.int .i64 0, .string ⟨#[]⟩, .slice none 0 0], .int .i64 e]) ∧ Below V.heap.size V w') :
    Calls Tryz.prog 10 #[.pointer (some ⟨bk, 0, none⟩), .agg #[.int .i64 k, .int .i64 b, .int .i64 x, .int .i64 t, .int .i64 l], .string sig] w fun r w' => r = .returned (.bool true) ∧ Left4T B0 B bk v S w w' := by
  have H1 := hide h1
  have H2 := hide h2
  have HBK := hide hB
  clear h1 h2 hB
  have HK0 := hide (Blk.new w [.int .i64 k, .int .i64 b, .int .i64 x, .int .i64 t, .int .i64 l] 26)
  have HB0 := hide ((Below.refl w.heap.size w).alloc (Nat.le_refl _) (.cells #[.int .i64 k, .int .i64 b, .int .i64 x, .int .i64 t, .int .i64 l] 26))
  obtain ⟨W0, hW⟩ : ∃ W0, w.alloc (.cells #[.int .i64 k, .int .i64 b, .int .i64 x, .int .i64 t, .int .i64 l] 26) = W0 := ⟨_, rfl⟩
  rw [hW] at HK0 HB0
  have HWE := hide hW
  clear hW
  go_enter Tryz.func10, Tryz.ntmps10
  go_wp2_with fail
  rw [HWE.out]
  refine (H1.out _).mono ?_
  rintro r w1 ⟨rfl, hb1⟩
  have HB1 := hide (heldB HB0.out hb1 (Nat.le_refl _))
  have HK1 := hide (HK0.out.on hb1)
  clear hb1 HB0 HK0 HWE
  have HB2 := hide (HB1.out.alloc HB1.out.size (.cells #[.int .i64 0, .string ⟨#[]⟩, .slice none 0 0] 29))
  have HK2 := hide (HK1.out.alloc (.cells #[.int .i64 0, .string ⟨#[]⟩, .slice none 0 0] 29))
  have HP2 := hide (Blk.new w1 [.int .i64 0, .string ⟨#[]⟩, .slice none 0 0] 29)
  obtain ⟨W2, hW2⟩ : ∃ W2, w1.alloc (.cells #[.int .i64 0, .string ⟨#[]⟩, .slice none 0 0] 29) = W2 := ⟨_, rfl⟩
  rw [hW2] at HB2 HK2 HP2
  have c0 : ∀ o : Obj, (w1.alloc o).cell? ⟨w.heap.size, 0, none⟩ = some (.int .i64 k) := fun o => (HK1.out.alloc o).cell 0
  have c1 : ∀ o : Obj, (w1.alloc o).cell? ⟨w.heap.size, 1, none⟩ = some (.int .i64 b) := fun o => (HK1.out.alloc o).cell 1
  have c2 : ∀ o : Obj, (w1.alloc o).cell? ⟨w.heap.size, 2, none⟩ = some (.int .i64 x) := fun o => (HK1.out.alloc o).cell 2
  have c3 : ∀ o : Obj, (w1.alloc o).cell? ⟨w.heap.size, 3, none⟩ = some (.int .i64 t) := fun o => (HK1.out.alloc o).cell 3
  have c4 : ∀ o : Obj, (w1.alloc o).cell? ⟨w.heap.size, 4, none⟩ = some (.int .i64 l) := fun o => (HK1.out.alloc o).cell 4
  have HWE := hide hW2
  clear hW2
  go_wp2_with fail
  rw [HWE.out]
  refine (H2.out _).mono ?_
  rintro r w3 ⟨rfl, hb3⟩
  have HB3 := hide (heldB HB2.out hb3 (Nat.le_refl _))
  have HP3 := hide (HP2.out.on hb3)
  clear hb3 HB2 HK2 HP2 HWE c0 c1 c2 c3 c4
  have HB4 := hide (HB3.out.alloc HB3.out.size (.cells #[.int .i64 0, .string ⟨#[]⟩, .slice none 0 0] 29))
  have HP4 := hide (HP3.out.alloc (.cells #[.int .i64 0, .string ⟨#[]⟩, .slice none 0 0] 29))
  have HQ4 := hide (Blk.new w3 [.int .i64 0, .string ⟨#[]⟩, .slice none 0 0] 29)
  obtain ⟨W4, hW4⟩ : ∃ W4, w3.alloc (.cells #[.int .i64 0, .string ⟨#[]⟩, .slice none 0 0] 29) = W4 := ⟨_, rfl⟩
  rw [hW4] at HB4 HP4 HQ4
  have p2 : ∀ o : Obj, (w3.alloc o).cell? ⟨w1.heap.size, 2, none⟩ = some (.slice none 0 0) := fun o => (HP3.out.alloc o).cell 2
  have HWE := hide hW4
  clear hW4
  go_wp2_with fail
  rw [HWE.out]
  refine (sameT_nil _).mono ?_
  rintro r w5 ⟨rfl, hb5⟩
  have HB5 := hide (heldB HB4.out hb5 (Nat.le_refl _))
  have HP5 := hide (HP4.out.on hb5)
  have HQ5 := hide (HQ4.out.on hb5)
  clear hb5 HB4 HP4 HQ4 HWE p2
  have p0 := HP5.out.cell 0
  have p1 := HP5.out.cell 1
  have p2 := HP5.out.cell 2
  have q0 := HQ5.out.cell 0
  have q1 := HQ5.out.cell 1
  have q2 := HQ5.out.cell 2
  simp only [List.getElem?_cons_zero, List.getElem?_cons_succ] at p0 p1 p2 q0 q1 q2
  go_wp2_with fail
  refine (numW_any _ _).mono ?_
  rintro r w6 ⟨rfl, hw6⟩
  obtain rfl := hw6.symm
  clear hw6
  go_wp2_with fail
  refine (keepT_nil B0 B bk v S w w5 HBK.out h4 hS HB5.out b1 b2 b3 b4).mono ?_
  rintro r w7 ⟨rfl, v', S', hB7, hl7, hb7, hk7, hz7⟩
  have L := hide (show Left4T B0 B bk v S w w7 from ⟨v', S', hB7, hl7, (HB5.out.mono b3).trans hb7, hk7, Nat.le_trans HB5.out.size hz7⟩)
  clear hB7 hl7 hb7 hk7 hz7 p0 p1 p2 q0 q1 q2
  go_wp2
  go_ret
  exact ⟨rfl, L.out⟩

set_option maxRecDepth 20000 in
set_option maxHeartbeats 4000000 in
theorem splits_ok (B0 B bk : Nat) (v : Value) (S : List Value) (k b x t l i : Int) (n : Nat) (rnd : ByteArray) (xs : List ByteArray) (sig : ByteArray) (w : World) (hB : BookT w B bk v S) (h4 : S.length % 4 = 0) (hS : S.length ≤ 90) (b1 : B0 ≤ B) (b2 : B0 ≤ bk) (b3 : B0 ≤ w.heap.size) (b4 : B ≤ w.heap.size) (hn : xs.length = n) (hn1 : 1 ≤ n) (hn2 : n ≤ 250)
    (h1 : ∀ V : World, Calls Tryz.prog 35 #[.agg #[.int .i64 k, .int .i64 b, .int .i64 x, .int .i64 t, .int .i64 l], .string sig] V fun r w' => ∃ g, r = .returned (.tuple #[.agg #[.int .i64 i, .string rnd, .slice (some ⟨g, 0, none⟩) n n], .int .i64 0]) ∧ V.heap.size ≤ g ∧ Blk w' g (xs.map Value.string) 9 ∧ Below V.heap.size V w')
    (h2 : ∀ V : World, Calls Tryz.prog 36 #[.agg #[.int .i64 k, .int .i64 b, .int .i64 x, .int .i64 t, .int .i64 l], .string sig] V fun r w' => ∃ g2 c2, r = .returned (.tuple #[.agg #[.int .i64 i, .string rnd, .slice (some ⟨g2, 0, none⟩) n c2], .int .i64 0]) ∧ V.heap.size ≤ g2 ∧ n ≤ c2 ∧ g2 < w'.heap.size ∧ (∀ (j : Nat) y, xs[j]? = some y → w'.cell? ⟨g2, 0 + j, none⟩ = some (.string y)) ∧ Below V.heap.size V w') :
    Calls Tryz.prog 10 #[.pointer (some ⟨bk, 0, none⟩), .agg #[.int .i64 k, .int .i64 b, .int .i64 x, .int .i64 t, .int .i64 l], .string sig] w fun r w' => r = .returned (.bool true) ∧ Left4T B0 B bk v S w w' := by
  have H1 := hide h1
  have H2 := hide h2
  have HBK := hide hB
  have hne : ((n : Int) == 0) = false := by simp; omega
  have HXN := hide hn
  clear hn
  clear h1 h2 hB
  have HK0 := hide (Blk.new w [.int .i64 k, .int .i64 b, .int .i64 x, .int .i64 t, .int .i64 l] 26)
  have HB0 := hide ((Below.refl w.heap.size w).alloc (Nat.le_refl _) (.cells #[.int .i64 k, .int .i64 b, .int .i64 x, .int .i64 t, .int .i64 l] 26))
  obtain ⟨W0, hW⟩ : ∃ W0, w.alloc (.cells #[.int .i64 k, .int .i64 b, .int .i64 x, .int .i64 t, .int .i64 l] 26) = W0 := ⟨_, rfl⟩
  rw [hW] at HK0 HB0
  have HWE := hide hW
  clear hW
  go_enter Tryz.func10, Tryz.ntmps10
  go_wp2_with fail
  rw [HWE.out]
  refine (H1.out _).mono ?_
  rintro r w1 ⟨g, rfl, hg, hk1, hb1⟩
  have HB1 := hide (heldB HB0.out hb1 (Nat.le_refl _))
  have HK1 := hide (HK0.out.on hb1)
  have HX1 := hide hk1
  have HG := hide (Nat.le_trans HB0.out.size hg)
  clear hg hk1
  clear hb1 HB0 HK0 HWE
  have HB2 := hide (HB1.out.alloc HB1.out.size (.cells #[.int .i64 i, .string rnd, .slice (some ⟨g, 0, none⟩) n n] 29))
  have HK2 := hide (HK1.out.alloc (.cells #[.int .i64 i, .string rnd, .slice (some ⟨g, 0, none⟩) n n] 29))
  have HP2 := hide (Blk.new w1 [.int .i64 i, .string rnd, .slice (some ⟨g, 0, none⟩) n n] 29)
  have HX2 := hide (HX1.out.alloc (.cells #[.int .i64 i, .string rnd, .slice (some ⟨g, 0, none⟩) n n] 29))
  obtain ⟨W2, hW2⟩ : ∃ W2, w1.alloc (.cells #[.int .i64 i, .string rnd, .slice (some ⟨g, 0, none⟩) n n] 29) = W2 := ⟨_, rfl⟩
  rw [hW2] at HB2 HK2 HP2 HX2
  have c0 : ∀ o : Obj, (w1.alloc o).cell? ⟨w.heap.size, 0, none⟩ = some (.int .i64 k) := fun o => (HK1.out.alloc o).cell 0
  have c1 : ∀ o : Obj, (w1.alloc o).cell? ⟨w.heap.size, 1, none⟩ = some (.int .i64 b) := fun o => (HK1.out.alloc o).cell 1
  have c2 : ∀ o : Obj, (w1.alloc o).cell? ⟨w.heap.size, 2, none⟩ = some (.int .i64 x) := fun o => (HK1.out.alloc o).cell 2
  have c3 : ∀ o : Obj, (w1.alloc o).cell? ⟨w.heap.size, 3, none⟩ = some (.int .i64 t) := fun o => (HK1.out.alloc o).cell 3
  have c4 : ∀ o : Obj, (w1.alloc o).cell? ⟨w.heap.size, 4, none⟩ = some (.int .i64 l) := fun o => (HK1.out.alloc o).cell 4
  have HWE := hide hW2
  clear hW2
  go_wp2_with fail
  rw [HWE.out]
  refine (H2.out _).mono ?_
  rintro r w3 ⟨g2, c2', rfl, hg2, _, hg3, hce, hb3⟩
  have HB3 := hide (heldB HB2.out hb3 (Nat.le_refl _))
  have HP3 := hide (HP2.out.on hb3)
  have HX3 := hide (HX2.out.on hb3)
  have HCE := hide hce
  have HG3 := hide hg3
  clear hg2 hg3 hce
  clear hb3 HB2 HK2 HP2 HWE c0 c1 c2 c3 c4
  have HB4 := hide (HB3.out.alloc HB3.out.size (.cells #[.int .i64 i, .string rnd, .slice (some ⟨g2, 0, none⟩) n c2'] 29))
  have HP4 := hide (HP3.out.alloc (.cells #[.int .i64 i, .string rnd, .slice (some ⟨g2, 0, none⟩) n c2'] 29))
  have HQ4 := hide (Blk.new w3 [.int .i64 i, .string rnd, .slice (some ⟨g2, 0, none⟩) n c2'] 29)
  have HX4 := hide (HX3.out.alloc (.cells #[.int .i64 i, .string rnd, .slice (some ⟨g2, 0, none⟩) n c2'] 29))
  have HC4 := hide (fun (j : Nat) (y : ByteArray) (hj : xs[j]? = some y) => (by
    have h := (World.cell?_alloc_past (.cells #[.int .i64 i, .string rnd, .slice (some ⟨g2, 0, none⟩) n c2'] 29) g2 (0 + j) HG3.out).trans (HCE.out j y hj)
    rw [Nat.zero_add] at h
    exact h : (w3.alloc (.cells #[.int .i64 i, .string rnd, .slice (some ⟨g2, 0, none⟩) n c2'] 29)).cell? ⟨g2, j, none⟩ = some (.string y)))
  obtain ⟨W4, hW4⟩ : ∃ W4, w3.alloc (.cells #[.int .i64 i, .string rnd, .slice (some ⟨g2, 0, none⟩) n c2'] 29) = W4 := ⟨_, rfl⟩
  rw [hW4] at HB4 HP4 HQ4 HX4 HC4
  have p2 : ∀ o : Obj, (w3.alloc o).cell? ⟨w1.heap.size, 2, none⟩ = some (.slice (some ⟨g, 0, none⟩) n n) := fun o => (HP3.out.alloc o).cell 2
  have HWE := hide hW4
  clear hW4
  go_wp2_with fail
  rw [HWE.out]
  refine (sameT_some g g2 n n c2' xs W4 (by omega) HXN.out (fun j y hj => by rw [HX4.out.cell, List.getElem?_map, hj]; rfl) HC4.out).mono ?_
  rintro r w5 ⟨rfl, hb5⟩
  have HB5 := hide (heldB HB4.out hb5 (Nat.le_refl _))
  have HP5 := hide (HP4.out.on hb5)
  have HQ5 := hide (HQ4.out.on hb5)
  have HX5 := hide (HX4.out.on hb5)
  clear hb5 HB4 HP4 HQ4 HWE p2
  have p0 := HP5.out.cell 0
  have p1 := HP5.out.cell 1
  have p2 := HP5.out.cell 2
  have q0 := HQ5.out.cell 0
  have q1 := HQ5.out.cell 1
  have q2 := HQ5.out.cell 2
  simp only [List.getElem?_cons_zero, List.getElem?_cons_succ] at p0 p1 p2 q0 q1 q2
  go_wp2_with fail
  refine (numW_any _ _).mono ?_
  rintro r w6 ⟨rfl, hw6⟩
  obtain rfl := hw6.symm
  clear hw6
  go_wp2_with fail
  refine (keepT_row B0 B bk g n v S (xs.map Value.string) w w5 HBK.out h4 hS HB5.out HG.out HX5.out (by rw [List.length_map]; exact HXN.out) (by omega) hn2 b1 b2 b3 b4).mono ?_
  rintro r w7 ⟨rfl, v', S', hB7, hl7, hb7, hk7, hz7⟩
  have L := hide (show Left4T B0 B bk v S w w7 from ⟨v', S', hB7, hl7, (HB5.out.mono b3).trans hb7, hk7, Nat.le_trans HB5.out.size hz7⟩)
  clear hB7 hl7 hb7 hk7 hz7 p0 p1 p2 q0 q1 q2
  go_wp2
  go_ret
  exact ⟨rfl, L.out⟩

end Go.Proofs.YtgaoeoijdpdjiabGreatDoor

namespace Go.Proofs.YtgaoeoijdpdjiabGreatDoor
open Go.RowKit

theorem cat_snoc (y : ByteArray) : ∀ xs : List ByteArray, cat (xs ++ [y]) = cat xs ++ y
  | [] => by
    show y ++ cat [] = cat [] ++ y
    rw [show cat [] = (⟨#[]⟩ : ByteArray) from rfl]
    apply ByteArray.ext
    simp
  | x :: xs => by
    show x ++ cat (xs ++ [y]) = x ++ cat xs ++ y
    rw [cat_snoc y xs, ByteArray.append_assoc]
theorem cut_two (s : ByteArray) (i j : Nat) (h1 : i ≤ j) (h2 : j ≤ s.size) : s.extract 0 i ++ s.extract i j = s.extract 0 j := by
  refine byt_ext _ _ ?_ ?_
  · simp only [ByteArray.size_append, ByteArray.size_extract]; omega
  · intro k hk
    simp only [ByteArray.size_append, ByteArray.size_extract] at hk
    rw [byt_part s 0 j k h2 (by omega), Nat.zero_add]
    by_cases h : k < i
    · rw [byt_left _ _ _ (by rw [ByteArray.size_extract]; omega), byt_part s 0 i k (by omega) (by omega), Nat.zero_add]
    · rw [byt_right _ _ _ (by rw [ByteArray.size_extract]; omega), ByteArray.size_extract, byt_part s i j _ h2 (by omega)]
      congr 1
      omega
theorem cut_all (s : ByteArray) : s.extract 0 s.size = s := by
  refine byt_ext _ _ ?_ ?_
  · rw [ByteArray.size_extract]; omega
  · intro k hk
    rw [ByteArray.size_extract] at hk
    rw [byt_part s 0 s.size k (Nat.le_refl _) (by omega), Nat.zero_add]
/-- The pieces of a text make the text. -/
theorem cat_cut (s : ByteArray) (b : Nat) : ∀ n, n * b ≤ s.size → cat (cutS s b n) = s.extract 0 (n * b) := by
  intro n
  induction n with
  | zero =>
    intro _
    refine byt_ext _ _ ?_ ?_
    · rw [ByteArray.size_extract, Nat.zero_mul, Nat.zero_min, Nat.zero_sub]
      rfl
    · intro k hk
      exact absurd hk (Nat.not_lt_zero k)
  | succ n ih =>
    intro h
    have h2 : n * b ≤ (n + 1) * b := Nat.mul_le_mul_right _ (by omega)
    rw [cutS_succ, cat_snoc, ih (by omega), cut_two s (n * b) ((n + 1) * b) h2 h]
/-- A signature's parts make it. -/
theorem sig_parts (sig : ByteArray) (b n : Nat) (h : sig.size = 4 + b + n * b) : numB 4 ((valN sig 0 4 : Nat) : Int) ++ sig.extract 4 (4 + b) ++ cat (cutS (sig.extract (4 + b) sig.size) b n) = sig := by
  have hs : (sig.extract (4 + b) sig.size).size = n * b := by rw [ByteArray.size_extract]; omega
  rw [cat_cut _ b n (by rw [hs]; exact Nat.le_refl _), ← hs, cut_all, num_val sig 0 (by omega), Nat.zero_add, cut_two sig 4 (4 + b) (by omega) (by omega), cut_two sig (4 + b) sig.size (by omega) (Nat.le_refl _), cut_all]
theorem cat_cut_size (sig : ByteArray) (b n : Nat) (h : sig.size = 4 + b + n * b) : (cat (cutS (sig.extract (4 + b) sig.size) b n)).size = n * b := by
  have hs : (sig.extract (4 + b) sig.size).size = n * b := by rw [ByteArray.size_extract]; omega
  rw [cat_cut _ b n (by rw [hs]; exact Nat.le_refl _), ← hs, cut_all]
end Go.Proofs.YtgaoeoijdpdjiabGreatDoor

namespace Go.Proofs.YtgaoeoijdpdjiabGreatDoor
open Go.RowKit

theorem chainB_bounds {t l ch : Nat} {p0 p1 p2 p3 : Int} (h : chainB t l ch p0 p1 p2 p3 = true) (h2 : t ≤ 4) (h4 : l ≤ 3) (hc : ch ≤ 64) : (0 ≤ p0 ∧ p0 ≤ 100000) ∧ (0 ≤ p1 ∧ p1 ≤ 100000) ∧ (0 ≤ p2 ∧ p2 ≤ 100000) ∧ (0 ≤ p3 ∧ p3 ≤ 100000) := by
  unfold chainB leafB at h
  simp only [Bool.and_eq_true, decide_eq_true_eq] at h
  obtain ⟨⟨⟨a0, a1⟩, ⟨b0, b1⟩, ⟨c0, c1⟩⟩, d0, d1⟩ := h
  have e1 : 2 ^ (t * (l - 1 - p0.toNat)) ≤ 2 ^ 8 := Nat.pow_le_pow_right (by decide) (Nat.le_trans (Nat.mul_le_mul h2 (show l - 1 - p0.toNat ≤ 2 by omega)) (by decide))
  have e2 : 2 ^ t ≤ 2 ^ 4 := Nat.pow_le_pow_right (by decide) h2
  have e3 : (2 : Nat) ^ 8 = 256 := by decide
  have e4 : (2 : Nat) ^ 4 = 16 := by decide
  rw [e3] at e1
  rw [e4] at e2
  generalize 2 ^ (t * (l - 1 - p0.toNat)) = u at e1 b1
  generalize 2 ^ t = v at e2 c1
  omega

theorem pair_small {b x e f : Nat} (h : Pair b x e f) : 1 ≤ b ∧ b ≤ 16 ∧ 1 ≤ b * e + f ∧ b * e + f ≤ 64 ∧ 1 ≤ x ∧ x ≤ 16 := by
  rcases h with ⟨rfl, rfl, rfl, rfl⟩ | ⟨rfl, rfl, rfl, rfl⟩ | ⟨rfl, rfl, rfl, rfl⟩ | ⟨rfl, rfl, rfl, rfl⟩ <;> decide
end Go.Proofs.YtgaoeoijdpdjiabGreatDoor
