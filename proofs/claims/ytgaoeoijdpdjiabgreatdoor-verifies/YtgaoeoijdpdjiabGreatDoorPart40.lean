/-
  The document's Keyed: the set that a key tells.
-/
import Derived.Test.YtgaoeoijdpdjiabGreatDoorPart26
import Derived.Test.YtgaoeoijdpdjiabGreatDoorPart31
import Derived.Test.YtgaoeoijdpdjiabGreatDoorPart38
namespace Go.Proofs.YtgaoeoijdpdjiabGreatDoor
open Go.RowKit

set_option maxRecDepth 20000 in
set_option maxHeartbeats 4000000 in
theorem keyed_len (a0 a1 a2 a3 a4 a5 : Int) (s : ByteArray) (w : World) (hs : 5 ≤ s.size) (hne : (s.size : Int) ≠ a5)
    (hM : ∀ V : World, Calls Tryz.prog 164 #[.agg #[.int .i64 ((byt s 0 : Nat) : Int), .int .i64 ((byt s 1 : Nat) : Int), .int .i64 ((byt s 2 : Nat) : Int), .int .i64 ((byt s 3 : Nat) : Int), .int .i64 ((byt s 4 : Nat) : Int)]] V fun e w' => e = .returned (.tuple #[.agg #[.int .i64 a0, .int .i64 a1, .int .i64 a2, .int .i64 a3, .int .i64 a4, .int .i64 a5], .int .i64 0]) ∧ Below V.heap.size V w') :
    Calls Tryz.prog 89 #[.string s] w fun e w' => e = .returned (.tuple #[.agg #[.int .i64 0, .int .i64 0, .int .i64 0, .int .i64 0, .int .i64 0], .bool false]) ∧ Below w.heap.size w w' := by
  have m0 : ((s.size : Int) != a5) = true := by simpa using hne
  have m1 : ((s.size : Int) == a5) = false := by simpa using hne
  have h5 : ¬ (s.size : Int) < 5 := by omega
  have i0 : ∀ wx : World, (Instr.index 9 (.string s) (.int .i64 0)).run Tryz.prog wx = .ok (.int .u8 ((byt s 0 : Nat) : Int)) wx := idxV s 0 (by omega)
  have i1 : ∀ wx : World, (Instr.index 9 (.string s) (.int .i64 1)).run Tryz.prog wx = .ok (.int .u8 ((byt s 1 : Nat) : Int)) wx := idxV s 1 (by omega)
  have i2 : ∀ wx : World, (Instr.index 9 (.string s) (.int .i64 2)).run Tryz.prog wx = .ok (.int .u8 ((byt s 2 : Nat) : Int)) wx := idxV s 2 (by omega)
  have i3 : ∀ wx : World, (Instr.index 9 (.string s) (.int .i64 3)).run Tryz.prog wx = .ok (.int .u8 ((byt s 3 : Nat) : Int)) wx := idxV s 3 (by omega)
  have i4 : ∀ wx : World, (Instr.index 9 (.string s) (.int .i64 4)).run Tryz.prog wx = .ok (.int .u8 ((byt s 4 : Nat) : Int)) wx := idxV s 4 (by omega)
  have b0 := byt_lt s 0
  have b1 := byt_lt s 1
  have b2 := byt_lt s 2
  have b3 := byt_lt s 3
  have b4 := byt_lt s 4
  have HM := hide hM
  clear hM
  generalize byt s 0 = B0 at *
  generalize byt s 1 = B1 at *
  generalize byt s 2 = B2 at *
  generalize byt s 3 = B3 at *
  generalize byt s 4 = B4 at *
  have v0 : IntKind.i64.wrap (B0 : Int) = (B0 : Int) := by rw [IntKind.wrap_i64] <;> omega
  have v1 : IntKind.i64.wrap (B1 : Int) = (B1 : Int) := by rw [IntKind.wrap_i64] <;> omega
  have v2 : IntKind.i64.wrap (B2 : Int) = (B2 : Int) := by rw [IntKind.wrap_i64] <;> omega
  have v3 : IntKind.i64.wrap (B3 : Int) = (B3 : Int) := by rw [IntKind.wrap_i64] <;> omega
  have v4 : IntKind.i64.wrap (B4 : Int) = (B4 : Int) := by rw [IntKind.wrap_i64] <;> omega
  clear b0 b1 b2 b3 b4
  have HR0 := hide (Blk.new w [.int .i64 0, .int .i64 0, .int .i64 0, .int .i64 0, .int .i64 0] 26)
  have HB0 := hide ((Below.refl w.heap.size w).alloc (Nat.le_refl _) (.cells #[.int .i64 0, .int .i64 0, .int .i64 0, .int .i64 0, .int .i64 0] 26))
  obtain ⟨W0, hW⟩ : ∃ W0, w.alloc (.cells #[.int .i64 0, .int .i64 0, .int .i64 0, .int .i64 0, .int .i64 0] 26) = W0 := ⟨_, rfl⟩
  rw [hW] at HR0 HB0
  have hzw : w.heap.size < W0.heap.size := HR0.out.lt
  have HB1 := hide ((HB0.out.alloc (Nat.le_of_lt hzw) (.cells #[.int .i64 B0, .int .i64 B1, .int .i64 B2, .int .i64 B3, .int .i64 B4] 26)).drew)
  have HR1 := hide (show Blk ((W0.alloc (.cells #[.int .i64 B0, .int .i64 B1, .int .i64 B2, .int .i64 B3, .int .i64 B4] 26)).drew) w.heap.size [.int .i64 0, .int .i64 0, .int .i64 0, .int .i64 0, .int .i64 0] 26 from HR0.out.alloc _)
  have HC1 := hide (show Blk ((W0.alloc (.cells #[.int .i64 B0, .int .i64 B1, .int .i64 B2, .int .i64 B3, .int .i64 B4] 26)).drew) W0.heap.size [.int .i64 B0, .int .i64 B1, .int .i64 B2, .int .i64 B3, .int .i64 B4] 26 from Blk.new W0 _ _)
  obtain ⟨W1, hW1⟩ : ∃ W1, (W0.alloc (.cells #[.int .i64 B0, .int .i64 B1, .int .i64 B2, .int .i64 B3, .int .i64 B4] 26)).drew = W1 := ⟨_, rfl⟩
  rw [hW1] at HB1 HR1 HC1
  have HWE := hide hW
  clear hW
  go_enter Tryz.func89, Tryz.ntmps89
  go_wp2_with fail
  rw [HWE.out]
  go_region
  try rw [hW1]
  have c0 := HC1.out.cell 0
  have c1 := HC1.out.cell 1
  have c2 := HC1.out.cell 2
  have c3 := HC1.out.cell 3
  have c4 := HC1.out.cell 4
  simp only [List.getElem?_cons_zero, List.getElem?_cons_succ] at c0 c1 c2 c3 c4
  go_wp2_with fail
  refine (HM.out _).mono ?_
  rintro e w2 ⟨rfl, hb2⟩
  have HB2 := hide (heldB HB1.out hb2 (Nat.le_refl _))
  have HR2 := hide (HR1.out.on hb2)
  have HC2 := hide (HC1.out.on hb2)
  clear hb2 c0 c1 c2 c3 c4 hW1 HWE v0 v1 v2 v3 v4 i0 i1 i2 i3 i4
  have HB3 := hide (HB2.out.alloc HB2.out.size (.cells #[.int .i64 a0, .int .i64 a1, .int .i64 a2, .int .i64 a3, .int .i64 a4, .int .i64 a5] 158))
  have HR3 := hide (HR2.out.alloc (.cells #[.int .i64 a0, .int .i64 a1, .int .i64 a2, .int .i64 a3, .int .i64 a4, .int .i64 a5] 158))
  have HC3 := hide (HC2.out.alloc (.cells #[.int .i64 a0, .int .i64 a1, .int .i64 a2, .int .i64 a3, .int .i64 a4, .int .i64 a5] 158))
  have HZ3 := hide (Blk.new w2 [.int .i64 a0, .int .i64 a1, .int .i64 a2, .int .i64 a3, .int .i64 a4, .int .i64 a5] 158)
  have z5 := HZ3.out.cell 5
  have r0 := HR3.out.cell 0
  have f0 := HR3.out.free 0
  have c0 := HC3.out.cell 0
  have r1 := HR3.out.cell 1
  have f1 := HR3.out.free 1
  have c1 := HC3.out.cell 1
  have r2 := HR3.out.cell 2
  have f2 := HR3.out.free 2
  have c2 := HC3.out.cell 2
  have r3 := HR3.out.cell 3
  have f3 := HR3.out.free 3
  have c3 := HC3.out.cell 3
  have r4 := HR3.out.cell 4
  have f4 := HR3.out.free 4
  have c4 := HC3.out.cell 4
  simp only [List.getElem?_cons_zero, List.getElem?_cons_succ] at z5 r0 r1 r2 r3 r4 c0 c1 c2 c3 c4
  obtain ⟨W3, hW3⟩ : ∃ W3, w2.alloc (.cells #[.int .i64 a0, .int .i64 a1, .int .i64 a2, .int .i64 a3, .int .i64 a4, .int .i64 a5] 158) = W3 := ⟨_, rfl⟩
  rw [hW3] at HB3 HR3 z5 r0 r1 r2 r3 r4 f0 f1 f2 f3 f4 c0 c1 c2 c3 c4
  have HW3 := hide hW3
  clear hW3 HC3 HZ3 HC2 HR2
  have HWX := HW3.out
  go_wp2
  refine bodyPost_ret (v := .tuple #[.agg #[.int .i64 0, .int .i64 0, .int .i64 0, .int .i64 0, .int .i64 0], .bool false]) (by simp [results, Tryz.results89, go_sem, r0, r1, r2, r3, r4]) rfl ⟨rfl, ?_⟩
  have HBB := HB3.out
  iterate 5 refine Below.setCell ?_ (by simp) _
  exact HBB

end Go.Proofs.YtgaoeoijdpdjiabGreatDoor
