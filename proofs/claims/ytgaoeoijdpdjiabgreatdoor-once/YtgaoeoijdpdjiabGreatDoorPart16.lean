/-
  The program's Split. The program's RootBy: from a signature's values of one layer up to the root. The program's Reveal. slices.Concat of three lists of texts. The program's IsLeaf, IsTree, IsChain. The statement's own upTo and total. No record was found.
-/
import Derived.Test.YtgaoeoijdpdjiabGreatDoorPart3
import Derived.Test.YtgaoeoijdpdjiabGreatDoorPart15
import Derived.Test.YtgaoeoijdpdjiabGreatDoorPart5
import Derived.Test.YtgaoeoijdpdjiabGreatDoorPart11
import Derived.Test.YtgaoeoijdpdjiabGreatDoorPart10
import Derived.Test.YtgaoeoijdpdjiabGreatDoorPart14
import Derived.Deep.Upon
namespace Go.Proofs.YtgaoeoijdpdjiabGreatDoor
open Go.RowKit

theorem sliceV0 (s : ByteArray) (h2 : 4 ≤ s.size) (w : World) : (Instr.slice 9 (.string s) none (some (.int .i64 4)) none).run Tryz.prog w = .ok (.string (s.extract 0 4)) w := by
  have e4 : (4 : Int) ≤ (s.size : Int) := by omega
  simp [go_sem, e4]
theorem sliceVE (s : ByteArray) (a : Nat) (h2 : a ≤ s.size) (w : World) : (Instr.slice 9 (.string s) (some (.int .i64 (a : Int))) none none).run Tryz.prog w = .ok (.string (s.extract a s.size)) w := by
  have e3 : (0 : Int) ≤ (a : Int) := by omega
  have e4 : (a : Int) ≤ (s.size : Int) := by omega
  simp [go_sem, e3, e4]

set_option maxRecDepth 20000 in
set_option maxHeartbeats 4000000 in
theorem split_set (k x t l a0 a1 a2 a3 a4 a5 : Int) (b er : Int) (sig : ByteArray) (w : World)
    (her : er ≠ 0)
    (hM : ∀ V : World, Calls Tryz.prog 155 #[.agg #[.int .i64 k, .int .i64 b, .int .i64 x, .int .i64 t, .int .i64 l]] V fun e w' => e = .returned (.tuple #[.agg #[.int .i64 a0, .int .i64 a1, .int .i64 a2, .int .i64 a3, .int .i64 a4, .int .i64 a5], .int .i64 er]) ∧ Below V.heap.size V w') :
    Calls Tryz.prog 81 #[.agg #[.int .i64 k, .int .i64 b, .int .i64 x, .int .i64 t, .int .i64 l], .string sig] w fun r w' => r = .returned (.tuple #[.agg #[.int .i64 0, .string ⟨#[]⟩, .slice none 0 0], .int .i64 er]) ∧ Below w.heap.size w w' := by
  obtain ⟨W0, hW⟩ : ∃ W0, (w.alloc (.cells #[.int .i64 k, .int .i64 b, .int .i64 x, .int .i64 t, .int .i64 l] 26)).alloc (.cells #[.int .i64 0, .string ⟨#[]⟩, .slice none 0 0] 29) = W0 := ⟨_, rfl⟩
  have HF := hide (show FiveC w.heap.size W0 k b x t l by subst hW; refine ⟨?_, ?_, ?_, ?_, ?_⟩ <;> simp [go_sem])
  have HB := hide (show Below w.heap.size w W0 by subst hW; exact ((Below.refl _ _).alloc (Nat.le_refl _) _).alloc (by simp) _)
  have HR := hide (show Blk W0 (w.heap.size + 1) [.int .i64 0, .string ⟨#[]⟩, .slice none 0 0] 29 by
    subst hW
    have h := Blk.new (w.alloc (.cells #[.int .i64 k, .int .i64 b, .int .i64 x, .int .i64 t, .int .i64 l] 26)) [.int .i64 0, .string ⟨#[]⟩, .slice none 0 0] 29
    simp only [World.size_alloc] at h
    exact h)
  have hz' : w.heap.size + 2 ≤ W0.heap.size := by subst hW; simp
  obtain ⟨c0, c1, c2, c3, c4⟩ := HF.out
  have HM := hide hM
  clear hM
  have HWE := hide hW
  clear hW
  go_enter Tryz.func81, Tryz.ntmps81
  go_wp2_with fail
  rw [HWE.out]
  refine (HM.out _).mono ?_
  rintro e w1 ⟨rfl, hb1⟩
  have HB1 := hide (heldB (Below.refl W0.heap.size W0) hb1 (Nat.le_refl _))
  have HR1 := hide (HR.out.on hb1)
  clear hb1 c0 c1 c2 c3 c4
  have HB2 := hide (HB1.out.alloc HB1.out.size (.cells #[.int .i64 a0, .int .i64 a1, .int .i64 a2, .int .i64 a3, .int .i64 a4, .int .i64 a5] 158))
  have HR2 := hide (HR1.out.alloc (.cells #[.int .i64 a0, .int .i64 a1, .int .i64 a2, .int .i64 a3, .int .i64 a4, .int .i64 a5] 158))
  have HZ2 := hide (Blk.new w1 [.int .i64 a0, .int .i64 a1, .int .i64 a2, .int .i64 a3, .int .i64 a4, .int .i64 a5] 158)
  have hw1 : w.heap.size + 2 ≤ w1.heap.size := Nat.le_trans hz' HB1.out.size
  obtain ⟨W2, hW2⟩ : ∃ W2, w1.alloc (.cells #[.int .i64 a0, .int .i64 a1, .int .i64 a2, .int .i64 a3, .int .i64 a4, .int .i64 a5] 158) = W2 := ⟨_, rfl⟩
  have HX := HR2
  rw [hW2] at HX
  have HBX := HB2
  rw [hW2] at HBX
  have HW2 := hide hW2
  clear hW2 HR2 HB2 HZ2
  have r0 := HX.out.cell 0
  have r1 := HX.out.cell 1
  have r2 := HX.out.cell 2
  have f0 := HX.out.free 0
  have f1 := HX.out.free 1
  have f2 := HX.out.free 2
  simp only [List.getElem?_cons_zero, List.getElem?_cons_succ] at r0 r1 r2
  have n0 : ((er : Int) != 0) = true := by simpa using her
  have n1 : ((er : Int) == 0) = false := by simpa using her
  have HWX := HW2.out
  go_wp2
  refine bodyPost_ret (v := .tuple #[.agg #[.int .i64 0, .string ⟨#[]⟩, .slice none 0 0], .int .i64 er]) (by simp [results, Tryz.results81, go_sem, r0, r1, r2]) rfl ⟨rfl, ?_⟩
  have HBB := HB.out.trans (HBX.out.mono HB.out.size)
  iterate 3 refine Below.setCell ?_ (by simp <;> omega) _
  exact HBB

set_option maxRecDepth 20000 in
set_option maxHeartbeats 4000000 in
theorem split_len (k x t l a0 a1 a2 a3 a4 a5 : Int) (b : Int) (sig : ByteArray) (w : World)
    (hne : (sig.size : Int) ≠ a4)
    (hM : ∀ V : World, Calls Tryz.prog 155 #[.agg #[.int .i64 k, .int .i64 b, .int .i64 x, .int .i64 t, .int .i64 l]] V fun e w' => e = .returned (.tuple #[.agg #[.int .i64 a0, .int .i64 a1, .int .i64 a2, .int .i64 a3, .int .i64 a4, .int .i64 a5], .int .i64 0]) ∧ Below V.heap.size V w') :
    Calls Tryz.prog 81 #[.agg #[.int .i64 k, .int .i64 b, .int .i64 x, .int .i64 t, .int .i64 l], .string sig] w fun r w' => r = .returned (.tuple #[.agg #[.int .i64 0, .string ⟨#[]⟩, .slice none 0 0], .int .i64 12]) ∧ Below w.heap.size w w' := by
  obtain ⟨W0, hW⟩ : ∃ W0, (w.alloc (.cells #[.int .i64 k, .int .i64 b, .int .i64 x, .int .i64 t, .int .i64 l] 26)).alloc (.cells #[.int .i64 0, .string ⟨#[]⟩, .slice none 0 0] 29) = W0 := ⟨_, rfl⟩
  have HF := hide (show FiveC w.heap.size W0 k b x t l by subst hW; refine ⟨?_, ?_, ?_, ?_, ?_⟩ <;> simp [go_sem])
  have HB := hide (show Below w.heap.size w W0 by subst hW; exact ((Below.refl _ _).alloc (Nat.le_refl _) _).alloc (by simp) _)
  have HR := hide (show Blk W0 (w.heap.size + 1) [.int .i64 0, .string ⟨#[]⟩, .slice none 0 0] 29 by
    subst hW
    have h := Blk.new (w.alloc (.cells #[.int .i64 k, .int .i64 b, .int .i64 x, .int .i64 t, .int .i64 l] 26)) [.int .i64 0, .string ⟨#[]⟩, .slice none 0 0] 29
    simp only [World.size_alloc] at h
    exact h)
  have hz' : w.heap.size + 2 ≤ W0.heap.size := by subst hW; simp
  obtain ⟨c0, c1, c2, c3, c4⟩ := HF.out
  have HM := hide hM
  clear hM
  have HWE := hide hW
  clear hW
  go_enter Tryz.func81, Tryz.ntmps81
  go_wp2_with fail
  rw [HWE.out]
  refine (HM.out _).mono ?_
  rintro e w1 ⟨rfl, hb1⟩
  have HB1 := hide (heldB (Below.refl W0.heap.size W0) hb1 (Nat.le_refl _))
  have HR1 := hide (HR.out.on hb1)
  clear hb1 c0 c1 c2 c3 c4
  have HB2 := hide (HB1.out.alloc HB1.out.size (.cells #[.int .i64 a0, .int .i64 a1, .int .i64 a2, .int .i64 a3, .int .i64 a4, .int .i64 a5] 158))
  have HR2 := hide (HR1.out.alloc (.cells #[.int .i64 a0, .int .i64 a1, .int .i64 a2, .int .i64 a3, .int .i64 a4, .int .i64 a5] 158))
  have HZ2 := hide (Blk.new w1 [.int .i64 a0, .int .i64 a1, .int .i64 a2, .int .i64 a3, .int .i64 a4, .int .i64 a5] 158)
  have hw1 : w.heap.size + 2 ≤ w1.heap.size := Nat.le_trans hz' HB1.out.size
  obtain ⟨W2, hW2⟩ : ∃ W2, w1.alloc (.cells #[.int .i64 a0, .int .i64 a1, .int .i64 a2, .int .i64 a3, .int .i64 a4, .int .i64 a5] 158) = W2 := ⟨_, rfl⟩
  have HX := HR2
  rw [hW2] at HX
  have HBX := HB2
  rw [hW2] at HBX
  have HZX := HZ2
  rw [hW2] at HZX
  have z4 := HZX.out.cell 4
  simp only [List.getElem?_cons_zero, List.getElem?_cons_succ] at z4
  have HW2 := hide hW2
  clear hW2 HR2 HB2 HZ2 HZX
  have r0 := HX.out.cell 0
  have r1 := HX.out.cell 1
  have r2 := HX.out.cell 2
  have f0 := HX.out.free 0
  have f1 := HX.out.free 1
  have f2 := HX.out.free 2
  simp only [List.getElem?_cons_zero, List.getElem?_cons_succ] at r0 r1 r2
  have n0 : ((sig.size : Int) != a4) = true := by simpa using hne
  have n1 : ((sig.size : Int) == a4) = false := by simpa using hne
  have HWX := HW2.out
  go_wp2
  refine bodyPost_ret (v := .tuple #[.agg #[.int .i64 0, .string ⟨#[]⟩, .slice none 0 0], .int .i64 12]) (by simp [results, Tryz.results81, go_sem, r0, r1, r2]) rfl ⟨rfl, ?_⟩
  have HBB := HB.out.trans (HBX.out.mono HB.out.size)
  iterate 3 refine Below.setCell ?_ (by simp <;> omega) _
  exact HBB

set_option maxRecDepth 20000 in
set_option maxHeartbeats 4000000 in
theorem split_idx (k x t l a0 a1 a2 a3 a4 a5 : Int) (b : Int) (sig : ByteArray) (w : World)
    (hsz : (sig.size : Int) = a4) (h4 : 4 ≤ sig.size)
    (hM : ∀ V : World, Calls Tryz.prog 155 #[.agg #[.int .i64 k, .int .i64 b, .int .i64 x, .int .i64 t, .int .i64 l]] V fun e w' => e = .returned (.tuple #[.agg #[.int .i64 a0, .int .i64 a1, .int .i64 a2, .int .i64 a3, .int .i64 a4, .int .i64 a5], .int .i64 0]) ∧ Below V.heap.size V w')
    (hI : ∀ V : World, Calls Tryz.prog 157 #[.agg #[.int .i64 k, .int .i64 b, .int .i64 x, .int .i64 t, .int .i64 l], .int .i64 ((valN sig 0 4 : Nat) : Int)] V fun e w' => e = .returned (.bool false) ∧ Below V.heap.size V w') :
    Calls Tryz.prog 81 #[.agg #[.int .i64 k, .int .i64 b, .int .i64 x, .int .i64 t, .int .i64 l], .string sig] w fun r w' => r = .returned (.tuple #[.agg #[.int .i64 0, .string ⟨#[]⟩, .slice none 0 0], .int .i64 12]) ∧ Below w.heap.size w w' := by
  obtain ⟨W0, hW⟩ : ∃ W0, (w.alloc (.cells #[.int .i64 k, .int .i64 b, .int .i64 x, .int .i64 t, .int .i64 l] 26)).alloc (.cells #[.int .i64 0, .string ⟨#[]⟩, .slice none 0 0] 29) = W0 := ⟨_, rfl⟩
  have HF := hide (show FiveC w.heap.size W0 k b x t l by subst hW; refine ⟨?_, ?_, ?_, ?_, ?_⟩ <;> simp [go_sem])
  have HB := hide (show Below w.heap.size w W0 by subst hW; exact ((Below.refl _ _).alloc (Nat.le_refl _) _).alloc (by simp) _)
  have HR := hide (show Blk W0 (w.heap.size + 1) [.int .i64 0, .string ⟨#[]⟩, .slice none 0 0] 29 by
    subst hW
    have h := Blk.new (w.alloc (.cells #[.int .i64 k, .int .i64 b, .int .i64 x, .int .i64 t, .int .i64 l] 26)) [.int .i64 0, .string ⟨#[]⟩, .slice none 0 0] 29
    simp only [World.size_alloc] at h
    exact h)
  have hz' : w.heap.size + 2 ≤ W0.heap.size := by subst hW; simp
  obtain ⟨c0, c1, c2, c3, c4⟩ := HF.out
  have HM := hide hM
  clear hM
  have HWE := hide hW
  clear hW
  go_enter Tryz.func81, Tryz.ntmps81
  go_wp2_with fail
  rw [HWE.out]
  refine (HM.out _).mono ?_
  rintro e w1 ⟨rfl, hb1⟩
  have HB1 := hide (heldB (Below.refl W0.heap.size W0) hb1 (Nat.le_refl _))
  have HR1 := hide (HR.out.on hb1)
  clear hb1 c0 c1 c2 c3 c4
  have HB2 := hide (HB1.out.alloc HB1.out.size (.cells #[.int .i64 a0, .int .i64 a1, .int .i64 a2, .int .i64 a3, .int .i64 a4, .int .i64 a5] 158))
  have HR2 := hide (HR1.out.alloc (.cells #[.int .i64 a0, .int .i64 a1, .int .i64 a2, .int .i64 a3, .int .i64 a4, .int .i64 a5] 158))
  have HZ2 := hide (Blk.new w1 [.int .i64 a0, .int .i64 a1, .int .i64 a2, .int .i64 a3, .int .i64 a4, .int .i64 a5] 158)
  have hw1 : w.heap.size + 2 ≤ w1.heap.size := Nat.le_trans hz' HB1.out.size
  obtain ⟨W2, hW2⟩ : ∃ W2, w1.alloc (.cells #[.int .i64 a0, .int .i64 a1, .int .i64 a2, .int .i64 a3, .int .i64 a4, .int .i64 a5] 158) = W2 := ⟨_, rfl⟩
  have HX := HR2
  rw [hW2] at HX
  have HBX := HB2
  rw [hW2] at HBX
  have HZX := HZ2
  rw [hW2] at HZX
  have z4 := HZX.out.cell 4
  simp only [List.getElem?_cons_zero, List.getElem?_cons_succ] at z4
  have HW2 := hide hW2
  clear hW2 HR2 HB2 HZ2 HZX
  have n0 : ((sig.size : Int) != a4) = false := by simpa using hsz
  have n1 : ((sig.size : Int) == a4) = true := by simpa using hsz
  have hs0 := sliceV0 sig h4
  have HNU := hide (fun V : World => (by
    have h := numberIn_any (sig.extract 0 4) V (by rw [ByteArray.size_extract]; omega) (by rw [ByteArray.size_extract]; omega)
    rw [valN_part sig 0 4 4 h4 (by omega)] at h
    exact h : Calls Tryz.prog 156 #[.string (sig.extract 0 4)] V fun e w' => e = .returned (.int .i64 ((valN sig 0 4 : Nat) : Int)) ∧ w' = V))
  have HIX := hide hI
  clear hI
  generalize ((valN sig 0 4 : Nat) : Int) = idx at HNU HIX ⊢
  have HWX := HW2.out
  go_wp2_with fail
  refine (HNU.out _).mono ?_
  rintro e w9 ⟨rfl, hw⟩
  obtain rfl := hw.symm
  clear hw hs0
  obtain ⟨c0, c1, c2, c3, c4⟩ := HF.out.below HBX.out (by omega)
  go_wp2_with fail
  refine (HIX.out _).mono ?_
  rintro e w3 ⟨rfl, hb3⟩
  have HB3 := hide (heldB HBX.out hb3 (Nat.le_refl _))
  have HR3 := hide (HX.out.on hb3)
  clear hb3 c0 c1 c2 c3 c4 z4
  have r0 := HR3.out.cell 0
  have r1 := HR3.out.cell 1
  have r2 := HR3.out.cell 2
  have f0 := HR3.out.free 0
  have f1 := HR3.out.free 1
  have f2 := HR3.out.free 2
  simp only [List.getElem?_cons_zero, List.getElem?_cons_succ] at r0 r1 r2
  go_wp2
  refine bodyPost_ret (v := .tuple #[.agg #[.int .i64 0, .string ⟨#[]⟩, .slice none 0 0], .int .i64 12]) (by simp [results, Tryz.results81, go_sem, r0, r1, r2]) rfl ⟨rfl, ?_⟩
  have HBB := HB.out.trans (HB3.out.mono HB.out.size)
  iterate 3 refine Below.setCell ?_ (by simp <;> omega) _
  exact HBB

set_option maxRecDepth 20000 in
set_option maxHeartbeats 4000000 in
theorem split_yes (k x t l a0 a1 a2 a3 a4 a5 : Int) (b n : Nat) (sig : ByteArray) (w : World)
    (hb1 : 1 ≤ b) (hb2 : b ≤ 8) (hn : n ≤ 200) (hs : sig.size = 4 + b + n * b) (hsz : (sig.size : Int) = a4)
    (hM : ∀ V : World, Calls Tryz.prog 155 #[.agg #[.int .i64 k, .int .i64 b, .int .i64 x, .int .i64 t, .int .i64 l]] V fun e w' => e = .returned (.tuple #[.agg #[.int .i64 a0, .int .i64 a1, .int .i64 a2, .int .i64 a3, .int .i64 a4, .int .i64 a5], .int .i64 0]) ∧ Below V.heap.size V w')
    (hI : ∀ V : World, Calls Tryz.prog 157 #[.agg #[.int .i64 k, .int .i64 b, .int .i64 x, .int .i64 t, .int .i64 l], .int .i64 ((valN sig 0 4 : Nat) : Int)] V fun e w' => e = .returned (.bool true) ∧ Below V.heap.size V w') :
    Calls Tryz.prog 81 #[.agg #[.int .i64 k, .int .i64 b, .int .i64 x, .int .i64 t, .int .i64 l], .string sig] w fun r w' => ∃ g, r = .returned (.tuple #[.agg #[.int .i64 ((valN sig 0 4 : Nat) : Int), .string (sig.extract 4 (4 + b)), .slice (some ⟨g, 0, none⟩) n n], .int .i64 0]) ∧ w.heap.size ≤ g ∧ Blk w' g ((cutS (sig.extract (4 + b) sig.size) b n).map Value.string) 9 ∧ Below w.heap.size w w' := by
  have h4 : 4 ≤ sig.size := by omega
  have hsA : ∀ wx, (Instr.slice 9 (.string sig) (some (.int .i64 4)) (some (.int .i64 (4 + (b : Int)))) none).run Tryz.prog wx = .ok (.string (sig.extract 4 (4 + b))) wx := fun wx => by
    have h := sliceV sig 4 (4 + b) (by omega) (by omega) wx
    rw [Int.natCast_add] at h
    exact h
  have hsB : ∀ wx, (Instr.slice 9 (.string sig) (some (.int .i64 (4 + (b : Int)))) none none).run Tryz.prog wx = .ok (.string (sig.extract (4 + b) sig.size)) wx := fun wx => by
    have h := sliceVE sig (4 + b) (by omega) wx
    rw [Int.natCast_add] at h
    exact h
  have HCT := hide (fun V : World => cut_on (sig.extract (4 + b) sig.size) b n V hb1 hb2 (by rw [ByteArray.size_extract, Nat.min_self, hs]; omega) (by rw [ByteArray.size_extract, Nat.min_self, hs]; omega) hn)
  generalize cutS (sig.extract (4 + b) sig.size) b n = cs at HCT ⊢
  generalize sig.extract (4 + b) sig.size = sB at hsB HCT
  generalize sig.extract 4 (4 + b) = sA at hsA ⊢
  have HSZ := hide hs
  clear hs
  obtain ⟨idx, hidx⟩ : ∃ idx : Int, ((valN sig 0 4 : Nat) : Int) = idx := ⟨_, rfl⟩
  rw [hidx] at hI ⊢
  have HID := hide hidx
  clear hidx
  obtain ⟨W0, hW⟩ : ∃ W0, (w.alloc (.cells #[.int .i64 k, .int .i64 b, .int .i64 x, .int .i64 t, .int .i64 l] 26)).alloc (.cells #[.int .i64 0, .string ⟨#[]⟩, .slice none 0 0] 29) = W0 := ⟨_, rfl⟩
  have HF := hide (show FiveC w.heap.size W0 k b x t l by subst hW; refine ⟨?_, ?_, ?_, ?_, ?_⟩ <;> simp [go_sem])
  have HB := hide (show Below w.heap.size w W0 by subst hW; exact ((Below.refl _ _).alloc (Nat.le_refl _) _).alloc (by simp) _)
  have HR := hide (show Blk W0 (w.heap.size + 1) [.int .i64 0, .string ⟨#[]⟩, .slice none 0 0] 29 by
    subst hW
    have h := Blk.new (w.alloc (.cells #[.int .i64 k, .int .i64 b, .int .i64 x, .int .i64 t, .int .i64 l] 26)) [.int .i64 0, .string ⟨#[]⟩, .slice none 0 0] 29
    simp only [World.size_alloc] at h
    exact h)
  have hz' : w.heap.size + 2 ≤ W0.heap.size := by subst hW; simp
  obtain ⟨c0, c1, c2, c3, c4⟩ := HF.out
  have HM := hide hM
  clear hM
  have HWE := hide hW
  clear hW
  go_enter Tryz.func81, Tryz.ntmps81
  go_wp2_with fail
  rw [HWE.out]
  refine (HM.out _).mono ?_
  rintro e w1 ⟨rfl, hb1⟩
  have HB1 := hide (heldB (Below.refl W0.heap.size W0) hb1 (Nat.le_refl _))
  have HR1 := hide (HR.out.on hb1)
  clear hb1 c0 c1 c2 c3 c4
  have HB2 := hide (HB1.out.alloc HB1.out.size (.cells #[.int .i64 a0, .int .i64 a1, .int .i64 a2, .int .i64 a3, .int .i64 a4, .int .i64 a5] 158))
  have HR2 := hide (HR1.out.alloc (.cells #[.int .i64 a0, .int .i64 a1, .int .i64 a2, .int .i64 a3, .int .i64 a4, .int .i64 a5] 158))
  have HZ2 := hide (Blk.new w1 [.int .i64 a0, .int .i64 a1, .int .i64 a2, .int .i64 a3, .int .i64 a4, .int .i64 a5] 158)
  have hw1 : w.heap.size + 2 ≤ w1.heap.size := Nat.le_trans hz' HB1.out.size
  obtain ⟨W2, hW2⟩ : ∃ W2, w1.alloc (.cells #[.int .i64 a0, .int .i64 a1, .int .i64 a2, .int .i64 a3, .int .i64 a4, .int .i64 a5] 158) = W2 := ⟨_, rfl⟩
  have HX := HR2
  rw [hW2] at HX
  have HBX := HB2
  rw [hW2] at HBX
  have HZX := HZ2
  rw [hW2] at HZX
  have z4 := HZX.out.cell 4
  simp only [List.getElem?_cons_zero, List.getElem?_cons_succ] at z4
  have HW2 := hide hW2
  clear hW2 HR2 HB2 HZ2 HZX
  have n0 : ((sig.size : Int) != a4) = false := by simpa using hsz
  have n1 : ((sig.size : Int) == a4) = true := by simpa using hsz
  have hs0 := sliceV0 sig h4
  have HNU := hide (fun V : World => (by
    have h := numberIn_any (sig.extract 0 4) V (by rw [ByteArray.size_extract]; omega) (by rw [ByteArray.size_extract]; omega)
    rw [valN_part sig 0 4 4 h4 (by omega)] at h
    exact h : Calls Tryz.prog 156 #[.string (sig.extract 0 4)] V fun e w' => e = .returned (.int .i64 ((valN sig 0 4 : Nat) : Int)) ∧ w' = V))
  have HIX := hide hI
  clear hI
  rw [HID.out] at HNU
  have HWX := HW2.out
  go_wp2_with fail
  refine (HNU.out _).mono ?_
  rintro e w9 ⟨rfl, hw⟩
  obtain rfl := hw.symm
  clear hw hs0
  obtain ⟨c0, c1, c2, c3, c4⟩ := HF.out.below HBX.out (by omega)
  go_wp2_with fail
  refine (HIX.out _).mono ?_
  rintro e w3 ⟨rfl, hb3⟩
  have HB3 := hide (heldB HBX.out hb3 (Nat.le_refl _))
  have HR3 := hide (HX.out.on hb3)
  clear hb3 c0 c1 c2 c3 c4 z4
  have HS := hide (fun (V : World) (h : Below w3.heap.size w3 V) => (HF.out.below (heldB HB3.out h (Nat.le_refl _)) (by omega)).2.1)
  obtain ⟨c0, c1, c2, c3, c4⟩ := HF.out.below HB3.out (by omega)
  go_wp2_with fail
  clear c0 c1 c2 c3 c4
  refine wp_region_held_drew (S := fun V => V.cell? ⟨w.heap.size, 1, none⟩ = some (.int .i64 b)) (by kernel_rfl) (HS.out _ ((Below.refl w3.heap.size w3).drew)) (fun hHeld => ?_)
  refine tk 0 hHeld (h := ?_)
  refine tk 1 hHeld (h := ?_)
  refine tk 2 hHeld (h := ?_)
  refine tk 3 hHeld (h := ?_)
  refine tk 4 hHeld (h := ?_)
  refine tk 5 hHeld (h := ?_)
  refine tk 6 hHeld (h := ?_)
  refine tk 7 hHeld (h := ?_)
  refine tk 8 hHeld (h := ?_)
  refine wpAnyH_ready (rs := [9]) (by kernel_rfl) (by simp) ?_
  refine AllReadyH.cons (o := ?oa9) ?hoa9 (fun K hK => ?hsa9) AllReadyH.nil
  case hoa9 => (simp only [List.getElem?_toArray, List.getElem?_cons_succ, List.getElem?_cons_zero]; rfl)
  go_simp
  go_at_call 158
  refine (HCT.out _).mono ?_
  rintro e w4 ⟨rfl, hk4, hb4⟩
  have hS4 := heldB (Below.refl w3.heap.size w3).drew hb4 (Nat.le_refl _)
  have HB4 := hide hS4
  have HK4 := hide hk4
  have HR4 := hide (HR3.out.on hS4)
  clear hb4 hS4 hk4
  try go_wp2_with fail
  refine hK.out _ _ (HS.out _ (HB4.out)) (fun hHeld => ?_)
  clear hK K
  try simp only [Act.put, List.setIfInBounds_toArray, List.set_cons_zero, List.set_cons_succ]
  refine tk 10 hHeld (h := ?_)
  have r0 := HR4.out.cell 0
  have r1 := HR4.out.cell 1
  have r2 := HR4.out.cell 2
  have f0 := HR4.out.free 0
  have f1 := HR4.out.free 1
  have f2 := HR4.out.free 2
  simp only [List.getElem?_cons_zero, List.getElem?_cons_succ] at r0 r1 r2
  refine wpAnyH_ready (rs := [11]) (by kernel_rfl) (by simp) ?_
  refine AllReadyH.cons (o := ?oa11) ?hoa11 (fun K hK => ?hsa11) AllReadyH.nil
  case hoa11 => (simp only [List.getElem?_toArray, List.getElem?_cons_succ, List.getElem?_cons_zero]; rfl)
  go_simp
  refine hK.out _ _ ((((World.cell?_setCell_other _ _ _ _ (by simp)).trans (World.cell?_setCell_other _ _ _ _ (by simp))).trans (World.cell?_setCell_other _ _ _ _ (by simp))).trans (HS.out _ HB4.out)) (fun hHeld => ?_)
  clear hK K
  try simp only [Act.put, List.setIfInBounds_toArray, List.set_cons_zero, List.set_cons_succ]
  refine tk 12 hHeld (h := ?_)
  refine wpAnyH_done (by kernel_rfl) ?_ _
  go_wp2
  have hg3 : w3.heap.size ≤ w3.drew.heap.size := Nat.le_refl _
  refine bodyPost_ret (v := .tuple #[.agg #[.int .i64 idx, .string sA, .slice (some ⟨w3.drew.heap.size, 0, none⟩) n n], .int .i64 0]) (by simp [results, Tryz.results81, go_sem, r0, r1, r2]) rfl ⟨_, rfl, ?_, ?_, ?_⟩
  · have h1 := HB.out.size
    have h2 := HB3.out.size
    exact Nat.le_trans h1 (Nat.le_trans h2 hg3)
  · have hne : w3.drew.heap.size ≠ w.heap.size + 1 := by
      have h2 := HB3.out.size
      omega
    exact ((HK4.out.other (a := ⟨w.heap.size + 1, 0, none⟩) _ hne).other (a := ⟨w.heap.size + 1, 1, none⟩) _ hne).other (a := ⟨w.heap.size + 1, 2, none⟩) _ hne
  · have HBB := HB.out.trans ((HB3.out.trans (HB4.out.mono HB3.out.size)).mono HB.out.size)
    iterate 3 refine Below.setCell ?_ (by simp <;> omega) _
    exact HBB
end Go.Proofs.YtgaoeoijdpdjiabGreatDoor

namespace Go.Proofs.YtgaoeoijdpdjiabGreatDoor
open Go.RowKit

/-- The ends of the chains, from the values on. -/
def endsV (k b : Int) (x : Nat) (pub : ByteArray) (p0 p1 F : Int) (ds : List Nat) (vs : List ByteArray) (n : Nat) : List ByteArray := (List.range n).map fun (i : Nat) => chainS k b pub p0 p1 F i ((ds[i]?.getD 0 : Nat) : Int) (x - 1 - ds[i]?.getD 0) (vs[i]?.getD ⟨#[]⟩)
theorem endsV_succ (k b : Int) (x : Nat) (pub : ByteArray) (p0 p1 F : Int) (ds : List Nat) (vs : List ByteArray) (n : Nat) : endsV k b x pub p0 p1 F ds vs (n + 1) = endsV k b x pub p0 p1 F ds vs n ++ [chainS k b pub p0 p1 F n ((ds[n]?.getD 0 : Nat) : Int) (x - 1 - ds[n]?.getD 0) (vs[n]?.getD ⟨#[]⟩)] := by simp [endsV, List.range_succ]
theorem endsV_length (k b : Int) (x : Nat) (pub : ByteArray) (p0 p1 F : Int) (ds : List Nat) (vs : List ByteArray) (n : Nat) : (endsV k b x pub p0 p1 F ds vs n).length = n := by simp [endsV]
theorem endsV_size (k b : Int) (x : Nat) (pub : ByteArray) (p0 p1 F : Int) (ds : List Nat) (vs : List ByteArray) (hk : k = 1 ∨ k = 2) (h1 : 1 ≤ b) (h2 : b ≤ 16) (hp : pub.size ≤ 16) (hv : ∀ y ∈ vs, (y.size : Int) = b) : ∀ y ∈ endsV k b x pub p0 p1 F ds vs vs.length, (y.size : Int) = b := by
  intro y hy
  simp only [endsV, List.mem_map, List.mem_range] at hy
  obtain ⟨i, hi, rfl⟩ := hy
  refine chainS_size k b pub p0 p1 F i _ _ _ hk h1 h2 hp ?_
  rw [List.getElem?_eq_getElem hi]
  exact hv _ (List.getElem_mem hi)
/-- The root to which one layer's parts lead. -/
def rootS (k b : Int) (x : Nat) (pub : ByteArray) (p0 p1 : Int) (F : Nat) (ds : List Nat) (vs path : List ByteArray) : ByteArray := climbS k b pub p0 p1 F path (foldS k b pub p0 p1 F 6 0 (endsV k b x pub p0 p1 F ds vs vs.length)) path.length
theorem rootS_size (k b : Int) (x : Nat) (pub : ByteArray) (p0 p1 : Int) (F : Nat) (ds : List Nat) (vs path : List ByteArray) (hk : k = 1 ∨ k = 2) (h1 : 1 ≤ b) (h2 : b ≤ 16) (hp : pub.size ≤ 16) (hn : 1 ≤ vs.length) (hv : ∀ y ∈ vs, (y.size : Int) = b) (hq : ∀ y ∈ path, (y.size : Int) = b) : ((rootS k b x pub p0 p1 F ds vs path).size : Int) = b :=
  climbS_size k b pub p0 p1 F path _ hk h1 h2 hp (foldS_size k b pub p0 p1 F hk h1 h2 hp 6 0 _ (by rw [endsV_length]; exact hn) (endsV_size k b x pub p0 p1 F ds vs hk h1 h2 hp hv)) hq path.length (Nat.le_refl _)

set_option maxRecDepth 20000 in
set_option maxHeartbeats 8000000 in
theorem rootBy_any (k b t l : Int) (x : Nat) (pub : ByteArray) (p0 p1 p3 : Int) (F : Nat) (gd od cd gv ov cv gp op cp : Nat) (ds : List Nat) (vs path : List ByteArray) (w : World) (hk : k = 1 ∨ k = 2) (h1 : 1 ≤ b) (h2 : b ≤ 16) (hp : pub.size ≤ 16) (hx : x ≤ 16) (hF : F ≤ 1000)
    (hn1 : 1 ≤ vs.length) (hn : vs.length ≤ 64) (hdn : ds.length = vs.length) (hdx : ∀ d ∈ ds, d < x) (hvs : ∀ y ∈ vs, (y.size : Int) = b) (hpn : path.length ≤ 64) (hps : ∀ y ∈ path, (y.size : Int) = b)
    (gd1 : gd < w.heap.size) (gd2 : ∀ (j : Nat) d, ds[j]? = some d → w.cell? ⟨gd, od + j, none⟩ = some (.int .i64 (d : Nat)))
    (gv1 : gv < w.heap.size) (gv2 : ∀ (j : Nat) y, vs[j]? = some y → w.cell? ⟨gv, ov + j, none⟩ = some (.string y))
    (gp1 : gp < w.heap.size) (gp2 : ∀ (j : Nat) y, path[j]? = some y → w.cell? ⟨gp, op + j, none⟩ = some (.string y)) (hT : Tn w) :
    Calls Tryz.prog 242 #[.agg #[.int .i64 k, .int .i64 b, .int .i64 x, .int .i64 t, .int .i64 l], .string pub, .agg #[.int .i64 p0, .int .i64 p1, .int .i64 F, .int .i64 p3], .slice (some ⟨gd, od, none⟩) vs.length cd, .slice (some ⟨gv, ov, none⟩) vs.length cv, .slice (some ⟨gp, op, none⟩) path.length cp] w fun e w' => e = .returned (.string (rootS k b x pub p0 p1 F ds vs path)) ∧ Below w.heap.size w w' := by
  have HCH := hide (fun (m d : Nat) (y : ByteArray) (hd : d < x) (hy : (y.size : Int) = b) (V : World) (hV : Tn V) => (by
    have h := schain_any k b x t l pub p0 p1 F m d (x - 1 - d) y V hk h1 h2 hp hy (by omega) hV
    rw [show ((d + (x - 1 - d) : Nat) : Int) = (x : Int) - 1 by omega] at h
    exact h : Calls Tryz.prog 285 #[.agg #[.int .i64 k, .int .i64 b, .int .i64 x, .int .i64 t, .int .i64 l, .string pub, .int .i64 p0, .int .i64 p1, .int .i64 F, .int .i64 m], .int .i64 d, .int .i64 ((x : Int) - 1), .string y] V fun e w' => e = .returned (.string (chainS k b pub p0 p1 F m d (x - 1 - d) y)) ∧ Below V.heap.size V w'))
  have HFO := hide (fun (V : World) (g : Nat) (hV : Tn V) (hg : Blk V g ((endsV k b x pub p0 p1 F ds vs vs.length).map Value.string) 9) => (by
    have h := sfold_any k b x t l pub p0 p1 F p3 g 0 vs.length (endsV k b x pub p0 p1 F ds vs vs.length) V (by
      intro j y hj
      rw [Nat.zero_add, hg.cell, List.getElem?_map, hj]
      rfl) hg.lt (by rw [endsV_length]; exact Nat.le_refl _) (by rw [endsV_length]; exact hn) (by rw [endsV_length]; exact hn1) hk h1 h2 hp (endsV_size k b x pub p0 p1 F ds vs hk h1 h2 hp hvs) hV
    rw [endsV_length] at h
    exact h : Calls Tryz.prog 270 #[.agg #[.int .i64 k, .int .i64 b, .int .i64 x, .int .i64 t, .int .i64 l, .string pub, .int .i64 p0, .int .i64 p1, .int .i64 F, .int .i64 p3], .slice (some ⟨g, 0, none⟩) vs.length vs.length] V fun e w' => e = .returned (.string (foldS k b pub p0 p1 F 6 0 (endsV k b x pub p0 p1 F ds vs vs.length))) ∧ Below V.heap.size V w'))
  have HCL := hide (fun (V : World) (hV : Tn V) (hb : Below w.heap.size w V) => sclimb_any k b x t l pub p0 p1 p3 F gp op cp path (foldS k b pub p0 p1 F 6 0 (endsV k b x pub p0 p1 F ds vs vs.length)) V (fun j z hj => (hb.cell (p := ⟨gp, op + j, none⟩) gp1).trans (gp2 j z hj)) (Nat.lt_of_lt_of_le gp1 hb.size) hpn hF hk h1 h2 hp (foldS_size k b pub p0 p1 F hk h1 h2 hp 6 0 _ (by rw [endsV_length]; exact hn1) (endsV_size k b x pub p0 p1 F ds vs hk h1 h2 hp hvs)) hps hV)
  have HES := hide (fun m => endsV_succ k b x pub p0 p1 F ds vs m)
  have HEL := hide (fun m => endsV_length k b x pub p0 p1 F ds vs m)
  have HDX := hide hdx
  have HVS := hide hvs
  have HGD := hide gd2
  have HGV := hide gv2
  unfold rootS
  generalize climbS k b pub p0 p1 F path (foldS k b pub p0 p1 F 6 0 (endsV k b x pub p0 p1 F ds vs vs.length)) path.length = rr at HCL ⊢
  generalize foldS k b pub p0 p1 F 6 0 (endsV k b x pub p0 p1 F ds vs vs.length) = ff at HFO HCL
  obtain ⟨N, hN⟩ : ∃ N, vs.length = N := ⟨_, rfl⟩
  obtain ⟨M, hM⟩ : ∃ M, path.length = M := ⟨_, rfl⟩
  have hmk := makeStr vs.length (by omega)
  rw [hN] at hmk hn hn1 hdn HFO ⊢
  rw [hM] at HCL ⊢
  have HN := hide hN
  clear hN hM gd2 gv2 gp2 hdx hvs hps hpn
  obtain ⟨WT, hWT⟩ : ∃ WT, ((w.alloc (.cells #[.int .i64 k, .int .i64 b, .int .i64 x, .int .i64 t, .int .i64 l] 26)).alloc (.cells #[.int .i64 p0, .int .i64 p1, .int .i64 F, .int .i64 p3] 91)).alloc (.cells #[.int .i64 k, .int .i64 b, .int .i64 x, .int .i64 t, .int .i64 l, .string pub, .int .i64 p0, .int .i64 p1, .int .i64 F, .int .i64 p3] 344) = WT := ⟨_, rfl⟩
  have HWS := hide (show Blk WT w.heap.size [.int .i64 k, .int .i64 b, .int .i64 x, .int .i64 t, .int .i64 l] 26 by rw [← hWT]; exact ((Blk.new w _ _).alloc _).alloc _)
  have HWP := hide (show Blk WT (w.heap.size + 1) [.int .i64 p0, .int .i64 p1, .int .i64 F, .int .i64 p3] 91 by
    rw [← hWT]
    have h := (Blk.new (w.alloc (.cells #[.int .i64 k, .int .i64 b, .int .i64 x, .int .i64 t, .int .i64 l] 26)) [.int .i64 p0, .int .i64 p1, .int .i64 F, .int .i64 p3] 91).alloc (.cells #[.int .i64 k, .int .i64 b, .int .i64 x, .int .i64 t, .int .i64 l, .string pub, .int .i64 p0, .int .i64 p1, .int .i64 F, .int .i64 p3] 344)
    simp only [World.size_alloc] at h
    exact h)
  have HWQ := hide (show Blk WT (w.heap.size + 1 + 1) [.int .i64 k, .int .i64 b, .int .i64 x, .int .i64 t, .int .i64 l, .string pub, .int .i64 p0, .int .i64 p1, .int .i64 F, .int .i64 p3] 344 by
    rw [← hWT]
    have h := Blk.new ((w.alloc (.cells #[.int .i64 k, .int .i64 b, .int .i64 x, .int .i64 t, .int .i64 l] 26)).alloc (.cells #[.int .i64 p0, .int .i64 p1, .int .i64 F, .int .i64 p3] 91)) [.int .i64 k, .int .i64 b, .int .i64 x, .int .i64 t, .int .i64 l, .string pub, .int .i64 p0, .int .i64 p1, .int .i64 F, .int .i64 p3] 344
    simp only [World.size_alloc] at h
    exact h)
  have hzT : WT.heap.size = w.heap.size + 1 + 1 + 1 := by rw [← hWT]; simp
  have HB := hide (show Below w.heap.size w WT by rw [← hWT]; exact (((Below.refl _ _).alloc (Nat.le_refl _) _).alloc (by simp) _).alloc (by simp; omega) _)
  have hpos := hT.pos
  have HTT := hide (hT.on HB.out)
  have HTB := hide (fun (V : World) (h : Below (w.heap.size + 1) WT V) => HTT.out.below h (by omega))
  have HW3 := hide (show Blk (WT.alloc (.cells (Array.replicate N (Value.string ⟨#[]⟩)) 9)) (w.heap.size + 1 + 1 + 1) (List.replicate N (Value.string ⟨#[]⟩)) 9 ∧ Below (w.heap.size + 1) WT (WT.alloc (.cells (Array.replicate N (Value.string ⟨#[]⟩)) 9)) ∧ Blk (WT.alloc (.cells (Array.replicate N (Value.string ⟨#[]⟩)) 9)) (w.heap.size + 1) [.int .i64 p0, .int .i64 p1, .int .i64 F, .int .i64 p3] 91 ∧ Blk (WT.alloc (.cells (Array.replicate N (Value.string ⟨#[]⟩)) 9)) (w.heap.size + 1 + 1) [.int .i64 k, .int .i64 b, .int .i64 x, .int .i64 t, .int .i64 l, .string pub, .int .i64 p0, .int .i64 p1, .int .i64 F, .int .i64 p3] 344 by
    refine ⟨?_, (Below.refl _ _).alloc (by omega) _, HWP.out.alloc _, HWQ.out.alloc _⟩
    have h := Blk.new WT (List.replicate N (Value.string ⟨#[]⟩)) 9
    rw [hzT, List.toArray_replicate] at h; exact h)
  clear hT
  have HWE := hide hWT
  clear hWT
  go_enter Tryz.func242, Tryz.ntmps242
  go_wp2_with fail
  rw [HWE.out]
  obtain ⟨W3, hW3⟩ : ∃ W3, WT.alloc (.cells (Array.replicate N (Value.string ⟨#[]⟩)) 9) = W3 := ⟨_, rfl⟩
  rw [hW3] at HW3 ⊢
  clear hW3 hmk HWE
  go_loopw [26] (fun i wr => ∃ (m : Nat) (z : Int), m ≤ N ∧ i = .int .i64 m ∧ Hid (Blk wr (w.heap.size + 1) [.int .i64 p0, .int .i64 p1, .int .i64 F, .int .i64 z] 91) ∧ Hid (Blk wr (w.heap.size + 1 + 1) [.int .i64 k, .int .i64 b, .int .i64 x, .int .i64 t, .int .i64 l, .string pub, .int .i64 p0, .int .i64 p1, .int .i64 F, .int .i64 p3] 344) ∧ Hid (Blk wr (w.heap.size + 1 + 1 + 1) ((endsV k b x pub p0 p1 F ds vs m).map Value.string ++ List.replicate (N - m) (Value.string ⟨#[]⟩)) 9) ∧ Hid (Below (w.heap.size + 1) WT wr)) (fun i _ => N - (intOf i).toNat)
  case atStart => exact ⟨0, p3, Nat.zero_le _, rfl, HW3.out.2.2.1, HW3.out.2.2.2, show Blk _ _ _ _ by simpa [endsV] using HW3.out.1, HW3.out.2.1⟩
  case round =>
    obtain ⟨m, z, hm, rfl, hat, hsp, hen, hb⟩ := hrel
    by_cases hlt : m < N
    · obtain ⟨dd, hdd⟩ : ∃ dd, ds[m]? = some dd := ⟨_, List.getElem?_eq_getElem (by omega)⟩
      obtain ⟨yy, hyy⟩ : ∃ yy, vs[m]? = some yy := ⟨_, List.getElem?_eq_getElem (by rw [HN.out]; exact hlt)⟩
      have hdb : dd < x := HDX.out dd (List.mem_of_getElem? hdd)
      have hyb := HVS.out yy (List.mem_of_getElem? hyy)
      have HBW := hide (HB.out.trans (hb.out.mono (by omega)))
      have cv : wr.cell? ⟨gv, ov + m, none⟩ = some (.string yy) := (HBW.out.cell (p := ⟨gv, ov + m, none⟩) gv1).trans (HGV.out m yy hyy)
      have HCD := hide (show wr.cell? ⟨gd, od + m, none⟩ = some (.int .i64 dd) from (HBW.out.cell (p := ⟨gd, od + m, none⟩) gd1).trans (HGD.out m dd hdd))
      have H4 := hide (HCH.out m dd yy hdb hyb)
      have HES1 := hide (show endsV k b x pub p0 p1 F ds vs (m + 1) = endsV k b x pub p0 p1 F ds vs m ++ [chainS k b pub p0 p1 F m (dd : Nat) (x - 1 - dd) yy] by rw [HES.out m, hdd, hyy]; rfl)
      generalize chainS k b pub p0 p1 F m (dd : Nat) (x - 1 - dd) yy = cS at H4 HES1
      clear hdd hyy hyb HBW
      obtain ⟨V0, hV0⟩ : ∃ V0, wr.setCell ⟨w.heap.size + 1, 3, none⟩ (.int .i64 m) = V0 := ⟨_, rfl⟩
      have HBV := hide (show Below (w.heap.size + 1) WT V0 by rw [← hV0]; exact hb.out.setCell (p := ⟨w.heap.size + 1, 3, none⟩) (Nat.le_refl _) _)
      have HAV := hide (show Blk V0 (w.heap.size + 1) [.int .i64 p0, .int .i64 p1, .int .i64 F, .int .i64 m] 91 by rw [← hV0]; exact hat.out.set 3 _)
      have HPV := hide (show Blk V0 (w.heap.size + 1 + 1) [.int .i64 k, .int .i64 b, .int .i64 x, .int .i64 t, .int .i64 l, .string pub, .int .i64 p0, .int .i64 p1, .int .i64 F, .int .i64 p3] 344 by rw [← hV0]; exact hsp.out.other _ (by simp))
      have HEV := hide (show Blk V0 (w.heap.size + 1 + 1 + 1) ((endsV k b x pub p0 p1 F ds vs m).map Value.string ++ List.replicate (N - m) (Value.string ⟨#[]⟩)) 9 by rw [← hV0]; exact hen.out.other _ (by simp <;> omega))
      have HCV := hide (show V0.cell? ⟨gd, od + m, none⟩ = some (.int .i64 dd) by rw [← hV0]; exact (World.cell?_setCell_other _ _ _ _ (by simp <;> omega)).trans HCD.out)
      have a3' := hat.out.cell 3
      have fz := hat.out.free 3
      simp only [List.getElem?_cons_zero, List.getElem?_cons_succ] at a3'
      have HSV := hide (HWS.out.below HBV.out (by omega))
      have hgV : gd < V0.heap.size := by have := HBV.out.size; omega
      have HS := hide (fun (V : World) (h : Below V0.heap.size V0 V) => (by
        have q1 := HSV.out.on h
        have q2 := HAV.out.on h
        exact ⟨q1.cell 0, q1.cell 1, q1.cell 2, q1.cell 3, q1.cell 4, q2.cell 0, q2.cell 1, q2.cell 2, q2.cell 3, (h.cell (p := ⟨gd, od + m, none⟩) hgV).trans HCV.out⟩ : V.cell? ⟨w.heap.size, 0, none⟩ = some (.int .i64 k) ∧ V.cell? ⟨w.heap.size, 1, none⟩ = some (.int .i64 b) ∧ V.cell? ⟨w.heap.size, 2, none⟩ = some (.int .i64 x) ∧ V.cell? ⟨w.heap.size, 3, none⟩ = some (.int .i64 t) ∧ V.cell? ⟨w.heap.size, 4, none⟩ = some (.int .i64 l) ∧ V.cell? ⟨w.heap.size + 1, 0, none⟩ = some (.int .i64 p0) ∧ V.cell? ⟨w.heap.size + 1, 1, none⟩ = some (.int .i64 p1) ∧ V.cell? ⟨w.heap.size + 1, 2, none⟩ = some (.int .i64 F) ∧ V.cell? ⟨w.heap.size + 1, 3, none⟩ = some (.int .i64 m) ∧ V.cell? ⟨gd, od + m, none⟩ = some (.int .i64 dd)))
      have HS5 := hide (fun (V : World) (h : Below V0.heap.size V0 V) => (by
        have q1 := (HSV.out.on h).other (a := ⟨w.heap.size + 1 + 1 + 1, m, none⟩) (.string cS) (by simp <;> omega)
        have q2 := (HAV.out.on h).other (a := ⟨w.heap.size + 1 + 1 + 1, m, none⟩) (.string cS) (by simp <;> omega)
        exact ⟨q1.cell 0, q1.cell 1, q1.cell 2, q1.cell 3, q1.cell 4, q2.cell 0, q2.cell 1, q2.cell 2, q2.cell 3, (World.cell?_setCell_other _ _ _ _ (by simp <;> omega)).trans ((h.cell (p := ⟨gd, od + m, none⟩) hgV).trans HCV.out)⟩ : (V.setCell ⟨w.heap.size + 1 + 1 + 1, m, none⟩ (.string cS)).cell? ⟨w.heap.size, 0, none⟩ = some (.int .i64 k) ∧ (V.setCell ⟨w.heap.size + 1 + 1 + 1, m, none⟩ (.string cS)).cell? ⟨w.heap.size, 1, none⟩ = some (.int .i64 b) ∧ (V.setCell ⟨w.heap.size + 1 + 1 + 1, m, none⟩ (.string cS)).cell? ⟨w.heap.size, 2, none⟩ = some (.int .i64 x) ∧ (V.setCell ⟨w.heap.size + 1 + 1 + 1, m, none⟩ (.string cS)).cell? ⟨w.heap.size, 3, none⟩ = some (.int .i64 t) ∧ (V.setCell ⟨w.heap.size + 1 + 1 + 1, m, none⟩ (.string cS)).cell? ⟨w.heap.size, 4, none⟩ = some (.int .i64 l) ∧ (V.setCell ⟨w.heap.size + 1 + 1 + 1, m, none⟩ (.string cS)).cell? ⟨w.heap.size + 1, 0, none⟩ = some (.int .i64 p0) ∧ (V.setCell ⟨w.heap.size + 1 + 1 + 1, m, none⟩ (.string cS)).cell? ⟨w.heap.size + 1, 1, none⟩ = some (.int .i64 p1) ∧ (V.setCell ⟨w.heap.size + 1 + 1 + 1, m, none⟩ (.string cS)).cell? ⟨w.heap.size + 1, 2, none⟩ = some (.int .i64 F) ∧ (V.setCell ⟨w.heap.size + 1 + 1 + 1, m, none⟩ (.string cS)).cell? ⟨w.heap.size + 1, 3, none⟩ = some (.int .i64 m) ∧ (V.setCell ⟨w.heap.size + 1 + 1 + 1, m, none⟩ (.string cS)).cell? ⟨gd, od + m, none⟩ = some (.int .i64 dd)))
      have HVE := hide hV0
      clear hV0 HCD
      have hms : (m : Int) < (N : Int) := by omega
      have vx : IntKind.i64.wrap ((x : Int) - 1) = (x : Int) - 1 := by rw [IntKind.wrap_i64] <;> omega
      go_wp2_with fail
      rw [HVE.out]
      clear HVE a3' fz cv
      refine wp_region_held_drew (S := fun V => V.cell? ⟨w.heap.size, 0, none⟩ = some (.int .i64 k) ∧ V.cell? ⟨w.heap.size, 1, none⟩ = some (.int .i64 b) ∧ V.cell? ⟨w.heap.size, 2, none⟩ = some (.int .i64 x) ∧ V.cell? ⟨w.heap.size, 3, none⟩ = some (.int .i64 t) ∧ V.cell? ⟨w.heap.size, 4, none⟩ = some (.int .i64 l) ∧ V.cell? ⟨w.heap.size + 1, 0, none⟩ = some (.int .i64 p0) ∧ V.cell? ⟨w.heap.size + 1, 1, none⟩ = some (.int .i64 p1) ∧ V.cell? ⟨w.heap.size + 1, 2, none⟩ = some (.int .i64 F) ∧ V.cell? ⟨w.heap.size + 1, 3, none⟩ = some (.int .i64 m) ∧ V.cell? ⟨gd, od + m, none⟩ = some (.int .i64 dd)) (by kernel_rfl) (HS.out _ ((Below.refl V0.heap.size V0).drew)) (fun hHeld => ?_)
      refine tk 0 hHeld (h := ?_)
      refine tk 1 hHeld (h := ?_)
      refine tk 2 hHeld (h := ?_)
      refine tk 3 hHeld (h := ?_)
      refine tk 4 hHeld (h := ?_)
      refine tk 5 hHeld (h := ?_)
      refine tk 6 hHeld (h := ?_)
      refine tk 7 hHeld (h := ?_)
      refine tk 8 hHeld (h := ?_)
      refine tk 9 hHeld (h := ?_)
      refine tk 10 hHeld (h := ?_)
      refine tk 11 hHeld (h := ?_)
      refine tk 12 hHeld (h := ?_)
      refine tk 13 hHeld (h := ?_)
      refine wpAnyH_ready (rs := [14]) (by kernel_rfl) (by simp) ?_
      refine AllReadyH.cons (o := ?oa14) ?hoa14 (fun K hK => ?hsa14) AllReadyH.nil
      case hoa14 => (simp only [List.getElem?_toArray, List.getElem?_cons_succ, List.getElem?_cons_zero]; rfl)
      go_simp
      go_at_call 285
      refine (H4.out _ (HTB.out _ HBV.out.drew)).mono ?_
      rintro e w4 ⟨rfl, hb4⟩
      have HB4 := hide (heldN HBV.out.drew hb4 (by omega))
      have HE4 := hide ((HEV.out.below (Below.refl V0.heap.size V0).drew HEV.out.lt).on hb4)
      have HA4 := hide ((HAV.out.below (Below.refl V0.heap.size V0).drew HAV.out.lt).on hb4)
      have hS4 := heldB (Below.refl V0.heap.size V0).drew hb4 (Nat.le_refl _)
      have HS4 := hide hS4
      clear hb4 hS4
      try go_wp2_with fail
      refine hK.out _ _ (HS.out _ (HS4.out)) (fun hHeld => ?_)
      clear hK K
      try simp only [Act.put, List.setIfInBounds_toArray, List.set_cons_zero, List.set_cons_succ]
      refine tk 15 hHeld (h := ?_)
      have hl := HEL.out m
      have e0 : w4.cell? ⟨w.heap.size + 1 + 1 + 1, m, none⟩ = some (.string ⟨#[]⟩) := by rw [HE4.out.cell, List.getElem?_append_right (by simp [hl]), List.length_map, hl, Nat.sub_self, List.getElem?_replicate, if_pos (by omega)]
      have e1 := HE4.out.free m
      refine wpAnyH_ready (rs := [16]) (by kernel_rfl) (by simp) ?_
      refine AllReadyH.cons (o := ?oa16) ?hoa16 (fun K hK => ?hsa16) AllReadyH.nil
      case hoa16 => (simp only [List.getElem?_toArray, List.getElem?_cons_succ, List.getElem?_cons_zero]; rfl)
      go_simp
      refine hK.out _ _ (HS5.out _ HS4.out) (fun hHeld => ?_)
      clear hK K
      try simp only [Act.put, List.setIfInBounds_toArray, List.set_cons_zero, List.set_cons_succ]
      refine wpAnyH_done (by kernel_rfl) ?_ _
      have HEE := hide (show Blk (w4.setCell ⟨w.heap.size + 1 + 1 + 1, m, none⟩ (.string cS)) (w.heap.size + 1 + 1 + 1) ((endsV k b x pub p0 p1 F ds vs (m + 1)).map Value.string ++ List.replicate (N - (m + 1)) (Value.string ⟨#[]⟩)) 9 by
        have h := HE4.out.set m (.string cS)
        rw [List.set_append_right _ _ (by simp [hl]), List.length_map, hl, Nat.sub_self, show N - m = (N - (m + 1)) + 1 by omega, List.replicate_succ, List.set_cons_zero] at h
        rw [HES1.out, List.map_append, List.append_assoc]
        exact h)
      have HBE := hide (HB4.out.setCell (p := ⟨w.heap.size + 1 + 1 + 1, m, none⟩) (by simp <;> omega) (.string cS))
      have HAE := hide (HA4.out.other (a := ⟨w.heap.size + 1 + 1 + 1, m, none⟩) (.string cS) (by simp <;> omega))
      have HPE := hide ((HPV.out.on HS4.out).other (a := ⟨w.heap.size + 1 + 1 + 1, m, none⟩) (.string cS) (by simp))
      clear hl HES1 e0 e1
      go_wp2
      go_roundw
      case rel =>
        have R : ∃ (m' : Nat) (z : Int), m' ≤ N ∧ Value.int .i64 ((m : Int) + 1) = .int .i64 m' ∧ Hid (Blk (w4.setCell ⟨w.heap.size + 1 + 1 + 1, m, none⟩ (.string cS)) (w.heap.size + 1) [.int .i64 p0, .int .i64 p1, .int .i64 F, .int .i64 z] 91) ∧ Hid (Blk (w4.setCell ⟨w.heap.size + 1 + 1 + 1, m, none⟩ (.string cS)) (w.heap.size + 1 + 1) [.int .i64 k, .int .i64 b, .int .i64 x, .int .i64 t, .int .i64 l, .string pub, .int .i64 p0, .int .i64 p1, .int .i64 F, .int .i64 p3] 344) ∧ Hid (Blk (w4.setCell ⟨w.heap.size + 1 + 1 + 1, m, none⟩ (.string cS)) (w.heap.size + 1 + 1 + 1) ((endsV k b x pub p0 p1 F ds vs m').map Value.string ++ List.replicate (N - m') (Value.string ⟨#[]⟩)) 9) ∧ Hid (Below (w.heap.size + 1) WT (w4.setCell ⟨w.heap.size + 1 + 1 + 1, m, none⟩ (.string cS))) := ⟨m + 1, m, by omega, by go_num, HAE.out, HPE.out, HEE.out, HBE.out⟩
        first | exact R | ((repeat apply Exists.intro); exact ⟨R, rfl⟩)
      case measure => simp [intOf]; omega
    · obtain rfl : m = N := by omega
      have HEN := hide (show Blk wr (w.heap.size + 1 + 1 + 1) ((endsV k b x pub p0 p1 F ds vs m).map Value.string) 9 by
        have h := hen.out
        rw [Nat.sub_self, List.replicate_zero, List.append_nil] at h
        exact h)
      have HBW := hide (HB.out.trans (hb.out.mono (by omega)))
      have HS := hide (fun (V : World) (h : Below wr.heap.size wr V) => (by
        have q1 := hsp.out.on h
        exact ⟨q1.cell 0, q1.cell 1, q1.cell 2, q1.cell 3, q1.cell 4, q1.cell 5, q1.cell 6, q1.cell 7, q1.cell 8, q1.cell 9⟩ : V.cell? ⟨w.heap.size + 1 + 1, 0, none⟩ = some (.int .i64 k) ∧ V.cell? ⟨w.heap.size + 1 + 1, 1, none⟩ = some (.int .i64 b) ∧ V.cell? ⟨w.heap.size + 1 + 1, 2, none⟩ = some (.int .i64 x) ∧ V.cell? ⟨w.heap.size + 1 + 1, 3, none⟩ = some (.int .i64 t) ∧ V.cell? ⟨w.heap.size + 1 + 1, 4, none⟩ = some (.int .i64 l) ∧ V.cell? ⟨w.heap.size + 1 + 1, 5, none⟩ = some (.string pub) ∧ V.cell? ⟨w.heap.size + 1 + 1, 6, none⟩ = some (.int .i64 p0) ∧ V.cell? ⟨w.heap.size + 1 + 1, 7, none⟩ = some (.int .i64 p1) ∧ V.cell? ⟨w.heap.size + 1 + 1, 8, none⟩ = some (.int .i64 F) ∧ V.cell? ⟨w.heap.size + 1 + 1, 9, none⟩ = some (.int .i64 p3)))
      have HTW := hide (HTB.out _ hb.out)
      go_wp2_with fail
      go_region_held3 (fun V => V.cell? ⟨w.heap.size + 1 + 1, 0, none⟩ = some (.int .i64 k) ∧ V.cell? ⟨w.heap.size + 1 + 1, 1, none⟩ = some (.int .i64 b) ∧ V.cell? ⟨w.heap.size + 1 + 1, 2, none⟩ = some (.int .i64 x) ∧ V.cell? ⟨w.heap.size + 1 + 1, 3, none⟩ = some (.int .i64 t) ∧ V.cell? ⟨w.heap.size + 1 + 1, 4, none⟩ = some (.int .i64 l) ∧ V.cell? ⟨w.heap.size + 1 + 1, 5, none⟩ = some (.string pub) ∧ V.cell? ⟨w.heap.size + 1 + 1, 6, none⟩ = some (.int .i64 p0) ∧ V.cell? ⟨w.heap.size + 1 + 1, 7, none⟩ = some (.int .i64 p1) ∧ V.cell? ⟨w.heap.size + 1 + 1, 8, none⟩ = some (.int .i64 F) ∧ V.cell? ⟨w.heap.size + 1 + 1, 9, none⟩ = some (.int .i64 p3)) (first | exact HS.out _ hS2 | exact HS.out _ hS1 | exact HS.out _ (Below.refl wr.heap.size wr).drew) (first | (go_at_call 270; refine (HFO.out _ (w.heap.size + 1 + 1 + 1) (HTW.out.on (Below.refl wr.heap.size wr).drew) (HEN.out.on (Below.refl wr.heap.size wr).drew)).mono ?_; rintro e w5 ⟨rfl, hb5⟩; have hS1 := heldB (Below.refl wr.heap.size wr).drew hb5 (Nat.le_refl _)) | (go_at_call 286; refine (HCL.out _ (HTW.out.on hS1) (HBW.out.trans (hS1.mono HBW.out.size))).mono ?_; rintro e w6 ⟨rfl, hb6⟩; have hS2 := heldB hS1 hb6 (Nat.le_refl _)))
      have HB6 := hide (HBW.out.trans (hS2.mono HBW.out.size))
      clear hS1 hS2 hb5 hb6
      go_wp2
      go_ret
      exact ⟨rfl, HB6.out⟩
end Go.Proofs.YtgaoeoijdpdjiabGreatDoor

namespace Go.Proofs.YtgaoeoijdpdjiabGreatDoor
open Go.RowKit

/-- What Reveal makes of the first n digits. -/
def revS (k b : Int) (sec pub : ByteArray) (p0 p1 F : Int) (ds : List Nat) (n : Nat) : List ByteArray := (List.range n).map fun (i : Nat) => chainS k b pub p0 p1 F i 0 (ds[i]?.getD 0) (startS k b sec p0 p1 F i)
theorem revS_succ (k b : Int) (sec pub : ByteArray) (p0 p1 F : Int) (ds : List Nat) (n : Nat) : revS k b sec pub p0 p1 F ds (n + 1) = revS k b sec pub p0 p1 F ds n ++ [chainS k b pub p0 p1 F n 0 (ds[n]?.getD 0) (startS k b sec p0 p1 F n)] := by simp [revS, List.range_succ]
theorem revS_length (k b : Int) (sec pub : ByteArray) (p0 p1 F : Int) (ds : List Nat) (n : Nat) : (revS k b sec pub p0 p1 F ds n).length = n := by simp [revS]
theorem revS_size (k b : Int) (sec pub : ByteArray) (p0 p1 F : Int) (ds : List Nat) (n : Nat) (hk : k = 1 ∨ k = 2) (h1 : 1 ≤ b) (h2 : b ≤ 16) (hs : sec.size ≤ 16) (hp : pub.size ≤ 16) : ∀ y ∈ revS k b sec pub p0 p1 F ds n, (y.size : Int) = b := by
  intro y hy
  simp only [revS, List.mem_map] at hy
  obtain ⟨i, _, rfl⟩ := hy
  exact chainS_size k b pub p0 p1 F i 0 _ _ hk h1 h2 hp (startS_size k b sec p0 p1 F i hk h1 h2 hs)

set_option maxRecDepth 20000 in
set_option maxHeartbeats 4000000 in
theorem reveal_any (k b x t l : Int) (sec rnd pub : ByteArray) (p0 p1 p2 p3 ch F : Int) (g o c : Nat) (ds : List Nat) (w : World) (hk : k = 1 ∨ k = 2) (h1 : 1 ≤ b) (h2 : b ≤ 16) (hs : sec.size ≤ 16) (hp : pub.size ≤ 16) (hn : ds.length ≤ 64) (hd : ∀ d ∈ ds, d ≤ 16) (hg : g < w.heap.size) (hc : ∀ (j : Nat) d, ds[j]? = some d → w.cell? ⟨g, o + j, none⟩ = some (.int .i64 (d : Nat))) (hT : Tn w) :
    Calls Tryz.prog 249 #[.agg #[.int .i64 k, .int .i64 b, .int .i64 x, .int .i64 t, .int .i64 l, .string sec, .string rnd, .string pub, .int .i64 p0, .int .i64 p1, .int .i64 p2, .int .i64 p3, .int .i64 ch], .int .i64 F, .slice (some ⟨g, o, none⟩) ds.length c] w fun e w' => e = .returned (.slice (some ⟨w.heap.size + 1, 0, none⟩) ds.length ds.length) ∧ Blk w' (w.heap.size + 1) ((revS k b sec pub p0 p1 F ds ds.length).map Value.string) 9 ∧ Below w.heap.size w w' := by
  have hmk := makeStr ds.length (by omega)
  have HP1 := hide (fun (m : Int) (V : World) => spotOf_any k b x t l sec rnd pub sec p0 p1 p2 p3 ch F m V)
  have HP2 := hide (fun (m : Int) (V : World) => spotOf_any k b x t l sec rnd pub pub p0 p1 p2 p3 ch F m V)
  have HST := hide (fun (m : Int) (V : World) (hV : Tn V) => start_any k b x t l sec p0 p1 F m V hk h1 h2 hs hV)
  have HCH := hide (fun (m d : Nat) (hd : d ≤ 16) (V : World) (hV : Tn V) => (by
    have h := schain_any k b x t l pub p0 p1 F m 0 d (startS k b sec p0 p1 F m) V hk h1 h2 hp (startS_size k b sec p0 p1 F m hk h1 h2 hs) (by omega) hV
    rw [Nat.zero_add] at h
    exact h : Calls Tryz.prog 285 #[.agg #[.int .i64 k, .int .i64 b, .int .i64 x, .int .i64 t, .int .i64 l, .string pub, .int .i64 p0, .int .i64 p1, .int .i64 F, .int .i64 m], .int .i64 0, .int .i64 d, .string (startS k b sec p0 p1 F m)] V fun e w' => e = .returned (.string (chainS k b pub p0 p1 F m 0 d (startS k b sec p0 p1 F m))) ∧ Below V.heap.size V w'))
  have HES := hide (fun m => revS_succ k b sec pub p0 p1 F ds m)
  have HEL := hide (fun m => revS_length k b sec pub p0 p1 F ds m)
  have HD := hide hd
  have HT := hide hT
  have HCC := hide hc
  obtain ⟨N, hN⟩ : ∃ N, ds.length = N := ⟨_, rfl⟩
  rw [hN] at hmk ⊢
  have HN := hide hN
  have hn' : N ≤ 64 := by omega
  clear hT hd hc hN hn
  obtain ⟨WT, hWT⟩ : ∃ WT, w.alloc (.cells #[.int .i64 k, .int .i64 b, .int .i64 x, .int .i64 t, .int .i64 l, .string sec, .string rnd, .string pub, .int .i64 p0, .int .i64 p1, .int .i64 p2, .int .i64 p3, .int .i64 ch] 274) = WT := ⟨_, rfl⟩
  have HWT := hide (show Blk WT w.heap.size [.int .i64 k, .int .i64 b, .int .i64 x, .int .i64 t, .int .i64 l, .string sec, .string rnd, .string pub, .int .i64 p0, .int .i64 p1, .int .i64 p2, .int .i64 p3, .int .i64 ch] 274 by rw [← hWT]; exact Blk.new _ _ _)
  have hzT : WT.heap.size = w.heap.size + 1 := by rw [← hWT]; simp
  have HB := hide (show Below w.heap.size w WT by rw [← hWT]; exact (Below.refl _ _).alloc (Nat.le_refl _) _)
  have HTT := hide (HT.out.on HB.out)
  have HW3 := hide (show Blk (WT.alloc (.cells (Array.replicate N (Value.string ⟨#[]⟩)) 9)) (w.heap.size + 1) (List.replicate N (Value.string ⟨#[]⟩)) 9 ∧ Below (w.heap.size + 1) WT (WT.alloc (.cells (Array.replicate N (Value.string ⟨#[]⟩)) 9)) by
    refine ⟨?_, ?_⟩
    · have h := Blk.new WT (List.replicate N (Value.string ⟨#[]⟩)) 9
      rw [hzT, List.toArray_replicate] at h; exact h
    · exact (Below.refl _ _).alloc (by omega) _)
  go_enter Tryz.func249, Tryz.ntmps249
  have HWE := hide hWT
  clear hWT
  go_wp2_with fail
  rw [HWE.out]
  obtain ⟨W3, hW3⟩ : ∃ W3, WT.alloc (.cells (Array.replicate N (Value.string ⟨#[]⟩)) 9) = W3 := ⟨_, rfl⟩
  rw [hW3] at HW3 ⊢
  clear hW3 hmk HWE
  go_loopw [16] (fun i wr => ∃ m : Nat, m ≤ N ∧ i = .int .i64 m ∧ Hid (Blk wr (w.heap.size + 1) ((revS k b sec pub p0 p1 F ds m).map Value.string ++ List.replicate (N - m) (Value.string ⟨#[]⟩)) 9) ∧ Hid (Below (w.heap.size + 1) WT wr)) (fun i _ => N - (intOf i).toNat)
  case atStart => exact ⟨0, Nat.zero_le _, rfl, show Blk _ _ _ _ by simpa [revS] using HW3.out.1, HW3.out.2⟩
  case round =>
    obtain ⟨m, hm, rfl, hen, hb⟩ := hrel
    by_cases hlt : m < N
    · obtain ⟨dd, hdd⟩ : ∃ dd, ds[m]? = some dd := ⟨_, List.getElem?_eq_getElem (by rw [HN.out]; exact hlt)⟩
      have hdb : dd ≤ 16 := HD.out dd (List.mem_of_getElem? hdd)
      have cd : wr.cell? ⟨g, o + m, none⟩ = some (.int .i64 dd) := (hb.out.cell (p := ⟨g, o + m, none⟩) (by show g < _; omega)).trans ((HB.out.cell (p := ⟨g, o + m, none⟩) hg).trans (HCC.out m dd hdd))
      have HGD := hide (show ds[m]?.getD 0 = dd by rw [hdd]; rfl)
      clear hdd
      have HS := hide (fun (V : World) (h : Below (w.heap.size + 1) WT V) => (by
        have hb := HWT.out.below h (by omega)
        exact ⟨hb.cell 0, hb.cell 1, hb.cell 2, hb.cell 3, hb.cell 4, hb.cell 5, hb.cell 6, hb.cell 7, hb.cell 8, hb.cell 9, hb.cell 10, hb.cell 11, hb.cell 12⟩ : V.cell? ⟨w.heap.size, 0, none⟩ = some (.int .i64 k) ∧ V.cell? ⟨w.heap.size, 1, none⟩ = some (.int .i64 b) ∧ V.cell? ⟨w.heap.size, 2, none⟩ = some (.int .i64 x) ∧ V.cell? ⟨w.heap.size, 3, none⟩ = some (.int .i64 t) ∧ V.cell? ⟨w.heap.size, 4, none⟩ = some (.int .i64 l) ∧ V.cell? ⟨w.heap.size, 5, none⟩ = some (.string sec) ∧ V.cell? ⟨w.heap.size, 6, none⟩ = some (.string rnd) ∧ V.cell? ⟨w.heap.size, 7, none⟩ = some (.string pub) ∧ V.cell? ⟨w.heap.size, 8, none⟩ = some (.int .i64 p0) ∧ V.cell? ⟨w.heap.size, 9, none⟩ = some (.int .i64 p1) ∧ V.cell? ⟨w.heap.size, 10, none⟩ = some (.int .i64 p2) ∧ V.cell? ⟨w.heap.size, 11, none⟩ = some (.int .i64 p3) ∧ V.cell? ⟨w.heap.size, 12, none⟩ = some (.int .i64 ch)))
      have HTN := hide (fun (V : World) (h : Below (w.heap.size + 1) WT V) => HTT.out.below h (by have := HT.out.pos; omega))
      have H1 := hide (HP1.out m)
      have H2 := hide (HP2.out m)
      have H3 := hide (HST.out m)
      have H4 := hide (HCH.out m dd hdb)
      have HES1 := hide (show revS k b sec pub p0 p1 F ds (m + 1) = revS k b sec pub p0 p1 F ds m ++ [chainS k b pub p0 p1 F m 0 dd (startS k b sec p0 p1 F m)] by rw [HES.out m, HGD.out])
      generalize chainS k b pub p0 p1 F m 0 dd (startS k b sec p0 p1 F m) = cS at H4 HES1
      generalize startS k b sec p0 p1 F m = sS at H3 H4
      obtain ⟨c0, c1, c2, c3, c4, c5, c6, c7, c8, c9, c10, c11, c12⟩ := HS.out wr hb.out
      go_wp2_with fail
      refine (H1.out _).mono ?_
      rintro e w1 ⟨rfl, hb1⟩
      have HB1 := hide (heldN hb.out hb1 (by omega))
      have HE1 := hide (hen.out.on hb1)
      clear hb1 c0 c1 c2 c3 c4 c5 c6 c7 c8 c9 c10 c11 c12 hen hb cd
      go_wp2_with fail
      refine (H3.out _ (HTN.out _ HB1.out)).mono ?_
      rintro e w2 ⟨rfl, hb2⟩
      have HB2 := hide (heldN HB1.out hb2 (by omega))
      have HE2 := hide (HE1.out.on hb2)
      clear hb2 HB1 HE1
      obtain ⟨c0, c1, c2, c3, c4, c5, c6, c7, c8, c9, c10, c11, c12⟩ := HS.out w2 HB2.out
      go_wp2_with fail
      refine (H2.out _).mono ?_
      rintro e w3 ⟨rfl, hb3⟩
      have HB3 := hide (heldN HB2.out hb3 (by omega))
      have HE3 := hide (HE2.out.on hb3)
      clear hb3 HB2 HE2 c0 c1 c2 c3 c4 c5 c6 c7 c8 c9 c10 c11 c12
      go_wp2_with fail
      refine (H4.out _ (HTN.out _ HB3.out)).mono ?_
      rintro e w4 ⟨rfl, hb4⟩
      have HB4 := hide (heldN HB3.out hb4 (by omega))
      have HE4 := hide (HE3.out.on hb4)
      clear hb4 HB3 HE3
      have hl := HEL.out m
      have e0 : w4.cell? ⟨w.heap.size + 1, m, none⟩ = some (.string ⟨#[]⟩) := by
        rw [HE4.out.cell, List.getElem?_append_right (by simp [hl]), List.length_map, hl, Nat.sub_self, List.getElem?_replicate, if_pos (by omega)]
      have e1 := HE4.out.free m
      have HEE := hide (show Blk (w4.setCell ⟨w.heap.size + 1, m, none⟩ (.string cS)) (w.heap.size + 1) ((revS k b sec pub p0 p1 F ds (m + 1)).map Value.string ++ List.replicate (N - (m + 1)) (Value.string ⟨#[]⟩)) 9 by
        have h := HE4.out.set m (.string cS)
        rw [List.set_append_right _ _ (by simp [hl]), List.length_map, hl, Nat.sub_self, show N - m = (N - (m + 1)) + 1 by omega, List.replicate_succ, List.set_cons_zero] at h
        rw [HES1.out, List.map_append, List.append_assoc]
        exact h)
      have HBE := hide (HB4.out.setCell (p := ⟨w.heap.size + 1, m, none⟩) (Nat.le_refl _) (.string cS))
      clear hl HES1
      have hms : (m : Int) < (N : Int) := by omega
      go_wp2
      go_roundw
      case rel =>
        have R : ∃ m' : Nat, m' ≤ N ∧ Value.int .i64 ((m : Int) + 1) = .int .i64 m' ∧ Hid (Blk (w4.setCell ⟨w.heap.size + 1, m, none⟩ (.string cS)) (w.heap.size + 1) ((revS k b sec pub p0 p1 F ds m').map Value.string ++ List.replicate (N - m') (Value.string ⟨#[]⟩)) 9) ∧ Hid (Below (w.heap.size + 1) WT (w4.setCell ⟨w.heap.size + 1, m, none⟩ (.string cS))) := ⟨m + 1, by omega, by go_num, HEE.out, HBE.out⟩
        first | exact R | ((repeat apply Exists.intro); exact ⟨R, rfl⟩)
      case measure => simp [intOf]; omega
    · obtain rfl : m = N := by omega
      go_wp2
      go_ret
      have h := hen.out
      rw [Nat.sub_self, List.replicate_zero, List.append_nil] at h
      exact ⟨rfl, h, HB.out.trans (hb.out.mono (by omega))⟩
end Go.Proofs.YtgaoeoijdpdjiabGreatDoor

namespace Go.Proofs.YtgaoeoijdpdjiabGreatDoor
open Go.RowKit

theorem strs_news {w : World} {g : Nat} {xs : List ByteArray} (h : ∀ (j : Nat) y, xs[j]? = some y → w.cell? ⟨g, j, none⟩ = some (.string y)) : ∀ j u, (xs.map Value.string)[j]? = some u → w.cell? ((⟨g, 0, none⟩ : Addr).add j) = some u := by
  intro j u hj
  rw [List.getElem?_map, Option.map_eq_some_iff] at hj
  obtain ⟨y, hy, rfl⟩ := hj
  rw [Addr.add_mid, Nat.zero_add]
  exact h j y hy
theorem strs_one (xs : List ByteArray) : ∀ u ∈ xs.map Value.string, u.oneCell' = true := by
  intro u hu
  rw [List.mem_map] at hu
  obtain ⟨y, _, rfl⟩ := hu
  rfl

theorem owns_formS {w : World} {base : Nat} {e : TypeId} {s : Nat} {v : Value} {n : Nat} {xs : List Value} (h : w.ownsRow base e s v n xs) : ∃ ao cap, v = .slice ao n cap ∧ (ao = none → n = 0 ∧ cap = 0) := by
  rcases h.2 with ⟨rfl, rfl⟩ | ⟨g, cap, cur, rfl, _⟩
  · exact ⟨none, 0, rfl, fun _ => ⟨rfl, rfl⟩⟩
  · exact ⟨_, cap, rfl, fun h => by cases h⟩
theorem owns_ltS {w : World} {base : Nat} {e : TypeId} {s : Nat} {v : Value} {n : Nat} {xs : List Value} (h : w.ownsRow base e s v n xs) : ∀ k, v.ownBlock = some k → base ≤ k ∧ k < w.heap.size := by
  intro k hk
  rcases h.2 with ⟨rfl, _⟩ | ⟨g, cap, cur, rfl, hg, hh, _⟩
  · simp [Value.ownBlock] at hk
  · simp only [Value.ownBlock, Option.some.injEq] at hk
    subst hk
    exact ⟨hg, lt_of_block hh⟩

set_option maxRecDepth 20000 in
set_option maxHeartbeats 8000000 in
theorem concat_nil (B g1 n1 c1 g2 n2 c2 : Nat) (xs1 xs2 : List ByteArray) (w : World) (h1 : xs1.length = n1) (h2 : xs2.length = n2) (m1 : 1 ≤ n1) (k1 : n1 ≤ 200) (k2 : n2 ≤ 200) (b0 : B < w.heap.size) (b1 : g1 < w.heap.size) (b2 : g2 < w.heap.size)
    (d0 : w.cell? ⟨B, 0, none⟩ = some (.slice none 0 0)) (d1 : w.cell? ⟨B, 1, none⟩ = some (.slice (some ⟨g1, 0, none⟩) n1 c1)) (d2 : w.cell? ⟨B, 2, none⟩ = some (.slice (some ⟨g2, 0, none⟩) n2 c2))
    (x1 : ∀ (j : Nat) y, xs1[j]? = some y → w.cell? ⟨g1, j, none⟩ = some (.string y)) (x2 : ∀ (j : Nat) y, xs2[j]? = some y → w.cell? ⟨g2, j, none⟩ = some (.string y)) :
    Calls Tryz.prog 251 #[.slice (some ⟨B, 0, none⟩) 3 3] w fun e w' => ∃ g c, e = .returned (.slice (some ⟨g, 0, none⟩) (n1 + n2) c) ∧ w.heap.size ≤ g ∧ n1 + n2 ≤ c ∧ g < w'.heap.size ∧ (∀ (j : Nat) y, (xs1 ++ xs2)[j]? = some y → w'.cell? ⟨g, j, none⟩ = some (.string y)) ∧ Below w.heap.size w w' := by
  obtain ⟨i0, hi, hz0, hz1, hz2⟩ := info_parts infoStr
  have HD := hide (fun (V : World) (h : Below w.heap.size w V) => (⟨(h.cell (p := ⟨B, 0, none⟩) b0).trans d0, (h.cell (p := ⟨B, 1, none⟩) b0).trans d1, (h.cell (p := ⟨B, 2, none⟩) b0).trans d2⟩ : V.cell? ⟨B, 0, none⟩ = some (.slice none 0 0) ∧ V.cell? ⟨B, 1, none⟩ = some (.slice (some ⟨g1, 0, none⟩) n1 c1) ∧ V.cell? ⟨B, 2, none⟩ = some (.slice (some ⟨g2, 0, none⟩) n2 c2)))
  have HX1 := hide (fun (V : World) (h : Below w.heap.size w V) (j : Nat) (y : ByteArray) (hj : xs1[j]? = some y) => (h.cell (p := ⟨g1, j, none⟩) b1).trans (x1 j y hj))
  have HX2 := hide (fun (V : World) (h : Below w.heap.size w V) (j : Nat) (y : ByteArray) (hj : xs2[j]? = some y) => (h.cell (p := ⟨g2, j, none⟩) b2).trans (x2 j y hj))
  have HG := hide (grow_nil (n1 + n2) w (by omega) (by omega))
  have HL1 := hide h1
  have HL2 := hide h2
  clear x1 x2 h1 h2
  go_enter Tryz.func251, Tryz.ntmps251
  go_wp2
  refine wp_loop_rounds 4 ?_
  rw [rounds_succ]
  go_wp2
  rw [rounds_succ]
  go_wp2
  rw [rounds_succ]
  go_wp2
  rw [rounds_succ]
  go_wp2_with fail
  refine HG.out.mono ?_
  rintro e w1 ⟨g, cap, rfl, ho, hb⟩
  have HO := hide ho
  have HB := hide hb
  clear ho hb HG d0 d1 d2
  obtain ⟨d0, d1, d2⟩ := HD.out w1 HB.out
  go_wp2_with fail
  refine wp_loop_rounds 4 ?_
  rw [rounds_succ]
  have hno := Go.run_append_nothing (P := Tryz.prog) w1 27 27 27 9 i0 Tryz.underlying27 hi (some ⟨g, 0, none⟩) 0 cap (Nat.zero_le _) (.slice none 0 0) (by rw [hz1]; exact ⟨.inl ⟨_, Tryz.underlying27⟩, fun _ => by simp [Builtin.lenOf], by simp [Builtin.firstCells], by simp [Builtin.firstCells], rfl, by simp⟩)
  have HNO := hide hno
  clear hno
  go_wp2_with (at_builtin; refine Lib.wpList_append_run _ rfl (.tmp 31) (.tmp 32) 27 27 rfl (.slice (some ⟨g, 0, none⟩) 0 cap) (.slice none 0 0) rfl rfl _ _ HNO.out ?_)
  have HO3 := HO
  have HB3 := HB
  go_wp2_with fail
  rw [rounds_succ]
  go_wp2_with (at_builtin; refine wpList_append_own _ rfl (.tmp 31) (.tmp 32) 27 rfl w.heap.size 9 i0 (.string ⟨#[]⟩) 1 16 Tryz.underlying27 hi hz0 hz1 hz2 rfl (by decide) (.slice (some ⟨g, 0, none⟩) 0 cap) 0 [] rfl HO3.out ⟨g1, 0, none⟩ n1 c1 (xs1.map Value.string) rfl ?e1 (strs_news (HX1.out w1 HB3.out)) (strs_one xs1) ?e2 ?e3 HB3.out.size ?_)
  case e1 => rw [List.length_map, HL1.out, Nat.mul_one]
  case e2 => unfold maxLen; omega
  case e3 => omega
  intro v4 w4 ho4 hg4 _
  try simp only [Nat.zero_add, List.nil_append] at ho4
  obtain ⟨a4, p4, hv4, _⟩ := owns_formS ho4
  subst hv4
  have HB4 := hide (HB3.out.grown hg4 HB3.out.size (fun p hp => (owns_ltS HO3.out p hp).1))
  have HO4 := hide ho4
  clear ho4 hg4 d0 d1 d2
  obtain ⟨d0, d1, d2⟩ := HD.out w4 HB4.out
  go_wp2_with fail
  rw [rounds_succ]
  go_wp2_with (at_builtin; refine wpList_append_own _ rfl (.tmp 31) (.tmp 32) 27 rfl w.heap.size 9 i0 (.string ⟨#[]⟩) 1 16 Tryz.underlying27 hi hz0 hz1 hz2 rfl (by decide) (.slice a4 n1 p4) n1 (xs1.map Value.string) rfl HO4.out ⟨g2, 0, none⟩ n2 c2 (xs2.map Value.string) rfl ?f1 (strs_news (HX2.out w4 HB4.out)) (strs_one xs2) ?f2 ?f3 HB4.out.size ?_)
  case f1 => rw [List.length_map, HL2.out, Nat.mul_one]
  case f2 => unfold maxLen; omega
  case f3 => omega
  intro v5 w5 ho5 hg5 _
  have HB5 := hide (HB4.out.grown hg5 HB4.out.size (fun p hp => (owns_ltS HO4.out p hp).1))
  have hlen : (xs1 ++ xs2).length = n1 + n2 := by simp only [List.length_append, HL1.out, HL2.out]
  have ho6 : w5.ownsRow w.heap.size 9 1 v5 (n1 + n2) ((xs1 ++ xs2).map Value.string) := by
    simp only [List.map_append]
    try simp only [List.append_assoc] at ho5
    exact ho5
  obtain ⟨gg, cc, hv5, hc5, hg51, hg52, hce5⟩ := owns_strs (ys := xs1 ++ xs2) (by rw [hlen]; exact ho6) (by rw [hlen]; omega)
  rw [hlen] at hv5 hc5
  subst hv5
  have HCE := hide hce5
  have HGG := hide (And.intro hg51 hg52)
  clear ho5 ho6 hg5 hce5 hlen d0 d1 d2
  go_wp2_with fail
  rw [rounds_succ]
  go_wp2
  go_ret
  refine ⟨gg, cc, by simp, HGG.out.1, by omega, HGG.out.2, fun j y hj => ?_, HB5.out⟩
  have h := HCE.out j y hj
  rw [Nat.zero_add] at h
  exact h

set_option maxRecDepth 20000 in
set_option maxHeartbeats 8000000 in
theorem concat_some (B g0 n0 c0 g1 n1 c1 g2 n2 c2 : Nat) (xs0 : List ByteArray) (xs1 xs2 : List ByteArray) (w : World) (h0 : xs0.length = n0) (h1 : xs1.length = n1) (h2 : xs2.length = n2) (m1 : 1 ≤ n1) (k0 : n0 ≤ 200) (k1 : n1 ≤ 200) (k2 : n2 ≤ 200) (b0 : B < w.heap.size) (b3 : g0 < w.heap.size) (b1 : g1 < w.heap.size) (b2 : g2 < w.heap.size)
    (d0 : w.cell? ⟨B, 0, none⟩ = some (.slice (some ⟨g0, 0, none⟩) n0 c0)) (d1 : w.cell? ⟨B, 1, none⟩ = some (.slice (some ⟨g1, 0, none⟩) n1 c1)) (d2 : w.cell? ⟨B, 2, none⟩ = some (.slice (some ⟨g2, 0, none⟩) n2 c2))
    (x0 : ∀ (j : Nat) y, xs0[j]? = some y → w.cell? ⟨g0, j, none⟩ = some (.string y))
    (x1 : ∀ (j : Nat) y, xs1[j]? = some y → w.cell? ⟨g1, j, none⟩ = some (.string y)) (x2 : ∀ (j : Nat) y, xs2[j]? = some y → w.cell? ⟨g2, j, none⟩ = some (.string y)) :
    Calls Tryz.prog 251 #[.slice (some ⟨B, 0, none⟩) 3 3] w fun e w' => ∃ g c, e = .returned (.slice (some ⟨g, 0, none⟩) (n0 + n1 + n2) c) ∧ w.heap.size ≤ g ∧ n0 + n1 + n2 ≤ c ∧ g < w'.heap.size ∧ (∀ (j : Nat) y, (xs0 ++ xs1 ++ xs2)[j]? = some y → w'.cell? ⟨g, j, none⟩ = some (.string y)) ∧ Below w.heap.size w w' := by
  obtain ⟨i0, hi, hz0, hz1, hz2⟩ := info_parts infoStr
  have HD := hide (fun (V : World) (h : Below w.heap.size w V) => (⟨(h.cell (p := ⟨B, 0, none⟩) b0).trans d0, (h.cell (p := ⟨B, 1, none⟩) b0).trans d1, (h.cell (p := ⟨B, 2, none⟩) b0).trans d2⟩ : V.cell? ⟨B, 0, none⟩ = some (.slice (some ⟨g0, 0, none⟩) n0 c0) ∧ V.cell? ⟨B, 1, none⟩ = some (.slice (some ⟨g1, 0, none⟩) n1 c1) ∧ V.cell? ⟨B, 2, none⟩ = some (.slice (some ⟨g2, 0, none⟩) n2 c2)))
  have HX0 := hide (fun (V : World) (h : Below w.heap.size w V) (j : Nat) (y : ByteArray) (hj : xs0[j]? = some y) => (h.cell (p := ⟨g0, j, none⟩) b3).trans (x0 j y hj))
  have HX1 := hide (fun (V : World) (h : Below w.heap.size w V) (j : Nat) (y : ByteArray) (hj : xs1[j]? = some y) => (h.cell (p := ⟨g1, j, none⟩) b1).trans (x1 j y hj))
  have HX2 := hide (fun (V : World) (h : Below w.heap.size w V) (j : Nat) (y : ByteArray) (hj : xs2[j]? = some y) => (h.cell (p := ⟨g2, j, none⟩) b2).trans (x2 j y hj))
  have HG := hide (grow_nil (n0 + n1 + n2) w (by omega) (by omega))
  have HL1 := hide h1
  have HL2 := hide h2
  have HL0 := hide h0
  clear x1 x2 h1 h2 x0 h0
  go_enter Tryz.func251, Tryz.ntmps251
  go_wp2
  refine wp_loop_rounds 4 ?_
  rw [rounds_succ]
  go_wp2
  rw [rounds_succ]
  go_wp2
  rw [rounds_succ]
  go_wp2
  rw [rounds_succ]
  go_wp2_with fail
  refine HG.out.mono ?_
  rintro e w1 ⟨g, cap, rfl, ho, hb⟩
  have HO := hide ho
  have HB := hide hb
  clear ho hb HG d0 d1 d2
  obtain ⟨d0, d1, d2⟩ := HD.out w1 HB.out
  go_wp2_with fail
  refine wp_loop_rounds 4 ?_
  rw [rounds_succ]
  go_wp2_with (at_builtin; refine wpList_append_own _ rfl (.tmp 31) (.tmp 32) 27 rfl w.heap.size 9 i0 (.string ⟨#[]⟩) 1 16 Tryz.underlying27 hi hz0 hz1 hz2 rfl (by decide) (.slice (some ⟨g, 0, none⟩) 0 cap) 0 [] rfl HO.out ⟨g0, 0, none⟩ n0 c0 (xs0.map Value.string) rfl ?a1 (strs_news (HX0.out w1 HB.out)) (strs_one xs0) ?a2 ?a3 HB.out.size ?_)
  case a1 => rw [List.length_map, HL0.out, Nat.mul_one]
  case a2 => unfold maxLen; omega
  case a3 => omega
  intro v3 w3 ho3 hg3 _
  try simp only [Nat.zero_add, List.nil_append] at ho3
  obtain ⟨a3, p3, hv3, _⟩ := owns_formS ho3
  subst hv3
  have HB3 := hide (HB.out.grown hg3 HB.out.size (fun p hp => (owns_ltS HO.out p hp).1))
  have HO3 := hide ho3
  clear ho3 hg3 d0 d1 d2
  obtain ⟨d0, d1, d2⟩ := HD.out w3 HB3.out
  go_wp2_with fail
  rw [rounds_succ]
  go_wp2_with (at_builtin; refine wpList_append_own _ rfl (.tmp 31) (.tmp 32) 27 rfl w.heap.size 9 i0 (.string ⟨#[]⟩) 1 16 Tryz.underlying27 hi hz0 hz1 hz2 rfl (by decide) (.slice a3 n0 p3) n0 (xs0.map Value.string) rfl HO3.out ⟨g1, 0, none⟩ n1 c1 (xs1.map Value.string) rfl ?e1 (strs_news (HX1.out w3 HB3.out)) (strs_one xs1) ?e2 ?e3 HB3.out.size ?_)
  case e1 => rw [List.length_map, HL1.out, Nat.mul_one]
  case e2 => unfold maxLen; omega
  case e3 => omega
  intro v4 w4 ho4 hg4 _
  try simp only [Nat.zero_add, List.nil_append] at ho4
  obtain ⟨a4, p4, hv4, _⟩ := owns_formS ho4
  subst hv4
  have HB4 := hide (HB3.out.grown hg4 HB3.out.size (fun p hp => (owns_ltS HO3.out p hp).1))
  have HO4 := hide ho4
  clear ho4 hg4 d0 d1 d2
  obtain ⟨d0, d1, d2⟩ := HD.out w4 HB4.out
  go_wp2_with fail
  rw [rounds_succ]
  go_wp2_with (at_builtin; refine wpList_append_own _ rfl (.tmp 31) (.tmp 32) 27 rfl w.heap.size 9 i0 (.string ⟨#[]⟩) 1 16 Tryz.underlying27 hi hz0 hz1 hz2 rfl (by decide) (.slice a4 (n0 + n1) p4) (n0 + n1) (xs0.map Value.string ++ xs1.map Value.string) rfl HO4.out ⟨g2, 0, none⟩ n2 c2 (xs2.map Value.string) rfl ?f1 (strs_news (HX2.out w4 HB4.out)) (strs_one xs2) ?f2 ?f3 HB4.out.size ?_)
  case f1 => rw [List.length_map, HL2.out, Nat.mul_one]
  case f2 => unfold maxLen; omega
  case f3 => omega
  intro v5 w5 ho5 hg5 _
  have HB5 := hide (HB4.out.grown hg5 HB4.out.size (fun p hp => (owns_ltS HO4.out p hp).1))
  have hlen : (xs0 ++ xs1 ++ xs2).length = (n0 + n1) + n2 := by simp only [List.length_append, HL1.out, HL2.out, HL0.out]
  have ho6 : w5.ownsRow w.heap.size 9 1 v5 ((n0 + n1) + n2) ((xs0 ++ xs1 ++ xs2).map Value.string) := by
    simp only [List.map_append, List.append_assoc]
    try simp only [List.append_assoc] at ho5
    exact ho5
  obtain ⟨gg, cc, hv5, hc5, hg51, hg52, hce5⟩ := owns_strs (ys := xs0 ++ xs1 ++ xs2) (by rw [hlen]; exact ho6) (by rw [hlen]; omega)
  rw [hlen] at hv5 hc5
  subst hv5
  have HCE := hide hce5
  have HGG := hide (And.intro hg51 hg52)
  clear ho5 ho6 hg5 hce5 hlen d0 d1 d2
  go_wp2_with fail
  rw [rounds_succ]
  go_wp2
  go_ret
  refine ⟨gg, cc, by simp, HGG.out.1, by omega, HGG.out.2, fun j y hj => ?_, HB5.out⟩
  have h := HCE.out j y hj
  rw [Nat.zero_add] at h
  exact h

end Go.Proofs.YtgaoeoijdpdjiabGreatDoor

namespace Go.Proofs.YtgaoeoijdpdjiabGreatDoor
open Go.RowKit

set_option maxRecDepth 20000 in
set_option maxHeartbeats 2000000 in
theorem isLeaf_any (k b x : Int) (t l : Nat) (p0 p1 p2 p3 : Int) (w : World) (h1 : 1 ≤ t) (h2 : t ≤ 4) (h4 : l ≤ 3) :
    Calls Tryz.prog 306 #[.agg #[.int .i64 k, .int .i64 b, .int .i64 x, .int .i64 t, .int .i64 l], .agg #[.int .i64 p0, .int .i64 p1, .int .i64 p2, .int .i64 p3]] w fun e w' => e = .returned (.bool (leafB t l p0 p1 p2 && p3 == 0)) ∧ Below w.heap.size w w' := by
  have HL := hide (isLeafOf_any k b x t l p0 p1 p2 p3 ((w.alloc (.cells #[.int .i64 k, .int .i64 b, .int .i64 x, .int .i64 t, .int .i64 l] 26)).alloc (.cells #[.int .i64 p0, .int .i64 p1, .int .i64 p2, .int .i64 p3] 91)) h1 h2 h4)
  generalize leafB t l p0 p1 p2 = r at HL ⊢
  cases r with
  | false =>
    go_enter Tryz.func306, Tryz.ntmps306
    go_wp2_with fail
    refine HL.out.mono ?_
    rintro e w1 ⟨rfl, hb1⟩
    have HB1 := hide ((((Below.refl w.heap.size w).alloc (Nat.le_refl _) _).alloc (by simp) _).trans (hb1.mono (by simp; omega)))
    clear hb1
    go_wp2
    go_ret
    exact ⟨rfl, HB1.out⟩
  | true =>
    generalize hr : (p3 == 0) = r
    go_enter Tryz.func306, Tryz.ntmps306
    go_wp2_with fail
    refine HL.out.mono ?_
    rintro e w1 ⟨rfl, hb1⟩
    have d3 : w1.cell? ⟨w.heap.size + 1, 3, none⟩ = some (.int .i64 p3) := (hb1.cell (p := ⟨w.heap.size + 1, 3, none⟩) (by simp)).trans (by simp [go_sem])
    have HB1 := hide ((((Below.refl w.heap.size w).alloc (Nat.le_refl _) _).alloc (by simp) _).trans (hb1.mono (by simp; omega)))
    clear hb1
    go_wp2
    go_ret
    exact ⟨by simp, HB1.out⟩

/-- Is it the place of a chain? -/
def chainB (t l ch : Nat) (p0 p1 p2 p3 : Int) : Bool := leafB t l p0 p1 p2 && decide (0 ≤ p3 ∧ p3 < (ch : Int))

set_option maxRecDepth 20000 in
set_option maxHeartbeats 2000000 in
theorem isChain_any (k b x a0 a1 a3 a4 a5 : Int) (t l ch : Nat) (p0 p1 p2 p3 : Int) (w : World) (h1 : 1 ≤ t) (h2 : t ≤ 4) (h4 : l ≤ 3)
    (hM : ∀ V : World, Calls Tryz.prog 155 #[.agg #[.int .i64 k, .int .i64 b, .int .i64 x, .int .i64 t, .int .i64 l]] V fun r w' => r = .returned (.tuple #[.agg #[.int .i64 a0, .int .i64 a1, .int .i64 ch, .int .i64 a3, .int .i64 a4, .int .i64 a5], .int .i64 0]) ∧ Below V.heap.size V w') :
    Calls Tryz.prog 305 #[.agg #[.int .i64 k, .int .i64 b, .int .i64 x, .int .i64 t, .int .i64 l], .agg #[.int .i64 p0, .int .i64 p1, .int .i64 p2, .int .i64 p3]] w fun e w' => e = .returned (.bool (chainB t l ch p0 p1 p2 p3)) ∧ Below w.heap.size w w' := by
  unfold chainB
  obtain ⟨W0, hW⟩ : ∃ W0, (w.alloc (.cells #[.int .i64 k, .int .i64 b, .int .i64 x, .int .i64 t, .int .i64 l] 26)).alloc (.cells #[.int .i64 p0, .int .i64 p1, .int .i64 p2, .int .i64 p3] 91) = W0 := ⟨_, rfl⟩
  have HF := hide (show FiveC w.heap.size W0 k b x t l by subst hW; refine ⟨?_, ?_, ?_, ?_, ?_⟩ <;> simp [go_sem])
  have HP := hide (show FourC (w.heap.size + 1) W0 p0 p1 p2 p3 by subst hW; refine ⟨?_, ?_, ?_, ?_⟩ <;> simp [go_sem])
  have HB := hide (show Below w.heap.size w W0 by subst hW; exact ((Below.refl _ _).alloc (Nat.le_refl _) _).alloc (by simp) _)
  have hz : W0.heap.size ≤ w.heap.size + 2 := by subst hW; simp
  have hz' : w.heap.size + 2 ≤ W0.heap.size := by subst hW; simp
  have HM := hide hM
  have HL := hide (fun V : World => isLeafOf_any k b x t l p0 p1 p2 p3 V h1 h2 h4)
  have HW := hide (fun V : World => within_any p3 ch V)
  generalize decide (0 ≤ p3 ∧ p3 < (ch : Int)) = rc at HW ⊢
  generalize leafB t l p0 p1 p2 = r at HL ⊢
  clear hM
  obtain ⟨c0, c1, c2, c3, c4⟩ := HF.out
  cases r
  all_goals
    go_enter Tryz.func305, Tryz.ntmps305
    go_wp2_with fail
    try rw [hW]
    refine (HM.out _).mono ?_
    rintro e w1 ⟨rfl, hb1⟩
    have HB1 := hide (hb1.alloc hb1.size (.cells #[.int .i64 a0, .int .i64 a1, .int .i64 ch, .int .i64 a3, .int .i64 a4, .int .i64 a5] 158))
    have hzz := hb1.size
    clear hb1 c0 c1 c2 c3 c4 hW
    obtain ⟨c0, c1, c2, c3, c4⟩ := HF.out.below HB1.out (by omega)
    obtain ⟨d0, d1, d2, d3⟩ := HP.out.below HB1.out (by omega)
    go_wp2_with fail
    refine (HL.out _).mono ?_
    rintro e w2 ⟨rfl, hb2⟩
    have HB2 := hide (heldB HB1.out hb2 (Nat.le_refl _))
    have z2 : w2.cell? ⟨w1.heap.size, 2, none⟩ = some (.int .i64 ch) := (hb2.cell (p := ⟨w1.heap.size, 2, none⟩) (by simp)).trans (by simp [go_sem])
    clear hb2 c0 c1 c2 c3 c4 d0 d1 d2 d3
    obtain ⟨d0, d1, d2, d3⟩ := HP.out.below HB2.out (by omega)
    go_wp2_with (go_at_call 234; refine (HW.out _).mono ?_; rintro e w3 ⟨rfl, rfl⟩)
    go_ret
    exact ⟨rfl, HB.out.trans (HB2.out.mono (by omega))⟩
end Go.Proofs.YtgaoeoijdpdjiabGreatDoor

namespace Go.Proofs.YtgaoeoijdpdjiabGreatDoor
open Go.RowKit

/-- The first n bytes, or all. -/
def upS (s : ByteArray) (n : Nat) : ByteArray := if n < s.size then s.extract 0 n else s
theorem upS_size (s : ByteArray) (n : Nat) : (upS s n).size ≤ n := by
  unfold upS
  split
  · rw [ByteArray.size_extract]; omega
  · omega
theorem upTo_any (s : ByteArray) (n : Nat) (w : World) :
    Calls Tryz.prog 28 #[.string s, .int .i64 n] w fun e w' => e = .returned (.string (upS s n)) ∧ w' = w := by
  by_cases h : n < s.size
  · rw [upS, if_pos h]
    have e1 : (n : Int) < (s.size : Int) := by omega
    have hs : ∀ wx, (Instr.slice 9 (.string s) none (some (.int .i64 (n : Int))) none).run Tryz.prog wx = .ok (.string (s.extract 0 n)) wx := fun wx => by
      have e4 : (n : Int) ≤ (s.size : Int) := by omega
      have e5 : (0 : Int) ≤ (n : Int) := by omega
      simp [go_sem, e4, e5]
    go_enter Tryz.func28, Tryz.ntmps28
    go_wp2
    go_ret
    exact ⟨rfl, rfl⟩
  · rw [upS, if_neg h]
    have e1 : ¬ (n : Int) < (s.size : Int) := by omega
    go_enter Tryz.func28, Tryz.ntmps28
    go_wp2
    go_ret
    exact ⟨rfl, rfl⟩

set_option maxRecDepth 20000 in
theorem keepTotal_any (k b x : Int) (t l : Nat) (w : World) (h2 : t ≤ 4) (h4 : l ≤ 3) :
    Calls Tryz.prog 29 #[.agg #[.int .i64 k, .int .i64 b, .int .i64 x, .int .i64 t, .int .i64 l]] w fun e w' => e = .returned (.int .i64 ((2 ^ (t * l) : Nat) : Int)) ∧ Below w.heap.size w w' := by
  obtain ⟨d, hd⟩ : ∃ d, t * l = d := ⟨_, rfl⟩
  have hd12 : d ≤ 12 := by rw [← hd]; exact Nat.le_trans (Nat.mul_le_mul h2 h4) (by decide)
  have hw1 : IntKind.i64.wrap ((t : Int) * (l : Int)) = (d : Int) := by
    have e : (t : Int) * (l : Int) = (d : Int) := by rw [← hd, Int.natCast_mul]
    rw [e, IntKind.wrap_i64] <;> omega
  have hw2 : wrap64 (2 ^ d) = ((2 ^ d : Nat) : Int) := by
    have : d = 0 ∨ d = 1 ∨ d = 2 ∨ d = 3 ∨ d = 4 ∨ d = 5 ∨ d = 6 ∨ d = 7 ∨ d = 8 ∨ d = 9 ∨ d = 10 ∨ d = 11 ∨ d = 12 := by omega
    rcases this with rfl | rfl | rfl | rfl | rfl | rfl | rfl | rfl | rfl | rfl | rfl | rfl | rfl <;> decide +kernel
  rw [hd]
  have hd0 : 0 ≤ (d : Int) := by omega
  clear hd h2 h4
  go_enter Tryz.func29, Tryz.ntmps29
  go_wp2
  go_ret
  refine ⟨?_, (Below.refl _ _).alloc (Nat.le_refl _) _⟩
  rw [← hw2]
  rfl
end Go.Proofs.YtgaoeoijdpdjiabGreatDoor

namespace Go.Proofs.YtgaoeoijdpdjiabGreatDoor
open Go.RowKit

set_option maxRecDepth 20000 in
theorem takeLast_none (D O c : Nat) (id : ByteArray) (tot : Int) (a : Option Addr) (w : World) (hO : Blk w O (opC D id tot (.slice a 0 c) 0 0 ⟨#[]⟩) 246) :
    Calls Tryz.prog 172 #[.pointer (some ⟨O, 0, none⟩)] w fun e w' => e = .returned (.int .i64 8) ∧ w' = w := by
  have c3 : w.cell? ⟨O, 3, none⟩ = some (.slice a 0 c) := hO.cell 3
  have c4 : w.cell? ⟨O, 4, none⟩ = some (.int .i64 0) := hO.cell 4
  clear hO
  go_enter Tryz.func172, Tryz.ntmps172
  go_wp2_with fail
  refine wp_loop_rounds 1 ?_
  rw [rounds_succ]
  go_wp2
  go_ret
  exact ⟨rfl, rfl⟩
end Go.Proofs.YtgaoeoijdpdjiabGreatDoor
