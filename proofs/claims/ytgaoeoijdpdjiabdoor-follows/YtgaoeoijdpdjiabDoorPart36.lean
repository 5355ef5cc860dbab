/-
  The program's Split. The statement's own sized, upTo, total.
-/
import Derived.Test.YtgaoeoijdpdjiabDoorPart32
import Derived.Test.YtgaoeoijdpdjiabDoorPart33
import Derived.Test.YtgaoeoijdpdjiabDoorPart18
import Derived.Test.YtgaoeoijdpdjiabDoorPart30
import Derived.Test.YtgaoeoijdpdjiabDoorPart25
namespace Go.Proofs.YtgaoeoijdpdjiabDoor
open Go.RowKit

theorem sliceV0 (s : ByteArray) (h2 : 4 ≤ s.size) (w : World) : (Instr.slice 9 (.string s) none (some (.int .i64 4)) none).run Tryd.prog w = .ok (.string (s.extract 0 4)) w := by
  have e4 : (4 : Int) ≤ (s.size : Int) := by omega
  simp [go_sem, e4]
theorem sliceVE (s : ByteArray) (a : Nat) (h2 : a ≤ s.size) (w : World) : (Instr.slice 9 (.string s) (some (.int .i64 (a : Int))) none none).run Tryd.prog w = .ok (.string (s.extract a s.size)) w := by
  have e3 : (0 : Int) ≤ (a : Int) := by omega
  have e4 : (a : Int) ≤ (s.size : Int) := by omega
  simp [go_sem, e3, e4]

set_option maxRecDepth 20000 in
set_option maxHeartbeats 4000000 in
theorem split_set (k x t l a0 a1 a2 a3 a4 a5 : Int) (b er : Int) (sig : ByteArray) (w : World)
    (her : er ≠ 0)
    (hM : ∀ V : World, Calls Tryd.prog 27 #[.agg #[.int .i64 k, .int .i64 b, .int .i64 x, .int .i64 t, .int .i64 l]] V fun e w' => e = .returned (.tuple #[.agg #[.int .i64 a0, .int .i64 a1, .int .i64 a2, .int .i64 a3, .int .i64 a4, .int .i64 a5], .int .i64 er]) ∧ Below V.heap.size V w') :
    Calls Tryd.prog 19 #[.agg #[.int .i64 k, .int .i64 b, .int .i64 x, .int .i64 t, .int .i64 l], .string sig] w fun r w' => r = .returned (.tuple #[.agg #[.int .i64 0, .string ⟨#[]⟩, .slice none 0 0], .int .i64 er]) ∧ Below w.heap.size w w' := by
  obtain ⟨W0, hW⟩ : ∃ W0, (w.alloc (.cells #[.int .i64 k, .int .i64 b, .int .i64 x, .int .i64 t, .int .i64 l] 23)).alloc (.cells #[.int .i64 0, .string ⟨#[]⟩, .slice none 0 0] 32) = W0 := ⟨_, rfl⟩
  have HF := hide (show FiveC w.heap.size W0 k b x t l by subst hW; refine ⟨?_, ?_, ?_, ?_, ?_⟩ <;> simp [go_sem])
  have HB := hide (show Below w.heap.size w W0 by subst hW; exact ((Below.refl _ _).alloc (Nat.le_refl _) _).alloc (by simp) _)
  have HR := hide (show Blk W0 (w.heap.size + 1) [.int .i64 0, .string ⟨#[]⟩, .slice none 0 0] 32 by
    subst hW
    have h := Blk.new (w.alloc (.cells #[.int .i64 k, .int .i64 b, .int .i64 x, .int .i64 t, .int .i64 l] 23)) [.int .i64 0, .string ⟨#[]⟩, .slice none 0 0] 32
    simp only [World.size_alloc] at h
    exact h)
  have hz' : w.heap.size + 2 ≤ W0.heap.size := by subst hW; simp
  obtain ⟨c0, c1, c2, c3, c4⟩ := HF.out
  have HM := hide hM
  clear hM
  have HWE := hide hW
  clear hW
  go_enter Tryd.func19, Tryd.ntmps19
  go_wp2_with fail
  rw [HWE.out]
  refine (HM.out _).mono ?_
  rintro e w1 ⟨rfl, hb1⟩
  have HB1 := hide (heldB (Below.refl W0.heap.size W0) hb1 (Nat.le_refl _))
  have HR1 := hide (HR.out.on hb1)
  clear hb1 c0 c1 c2 c3 c4
  have HB2 := hide (HB1.out.alloc HB1.out.size (.cells #[.int .i64 a0, .int .i64 a1, .int .i64 a2, .int .i64 a3, .int .i64 a4, .int .i64 a5] 56))
  have HR2 := hide (HR1.out.alloc (.cells #[.int .i64 a0, .int .i64 a1, .int .i64 a2, .int .i64 a3, .int .i64 a4, .int .i64 a5] 56))
  have HZ2 := hide (Blk.new w1 [.int .i64 a0, .int .i64 a1, .int .i64 a2, .int .i64 a3, .int .i64 a4, .int .i64 a5] 56)
  have hw1 : w.heap.size + 2 ≤ w1.heap.size := Nat.le_trans hz' HB1.out.size
  obtain ⟨W2, hW2⟩ : ∃ W2, w1.alloc (.cells #[.int .i64 a0, .int .i64 a1, .int .i64 a2, .int .i64 a3, .int .i64 a4, .int .i64 a5] 56) = W2 := ⟨_, rfl⟩
  have HX := HR2
  rw [hW2] at HX
  have HBX := HB2
  rw [hW2] at HBX
  have HW2 := hide hW2
  clear hW2 HR2 HB2 HZ2
  have r0 := HX.out.cell 0
  have r1 := HX.out.cell 1
  have r2 := HX.out.cell 2
  have f0 := HX.out.free 0
  have f1 := HX.out.free 1
  have f2 := HX.out.free 2
  simp only [List.getElem?_cons_zero, List.getElem?_cons_succ] at r0 r1 r2
  have n0 : ((er : Int) != 0) = true := by simpa using her
  have n1 : ((er : Int) == 0) = false := by simpa using her
  have HWX := HW2.out
  go_wp2
  refine bodyPost_ret (v := .tuple #[.agg #[.int .i64 0, .string ⟨#[]⟩, .slice none 0 0], .int .i64 er]) (by simp [results, Tryd.results19, go_sem, r0, r1, r2]) rfl ⟨rfl, ?_⟩
  have HBB := HB.out.trans (HBX.out.mono HB.out.size)
  iterate 3 refine Below.setCell ?_ (by simp <;> omega) _
  exact HBB

set_option maxRecDepth 20000 in
set_option maxHeartbeats 4000000 in
theorem split_len (k x t l a0 a1 a2 a3 a4 a5 : Int) (b : Int) (sig : ByteArray) (w : World)
    (hne : (sig.size : Int) ≠ a4)
    (hM : ∀ V : World, Calls Tryd.prog 27 #[.agg #[.int .i64 k, .int .i64 b, .int .i64 x, .int .i64 t, .int .i64 l]] V fun e w' => e = .returned (.tuple #[.agg #[.int .i64 a0, .int .i64 a1, .int .i64 a2, .int .i64 a3, .int .i64 a4, .int .i64 a5], .int .i64 0]) ∧ Below V.heap.size V w') :
    Calls Tryd.prog 19 #[.agg #[.int .i64 k, .int .i64 b, .int .i64 x, .int .i64 t, .int .i64 l], .string sig] w fun r w' => r = .returned (.tuple #[.agg #[.int .i64 0, .string ⟨#[]⟩, .slice none 0 0], .int .i64 12]) ∧ Below w.heap.size w w' := by
  obtain ⟨W0, hW⟩ : ∃ W0, (w.alloc (.cells #[.int .i64 k, .int .i64 b, .int .i64 x, .int .i64 t, .int .i64 l] 23)).alloc (.cells #[.int .i64 0, .string ⟨#[]⟩, .slice none 0 0] 32) = W0 := ⟨_, rfl⟩
  have HF := hide (show FiveC w.heap.size W0 k b x t l by subst hW; refine ⟨?_, ?_, ?_, ?_, ?_⟩ <;> simp [go_sem])
  have HB := hide (show Below w.heap.size w W0 by subst hW; exact ((Below.refl _ _).alloc (Nat.le_refl _) _).alloc (by simp) _)
  have HR := hide (show Blk W0 (w.heap.size + 1) [.int .i64 0, .string ⟨#[]⟩, .slice none 0 0] 32 by
    subst hW
    have h := Blk.new (w.alloc (.cells #[.int .i64 k, .int .i64 b, .int .i64 x, .int .i64 t, .int .i64 l] 23)) [.int .i64 0, .string ⟨#[]⟩, .slice none 0 0] 32
    simp only [World.size_alloc] at h
    exact h)
  have hz' : w.heap.size + 2 ≤ W0.heap.size := by subst hW; simp
  obtain ⟨c0, c1, c2, c3, c4⟩ := HF.out
  have HM := hide hM
  clear hM
  have HWE := hide hW
  clear hW
  go_enter Tryd.func19, Tryd.ntmps19
  go_wp2_with fail
  rw [HWE.out]
  refine (HM.out _).mono ?_
  rintro e w1 ⟨rfl, hb1⟩
  have HB1 := hide (heldB (Below.refl W0.heap.size W0) hb1 (Nat.le_refl _))
  have HR1 := hide (HR.out.on hb1)
  clear hb1 c0 c1 c2 c3 c4
  have HB2 := hide (HB1.out.alloc HB1.out.size (.cells #[.int .i64 a0, .int .i64 a1, .int .i64 a2, .int .i64 a3, .int .i64 a4, .int .i64 a5] 56))
  have HR2 := hide (HR1.out.alloc (.cells #[.int .i64 a0, .int .i64 a1, .int .i64 a2, .int .i64 a3, .int .i64 a4, .int .i64 a5] 56))
  have HZ2 := hide (Blk.new w1 [.int .i64 a0, .int .i64 a1, .int .i64 a2, .int .i64 a3, .int .i64 a4, .int .i64 a5] 56)
  have hw1 : w.heap.size + 2 ≤ w1.heap.size := Nat.le_trans hz' HB1.out.size
  obtain ⟨W2, hW2⟩ : ∃ W2, w1.alloc (.cells #[.int .i64 a0, .int .i64 a1, .int .i64 a2, .int .i64 a3, .int .i64 a4, .int .i64 a5] 56) = W2 := ⟨_, rfl⟩
  have HX := HR2
  rw [hW2] at HX
  have HBX := HB2
  rw [hW2] at HBX
  have HZX := HZ2
  rw [hW2] at HZX
  have z4 := HZX.out.cell 4
  simp only [List.getElem?_cons_zero, List.getElem?_cons_succ] at z4
  have HW2 := hide hW2
  clear hW2 HR2 HB2 HZ2 HZX
  have r0 := HX.out.cell 0
  have r1 := HX.out.cell 1
  have r2 := HX.out.cell 2
  have f0 := HX.out.free 0
  have f1 := HX.out.free 1
  have f2 := HX.out.free 2
  simp only [List.getElem?_cons_zero, List.getElem?_cons_succ] at r0 r1 r2
  have n0 : ((sig.size : Int) != a4) = true := by simpa using hne
  have n1 : ((sig.size : Int) == a4) = false := by simpa using hne
  have HWX := HW2.out
  go_wp2
  refine bodyPost_ret (v := .tuple #[.agg #[.int .i64 0, .string ⟨#[]⟩, .slice none 0 0], .int .i64 12]) (by simp [results, Tryd.results19, go_sem, r0, r1, r2]) rfl ⟨rfl, ?_⟩
  have HBB := HB.out.trans (HBX.out.mono HB.out.size)
  iterate 3 refine Below.setCell ?_ (by simp <;> omega) _
  exact HBB

set_option maxRecDepth 20000 in
set_option maxHeartbeats 4000000 in
theorem split_idx (k x t l a0 a1 a2 a3 a4 a5 : Int) (b : Int) (sig : ByteArray) (w : World)
    (hsz : (sig.size : Int) = a4) (h4 : 4 ≤ sig.size)
    (hM : ∀ V : World, Calls Tryd.prog 27 #[.agg #[.int .i64 k, .int .i64 b, .int .i64 x, .int .i64 t, .int .i64 l]] V fun e w' => e = .returned (.tuple #[.agg #[.int .i64 a0, .int .i64 a1, .int .i64 a2, .int .i64 a3, .int .i64 a4, .int .i64 a5], .int .i64 0]) ∧ Below V.heap.size V w')
    (hI : ∀ V : World, Calls Tryd.prog 29 #[.agg #[.int .i64 k, .int .i64 b, .int .i64 x, .int .i64 t, .int .i64 l], .int .i64 ((valN sig 0 4 : Nat) : Int)] V fun e w' => e = .returned (.bool false) ∧ Below V.heap.size V w') :
    Calls Tryd.prog 19 #[.agg #[.int .i64 k, .int .i64 b, .int .i64 x, .int .i64 t, .int .i64 l], .string sig] w fun r w' => r = .returned (.tuple #[.agg #[.int .i64 0, .string ⟨#[]⟩, .slice none 0 0], .int .i64 12]) ∧ Below w.heap.size w w' := by
  obtain ⟨W0, hW⟩ : ∃ W0, (w.alloc (.cells #[.int .i64 k, .int .i64 b, .int .i64 x, .int .i64 t, .int .i64 l] 23)).alloc (.cells #[.int .i64 0, .string ⟨#[]⟩, .slice none 0 0] 32) = W0 := ⟨_, rfl⟩
  have HF := hide (show FiveC w.heap.size W0 k b x t l by subst hW; refine ⟨?_, ?_, ?_, ?_, ?_⟩ <;> simp [go_sem])
  have HB := hide (show Below w.heap.size w W0 by subst hW; exact ((Below.refl _ _).alloc (Nat.le_refl _) _).alloc (by simp) _)
  have HR := hide (show Blk W0 (w.heap.size + 1) [.int .i64 0, .string ⟨#[]⟩, .slice none 0 0] 32 by
    subst hW
    have h := Blk.new (w.alloc (.cells #[.int .i64 k, .int .i64 b, .int .i64 x, .int .i64 t, .int .i64 l] 23)) [.int .i64 0, .string ⟨#[]⟩, .slice none 0 0] 32
    simp only [World.size_alloc] at h
    exact h)
  have hz' : w.heap.size + 2 ≤ W0.heap.size := by subst hW; simp
  obtain ⟨c0, c1, c2, c3, c4⟩ := HF.out
  have HM := hide hM
  clear hM
  have HWE := hide hW
  clear hW
  go_enter Tryd.func19, Tryd.ntmps19
  go_wp2_with fail
  rw [HWE.out]
  refine (HM.out _).mono ?_
  rintro e w1 ⟨rfl, hb1⟩
  have HB1 := hide (heldB (Below.refl W0.heap.size W0) hb1 (Nat.le_refl _))
  have HR1 := hide (HR.out.on hb1)
  clear hb1 c0 c1 c2 c3 c4
  have HB2 := hide (HB1.out.alloc HB1.out.size (.cells #[.int .i64 a0, .int .i64 a1, .int .i64 a2, .int .i64 a3, .int .i64 a4, .int .i64 a5] 56))
  have HR2 := hide (HR1.out.alloc (.cells #[.int .i64 a0, .int .i64 a1, .int .i64 a2, .int .i64 a3, .int .i64 a4, .int .i64 a5] 56))
  have HZ2 := hide (Blk.new w1 [.int .i64 a0, .int .i64 a1, .int .i64 a2, .int .i64 a3, .int .i64 a4, .int .i64 a5] 56)
  have hw1 : w.heap.size + 2 ≤ w1.heap.size := Nat.le_trans hz' HB1.out.size
  obtain ⟨W2, hW2⟩ : ∃ W2, w1.alloc (.cells #[.int .i64 a0, .int .i64 a1, .int .i64 a2, .int .i64 a3, .int .i64 a4, .int .i64 a5] 56) = W2 := ⟨_, rfl⟩
  have HX := HR2
  rw [hW2] at HX
  have HBX := HB2
  rw [hW2] at HBX
  have HZX := HZ2
  rw [hW2] at HZX
  have z4 := HZX.out.cell 4
  simp only [List.getElem?_cons_zero, List.getElem?_cons_succ] at z4
  have HW2 := hide hW2
  clear hW2 HR2 HB2 HZ2 HZX
  have n0 : ((sig.size : Int) != a4) = false := by simpa using hsz
  have n1 : ((sig.size : Int) == a4) = true := by simpa using hsz
  have hs0 := sliceV0 sig h4
  have HNU := hide (fun V : World => (by
    have h := numberIn_any (sig.extract 0 4) V (by rw [ByteArray.size_extract]; omega) (by rw [ByteArray.size_extract]; omega)
    rw [valN_part sig 0 4 4 h4 (by omega)] at h
    exact h : Calls Tryd.prog 28 #[.string (sig.extract 0 4)] V fun e w' => e = .returned (.int .i64 ((valN sig 0 4 : Nat) : Int)) ∧ w' = V))
  have HIX := hide hI
  clear hI
  generalize ((valN sig 0 4 : Nat) : Int) = idx at HNU HIX ⊢
  have HWX := HW2.out
  go_wp2_with fail
  refine (HNU.out _).mono ?_
  rintro e w9 ⟨rfl, hw⟩
  obtain rfl := hw.symm
  clear hw hs0
  obtain ⟨c0, c1, c2, c3, c4⟩ := HF.out.below HBX.out (by omega)
  go_wp2_with fail
  refine (HIX.out _).mono ?_
  rintro e w3 ⟨rfl, hb3⟩
  have HB3 := hide (heldB HBX.out hb3 (Nat.le_refl _))
  have HR3 := hide (HX.out.on hb3)
  clear hb3 c0 c1 c2 c3 c4 z4
  have r0 := HR3.out.cell 0
  have r1 := HR3.out.cell 1
  have r2 := HR3.out.cell 2
  have f0 := HR3.out.free 0
  have f1 := HR3.out.free 1
  have f2 := HR3.out.free 2
  simp only [List.getElem?_cons_zero, List.getElem?_cons_succ] at r0 r1 r2
  go_wp2
  refine bodyPost_ret (v := .tuple #[.agg #[.int .i64 0, .string ⟨#[]⟩, .slice none 0 0], .int .i64 12]) (by simp [results, Tryd.results19, go_sem, r0, r1, r2]) rfl ⟨rfl, ?_⟩
  have HBB := HB.out.trans (HB3.out.mono HB.out.size)
  iterate 3 refine Below.setCell ?_ (by simp <;> omega) _
  exact HBB

set_option maxRecDepth 20000 in
set_option maxHeartbeats 4000000 in
theorem split_yes (k x t l a0 a1 a2 a3 a4 a5 : Int) (b n : Nat) (sig : ByteArray) (w : World)
    (hb1 : 1 ≤ b) (hb2 : b ≤ 8) (hn : n ≤ 200) (hs : sig.size = 4 + b + n * b) (hsz : (sig.size : Int) = a4)
    (hM : ∀ V : World, Calls Tryd.prog 27 #[.agg #[.int .i64 k, .int .i64 b, .int .i64 x, .int .i64 t, .int .i64 l]] V fun e w' => e = .returned (.tuple #[.agg #[.int .i64 a0, .int .i64 a1, .int .i64 a2, .int .i64 a3, .int .i64 a4, .int .i64 a5], .int .i64 0]) ∧ Below V.heap.size V w')
    (hI : ∀ V : World, Calls Tryd.prog 29 #[.agg #[.int .i64 k, .int .i64 b, .int .i64 x, .int .i64 t, .int .i64 l], .int .i64 ((valN sig 0 4 : Nat) : Int)] V fun e w' => e = .returned (.bool true) ∧ Below V.heap.size V w') :
    Calls Tryd.prog 19 #[.agg #[.int .i64 k, .int .i64 b, .int .i64 x, .int .i64 t, .int .i64 l], .string sig] w fun r w' => ∃ g, r = .returned (.tuple #[.agg #[.int .i64 ((valN sig 0 4 : Nat) : Int), .string (sig.extract 4 (4 + b)), .slice (some ⟨g, 0, none⟩) n n], .int .i64 0]) ∧ w.heap.size ≤ g ∧ Blk w' g ((cutS (sig.extract (4 + b) sig.size) b n).map Value.string) 9 ∧ Below w.heap.size w w' := by
  have h4 : 4 ≤ sig.size := by omega
  have hsA : ∀ wx, (Instr.slice 9 (.string sig) (some (.int .i64 4)) (some (.int .i64 (4 + (b : Int)))) none).run Tryd.prog wx = .ok (.string (sig.extract 4 (4 + b))) wx := fun wx => by
    have h := sliceV sig 4 (4 + b) (by omega) (by omega) wx
    rw [Int.natCast_add] at h
    exact h
  have hsB : ∀ wx, (Instr.slice 9 (.string sig) (some (.int .i64 (4 + (b : Int)))) none none).run Tryd.prog wx = .ok (.string (sig.extract (4 + b) sig.size)) wx := fun wx => by
    have h := sliceVE sig (4 + b) (by omega) wx
    rw [Int.natCast_add] at h
    exact h
  have HCT := hide (fun V : World => cut_on (sig.extract (4 + b) sig.size) b n V hb1 hb2 (by rw [ByteArray.size_extract, Nat.min_self, hs]; omega) (by rw [ByteArray.size_extract, Nat.min_self, hs]; omega) hn)
  generalize cutS (sig.extract (4 + b) sig.size) b n = cs at HCT ⊢
  generalize sig.extract (4 + b) sig.size = sB at hsB HCT
  generalize sig.extract 4 (4 + b) = sA at hsA ⊢
  have HSZ := hide hs
  clear hs
  obtain ⟨idx, hidx⟩ : ∃ idx : Int, ((valN sig 0 4 : Nat) : Int) = idx := ⟨_, rfl⟩
  rw [hidx] at hI ⊢
  have HID := hide hidx
  clear hidx
  obtain ⟨W0, hW⟩ : ∃ W0, (w.alloc (.cells #[.int .i64 k, .int .i64 b, .int .i64 x, .int .i64 t, .int .i64 l] 23)).alloc (.cells #[.int .i64 0, .string ⟨#[]⟩, .slice none 0 0] 32) = W0 := ⟨_, rfl⟩
  have HF := hide (show FiveC w.heap.size W0 k b x t l by subst hW; refine ⟨?_, ?_, ?_, ?_, ?_⟩ <;> simp [go_sem])
  have HB := hide (show Below w.heap.size w W0 by subst hW; exact ((Below.refl _ _).alloc (Nat.le_refl _) _).alloc (by simp) _)
  have HR := hide (show Blk W0 (w.heap.size + 1) [.int .i64 0, .string ⟨#[]⟩, .slice none 0 0] 32 by
    subst hW
    have h := Blk.new (w.alloc (.cells #[.int .i64 k, .int .i64 b, .int .i64 x, .int .i64 t, .int .i64 l] 23)) [.int .i64 0, .string ⟨#[]⟩, .slice none 0 0] 32
    simp only [World.size_alloc] at h
    exact h)
  have hz' : w.heap.size + 2 ≤ W0.heap.size := by subst hW; simp
  obtain ⟨c0, c1, c2, c3, c4⟩ := HF.out
  have HM := hide hM
  clear hM
  have HWE := hide hW
  clear hW
  go_enter Tryd.func19, Tryd.ntmps19
  go_wp2_with fail
  rw [HWE.out]
  refine (HM.out _).mono ?_
  rintro e w1 ⟨rfl, hb1⟩
  have HB1 := hide (heldB (Below.refl W0.heap.size W0) hb1 (Nat.le_refl _))
  have HR1 := hide (HR.out.on hb1)
  clear hb1 c0 c1 c2 c3 c4
  have HB2 := hide (HB1.out.alloc HB1.out.size (.cells #[.int .i64 a0, .int .i64 a1, .int .i64 a2, .int .i64 a3, .int .i64 a4, .int .i64 a5] 56))
  have HR2 := hide (HR1.out.alloc (.cells #[.int .i64 a0, .int .i64 a1, .int .i64 a2, .int .i64 a3, .int .i64 a4, .int .i64 a5] 56))
  have HZ2 := hide (Blk.new w1 [.int .i64 a0, .int .i64 a1, .int .i64 a2, .int .i64 a3, .int .i64 a4, .int .i64 a5] 56)
  have hw1 : w.heap.size + 2 ≤ w1.heap.size := Nat.le_trans hz' HB1.out.size
  obtain ⟨W2, hW2⟩ : ∃ W2, w1.alloc (.cells #[.int .i64 a0, .int .i64 a1, .int .i64 a2, .int .i64 a3, .int .i64 a4, .int .i64 a5] 56) = W2 := ⟨_, rfl⟩
  have HX := HR2
  rw [hW2] at HX
  have HBX := HB2
  rw [hW2] at HBX
  have HZX := HZ2
  rw [hW2] at HZX
  have z4 := HZX.out.cell 4
  simp only [List.getElem?_cons_zero, List.getElem?_cons_succ] at z4
  have HW2 := hide hW2
  clear hW2 HR2 HB2 HZ2 HZX
  have n0 : ((sig.size : Int) != a4) = false := by simpa using hsz
  have n1 : ((sig.size : Int) == a4) = true := by simpa using hsz
  have hs0 := sliceV0 sig h4
  have HNU := hide (fun V : World => (by
    have h := numberIn_any (sig.extract 0 4) V (by rw [ByteArray.size_extract]; omega) (by rw [ByteArray.size_extract]; omega)
    rw [valN_part sig 0 4 4 h4 (by omega)] at h
    exact h : Calls Tryd.prog 28 #[.string (sig.extract 0 4)] V fun e w' => e = .returned (.int .i64 ((valN sig 0 4 : Nat) : Int)) ∧ w' = V))
  have HIX := hide hI
  clear hI
  rw [HID.out] at HNU
  have HWX := HW2.out
  go_wp2_with fail
  refine (HNU.out _).mono ?_
  rintro e w9 ⟨rfl, hw⟩
  obtain rfl := hw.symm
  clear hw hs0
  obtain ⟨c0, c1, c2, c3, c4⟩ := HF.out.below HBX.out (by omega)
  go_wp2_with fail
  refine (HIX.out _).mono ?_
  rintro e w3 ⟨rfl, hb3⟩
  have HB3 := hide (heldB HBX.out hb3 (Nat.le_refl _))
  have HR3 := hide (HX.out.on hb3)
  clear hb3 c0 c1 c2 c3 c4 z4
  have HS := hide (fun (V : World) (h : Below w3.heap.size w3 V) => (HF.out.below (heldB HB3.out h (Nat.le_refl _)) (by omega)).2.1)
  obtain ⟨c0, c1, c2, c3, c4⟩ := HF.out.below HB3.out (by omega)
  go_wp2_with fail
  clear c0 c1 c2 c3 c4
  refine wp_region_held_drew (S := fun V => V.cell? ⟨w.heap.size, 1, none⟩ = some (.int .i64 b)) (by kernel_rfl) (HS.out _ ((Below.refl w3.heap.size w3).drew)) (fun hHeld => ?_)
  refine wpAnyH_take (i := 0) (oi := ?oia0) (v := ?va0) ?hia0 (by kernel_rfl) (by kernel_rfl) (by kernel_rfl) ?hQa0 (Or.inl ⟨?h1a0, ?hya0⟩) hHeld ?resta0
  case hia0 => (simp only [List.getElem?_toArray, List.getElem?_cons_zero]; rfl)
  case hQa0 => exact fun _ _ _ h => h
  case h1a0 => rfl
  case hya0 => intro V hSV; (try dsimp only at hSV); go_simp; (try with_reducible rfl)
  try simp only [Act.put, List.setIfInBounds_toArray, List.set_cons_zero, List.set_cons_succ]
  refine wpAnyH_take (i := 1) (oi := ?oia1) (v := ?va1) ?hia1 (by kernel_rfl) (by kernel_rfl) (by kernel_rfl) ?hQa1 (Or.inl ⟨?h1a1, ?hya1⟩) hHeld ?resta1
  case hia1 => (simp only [List.getElem?_toArray, List.getElem?_cons_succ, List.getElem?_cons_zero]; rfl)
  case hQa1 => exact fun _ _ _ h => h
  case h1a1 => rfl
  case hya1 => intro V hSV; (try dsimp only at hSV); go_simp; (try with_reducible rfl)
  try simp only [Act.put, List.setIfInBounds_toArray, List.set_cons_zero, List.set_cons_succ]
  refine wpAnyH_take (i := 2) (oi := ?oia2) (v := ?va2) ?hia2 (by kernel_rfl) (by kernel_rfl) (by kernel_rfl) ?hQa2 (Or.inl ⟨?h1a2, ?hya2⟩) hHeld ?resta2
  case hia2 => (simp only [List.getElem?_toArray, List.getElem?_cons_succ, List.getElem?_cons_zero]; rfl)
  case hQa2 => exact fun _ _ _ h => h
  case h1a2 => rfl
  case hya2 => intro V hSV; (try dsimp only at hSV); go_simp; (try with_reducible rfl)
  try simp only [Act.put, List.setIfInBounds_toArray, List.set_cons_zero, List.set_cons_succ]
  refine wpAnyH_take (i := 3) (oi := ?oia3) (v := ?va3) ?hia3 (by kernel_rfl) (by kernel_rfl) (by kernel_rfl) ?hQa3 (Or.inl ⟨?h1a3, ?hya3⟩) hHeld ?resta3
  case hia3 => (simp only [List.getElem?_toArray, List.getElem?_cons_succ, List.getElem?_cons_zero]; rfl)
  case hQa3 => exact fun _ _ _ h => h
  case h1a3 => rfl
  case hya3 => intro V hSV; (try dsimp only at hSV); go_simp; (try with_reducible rfl)
  try simp only [Act.put, List.setIfInBounds_toArray, List.set_cons_zero, List.set_cons_succ]
  refine wpAnyH_take (i := 4) (oi := ?oia4) (v := ?va4) ?hia4 (by kernel_rfl) (by kernel_rfl) (by kernel_rfl) ?hQa4 (Or.inl ⟨?h1a4, ?hya4⟩) hHeld ?resta4
  case hia4 => (simp only [List.getElem?_toArray, List.getElem?_cons_succ, List.getElem?_cons_zero]; rfl)
  case hQa4 => exact fun _ _ _ h => h
  case h1a4 => rfl
  case hya4 => intro V hSV; (try dsimp only at hSV); go_simp; (try with_reducible rfl)
  try simp only [Act.put, List.setIfInBounds_toArray, List.set_cons_zero, List.set_cons_succ]
  refine wpAnyH_take (i := 5) (oi := ?oia5) (v := ?va5) ?hia5 (by kernel_rfl) (by kernel_rfl) (by kernel_rfl) ?hQa5 (Or.inl ⟨?h1a5, ?hya5⟩) hHeld ?resta5
  case hia5 => (simp only [List.getElem?_toArray, List.getElem?_cons_succ, List.getElem?_cons_zero]; rfl)
  case hQa5 => exact fun _ _ _ h => h
  case h1a5 => rfl
  case hya5 => intro V hSV; (try dsimp only at hSV); go_simp; (try with_reducible rfl)
  try simp only [Act.put, List.setIfInBounds_toArray, List.set_cons_zero, List.set_cons_succ]
  refine wpAnyH_take (i := 6) (oi := ?oia6) (v := ?va6) ?hia6 (by kernel_rfl) (by kernel_rfl) (by kernel_rfl) ?hQa6 (Or.inl ⟨?h1a6, ?hya6⟩) hHeld ?resta6
  case hia6 => (simp only [List.getElem?_toArray, List.getElem?_cons_succ, List.getElem?_cons_zero]; rfl)
  case hQa6 => exact fun _ _ _ h => h
  case h1a6 => rfl
  case hya6 => intro V hSV; (try dsimp only at hSV); go_simp; (try with_reducible rfl)
  try simp only [Act.put, List.setIfInBounds_toArray, List.set_cons_zero, List.set_cons_succ]
  refine wpAnyH_take (i := 7) (oi := ?oia7) (v := ?va7) ?hia7 (by kernel_rfl) (by kernel_rfl) (by kernel_rfl) ?hQa7 (Or.inl ⟨?h1a7, ?hya7⟩) hHeld ?resta7
  case hia7 => (simp only [List.getElem?_toArray, List.getElem?_cons_succ, List.getElem?_cons_zero]; rfl)
  case hQa7 => exact fun _ _ _ h => h
  case h1a7 => rfl
  case hya7 => intro V hSV; (try dsimp only at hSV); go_simp; (try with_reducible rfl)
  try simp only [Act.put, List.setIfInBounds_toArray, List.set_cons_zero, List.set_cons_succ]
  refine wpAnyH_take (i := 8) (oi := ?oia8) (v := ?va8) ?hia8 (by kernel_rfl) (by kernel_rfl) (by kernel_rfl) ?hQa8 (Or.inl ⟨?h1a8, ?hya8⟩) hHeld ?resta8
  case hia8 => (simp only [List.getElem?_toArray, List.getElem?_cons_succ, List.getElem?_cons_zero]; rfl)
  case hQa8 => exact fun _ _ _ h => h
  case h1a8 => rfl
  case hya8 => intro V hSV; (try dsimp only at hSV); go_simp; (try with_reducible rfl)
  try simp only [Act.put, List.setIfInBounds_toArray, List.set_cons_zero, List.set_cons_succ]
  refine wpAnyH_ready (rs := [9]) (by kernel_rfl) (by simp) ?_
  refine AllReadyH.cons (o := ?oa9) ?hoa9 (fun K hK => ?hsa9) AllReadyH.nil
  case hoa9 => (simp only [List.getElem?_toArray, List.getElem?_cons_succ, List.getElem?_cons_zero]; rfl)
  go_simp
  go_at_call 30
  refine (HCT.out _).mono ?_
  rintro e w4 ⟨rfl, hk4, hb4⟩
  have hS4 := heldB (Below.refl w3.heap.size w3).drew hb4 (Nat.le_refl _)
  have HB4 := hide hS4
  have HK4 := hide hk4
  have HR4 := hide (HR3.out.on hS4)
  clear hb4 hS4 hk4
  try go_wp2_with fail
  refine hK.out _ _ (HS.out _ (HB4.out)) (fun hHeld => ?_)
  clear hK K
  try simp only [Act.put, List.setIfInBounds_toArray, List.set_cons_zero, List.set_cons_succ]
  refine wpAnyH_take (i := 10) (oi := ?oia10) (v := ?va10) ?hia10 (by kernel_rfl) (by kernel_rfl) (by kernel_rfl) ?hQa10 (Or.inl ⟨?h1a10, ?hya10⟩) hHeld ?resta10
  case hia10 => (simp only [List.getElem?_toArray, List.getElem?_cons_succ, List.getElem?_cons_zero]; rfl)
  case hQa10 => exact fun _ _ _ h => h
  case h1a10 => rfl
  case hya10 => intro V hSV; (try dsimp only at hSV); go_simp; (try with_reducible rfl)
  try simp only [Act.put, List.setIfInBounds_toArray, List.set_cons_zero, List.set_cons_succ]
  have r0 := HR4.out.cell 0
  have r1 := HR4.out.cell 1
  have r2 := HR4.out.cell 2
  have f0 := HR4.out.free 0
  have f1 := HR4.out.free 1
  have f2 := HR4.out.free 2
  simp only [List.getElem?_cons_zero, List.getElem?_cons_succ] at r0 r1 r2
  refine wpAnyH_ready (rs := [11]) (by kernel_rfl) (by simp) ?_
  refine AllReadyH.cons (o := ?oa11) ?hoa11 (fun K hK => ?hsa11) AllReadyH.nil
  case hoa11 => (simp only [List.getElem?_toArray, List.getElem?_cons_succ, List.getElem?_cons_zero]; rfl)
  go_simp
  refine hK.out _ _ ((((World.cell?_setCell_other _ _ _ _ (by simp)).trans (World.cell?_setCell_other _ _ _ _ (by simp))).trans (World.cell?_setCell_other _ _ _ _ (by simp))).trans (HS.out _ HB4.out)) (fun hHeld => ?_)
  clear hK K
  try simp only [Act.put, List.setIfInBounds_toArray, List.set_cons_zero, List.set_cons_succ]
  refine wpAnyH_take (i := 12) (oi := ?oia12) (v := ?va12) ?hia12 (by kernel_rfl) (by kernel_rfl) (by kernel_rfl) ?hQa12 (Or.inl ⟨?h1a12, ?hya12⟩) hHeld ?resta12
  case hia12 => (simp only [List.getElem?_toArray, List.getElem?_cons_succ, List.getElem?_cons_zero]; rfl)
  case hQa12 => exact fun _ _ _ h => h
  case h1a12 => rfl
  case hya12 => intro V hSV; (try dsimp only at hSV); go_simp; (try with_reducible rfl)
  try simp only [Act.put, List.setIfInBounds_toArray, List.set_cons_zero, List.set_cons_succ]
  refine wpAnyH_done (by kernel_rfl) ?_ _
  go_wp2
  have hg3 : w3.heap.size ≤ w3.drew.heap.size := Nat.le_refl _
  refine bodyPost_ret (v := .tuple #[.agg #[.int .i64 idx, .string sA, .slice (some ⟨w3.drew.heap.size, 0, none⟩) n n], .int .i64 0]) (by simp [results, Tryd.results19, go_sem, r0, r1, r2]) rfl ⟨_, rfl, ?_, ?_, ?_⟩
  · have h1 := HB.out.size
    have h2 := HB3.out.size
    exact Nat.le_trans h1 (Nat.le_trans h2 hg3)
  · have hne : w3.drew.heap.size ≠ w.heap.size + 1 := by
      have h2 := HB3.out.size
      omega
    exact ((HK4.out.other (a := ⟨w.heap.size + 1, 0, none⟩) _ hne).other (a := ⟨w.heap.size + 1, 1, none⟩) _ hne).other (a := ⟨w.heap.size + 1, 2, none⟩) _ hne
  · have HBB := HB.out.trans ((HB3.out.trans (HB4.out.mono HB3.out.size)).mono HB.out.size)
    iterate 3 refine Below.setCell ?_ (by simp <;> omega) _
    exact HBB
end Go.Proofs.YtgaoeoijdpdjiabDoor

namespace Go.Proofs.YtgaoeoijdpdjiabDoor
open Go.RowKit

set_option maxRecDepth 20000 in
set_option maxHeartbeats 4000000 in
theorem sized_any (k b x t l : Int) (g o n c : Nat) (ps : List ByteArray) (w : World) (hn : ps.length = n) (hn2 : n ≤ 1000) (hps : ∀ y ∈ ps, (y.size : Int) = b) (hg : g < w.heap.size) (hcells : ∀ (j : Nat) y, ps[j]? = some y → w.cell? ⟨g, o + j, none⟩ = some (.string y)) :
    Calls Tryd.prog 17 #[.agg #[.int .i64 k, .int .i64 b, .int .i64 x, .int .i64 t, .int .i64 l], .slice (some ⟨g, o, none⟩) n c, .int .i64 n] w fun e w' => e = .returned (.bool true) ∧ Below w.heap.size w w' := by
  obtain ⟨W0, hW⟩ : ∃ W0, w.alloc (.cells #[.int .i64 k, .int .i64 b, .int .i64 x, .int .i64 t, .int .i64 l] 23) = W0 := ⟨_, rfl⟩
  have HF := hide (show FiveC w.heap.size W0 k b x t l by subst hW; refine ⟨?_, ?_, ?_, ?_, ?_⟩ <;> simp [go_sem])
  have HB := hide (show Below w.heap.size w W0 by subst hW; exact (Below.refl _ _).alloc (Nat.le_refl _) _)
  have HCE := hide (fun (j : Nat) (hj : j < n) => (by
    obtain ⟨y, hy⟩ : ∃ y, ps[j]? = some y := ⟨_, List.getElem?_eq_getElem (by omega)⟩
    exact ⟨y, (HB.out.cell (p := ⟨g, o + j, none⟩) hg).trans (hcells j y hy), hps y (List.mem_of_getElem? hy)⟩ : ∃ y, W0.cell? ⟨g, o + j, none⟩ = some (.string y) ∧ (y.size : Int) = b))
  clear hcells hps hn
  have HWE := hide hW
  clear hW
  go_enter Tryd.func17, Tryd.ntmps17
  go_wp2_with fail
  rw [HWE.out]
  go_loopw [7] (fun i wr => ∃ m : Nat, m ≤ n ∧ i = .int .i64 m ∧ Hid (Below W0.heap.size W0 wr)) (fun i _ => n - (intOf i).toNat)
  case atStart => exact ⟨0, Nat.zero_le _, rfl, Below.refl _ _⟩
  case round =>
    obtain ⟨m, hm, rfl, hb⟩ := hrel
    by_cases hlt : m < n
    · obtain ⟨y, hy, hyb⟩ := HCE.out m hlt
      have e1 : ((y.size : Int) != b) = false := by simpa using hyb
      have e2 : ((y.size : Int) == b) = true := by simpa using hyb
      have HCY := hide hy
      have hgW : g < W0.heap.size := Nat.lt_of_lt_of_le hg HB.out.size
      have hzW : w.heap.size < W0.heap.size := by rw [← HWE.out]; simp
      have HS := hide (fun (V : World) (h : Below W0.heap.size W0 V) => (by
        obtain ⟨_, c1, _, _, _⟩ := HF.out.below h hzW
        exact ⟨c1, (h.cell (p := ⟨g, o + m, none⟩) hgW).trans HCY.out⟩ : V.cell? ⟨w.heap.size, 1, none⟩ = some (.int .i64 b) ∧ V.cell? ⟨g, o + m, none⟩ = some (.string y)))
      have hms : (m : Int) < (n : Int) := by omega
      clear hyb hy hgW hzW
      go_wp2_with fail
      go_region_held3 (fun V => V.cell? ⟨w.heap.size, 1, none⟩ = some (.int .i64 b) ∧ V.cell? ⟨g, o + m, none⟩ = some (.string y)) (exact HS.out _ hb.out.drew) (fail)
      have HB2 := hide hb.out.drew
      go_wp2
      go_roundw
      case rel =>
        have R : ∃ m' : Nat, m' ≤ n ∧ Value.int .i64 ((m : Int) + 1) = .int .i64 m' ∧ Hid (Below W0.heap.size W0 wr.drew) := ⟨m + 1, by omega, by go_num, HB2.out⟩
        first | exact R | ((repeat apply Exists.intro); exact ⟨R, rfl⟩)
      case measure => simp [intOf]; omega
    · obtain rfl : m = n := by omega
      go_wp2
      go_ret
      exact ⟨rfl, HB.out.trans (hb.out.mono HB.out.size)⟩

/-- The first n bytes, or all. -/
def upS (s : ByteArray) (n : Nat) : ByteArray := if n < s.size then s.extract 0 n else s
theorem upS_size (s : ByteArray) (n : Nat) : (upS s n).size ≤ n := by
  unfold upS
  split
  · rw [ByteArray.size_extract]; omega
  · omega
theorem upTo_any (s : ByteArray) (n : Nat) (w : World) :
    Calls Tryd.prog 6 #[.string s, .int .i64 n] w fun e w' => e = .returned (.string (upS s n)) ∧ w' = w := by
  by_cases h : n < s.size
  · rw [upS, if_pos h]
    have e1 : (n : Int) < (s.size : Int) := by omega
    have hs : ∀ wx, (Instr.slice 9 (.string s) none (some (.int .i64 (n : Int))) none).run Tryd.prog wx = .ok (.string (s.extract 0 n)) wx := fun wx => by
      have e4 : (n : Int) ≤ (s.size : Int) := by omega
      have e5 : (0 : Int) ≤ (n : Int) := by omega
      simp [go_sem, e4, e5]
    go_enter Tryd.func6, Tryd.ntmps6
    go_wp2
    go_ret
    exact ⟨rfl, rfl⟩
  · rw [upS, if_neg h]
    have e1 : ¬ (n : Int) < (s.size : Int) := by omega
    go_enter Tryd.func6, Tryd.ntmps6
    go_wp2
    go_ret
    exact ⟨rfl, rfl⟩

set_option maxRecDepth 20000 in
theorem keepTotal_any (k b x : Int) (t l : Nat) (w : World) (h2 : t ≤ 4) (h4 : l ≤ 3) :
    Calls Tryd.prog 12 #[.agg #[.int .i64 k, .int .i64 b, .int .i64 x, .int .i64 t, .int .i64 l]] w fun e w' => e = .returned (.int .i64 ((2 ^ (t * l) : Nat) : Int)) ∧ Below w.heap.size w w' := by
  obtain ⟨d, hd⟩ : ∃ d, t * l = d := ⟨_, rfl⟩
  have hd12 : d ≤ 12 := by rw [← hd]; exact Nat.le_trans (Nat.mul_le_mul h2 h4) (by decide)
  have hw1 : IntKind.i64.wrap ((t : Int) * (l : Int)) = (d : Int) := by
    have e : (t : Int) * (l : Int) = (d : Int) := by rw [← hd, Int.natCast_mul]
    rw [e, IntKind.wrap_i64] <;> omega
  have hw2 : wrap64 (2 ^ d) = ((2 ^ d : Nat) : Int) := by
    have : d = 0 ∨ d = 1 ∨ d = 2 ∨ d = 3 ∨ d = 4 ∨ d = 5 ∨ d = 6 ∨ d = 7 ∨ d = 8 ∨ d = 9 ∨ d = 10 ∨ d = 11 ∨ d = 12 := by omega
    rcases this with rfl | rfl | rfl | rfl | rfl | rfl | rfl | rfl | rfl | rfl | rfl | rfl | rfl <;> decide +kernel
  rw [hd]
  have hd0 : 0 ≤ (d : Int) := by omega
  clear hd h2 h4
  go_enter Tryd.func12, Tryd.ntmps12
  go_wp2
  go_ret
  refine ⟨?_, (Below.refl _ _).alloc (Nat.le_refl _) _⟩
  rw [← hw2]
  rfl
end Go.Proofs.YtgaoeoijdpdjiabDoor
