/-
  The program's Climb, its last cases. signet.Split, Join, Verify: what the calls below answer. The statement's own small functions: bare, leaves. A new row of texts. A list of texts in memory, and what both sides say of its lengths.
-/
import Derived.Test.YtgaoeoijdpdjiabDoorPart27
import Derived.Test.YtgaoeoijdpdjiabDoorPart25
import Derived.Test.YtgaoeoijdpdjiabDoorPart5
namespace Go.Proofs.YtgaoeoijdpdjiabDoor
open Go.RowKit

set_option maxRecDepth 20000 in
set_option maxHeartbeats 4000000 in
theorem cT_val (k b x t l : Int) (pub y : ByteArray) (p0 p1 p2 p3 : Int) (sp : Option Addr) (n c : Nat) (w : World) (hC : ∀ V : World, Calls Tryd.prog 44 #[.agg #[.int .i64 k, .int .i64 b, .int .i64 x, .int .i64 t, .int .i64 l]] V fun e w' => e = .returned (.int .i64 0) ∧ Below V.heap.size V w') (hV : ∀ (V : World) (B : Nat), B = V.heap.size → Calls Tryd.prog 31 #[.agg #[.int .i64 k, .int .i64 b, .int .i64 x, .int .i64 t, .int .i64 l], .slice (some ⟨B, 0, none⟩) 2 2] (V.alloc (.cells #[.string pub, .string y] 9)) fun e w' => e = .returned (.bool true) ∧ Below (V.alloc (.cells #[.string pub, .string y] 9)).heap.size (V.alloc (.cells #[.string pub, .string y] 9)) w') (hI : ∀ V : World, Calls Tryd.prog 68 #[.agg #[.int .i64 k, .int .i64 b, .int .i64 x, .int .i64 t, .int .i64 l], .agg #[.int .i64 p0, .int .i64 p1, .int .i64 p2, .int .i64 p3]] V fun e w' => e = .returned (.bool true) ∧ Below V.heap.size V w') (g3 : ((n : Int) == t) = true) (hE : ∀ V : World, Below w.heap.size w V → Calls Tryd.prog 31 #[.agg #[.int .i64 k, .int .i64 b, .int .i64 x, .int .i64 t, .int .i64 l], .slice sp n c] V fun e w' => e = .returned (.bool false) ∧ Below V.heap.size V w') :
    Calls Tryd.prog 54 #[.agg #[.int .i64 k, .int .i64 b, .int .i64 x, .int .i64 t, .int .i64 l], .string pub, .agg #[.int .i64 p0, .int .i64 p1, .int .i64 p2, .int .i64 p3], .string y, .slice sp n c] w fun e w' => e = .returned (.tuple #[.string ⟨#[]⟩, .int .i64 2]) ∧ Below w.heap.size w w' := by
  obtain ⟨W0, hW⟩ : ∃ W0, (w.alloc (.cells #[.int .i64 k, .int .i64 b, .int .i64 x, .int .i64 t, .int .i64 l] 23)).alloc (.cells #[.int .i64 p0, .int .i64 p1, .int .i64 p2, .int .i64 p3] 47) = W0 := ⟨_, rfl⟩
  have HF := hide (show FiveC w.heap.size W0 k b x t l by subst hW; refine ⟨?_, ?_, ?_, ?_, ?_⟩ <;> simp [go_sem])
  have HP := hide (show FourC (w.heap.size + 1) W0 p0 p1 p2 p3 by subst hW; refine ⟨?_, ?_, ?_, ?_⟩ <;> simp [go_sem])
  have HB := hide (show Below w.heap.size w W0 by subst hW; exact ((Below.refl _ _).alloc (Nat.le_refl _) _).alloc (by simp) _)
  have hz : W0.heap.size ≤ w.heap.size + 2 := by subst hW; simp
  have hz' : w.heap.size + 2 ≤ W0.heap.size := by subst hW; simp
  have HBU := hide (fun (V : World) (h : Below W0.heap.size W0 V) => HB.out.trans (h.mono (by omega)))
  have HS := hide (fun (V : World) (h : Below W0.heap.size W0 V) => (by
    obtain ⟨c0, c1, c2, c3, c4⟩ := HF.out.below h (by omega)
    obtain ⟨d0, d1, d2, d3⟩ := HP.out.below h (by omega)
    exact ⟨c0, c1, c2, c3, c4, d0, d1, d2, d3⟩ : V.cell? ⟨w.heap.size, 0, none⟩ = some (.int .i64 k) ∧ V.cell? ⟨w.heap.size, 1, none⟩ = some (.int .i64 b) ∧ V.cell? ⟨w.heap.size, 2, none⟩ = some (.int .i64 x) ∧ V.cell? ⟨w.heap.size, 3, none⟩ = some (.int .i64 t) ∧ V.cell? ⟨w.heap.size, 4, none⟩ = some (.int .i64 l) ∧ V.cell? ⟨w.heap.size + 1, 0, none⟩ = some (.int .i64 p0) ∧ V.cell? ⟨w.heap.size + 1, 1, none⟩ = some (.int .i64 p1) ∧ V.cell? ⟨w.heap.size + 1, 2, none⟩ = some (.int .i64 p2) ∧ V.cell? ⟨w.heap.size + 1, 3, none⟩ = some (.int .i64 p3)))
  obtain ⟨c0, c1, c2, c3, c4, d0, d1, d2, d3⟩ := HS.out W0 (Below.refl _ _)
  have g3n : ((n : Int) != t) = false := by rw [bne, g3]; rfl
  have HC := hide hC
  have HV := hide hV
  have HI := hide hI
  have HE := hide hE
  clear hC hV hI hE
  go_enter Tryd.func54, Tryd.ntmps54
  go_wp2_with fail
  try rw [hW]
  refine (HC.out _).mono ?_
  rintro e w1 ⟨rfl, hb1⟩
  have HB1 := hide (heldB (Below.refl W0.heap.size W0) hb1 (Nat.le_refl _))
  clear hb1 c0 c1 c2 c3 c4 d0 d1 d2 d3 hW
  obtain ⟨c0, c1, c2, c3, c4, d0, d1, d2, d3⟩ := HS.out w1 HB1.out
  go_wp2_with fail
  refine (HV.out w1 _ (by simp)).mono ?_
  rintro e w2 ⟨rfl, hb2⟩
  have HB2 := hide (heldB (HB1.out.alloc HB1.out.size _) hb2 (Nat.le_refl _))
  clear hb2 c0 c1 c2 c3 c4 d0 d1 d2 d3 HB1
  obtain ⟨c0, c1, c2, c3, c4, d0, d1, d2, d3⟩ := HS.out w2 HB2.out
  go_wp2_with fail
  refine (HI.out _).mono ?_
  rintro e w3 ⟨rfl, hb3⟩
  have HB3 := hide (heldB HB2.out hb3 (Nat.le_refl _))
  clear hb3 c0 c1 c2 c3 c4 d0 d1 d2 d3 HB2
  obtain ⟨c0, c1, c2, c3, c4, d0, d1, d2, d3⟩ := HS.out w3 HB3.out
  go_wp2_with fail
  refine (HE.out _ (HBU.out _ HB3.out)).mono ?_
  rintro e w4 ⟨rfl, hb4⟩
  have HB4 := hide (heldB HB3.out hb4 (Nat.le_refl _))
  clear hb4 c0 c1 c2 c3 c4 d0 d1 d2 d3 HB3
  go_wp2
  go_ret2
  exact ⟨rfl, HBU.out _ HB4.out⟩

set_option maxRecDepth 20000 in
set_option maxHeartbeats 4000000 in
theorem cT_yes (k b x t l : Int) (pub y : ByteArray) (p0 p1 p2 p3 : Int) (sp : Option Addr) (n c : Nat) (cv : ByteArray) (w : World) (hC : ∀ V : World, Calls Tryd.prog 44 #[.agg #[.int .i64 k, .int .i64 b, .int .i64 x, .int .i64 t, .int .i64 l]] V fun e w' => e = .returned (.int .i64 0) ∧ Below V.heap.size V w') (hV : ∀ (V : World) (B : Nat), B = V.heap.size → Calls Tryd.prog 31 #[.agg #[.int .i64 k, .int .i64 b, .int .i64 x, .int .i64 t, .int .i64 l], .slice (some ⟨B, 0, none⟩) 2 2] (V.alloc (.cells #[.string pub, .string y] 9)) fun e w' => e = .returned (.bool true) ∧ Below (V.alloc (.cells #[.string pub, .string y] 9)).heap.size (V.alloc (.cells #[.string pub, .string y] 9)) w') (hI : ∀ V : World, Calls Tryd.prog 68 #[.agg #[.int .i64 k, .int .i64 b, .int .i64 x, .int .i64 t, .int .i64 l], .agg #[.int .i64 p0, .int .i64 p1, .int .i64 p2, .int .i64 p3]] V fun e w' => e = .returned (.bool true) ∧ Below V.heap.size V w') (g3 : ((n : Int) == t) = true) (hE : ∀ V : World, Below w.heap.size w V → Calls Tryd.prog 31 #[.agg #[.int .i64 k, .int .i64 b, .int .i64 x, .int .i64 t, .int .i64 l], .slice sp n c] V fun e w' => e = .returned (.bool true) ∧ Below V.heap.size V w') (hG : ∀ V : World, Below w.heap.size w V → Tn V → Calls Tryd.prog 62 #[.agg #[.int .i64 k, .int .i64 b, .int .i64 x, .int .i64 t, .int .i64 l, .string pub, .int .i64 p0, .int .i64 p1, .int .i64 p2, .int .i64 p3], .string y, .slice sp n c] V fun e w' => e = .returned (.string cv) ∧ Below V.heap.size V w') (hT : Tn w) :
    Calls Tryd.prog 54 #[.agg #[.int .i64 k, .int .i64 b, .int .i64 x, .int .i64 t, .int .i64 l], .string pub, .agg #[.int .i64 p0, .int .i64 p1, .int .i64 p2, .int .i64 p3], .string y, .slice sp n c] w fun e w' => e = .returned (.tuple #[.string cv, .int .i64 0]) ∧ Below w.heap.size w w' := by
  obtain ⟨W0, hW⟩ : ∃ W0, (w.alloc (.cells #[.int .i64 k, .int .i64 b, .int .i64 x, .int .i64 t, .int .i64 l] 23)).alloc (.cells #[.int .i64 p0, .int .i64 p1, .int .i64 p2, .int .i64 p3] 47) = W0 := ⟨_, rfl⟩
  have HF := hide (show FiveC w.heap.size W0 k b x t l by subst hW; refine ⟨?_, ?_, ?_, ?_, ?_⟩ <;> simp [go_sem])
  have HP := hide (show FourC (w.heap.size + 1) W0 p0 p1 p2 p3 by subst hW; refine ⟨?_, ?_, ?_, ?_⟩ <;> simp [go_sem])
  have HB := hide (show Below w.heap.size w W0 by subst hW; exact ((Below.refl _ _).alloc (Nat.le_refl _) _).alloc (by simp) _)
  have hz : W0.heap.size ≤ w.heap.size + 2 := by subst hW; simp
  have hz' : w.heap.size + 2 ≤ W0.heap.size := by subst hW; simp
  have HBU := hide (fun (V : World) (h : Below W0.heap.size W0 V) => HB.out.trans (h.mono (by omega)))
  have HS := hide (fun (V : World) (h : Below W0.heap.size W0 V) => (by
    obtain ⟨c0, c1, c2, c3, c4⟩ := HF.out.below h (by omega)
    obtain ⟨d0, d1, d2, d3⟩ := HP.out.below h (by omega)
    exact ⟨c0, c1, c2, c3, c4, d0, d1, d2, d3⟩ : V.cell? ⟨w.heap.size, 0, none⟩ = some (.int .i64 k) ∧ V.cell? ⟨w.heap.size, 1, none⟩ = some (.int .i64 b) ∧ V.cell? ⟨w.heap.size, 2, none⟩ = some (.int .i64 x) ∧ V.cell? ⟨w.heap.size, 3, none⟩ = some (.int .i64 t) ∧ V.cell? ⟨w.heap.size, 4, none⟩ = some (.int .i64 l) ∧ V.cell? ⟨w.heap.size + 1, 0, none⟩ = some (.int .i64 p0) ∧ V.cell? ⟨w.heap.size + 1, 1, none⟩ = some (.int .i64 p1) ∧ V.cell? ⟨w.heap.size + 1, 2, none⟩ = some (.int .i64 p2) ∧ V.cell? ⟨w.heap.size + 1, 3, none⟩ = some (.int .i64 p3)))
  obtain ⟨c0, c1, c2, c3, c4, d0, d1, d2, d3⟩ := HS.out W0 (Below.refl _ _)
  have g3n : ((n : Int) != t) = false := by rw [bne, g3]; rfl
  have HC := hide hC
  have HV := hide hV
  have HI := hide hI
  have HE := hide hE
  have HG := hide hG
  have HTT := hide (hT.on HB.out)
  clear hC hV hI hE hG hT
  go_enter Tryd.func54, Tryd.ntmps54
  go_wp2_with fail
  try rw [hW]
  refine (HC.out _).mono ?_
  rintro e w1 ⟨rfl, hb1⟩
  have HB1 := hide (heldB (Below.refl W0.heap.size W0) hb1 (Nat.le_refl _))
  clear hb1 c0 c1 c2 c3 c4 d0 d1 d2 d3 hW
  obtain ⟨c0, c1, c2, c3, c4, d0, d1, d2, d3⟩ := HS.out w1 HB1.out
  go_wp2_with fail
  refine (HV.out w1 _ (by simp)).mono ?_
  rintro e w2 ⟨rfl, hb2⟩
  have HB2 := hide (heldB (HB1.out.alloc HB1.out.size _) hb2 (Nat.le_refl _))
  clear hb2 c0 c1 c2 c3 c4 d0 d1 d2 d3 HB1
  obtain ⟨c0, c1, c2, c3, c4, d0, d1, d2, d3⟩ := HS.out w2 HB2.out
  go_wp2_with fail
  refine (HI.out _).mono ?_
  rintro e w3 ⟨rfl, hb3⟩
  have HB3 := hide (heldB HB2.out hb3 (Nat.le_refl _))
  clear hb3 c0 c1 c2 c3 c4 d0 d1 d2 d3 HB2
  obtain ⟨c0, c1, c2, c3, c4, d0, d1, d2, d3⟩ := HS.out w3 HB3.out
  go_wp2_with fail
  refine (HE.out _ (HBU.out _ HB3.out)).mono ?_
  rintro e w4 ⟨rfl, hb4⟩
  have HB4 := hide (heldB HB3.out hb4 (Nat.le_refl _))
  clear hb4 c0 c1 c2 c3 c4 d0 d1 d2 d3 HB3
  obtain ⟨c0, c1, c2, c3, c4, d0, d1, d2, d3⟩ := HS.out w4 HB4.out
  go_wp2_with fail
  refine (HG.out _ (HBU.out _ HB4.out) (HTT.out.on HB4.out)).mono ?_
  rintro e w5 ⟨rfl, hb5⟩
  have HB5 := hide (heldB HB4.out hb5 (Nat.le_refl _))
  clear hb5 c0 c1 c2 c3 c4 d0 d1 d2 d3 HB4
  go_wp2
  go_ret2
  exact ⟨rfl, HBU.out _ HB5.out⟩

end Go.Proofs.YtgaoeoijdpdjiabDoor

namespace Go.Proofs.YtgaoeoijdpdjiabDoor
open Go.RowKit

set_option maxRecDepth 20000 in
set_option maxHeartbeats 4000000 in
theorem sSplit_on (k b x t l i e : Int) (n : Nat) (rnd sig : ByteArray) (L : List Value) (w : World)
    (hS : ∀ V : World, Calls Tryd.prog 19 #[.agg #[.int .i64 k, .int .i64 b, .int .i64 x, .int .i64 t, .int .i64 l], .string sig] V fun r w' => ∃ g, r = .returned (.tuple #[.agg #[.int .i64 i, .string rnd, .slice (some ⟨g, 0, none⟩) n n], .int .i64 e]) ∧ V.heap.size ≤ g ∧ Blk w' g L 9 ∧ Below V.heap.size V w') :
    Calls Tryd.prog 10 #[.agg #[.int .i64 k, .int .i64 b, .int .i64 x, .int .i64 t, .int .i64 l], .string sig] w fun r w' => ∃ g, r = .returned (.tuple #[.agg #[.int .i64 i, .string rnd, .slice (some ⟨g, 0, none⟩) n n], .int .i64 e]) ∧ w.heap.size ≤ g ∧ Blk w' g L 9 ∧ Below w.heap.size w w' := by
  obtain ⟨W0, hW⟩ : ∃ W0, (w.alloc (.cells #[.int .i64 k, .int .i64 b, .int .i64 x, .int .i64 t, .int .i64 l] 23)).alloc (.cells #[.int .i64 0, .string ⟨#[]⟩, .slice none 0 0] 32) = W0 := ⟨_, rfl⟩
  have HB := hide (show Below w.heap.size w W0 by subst hW; exact ((Below.refl _ _).alloc (Nat.le_refl _) _).alloc (by simp) _)
  have HR := hide (show Blk W0 (w.heap.size + 1) [.int .i64 0, .string ⟨#[]⟩, .slice none 0 0] 32 by
    subst hW
    have h := Blk.new (w.alloc (.cells #[.int .i64 k, .int .i64 b, .int .i64 x, .int .i64 t, .int .i64 l] 23)) [.int .i64 0, .string ⟨#[]⟩, .slice none 0 0] 32
    simp only [World.size_alloc] at h
    exact h)
  have hz' : w.heap.size + 2 ≤ W0.heap.size := by subst hW; simp
  have HS := hide (hS W0)
  have HWE := hide hW
  clear hS hW
  go_enter Tryd.func10, Tryd.ntmps10
  go_wp2_with fail
  rw [HWE.out]
  refine HS.out.mono ?_
  rintro r w1 ⟨g, rfl, hg, hbk, hb1⟩
  have HR1 := hide (HR.out.on hb1)
  have HB1 := hide (HB.out.trans (hb1.mono HB.out.size))
  have HK1 := hide hbk
  have HG := hide hg
  clear hb1 hbk hg
  have r0 := HR1.out.cell 0
  have r1 := HR1.out.cell 1
  have r2 := HR1.out.cell 2
  have f0 := HR1.out.free 0
  have f1 := HR1.out.free 1
  have f2 := HR1.out.free 2
  simp only [List.getElem?_cons_zero, List.getElem?_cons_succ] at r0 r1 r2
  go_wp2
  refine bodyPost_ret (v := .tuple #[.agg #[.int .i64 i, .string rnd, .slice (some ⟨g, 0, none⟩) n n], .int .i64 e]) (by simp [results, Tryd.results10, go_sem, r0, r1, r2]) rfl ⟨g, rfl, ?_, ?_, ?_⟩
  · have := HG.out; omega
  · have hne : g ≠ w.heap.size + 1 := by have := HG.out; omega
    exact ((HK1.out.other (a := ⟨w.heap.size + 1, 0, none⟩) _ hne).other (a := ⟨w.heap.size + 1, 1, none⟩) _ hne).other (a := ⟨w.heap.size + 1, 2, none⟩) _ hne
  · have HBB := HB1.out
    iterate 3 refine Below.setCell ?_ (by simp) _
    exact HBB

set_option maxRecDepth 20000 in
set_option maxHeartbeats 4000000 in
theorem sSplit_no (k b x t l e : Int) (sig : ByteArray) (w : World)
    (hS : ∀ V : World, Calls Tryd.prog 19 #[.agg #[.int .i64 k, .int .i64 b, .int .i64 x, .int .i64 t, .int .i64 l], .string sig] V fun r w' => r = .returned (.tuple #[.agg #[.int .i64 0, .string ⟨#[]⟩, .slice none 0 0], .int .i64 e]) ∧ Below V.heap.size V w') :
    Calls Tryd.prog 10 #[.agg #[.int .i64 k, .int .i64 b, .int .i64 x, .int .i64 t, .int .i64 l], .string sig] w fun r w' => r = .returned (.tuple #[.agg #[.int .i64 0, .string ⟨#[]⟩, .slice none 0 0], .int .i64 e]) ∧ Below w.heap.size w w' := by
  obtain ⟨W0, hW⟩ : ∃ W0, (w.alloc (.cells #[.int .i64 k, .int .i64 b, .int .i64 x, .int .i64 t, .int .i64 l] 23)).alloc (.cells #[.int .i64 0, .string ⟨#[]⟩, .slice none 0 0] 32) = W0 := ⟨_, rfl⟩
  have HB := hide (show Below w.heap.size w W0 by subst hW; exact ((Below.refl _ _).alloc (Nat.le_refl _) _).alloc (by simp) _)
  have HR := hide (show Blk W0 (w.heap.size + 1) [.int .i64 0, .string ⟨#[]⟩, .slice none 0 0] 32 by
    subst hW
    have h := Blk.new (w.alloc (.cells #[.int .i64 k, .int .i64 b, .int .i64 x, .int .i64 t, .int .i64 l] 23)) [.int .i64 0, .string ⟨#[]⟩, .slice none 0 0] 32
    simp only [World.size_alloc] at h
    exact h)
  have HS := hide (hS W0)
  have HWE := hide hW
  clear hS hW
  go_enter Tryd.func10, Tryd.ntmps10
  go_wp2_with fail
  rw [HWE.out]
  refine HS.out.mono ?_
  rintro r w1 ⟨rfl, hb1⟩
  have HR1 := hide (HR.out.on hb1)
  have HB1 := hide (HB.out.trans (hb1.mono HB.out.size))
  clear hb1
  have r0 := HR1.out.cell 0
  have r1 := HR1.out.cell 1
  have r2 := HR1.out.cell 2
  have f0 := HR1.out.free 0
  have f1 := HR1.out.free 1
  have f2 := HR1.out.free 2
  simp only [List.getElem?_cons_zero, List.getElem?_cons_succ] at r0 r1 r2
  go_wp2
  refine bodyPost_ret (v := .tuple #[.agg #[.int .i64 0, .string ⟨#[]⟩, .slice none 0 0], .int .i64 e]) (by simp [results, Tryd.results10, go_sem, r0, r1, r2]) rfl ⟨rfl, ?_⟩
  have HBB := HB1.out
  iterate 3 refine Below.setCell ?_ (by simp) _
  exact HBB

set_option maxRecDepth 20000 in
set_option maxHeartbeats 4000000 in
theorem sJoin_on (k b x t l i e : Int) (rnd res : ByteArray) (sp : Option Addr) (n c : Nat) (w : World)
    (hJ : ∀ V : World, Below w.heap.size w V → Calls Tryd.prog 20 #[.agg #[.int .i64 k, .int .i64 b, .int .i64 x, .int .i64 t, .int .i64 l], .agg #[.int .i64 i, .string rnd, .slice sp n c]] V fun r w' => r = .returned (.tuple #[.string res, .int .i64 e]) ∧ Below V.heap.size V w') :
    Calls Tryd.prog 11 #[.agg #[.int .i64 k, .int .i64 b, .int .i64 x, .int .i64 t, .int .i64 l], .agg #[.int .i64 i, .string rnd, .slice sp n c]] w fun r w' => r = .returned (.tuple #[.string res, .int .i64 e]) ∧ Below w.heap.size w w' := by
  have HB := hide (((Below.refl w.heap.size w).alloc (Nat.le_refl _) (.cells #[.int .i64 k, .int .i64 b, .int .i64 x, .int .i64 t, .int .i64 l] 23)).alloc (by simp) (.cells #[.int .i64 i, .string rnd, .slice sp n c] 32))
  have HJ := hide (hJ _ HB.out)
  clear hJ
  go_enter Tryd.func11, Tryd.ntmps11
  go_wp2_with fail
  refine HJ.out.mono ?_
  rintro r w1 ⟨rfl, hb1⟩
  have HB1 := hide (HB.out.trans (hb1.mono HB.out.size))
  clear hb1
  go_wp2
  go_ret2
  exact ⟨rfl, HB1.out⟩

set_option maxRecDepth 20000 in
theorem sVerify_on (key msg sig : ByteArray) (e : Int) (w : World)
    (hV : Calls Tryd.prog 18 #[.string key, .string msg, .string sig] w fun r w' => r = .returned (.int .i64 e) ∧ Below w.heap.size w w') :
    Calls Tryd.prog 9 #[.string key, .string msg, .string sig] w fun r w' => r = .returned (.int .i64 e) ∧ Below w.heap.size w w' := by
  have HV := hide hV
  clear hV
  go_enter Tryd.func9, Tryd.ntmps9
  go_wp2_with fail
  refine HV.out.mono ?_
  rintro r w1 ⟨rfl, hb1⟩
  have HB1 := hide hb1
  clear hb1
  go_wp2
  go_ret
  exact ⟨rfl, HB1.out⟩
end Go.Proofs.YtgaoeoijdpdjiabDoor

namespace Go.Proofs.YtgaoeoijdpdjiabDoor
open Go.RowKit

set_option maxRecDepth 20000 in
theorem keepLeaves_any (k b x l : Int) (t : Nat) (w : World) (h1 : 1 ≤ t) (h2 : t ≤ 4) :
    Calls Tryd.prog 22 #[.agg #[.int .i64 k, .int .i64 b, .int .i64 x, .int .i64 t, .int .i64 l]] w fun e w' => e = .returned (.int .i64 ((2 ^ t : Nat) : Int)) ∧ Below w.heap.size w w' := by
  rcases (show t = 1 ∨ t = 2 ∨ t = 3 ∨ t = 4 by omega) with rfl | rfl | rfl | rfl
  all_goals
    go_enter Tryd.func22, Tryd.ntmps22
    go_wp2
    go_ret
    exact ⟨rfl, (Below.refl _ _).alloc (Nat.le_refl _) _⟩
end Go.Proofs.YtgaoeoijdpdjiabDoor

namespace Go.Proofs.YtgaoeoijdpdjiabDoor
open Go.RowKit

theorem madeStr (n : Nat) : madeCells (Value.string ⟨#[]⟩).cells n = ((List.replicate n (⟨#[]⟩ : ByteArray)).map Value.string).toArray := by
  apply Array.ext
  · simp [size_madeCells]
  · intro i h1 h2
    simp [madeCells, Value.cells, Nat.mod_one]
theorem makeStr (k : Nat) (hk : k ≤ 1000) (w : World) : (Instr.makeSlice 30 (.int .i64 k) (.int .i64 k)).run Tryd.prog w = .ok (.slice (some ⟨w.heap.size, 0, none⟩) k k) (w.alloc (.cells ((List.replicate k (⟨#[]⟩ : ByteArray)).map Value.string).toArray 9)) := by
  obtain ⟨i0, hi, hz0, hz1, hz2⟩ := info_parts infoStr
  have h := run_make (P := Tryd.prog) w 30 9 i0 (.string ⟨#[]⟩) Tryd.underlying30 hi hz0 .i64 .i64 k k (by omega) (by omega) (by rw [hz2]; omega) (by omega)
  rw [hz1, Nat.mul_one, Int.toNat_natCast, madeStr] at h
  exact h

theorem heldN {n : Nat} {w W V : World} (h : Below n w W) (hb : Below W.heap.size W V) (hn : n ≤ w.heap.size) : Below n w V := h.trans (hb.mono (Nat.le_trans hn h.size))
end Go.Proofs.YtgaoeoijdpdjiabDoor

namespace Go.Proofs.YtgaoeoijdpdjiabDoor
open Go.RowKit

/-- A list of texts lies in memory: nil, or empty at some place, or from a place on. -/
def StrsAt (w : World) (sp : Option Addr) (n c : Nat) (xs : List ByteArray) : Prop :=
  (sp = none ∧ n = 0 ∧ c = 0 ∧ xs = []) ∨ (∃ a : Addr, sp = some a ∧ n = 0 ∧ xs = []) ∨ ∃ bk o, sp = some ⟨bk, o, none⟩ ∧ n = xs.length ∧ xs.length ≤ c ∧ bk < w.heap.size ∧ ∀ (j : Nat) y, xs[j]? = some y → w.cell? ⟨bk, o + j, none⟩ = some (.string y)
theorem StrsAt.len {w : World} {sp : Option Addr} {n c : Nat} {xs : List ByteArray} (h : StrsAt w sp n c xs) : n = xs.length := by
  rcases h with ⟨_, rfl, _, rfl⟩ | ⟨_, _, rfl, rfl⟩ | ⟨_, _, _, h, _⟩
  · rfl
  · rfl
  · exact h
theorem StrsAt.on {w V : World} {sp : Option Addr} {n c : Nat} {xs : List ByteArray} (h : StrsAt w sp n c xs) (hb : Below w.heap.size w V) : StrsAt V sp n c xs := by
  rcases h with h | h | ⟨bk, o, h1, h2, h3, h4, h5⟩
  · exact .inl h
  · exact .inr (.inl h)
  · exact .inr (.inr ⟨bk, o, h1, h2, h3, Nat.lt_of_lt_of_le h4 hb.size, fun j y hj => (hb.cell (p := ⟨bk, o + j, none⟩) h4).trans (h5 j y hj)⟩)
theorem vals_any (k b x t l : Int) (sp : Option Addr) (n c : Nat) (xs : List ByteArray) (w : World) (h : StrsAt w sp n c xs) (hN : xs.length ≤ 8796093022208) :
    Calls Tryd.prog 31 #[.agg #[.int .i64 k, .int .i64 b, .int .i64 x, .int .i64 t, .int .i64 l], .slice sp n c] w fun e w' => e = .returned (.bool (allLen b xs)) ∧ Below w.heap.size w w' := by
  rcases h with ⟨rfl, rfl, rfl, rfl⟩ | ⟨a, rfl, rfl, rfl⟩ | ⟨bk, o, rfl, rfl, _, h4, h5⟩
  · exact valuesRight_nil k b x t l w
  · exact valuesRight_emp k b x t l a c w
  · exact valuesRight_some k b x t l bk o c xs w h5 h4 (by omega)
theorem values1 (k b x t l : Int) (pub : ByteArray) (V : World) (B : Nat) (hB : B = V.heap.size) : Calls Tryd.prog 31 #[.agg #[.int .i64 k, .int .i64 b, .int .i64 x, .int .i64 t, .int .i64 l], .slice (some ⟨B, 0, none⟩) 1 1] (V.alloc (.cells #[.string pub] 9)) fun e w' => e = .returned (.bool ((pub.size : Int) == b)) ∧ Below (V.alloc (.cells #[.string pub] 9)).heap.size (V.alloc (.cells #[.string pub] 9)) w' := by
  subst hB
  rw [show ((pub.size : Int) == b) = allLen b [pub] by simp [allLen, Bool.beq_eq_decide_eq]]
  exact valuesRight_some k b x t l V.heap.size 0 1 [pub] (V.alloc (.cells #[.string pub] 9)) (by
    intro j y hj
    match j, hj with
    | 0, hj => simp at hj; subst hj; simp [go_sem]) (by simp) (by simp)
theorem values2B (k b x t l : Int) (pub y : ByteArray) (V : World) (B : Nat) (hB : B = V.heap.size) : Calls Tryd.prog 31 #[.agg #[.int .i64 k, .int .i64 b, .int .i64 x, .int .i64 t, .int .i64 l], .slice (some ⟨B, 0, none⟩) 2 2] (V.alloc (.cells #[.string pub, .string y] 9)) fun e w' => e = .returned (.bool ((pub.size : Int) == b && (y.size : Int) == b)) ∧ Below (V.alloc (.cells #[.string pub, .string y] 9)).heap.size (V.alloc (.cells #[.string pub, .string y] 9)) w' := by
  subst hB
  rw [show ((pub.size : Int) == b && (y.size : Int) == b) = allLen b [pub, y] by simp [allLen, Bool.beq_eq_decide_eq]]
  exact valuesRight_some k b x t l V.heap.size 0 2 [pub, y] (V.alloc (.cells #[.string pub, .string y] 9)) (by
    intro j y hj
    match j, hj with
    | 0, hj => simp at hj; subst hj; simp [go_sem]
    | 1, hj => simp at hj; subst hj; simp [go_sem]) (by simp) (by simp)
end Go.Proofs.YtgaoeoijdpdjiabDoor
