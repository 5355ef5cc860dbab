/-
  The program's Fold, call by call. A new row of texts.
-/
import Derived.Test.YtgaoeoijdpdjiaaDoorPart29
import Derived.Test.YtgaoeoijdpdjiaaDoorPart27
namespace Go.Proofs.YtgaoeoijdpdjiaaDoor
open Go.RowKit

set_option maxRecDepth 20000 in
set_option maxHeartbeats 4000000 in
theorem fT_set (k b x t l a0 a1 ch a3 a4 a5 : Int) (pub : ByteArray) (p0 p1 p2 p3 : Int) (sp : Option Addr) (n c : Nat) (w : World) (hC : ∀ V : World, Calls Tryd.prog 57 #[.agg #[.int .i64 k, .int .i64 b, .int .i64 x, .int .i64 t, .int .i64 l]] V fun e w' => e = .returned (.tuple #[.agg #[.int .i64 a0, .int .i64 a1, .int .i64 ch, .int .i64 a3, .int .i64 a4, .int .i64 a5], .int .i64 1]) ∧ Below V.heap.size V w') :
    Calls Tryd.prog 41 #[.agg #[.int .i64 k, .int .i64 b, .int .i64 x, .int .i64 t, .int .i64 l], .string pub, .agg #[.int .i64 p0, .int .i64 p1, .int .i64 p2, .int .i64 p3], .slice sp n c] w fun e w' => e = .returned (.tuple #[.string ⟨#[]⟩, .int .i64 1]) ∧ Below w.heap.size w w' := by
  obtain ⟨W0, hW⟩ : ∃ W0, (w.alloc (.cells #[.int .i64 k, .int .i64 b, .int .i64 x, .int .i64 t, .int .i64 l] 25)).alloc (.cells #[.int .i64 p0, .int .i64 p1, .int .i64 p2, .int .i64 p3] 27) = W0 := ⟨_, rfl⟩
  have HF := hide (show FiveC w.heap.size W0 k b x t l by subst hW; refine ⟨?_, ?_, ?_, ?_, ?_⟩ <;> simp [go_sem])
  have HP := hide (show FourC (w.heap.size + 1) W0 p0 p1 p2 p3 by subst hW; refine ⟨?_, ?_, ?_, ?_⟩ <;> simp [go_sem])
  have HB := hide (show Below w.heap.size w W0 by subst hW; exact ((Below.refl _ _).alloc (Nat.le_refl _) _).alloc (by simp) _)
  have hz : W0.heap.size ≤ w.heap.size + 2 := by subst hW; simp
  have hz' : w.heap.size + 2 ≤ W0.heap.size := by subst hW; simp
  have HBU := hide (fun (V : World) (h : Below W0.heap.size W0 V) => HB.out.trans (h.mono (by omega)))
  have HS := hide (fun (V : World) (h : Below W0.heap.size W0 V) => (by
    obtain ⟨c0, c1, c2, c3, c4⟩ := HF.out.below h (by omega)
    obtain ⟨d0, d1, d2, d3⟩ := HP.out.below h (by omega)
    exact ⟨c0, c1, c2, c3, c4, d0, d1, d2, d3⟩ : V.cell? ⟨w.heap.size, 0, none⟩ = some (.int .i64 k) ∧ V.cell? ⟨w.heap.size, 1, none⟩ = some (.int .i64 b) ∧ V.cell? ⟨w.heap.size, 2, none⟩ = some (.int .i64 x) ∧ V.cell? ⟨w.heap.size, 3, none⟩ = some (.int .i64 t) ∧ V.cell? ⟨w.heap.size, 4, none⟩ = some (.int .i64 l) ∧ V.cell? ⟨w.heap.size + 1, 0, none⟩ = some (.int .i64 p0) ∧ V.cell? ⟨w.heap.size + 1, 1, none⟩ = some (.int .i64 p1) ∧ V.cell? ⟨w.heap.size + 1, 2, none⟩ = some (.int .i64 p2) ∧ V.cell? ⟨w.heap.size + 1, 3, none⟩ = some (.int .i64 p3)))
  obtain ⟨c0, c1, c2, c3, c4, d0, d1, d2, d3⟩ := HS.out W0 (Below.refl _ _)
  have HC := hide hC
  clear hC
  go_enter Tryd.func41, Tryd.ntmps41
  go_wp2_with fail
  try rw [hW]
  refine (HC.out _).mono ?_
  rintro e w1 ⟨rfl, hb1⟩
  have HB1 := hide ((heldB (Below.refl W0.heap.size W0) hb1 (Nat.le_refl _)).alloc (heldB (Below.refl W0.heap.size W0) hb1 (Nat.le_refl _)).size (.cells #[.int .i64 a0, .int .i64 a1, .int .i64 ch, .int .i64 a3, .int .i64 a4, .int .i64 a5] 68))
  have HZ := hide (Blk.new w1 [.int .i64 a0, .int .i64 a1, .int .i64 ch, .int .i64 a3, .int .i64 a4, .int .i64 a5] 68)
  have HD1 := hide (Below.refl (w1.alloc (.cells #[.int .i64 a0, .int .i64 a1, .int .i64 ch, .int .i64 a3, .int .i64 a4, .int .i64 a5] 68)).heap.size (w1.alloc (.cells #[.int .i64 a0, .int .i64 a1, .int .i64 ch, .int .i64 a3, .int .i64 a4, .int .i64 a5] 68)))
  clear hb1 c0 c1 c2 c3 c4 d0 d1 d2 d3 hW
  go_wp2
  go_ret2
  exact ⟨rfl, HBU.out _ HB1.out⟩

set_option maxRecDepth 20000 in
set_option maxHeartbeats 4000000 in
theorem fT_pub (k b x t l a0 a1 ch a3 a4 a5 : Int) (pub : ByteArray) (p0 p1 p2 p3 : Int) (sp : Option Addr) (n c : Nat) (w : World) (hC : ∀ V : World, Calls Tryd.prog 57 #[.agg #[.int .i64 k, .int .i64 b, .int .i64 x, .int .i64 t, .int .i64 l]] V fun e w' => e = .returned (.tuple #[.agg #[.int .i64 a0, .int .i64 a1, .int .i64 ch, .int .i64 a3, .int .i64 a4, .int .i64 a5], .int .i64 0]) ∧ Below V.heap.size V w') (hV : ∀ (V : World) (B : Nat), B = V.heap.size → Calls Tryd.prog 58 #[.agg #[.int .i64 k, .int .i64 b, .int .i64 x, .int .i64 t, .int .i64 l], .slice (some ⟨B, 0, none⟩) 1 1] (V.alloc (.cells #[.string pub] 9)) fun e w' => e = .returned (.bool false) ∧ Below (V.alloc (.cells #[.string pub] 9)).heap.size (V.alloc (.cells #[.string pub] 9)) w') :
    Calls Tryd.prog 41 #[.agg #[.int .i64 k, .int .i64 b, .int .i64 x, .int .i64 t, .int .i64 l], .string pub, .agg #[.int .i64 p0, .int .i64 p1, .int .i64 p2, .int .i64 p3], .slice sp n c] w fun e w' => e = .returned (.tuple #[.string ⟨#[]⟩, .int .i64 2]) ∧ Below w.heap.size w w' := by
  obtain ⟨W0, hW⟩ : ∃ W0, (w.alloc (.cells #[.int .i64 k, .int .i64 b, .int .i64 x, .int .i64 t, .int .i64 l] 25)).alloc (.cells #[.int .i64 p0, .int .i64 p1, .int .i64 p2, .int .i64 p3] 27) = W0 := ⟨_, rfl⟩
  have HF := hide (show FiveC w.heap.size W0 k b x t l by subst hW; refine ⟨?_, ?_, ?_, ?_, ?_⟩ <;> simp [go_sem])
  have HP := hide (show FourC (w.heap.size + 1) W0 p0 p1 p2 p3 by subst hW; refine ⟨?_, ?_, ?_, ?_⟩ <;> simp [go_sem])
  have HB := hide (show Below w.heap.size w W0 by subst hW; exact ((Below.refl _ _).alloc (Nat.le_refl _) _).alloc (by simp) _)
  have hz : W0.heap.size ≤ w.heap.size + 2 := by subst hW; simp
  have hz' : w.heap.size + 2 ≤ W0.heap.size := by subst hW; simp
  have HBU := hide (fun (V : World) (h : Below W0.heap.size W0 V) => HB.out.trans (h.mono (by omega)))
  have HS := hide (fun (V : World) (h : Below W0.heap.size W0 V) => (by
    obtain ⟨c0, c1, c2, c3, c4⟩ := HF.out.below h (by omega)
    obtain ⟨d0, d1, d2, d3⟩ := HP.out.below h (by omega)
    exact ⟨c0, c1, c2, c3, c4, d0, d1, d2, d3⟩ : V.cell? ⟨w.heap.size, 0, none⟩ = some (.int .i64 k) ∧ V.cell? ⟨w.heap.size, 1, none⟩ = some (.int .i64 b) ∧ V.cell? ⟨w.heap.size, 2, none⟩ = some (.int .i64 x) ∧ V.cell? ⟨w.heap.size, 3, none⟩ = some (.int .i64 t) ∧ V.cell? ⟨w.heap.size, 4, none⟩ = some (.int .i64 l) ∧ V.cell? ⟨w.heap.size + 1, 0, none⟩ = some (.int .i64 p0) ∧ V.cell? ⟨w.heap.size + 1, 1, none⟩ = some (.int .i64 p1) ∧ V.cell? ⟨w.heap.size + 1, 2, none⟩ = some (.int .i64 p2) ∧ V.cell? ⟨w.heap.size + 1, 3, none⟩ = some (.int .i64 p3)))
  obtain ⟨c0, c1, c2, c3, c4, d0, d1, d2, d3⟩ := HS.out W0 (Below.refl _ _)
  have HC := hide hC
  have HV := hide hV
  clear hC hV
  go_enter Tryd.func41, Tryd.ntmps41
  go_wp2_with fail
  try rw [hW]
  refine (HC.out _).mono ?_
  rintro e w1 ⟨rfl, hb1⟩
  have HB1 := hide ((heldB (Below.refl W0.heap.size W0) hb1 (Nat.le_refl _)).alloc (heldB (Below.refl W0.heap.size W0) hb1 (Nat.le_refl _)).size (.cells #[.int .i64 a0, .int .i64 a1, .int .i64 ch, .int .i64 a3, .int .i64 a4, .int .i64 a5] 68))
  have HZ := hide (Blk.new w1 [.int .i64 a0, .int .i64 a1, .int .i64 ch, .int .i64 a3, .int .i64 a4, .int .i64 a5] 68)
  have HD1 := hide (Below.refl (w1.alloc (.cells #[.int .i64 a0, .int .i64 a1, .int .i64 ch, .int .i64 a3, .int .i64 a4, .int .i64 a5] 68)).heap.size (w1.alloc (.cells #[.int .i64 a0, .int .i64 a1, .int .i64 ch, .int .i64 a3, .int .i64 a4, .int .i64 a5] 68)))
  clear hb1 c0 c1 c2 c3 c4 d0 d1 d2 d3 hW
  obtain ⟨c0, c1, c2, c3, c4, d0, d1, d2, d3⟩ := HS.out (w1.alloc (.cells #[.int .i64 a0, .int .i64 a1, .int .i64 ch, .int .i64 a3, .int .i64 a4, .int .i64 a5] 68)) HB1.out
  go_wp2_with fail
  refine (HV.out (w1.alloc (.cells #[.int .i64 a0, .int .i64 a1, .int .i64 ch, .int .i64 a3, .int .i64 a4, .int .i64 a5] 68)) _ (by simp)).mono ?_
  rintro e w2 ⟨rfl, hb2⟩
  have HB2 := hide (heldB (HB1.out.alloc HB1.out.size _) hb2 (Nat.le_refl _))
  have HD2 := hide (heldB (HD1.out.alloc HD1.out.size _) hb2 (Nat.le_refl _))
  clear hb2 c0 c1 c2 c3 c4 d0 d1 d2 d3 HB1
  go_wp2
  go_ret2
  exact ⟨rfl, HBU.out _ HB2.out⟩

set_option maxRecDepth 20000 in
set_option maxHeartbeats 4000000 in
theorem fT_pla (k b x t l a0 a1 ch a3 a4 a5 : Int) (pub : ByteArray) (p0 p1 p2 p3 : Int) (sp : Option Addr) (n c : Nat) (w : World) (hC : ∀ V : World, Calls Tryd.prog 57 #[.agg #[.int .i64 k, .int .i64 b, .int .i64 x, .int .i64 t, .int .i64 l]] V fun e w' => e = .returned (.tuple #[.agg #[.int .i64 a0, .int .i64 a1, .int .i64 ch, .int .i64 a3, .int .i64 a4, .int .i64 a5], .int .i64 0]) ∧ Below V.heap.size V w') (hV : ∀ (V : World) (B : Nat), B = V.heap.size → Calls Tryd.prog 58 #[.agg #[.int .i64 k, .int .i64 b, .int .i64 x, .int .i64 t, .int .i64 l], .slice (some ⟨B, 0, none⟩) 1 1] (V.alloc (.cells #[.string pub] 9)) fun e w' => e = .returned (.bool true) ∧ Below (V.alloc (.cells #[.string pub] 9)).heap.size (V.alloc (.cells #[.string pub] 9)) w') (hI : ∀ V : World, Calls Tryd.prog 59 #[.agg #[.int .i64 k, .int .i64 b, .int .i64 x, .int .i64 t, .int .i64 l], .agg #[.int .i64 p0, .int .i64 p1, .int .i64 p2, .int .i64 p3]] V fun e w' => e = .returned (.bool false) ∧ Below V.heap.size V w') :
    Calls Tryd.prog 41 #[.agg #[.int .i64 k, .int .i64 b, .int .i64 x, .int .i64 t, .int .i64 l], .string pub, .agg #[.int .i64 p0, .int .i64 p1, .int .i64 p2, .int .i64 p3], .slice sp n c] w fun e w' => e = .returned (.tuple #[.string ⟨#[]⟩, .int .i64 2]) ∧ Below w.heap.size w w' := by
  obtain ⟨W0, hW⟩ : ∃ W0, (w.alloc (.cells #[.int .i64 k, .int .i64 b, .int .i64 x, .int .i64 t, .int .i64 l] 25)).alloc (.cells #[.int .i64 p0, .int .i64 p1, .int .i64 p2, .int .i64 p3] 27) = W0 := ⟨_, rfl⟩
  have HF := hide (show FiveC w.heap.size W0 k b x t l by subst hW; refine ⟨?_, ?_, ?_, ?_, ?_⟩ <;> simp [go_sem])
  have HP := hide (show FourC (w.heap.size + 1) W0 p0 p1 p2 p3 by subst hW; refine ⟨?_, ?_, ?_, ?_⟩ <;> simp [go_sem])
  have HB := hide (show Below w.heap.size w W0 by subst hW; exact ((Below.refl _ _).alloc (Nat.le_refl _) _).alloc (by simp) _)
  have hz : W0.heap.size ≤ w.heap.size + 2 := by subst hW; simp
  have hz' : w.heap.size + 2 ≤ W0.heap.size := by subst hW; simp
  have HBU := hide (fun (V : World) (h : Below W0.heap.size W0 V) => HB.out.trans (h.mono (by omega)))
  have HS := hide (fun (V : World) (h : Below W0.heap.size W0 V) => (by
    obtain ⟨c0, c1, c2, c3, c4⟩ := HF.out.below h (by omega)
    obtain ⟨d0, d1, d2, d3⟩ := HP.out.below h (by omega)
    exact ⟨c0, c1, c2, c3, c4, d0, d1, d2, d3⟩ : V.cell? ⟨w.heap.size, 0, none⟩ = some (.int .i64 k) ∧ V.cell? ⟨w.heap.size, 1, none⟩ = some (.int .i64 b) ∧ V.cell? ⟨w.heap.size, 2, none⟩ = some (.int .i64 x) ∧ V.cell? ⟨w.heap.size, 3, none⟩ = some (.int .i64 t) ∧ V.cell? ⟨w.heap.size, 4, none⟩ = some (.int .i64 l) ∧ V.cell? ⟨w.heap.size + 1, 0, none⟩ = some (.int .i64 p0) ∧ V.cell? ⟨w.heap.size + 1, 1, none⟩ = some (.int .i64 p1) ∧ V.cell? ⟨w.heap.size + 1, 2, none⟩ = some (.int .i64 p2) ∧ V.cell? ⟨w.heap.size + 1, 3, none⟩ = some (.int .i64 p3)))
  obtain ⟨c0, c1, c2, c3, c4, d0, d1, d2, d3⟩ := HS.out W0 (Below.refl _ _)
  have HC := hide hC
  have HV := hide hV
  have HI := hide hI
  clear hC hV hI
  go_enter Tryd.func41, Tryd.ntmps41
  go_wp2_with fail
  try rw [hW]
  refine (HC.out _).mono ?_
  rintro e w1 ⟨rfl, hb1⟩
  have HB1 := hide ((heldB (Below.refl W0.heap.size W0) hb1 (Nat.le_refl _)).alloc (heldB (Below.refl W0.heap.size W0) hb1 (Nat.le_refl _)).size (.cells #[.int .i64 a0, .int .i64 a1, .int .i64 ch, .int .i64 a3, .int .i64 a4, .int .i64 a5] 68))
  have HZ := hide (Blk.new w1 [.int .i64 a0, .int .i64 a1, .int .i64 ch, .int .i64 a3, .int .i64 a4, .int .i64 a5] 68)
  have HD1 := hide (Below.refl (w1.alloc (.cells #[.int .i64 a0, .int .i64 a1, .int .i64 ch, .int .i64 a3, .int .i64 a4, .int .i64 a5] 68)).heap.size (w1.alloc (.cells #[.int .i64 a0, .int .i64 a1, .int .i64 ch, .int .i64 a3, .int .i64 a4, .int .i64 a5] 68)))
  clear hb1 c0 c1 c2 c3 c4 d0 d1 d2 d3 hW
  obtain ⟨c0, c1, c2, c3, c4, d0, d1, d2, d3⟩ := HS.out (w1.alloc (.cells #[.int .i64 a0, .int .i64 a1, .int .i64 ch, .int .i64 a3, .int .i64 a4, .int .i64 a5] 68)) HB1.out
  go_wp2_with fail
  refine (HV.out (w1.alloc (.cells #[.int .i64 a0, .int .i64 a1, .int .i64 ch, .int .i64 a3, .int .i64 a4, .int .i64 a5] 68)) _ (by simp)).mono ?_
  rintro e w2 ⟨rfl, hb2⟩
  have HB2 := hide (heldB (HB1.out.alloc HB1.out.size _) hb2 (Nat.le_refl _))
  have HD2 := hide (heldB (HD1.out.alloc HD1.out.size _) hb2 (Nat.le_refl _))
  clear hb2 c0 c1 c2 c3 c4 d0 d1 d2 d3 HB1
  obtain ⟨c0, c1, c2, c3, c4, d0, d1, d2, d3⟩ := HS.out w2 HB2.out
  have zc := (HZ.out.below HD2.out (by simp)).cell 2
  simp only [List.getElem?_cons_zero, List.getElem?_cons_succ] at zc
  go_wp2_with fail
  refine (HI.out _).mono ?_
  rintro e w3 ⟨rfl, hb3⟩
  have HB3 := hide (heldB HB2.out hb3 (Nat.le_refl _))
  have HD3 := hide (heldB HD2.out hb3 (Nat.le_refl _))
  clear hb3 c0 c1 c2 c3 c4 d0 d1 d2 d3 HB2 zc
  go_wp2
  go_ret2
  exact ⟨rfl, HBU.out _ HB3.out⟩

set_option maxRecDepth 20000 in
set_option maxHeartbeats 4000000 in
theorem fT_len (k b x t l a0 a1 ch a3 a4 a5 : Int) (pub : ByteArray) (p0 p1 p2 p3 : Int) (sp : Option Addr) (n c : Nat) (w : World) (hC : ∀ V : World, Calls Tryd.prog 57 #[.agg #[.int .i64 k, .int .i64 b, .int .i64 x, .int .i64 t, .int .i64 l]] V fun e w' => e = .returned (.tuple #[.agg #[.int .i64 a0, .int .i64 a1, .int .i64 ch, .int .i64 a3, .int .i64 a4, .int .i64 a5], .int .i64 0]) ∧ Below V.heap.size V w') (hV : ∀ (V : World) (B : Nat), B = V.heap.size → Calls Tryd.prog 58 #[.agg #[.int .i64 k, .int .i64 b, .int .i64 x, .int .i64 t, .int .i64 l], .slice (some ⟨B, 0, none⟩) 1 1] (V.alloc (.cells #[.string pub] 9)) fun e w' => e = .returned (.bool true) ∧ Below (V.alloc (.cells #[.string pub] 9)).heap.size (V.alloc (.cells #[.string pub] 9)) w') (hI : ∀ V : World, Calls Tryd.prog 59 #[.agg #[.int .i64 k, .int .i64 b, .int .i64 x, .int .i64 t, .int .i64 l], .agg #[.int .i64 p0, .int .i64 p1, .int .i64 p2, .int .i64 p3]] V fun e w' => e = .returned (.bool true) ∧ Below V.heap.size V w') (g3 : ((n : Int) == ch) = false) :
    Calls Tryd.prog 41 #[.agg #[.int .i64 k, .int .i64 b, .int .i64 x, .int .i64 t, .int .i64 l], .string pub, .agg #[.int .i64 p0, .int .i64 p1, .int .i64 p2, .int .i64 p3], .slice sp n c] w fun e w' => e = .returned (.tuple #[.string ⟨#[]⟩, .int .i64 2]) ∧ Below w.heap.size w w' := by
  obtain ⟨W0, hW⟩ : ∃ W0, (w.alloc (.cells #[.int .i64 k, .int .i64 b, .int .i64 x, .int .i64 t, .int .i64 l] 25)).alloc (.cells #[.int .i64 p0, .int .i64 p1, .int .i64 p2, .int .i64 p3] 27) = W0 := ⟨_, rfl⟩
  have HF := hide (show FiveC w.heap.size W0 k b x t l by subst hW; refine ⟨?_, ?_, ?_, ?_, ?_⟩ <;> simp [go_sem])
  have HP := hide (show FourC (w.heap.size + 1) W0 p0 p1 p2 p3 by subst hW; refine ⟨?_, ?_, ?_, ?_⟩ <;> simp [go_sem])
  have HB := hide (show Below w.heap.size w W0 by subst hW; exact ((Below.refl _ _).alloc (Nat.le_refl _) _).alloc (by simp) _)
  have hz : W0.heap.size ≤ w.heap.size + 2 := by subst hW; simp
  have hz' : w.heap.size + 2 ≤ W0.heap.size := by subst hW; simp
  have HBU := hide (fun (V : World) (h : Below W0.heap.size W0 V) => HB.out.trans (h.mono (by omega)))
  have HS := hide (fun (V : World) (h : Below W0.heap.size W0 V) => (by
    obtain ⟨c0, c1, c2, c3, c4⟩ := HF.out.below h (by omega)
    obtain ⟨d0, d1, d2, d3⟩ := HP.out.below h (by omega)
    exact ⟨c0, c1, c2, c3, c4, d0, d1, d2, d3⟩ : V.cell? ⟨w.heap.size, 0, none⟩ = some (.int .i64 k) ∧ V.cell? ⟨w.heap.size, 1, none⟩ = some (.int .i64 b) ∧ V.cell? ⟨w.heap.size, 2, none⟩ = some (.int .i64 x) ∧ V.cell? ⟨w.heap.size, 3, none⟩ = some (.int .i64 t) ∧ V.cell? ⟨w.heap.size, 4, none⟩ = some (.int .i64 l) ∧ V.cell? ⟨w.heap.size + 1, 0, none⟩ = some (.int .i64 p0) ∧ V.cell? ⟨w.heap.size + 1, 1, none⟩ = some (.int .i64 p1) ∧ V.cell? ⟨w.heap.size + 1, 2, none⟩ = some (.int .i64 p2) ∧ V.cell? ⟨w.heap.size + 1, 3, none⟩ = some (.int .i64 p3)))
  obtain ⟨c0, c1, c2, c3, c4, d0, d1, d2, d3⟩ := HS.out W0 (Below.refl _ _)
  have g3n : ((n : Int) != ch) = true := by rw [bne, g3]; rfl
  have HC := hide hC
  have HV := hide hV
  have HI := hide hI
  clear hC hV hI
  go_enter Tryd.func41, Tryd.ntmps41
  go_wp2_with fail
  try rw [hW]
  refine (HC.out _).mono ?_
  rintro e w1 ⟨rfl, hb1⟩
  have HB1 := hide ((heldB (Below.refl W0.heap.size W0) hb1 (Nat.le_refl _)).alloc (heldB (Below.refl W0.heap.size W0) hb1 (Nat.le_refl _)).size (.cells #[.int .i64 a0, .int .i64 a1, .int .i64 ch, .int .i64 a3, .int .i64 a4, .int .i64 a5] 68))
  have HZ := hide (Blk.new w1 [.int .i64 a0, .int .i64 a1, .int .i64 ch, .int .i64 a3, .int .i64 a4, .int .i64 a5] 68)
  have HD1 := hide (Below.refl (w1.alloc (.cells #[.int .i64 a0, .int .i64 a1, .int .i64 ch, .int .i64 a3, .int .i64 a4, .int .i64 a5] 68)).heap.size (w1.alloc (.cells #[.int .i64 a0, .int .i64 a1, .int .i64 ch, .int .i64 a3, .int .i64 a4, .int .i64 a5] 68)))
  clear hb1 c0 c1 c2 c3 c4 d0 d1 d2 d3 hW
  obtain ⟨c0, c1, c2, c3, c4, d0, d1, d2, d3⟩ := HS.out (w1.alloc (.cells #[.int .i64 a0, .int .i64 a1, .int .i64 ch, .int .i64 a3, .int .i64 a4, .int .i64 a5] 68)) HB1.out
  go_wp2_with fail
  refine (HV.out (w1.alloc (.cells #[.int .i64 a0, .int .i64 a1, .int .i64 ch, .int .i64 a3, .int .i64 a4, .int .i64 a5] 68)) _ (by simp)).mono ?_
  rintro e w2 ⟨rfl, hb2⟩
  have HB2 := hide (heldB (HB1.out.alloc HB1.out.size _) hb2 (Nat.le_refl _))
  have HD2 := hide (heldB (HD1.out.alloc HD1.out.size _) hb2 (Nat.le_refl _))
  clear hb2 c0 c1 c2 c3 c4 d0 d1 d2 d3 HB1
  obtain ⟨c0, c1, c2, c3, c4, d0, d1, d2, d3⟩ := HS.out w2 HB2.out
  have zc := (HZ.out.below HD2.out (by simp)).cell 2
  simp only [List.getElem?_cons_zero, List.getElem?_cons_succ] at zc
  go_wp2_with fail
  refine (HI.out _).mono ?_
  rintro e w3 ⟨rfl, hb3⟩
  have HB3 := hide (heldB HB2.out hb3 (Nat.le_refl _))
  have HD3 := hide (heldB HD2.out hb3 (Nat.le_refl _))
  clear hb3 c0 c1 c2 c3 c4 d0 d1 d2 d3 HB2 zc
  obtain ⟨c0, c1, c2, c3, c4, d0, d1, d2, d3⟩ := HS.out w3 HB3.out
  have zc := (HZ.out.below HD3.out (by simp)).cell 2
  simp only [List.getElem?_cons_zero, List.getElem?_cons_succ] at zc
  go_wp2
  go_ret2
  exact ⟨rfl, HBU.out _ HB3.out⟩

end Go.Proofs.YtgaoeoijdpdjiaaDoor

namespace Go.Proofs.YtgaoeoijdpdjiaaDoor
open Go.RowKit

theorem madeStr (n : Nat) : madeCells (Value.string ⟨#[]⟩).cells n = ((List.replicate n (⟨#[]⟩ : ByteArray)).map Value.string).toArray := by
  apply Array.ext
  · simp [size_madeCells]
  · intro i h1 h2
    simp [madeCells, Value.cells, Nat.mod_one]
theorem makeStr (k : Nat) (hk : k ≤ 1000) (w : World) : (Instr.makeSlice 28 (.int .i64 k) (.int .i64 k)).run Tryd.prog w = .ok (.slice (some ⟨w.heap.size, 0, none⟩) k k) (w.alloc (.cells ((List.replicate k (⟨#[]⟩ : ByteArray)).map Value.string).toArray 9)) := by
  obtain ⟨i0, hi, hz0, hz1, hz2⟩ := info_parts infoStr
  have h := run_make (P := Tryd.prog) w 28 9 i0 (.string ⟨#[]⟩) Tryd.underlying28 hi hz0 .i64 .i64 k k (by omega) (by omega) (by rw [hz2]; omega) (by omega)
  rw [hz1, Nat.mul_one, Int.toNat_natCast, madeStr] at h
  exact h

theorem heldN {n : Nat} {w W V : World} (h : Below n w W) (hb : Below W.heap.size W V) (hn : n ≤ w.heap.size) : Below n w V := h.trans (hb.mono (Nat.le_trans hn h.size))
end Go.Proofs.YtgaoeoijdpdjiaaDoor
