/-
  The program's Fold, its last cases. The program's Verify, its calls' answers being given.
-/
import Derived.Test.YtgaoeoijdpdjiabDoorPart27
import Derived.Test.YtgaoeoijdpdjiabDoorPart25
namespace Go.Proofs.YtgaoeoijdpdjiabDoor
open Go.RowKit

set_option maxRecDepth 20000 in
set_option maxHeartbeats 4000000 in
theorem fT_val (k b x t l a0 a1 ch a3 a4 a5 : Int) (pub : ByteArray) (p0 p1 p2 p3 : Int) (sp : Option Addr) (n c : Nat) (w : World) (hC : ∀ V : World, Calls Tryd.prog 27 #[.agg #[.int .i64 k, .int .i64 b, .int .i64 x, .int .i64 t, .int .i64 l]] V fun e w' => e = .returned (.tuple #[.agg #[.int .i64 a0, .int .i64 a1, .int .i64 ch, .int .i64 a3, .int .i64 a4, .int .i64 a5], .int .i64 0]) ∧ Below V.heap.size V w') (hV : ∀ (V : World) (B : Nat), B = V.heap.size → Calls Tryd.prog 31 #[.agg #[.int .i64 k, .int .i64 b, .int .i64 x, .int .i64 t, .int .i64 l], .slice (some ⟨B, 0, none⟩) 1 1] (V.alloc (.cells #[.string pub] 9)) fun e w' => e = .returned (.bool true) ∧ Below (V.alloc (.cells #[.string pub] 9)).heap.size (V.alloc (.cells #[.string pub] 9)) w') (hI : ∀ V : World, Calls Tryd.prog 68 #[.agg #[.int .i64 k, .int .i64 b, .int .i64 x, .int .i64 t, .int .i64 l], .agg #[.int .i64 p0, .int .i64 p1, .int .i64 p2, .int .i64 p3]] V fun e w' => e = .returned (.bool true) ∧ Below V.heap.size V w') (g3 : ((n : Int) == ch) = true) (hE : ∀ V : World, Below w.heap.size w V → Calls Tryd.prog 31 #[.agg #[.int .i64 k, .int .i64 b, .int .i64 x, .int .i64 t, .int .i64 l], .slice sp n c] V fun e w' => e = .returned (.bool false) ∧ Below V.heap.size V w') :
    Calls Tryd.prog 53 #[.agg #[.int .i64 k, .int .i64 b, .int .i64 x, .int .i64 t, .int .i64 l], .string pub, .agg #[.int .i64 p0, .int .i64 p1, .int .i64 p2, .int .i64 p3], .slice sp n c] w fun e w' => e = .returned (.tuple #[.string ⟨#[]⟩, .int .i64 2]) ∧ Below w.heap.size w w' := by
  obtain ⟨W0, hW⟩ : ∃ W0, (w.alloc (.cells #[.int .i64 k, .int .i64 b, .int .i64 x, .int .i64 t, .int .i64 l] 23)).alloc (.cells #[.int .i64 p0, .int .i64 p1, .int .i64 p2, .int .i64 p3] 47) = W0 := ⟨_, rfl⟩
  have HF := hide (show FiveC w.heap.size W0 k b x t l by subst hW; refine ⟨?_, ?_, ?_, ?_, ?_⟩ <;> simp [go_sem])
  have HP := hide (show FourC (w.heap.size + 1) W0 p0 p1 p2 p3 by subst hW; refine ⟨?_, ?_, ?_, ?_⟩ <;> simp [go_sem])
  have HB := hide (show Below w.heap.size w W0 by subst hW; exact ((Below.refl _ _).alloc (Nat.le_refl _) _).alloc (by simp) _)
  have hz : W0.heap.size ≤ w.heap.size + 2 := by subst hW; simp
  have hz' : w.heap.size + 2 ≤ W0.heap.size := by subst hW; simp
  have HBU := hide (fun (V : World) (h : Below W0.heap.size W0 V) => HB.out.trans (h.mono (by omega)))
  have HS := hide (fun (V : World) (h : Below W0.heap.size W0 V) => (by
    obtain ⟨c0, c1, c2, c3, c4⟩ := HF.out.below h (by omega)
    obtain ⟨d0, d1, d2, d3⟩ := HP.out.below h (by omega)
    exact ⟨c0, c1, c2, c3, c4, d0, d1, d2, d3⟩ : V.cell? ⟨w.heap.size, 0, none⟩ = some (.int .i64 k) ∧ V.cell? ⟨w.heap.size, 1, none⟩ = some (.int .i64 b) ∧ V.cell? ⟨w.heap.size, 2, none⟩ = some (.int .i64 x) ∧ V.cell? ⟨w.heap.size, 3, none⟩ = some (.int .i64 t) ∧ V.cell? ⟨w.heap.size, 4, none⟩ = some (.int .i64 l) ∧ V.cell? ⟨w.heap.size + 1, 0, none⟩ = some (.int .i64 p0) ∧ V.cell? ⟨w.heap.size + 1, 1, none⟩ = some (.int .i64 p1) ∧ V.cell? ⟨w.heap.size + 1, 2, none⟩ = some (.int .i64 p2) ∧ V.cell? ⟨w.heap.size + 1, 3, none⟩ = some (.int .i64 p3)))
  obtain ⟨c0, c1, c2, c3, c4, d0, d1, d2, d3⟩ := HS.out W0 (Below.refl _ _)
  have g3n : ((n : Int) != ch) = false := by rw [bne, g3]; rfl
  have HC := hide hC
  have HV := hide hV
  have HI := hide hI
  have HE := hide hE
  clear hC hV hI hE
  go_enter Tryd.func53, Tryd.ntmps53
  go_wp2_with fail
  try rw [hW]
  refine (HC.out _).mono ?_
  rintro e w1 ⟨rfl, hb1⟩
  have HB1 := hide ((heldB (Below.refl W0.heap.size W0) hb1 (Nat.le_refl _)).alloc (heldB (Below.refl W0.heap.size W0) hb1 (Nat.le_refl _)).size (.cells #[.int .i64 a0, .int .i64 a1, .int .i64 ch, .int .i64 a3, .int .i64 a4, .int .i64 a5] 56))
  have HZ := hide (Blk.new w1 [.int .i64 a0, .int .i64 a1, .int .i64 ch, .int .i64 a3, .int .i64 a4, .int .i64 a5] 56)
  have HD1 := hide (Below.refl (w1.alloc (.cells #[.int .i64 a0, .int .i64 a1, .int .i64 ch, .int .i64 a3, .int .i64 a4, .int .i64 a5] 56)).heap.size (w1.alloc (.cells #[.int .i64 a0, .int .i64 a1, .int .i64 ch, .int .i64 a3, .int .i64 a4, .int .i64 a5] 56)))
  clear hb1 c0 c1 c2 c3 c4 d0 d1 d2 d3 hW
  obtain ⟨c0, c1, c2, c3, c4, d0, d1, d2, d3⟩ := HS.out (w1.alloc (.cells #[.int .i64 a0, .int .i64 a1, .int .i64 ch, .int .i64 a3, .int .i64 a4, .int .i64 a5] 56)) HB1.out
  go_wp2_with fail
  refine (HV.out (w1.alloc (.cells #[.int .i64 a0, .int .i64 a1, .int .i64 ch, .int .i64 a3, .int .i64 a4, .int .i64 a5] 56)) _ (by simp)).mono ?_
  rintro e w2 ⟨rfl, hb2⟩
  have HB2 := hide (heldB (HB1.out.alloc HB1.out.size _) hb2 (Nat.le_refl _))
  have HD2 := hide (heldB (HD1.out.alloc HD1.out.size _) hb2 (Nat.le_refl _))
  clear hb2 c0 c1 c2 c3 c4 d0 d1 d2 d3 HB1
  obtain ⟨c0, c1, c2, c3, c4, d0, d1, d2, d3⟩ := HS.out w2 HB2.out
  have zc := (HZ.out.below HD2.out (by simp)).cell 2
  simp only [List.getElem?_cons_zero, List.getElem?_cons_succ] at zc
  go_wp2_with fail
  refine (HI.out _).mono ?_
  rintro e w3 ⟨rfl, hb3⟩
  have HB3 := hide (heldB HB2.out hb3 (Nat.le_refl _))
  have HD3 := hide (heldB HD2.out hb3 (Nat.le_refl _))
  clear hb3 c0 c1 c2 c3 c4 d0 d1 d2 d3 HB2 zc
  obtain ⟨c0, c1, c2, c3, c4, d0, d1, d2, d3⟩ := HS.out w3 HB3.out
  have zc := (HZ.out.below HD3.out (by simp)).cell 2
  simp only [List.getElem?_cons_zero, List.getElem?_cons_succ] at zc
  go_wp2_with fail
  refine (HE.out _ (HBU.out _ HB3.out)).mono ?_
  rintro e w4 ⟨rfl, hb4⟩
  have HB4 := hide (heldB HB3.out hb4 (Nat.le_refl _))
  have HD4 := hide (heldB HD3.out hb4 (Nat.le_refl _))
  clear hb4 c0 c1 c2 c3 c4 d0 d1 d2 d3 HB3 zc
  go_wp2
  go_ret2
  exact ⟨rfl, HBU.out _ HB4.out⟩

set_option maxRecDepth 20000 in
set_option maxHeartbeats 4000000 in
theorem fT_yes (k b x t l a0 a1 ch a3 a4 a5 : Int) (pub : ByteArray) (p0 p1 p2 p3 : Int) (sp : Option Addr) (n c : Nat) (cv : ByteArray) (w : World) (hC : ∀ V : World, Calls Tryd.prog 27 #[.agg #[.int .i64 k, .int .i64 b, .int .i64 x, .int .i64 t, .int .i64 l]] V fun e w' => e = .returned (.tuple #[.agg #[.int .i64 a0, .int .i64 a1, .int .i64 ch, .int .i64 a3, .int .i64 a4, .int .i64 a5], .int .i64 0]) ∧ Below V.heap.size V w') (hV : ∀ (V : World) (B : Nat), B = V.heap.size → Calls Tryd.prog 31 #[.agg #[.int .i64 k, .int .i64 b, .int .i64 x, .int .i64 t, .int .i64 l], .slice (some ⟨B, 0, none⟩) 1 1] (V.alloc (.cells #[.string pub] 9)) fun e w' => e = .returned (.bool true) ∧ Below (V.alloc (.cells #[.string pub] 9)).heap.size (V.alloc (.cells #[.string pub] 9)) w') (hI : ∀ V : World, Calls Tryd.prog 68 #[.agg #[.int .i64 k, .int .i64 b, .int .i64 x, .int .i64 t, .int .i64 l], .agg #[.int .i64 p0, .int .i64 p1, .int .i64 p2, .int .i64 p3]] V fun e w' => e = .returned (.bool true) ∧ Below V.heap.size V w') (g3 : ((n : Int) == ch) = true) (hE : ∀ V : World, Below w.heap.size w V → Calls Tryd.prog 31 #[.agg #[.int .i64 k, .int .i64 b, .int .i64 x, .int .i64 t, .int .i64 l], .slice sp n c] V fun e w' => e = .returned (.bool true) ∧ Below V.heap.size V w') (hG : ∀ V : World, Below w.heap.size w V → Tn V → Calls Tryd.prog 63 #[.agg #[.int .i64 k, .int .i64 b, .int .i64 x, .int .i64 t, .int .i64 l, .string pub, .int .i64 p0, .int .i64 p1, .int .i64 p2, .int .i64 p3], .slice sp n c] V fun e w' => e = .returned (.string cv) ∧ Below V.heap.size V w') (hT : Tn w) :
    Calls Tryd.prog 53 #[.agg #[.int .i64 k, .int .i64 b, .int .i64 x, .int .i64 t, .int .i64 l], .string pub, .agg #[.int .i64 p0, .int .i64 p1, .int .i64 p2, .int .i64 p3], .slice sp n c] w fun e w' => e = .returned (.tuple #[.string cv, .int .i64 0]) ∧ Below w.heap.size w w' := by
  obtain ⟨W0, hW⟩ : ∃ W0, (w.alloc (.cells #[.int .i64 k, .int .i64 b, .int .i64 x, .int .i64 t, .int .i64 l] 23)).alloc (.cells #[.int .i64 p0, .int .i64 p1, .int .i64 p2, .int .i64 p3] 47) = W0 := ⟨_, rfl⟩
  have HF := hide (show FiveC w.heap.size W0 k b x t l by subst hW; refine ⟨?_, ?_, ?_, ?_, ?_⟩ <;> simp [go_sem])
  have HP := hide (show FourC (w.heap.size + 1) W0 p0 p1 p2 p3 by subst hW; refine ⟨?_, ?_, ?_, ?_⟩ <;> simp [go_sem])
  have HB := hide (show Below w.heap.size w W0 by subst hW; exact ((Below.refl _ _).alloc (Nat.le_refl _) _).alloc (by simp) _)
  have hz : W0.heap.size ≤ w.heap.size + 2 := by subst hW; simp
  have hz' : w.heap.size + 2 ≤ W0.heap.size := by subst hW; simp
  have HBU := hide (fun (V : World) (h : Below W0.heap.size W0 V) => HB.out.trans (h.mono (by omega)))
  have HS := hide (fun (V : World) (h : Below W0.heap.size W0 V) => (by
    obtain ⟨c0, c1, c2, c3, c4⟩ := HF.out.below h (by omega)
    obtain ⟨d0, d1, d2, d3⟩ := HP.out.below h (by omega)
    exact ⟨c0, c1, c2, c3, c4, d0, d1, d2, d3⟩ : V.cell? ⟨w.heap.size, 0, none⟩ = some (.int .i64 k) ∧ V.cell? ⟨w.heap.size, 1, none⟩ = some (.int .i64 b) ∧ V.cell? ⟨w.heap.size, 2, none⟩ = some (.int .i64 x) ∧ V.cell? ⟨w.heap.size, 3, none⟩ = some (.int .i64 t) ∧ V.cell? ⟨w.heap.size, 4, none⟩ = some (.int .i64 l) ∧ V.cell? ⟨w.heap.size + 1, 0, none⟩ = some (.int .i64 p0) ∧ V.cell? ⟨w.heap.size + 1, 1, none⟩ = some (.int .i64 p1) ∧ V.cell? ⟨w.heap.size + 1, 2, none⟩ = some (.int .i64 p2) ∧ V.cell? ⟨w.heap.size + 1, 3, none⟩ = some (.int .i64 p3)))
  obtain ⟨c0, c1, c2, c3, c4, d0, d1, d2, d3⟩ := HS.out W0 (Below.refl _ _)
  have g3n : ((n : Int) != ch) = false := by rw [bne, g3]; rfl
  have HC := hide hC
  have HV := hide hV
  have HI := hide hI
  have HE := hide hE
  have HG := hide hG
  have HTT := hide (hT.on HB.out)
  clear hC hV hI hE hG hT
  go_enter Tryd.func53, Tryd.ntmps53
  go_wp2_with fail
  try rw [hW]
  refine (HC.out _).mono ?_
  rintro e w1 ⟨rfl, hb1⟩
  have HB1 := hide ((heldB (Below.refl W0.heap.size W0) hb1 (Nat.le_refl _)).alloc (heldB (Below.refl W0.heap.size W0) hb1 (Nat.le_refl _)).size (.cells #[.int .i64 a0, .int .i64 a1, .int .i64 ch, .int .i64 a3, .int .i64 a4, .int .i64 a5] 56))
  have HZ := hide (Blk.new w1 [.int .i64 a0, .int .i64 a1, .int .i64 ch, .int .i64 a3, .int .i64 a4, .int .i64 a5] 56)
  have HD1 := hide (Below.refl (w1.alloc (.cells #[.int .i64 a0, .int .i64 a1, .int .i64 ch, .int .i64 a3, .int .i64 a4, .int .i64 a5] 56)).heap.size (w1.alloc (.cells #[.int .i64 a0, .int .i64 a1, .int .i64 ch, .int .i64 a3, .int .i64 a4, .int .i64 a5] 56)))
  clear hb1 c0 c1 c2 c3 c4 d0 d1 d2 d3 hW
  obtain ⟨c0, c1, c2, c3, c4, d0, d1, d2, d3⟩ := HS.out (w1.alloc (.cells #[.int .i64 a0, .int .i64 a1, .int .i64 ch, .int .i64 a3, .int .i64 a4, .int .i64 a5] 56)) HB1.out
  go_wp2_with fail
  refine (HV.out (w1.alloc (.cells #[.int .i64 a0, .int .i64 a1, .int .i64 ch, .int .i64 a3, .int .i64 a4, .int .i64 a5] 56)) _ (by simp)).mono ?_
  rintro e w2 ⟨rfl, hb2⟩
  have HB2 := hide (heldB (HB1.out.alloc HB1.out.size _) hb2 (Nat.le_refl _))
  have HD2 := hide (heldB (HD1.out.alloc HD1.out.size _) hb2 (Nat.le_refl _))
  clear hb2 c0 c1 c2 c3 c4 d0 d1 d2 d3 HB1
  obtain ⟨c0, c1, c2, c3, c4, d0, d1, d2, d3⟩ := HS.out w2 HB2.out
  have zc := (HZ.out.below HD2.out (by simp)).cell 2
  simp only [List.getElem?_cons_zero, List.getElem?_cons_succ] at zc
  go_wp2_with fail
  refine (HI.out _).mono ?_
  rintro e w3 ⟨rfl, hb3⟩
  have HB3 := hide (heldB HB2.out hb3 (Nat.le_refl _))
  have HD3 := hide (heldB HD2.out hb3 (Nat.le_refl _))
  clear hb3 c0 c1 c2 c3 c4 d0 d1 d2 d3 HB2 zc
  obtain ⟨c0, c1, c2, c3, c4, d0, d1, d2, d3⟩ := HS.out w3 HB3.out
  have zc := (HZ.out.below HD3.out (by simp)).cell 2
  simp only [List.getElem?_cons_zero, List.getElem?_cons_succ] at zc
  go_wp2_with fail
  refine (HE.out _ (HBU.out _ HB3.out)).mono ?_
  rintro e w4 ⟨rfl, hb4⟩
  have HB4 := hide (heldB HB3.out hb4 (Nat.le_refl _))
  have HD4 := hide (heldB HD3.out hb4 (Nat.le_refl _))
  clear hb4 c0 c1 c2 c3 c4 d0 d1 d2 d3 HB3 zc
  obtain ⟨c0, c1, c2, c3, c4, d0, d1, d2, d3⟩ := HS.out w4 HB4.out
  have zc := (HZ.out.below HD4.out (by simp)).cell 2
  simp only [List.getElem?_cons_zero, List.getElem?_cons_succ] at zc
  go_wp2_with fail
  refine (HG.out _ (HBU.out _ HB4.out) (HTT.out.on HB4.out)).mono ?_
  rintro e w5 ⟨rfl, hb5⟩
  have HB5 := hide (heldB HB4.out hb5 (Nat.le_refl _))
  have HD5 := hide (heldB HD4.out hb5 (Nat.le_refl _))
  clear hb5 c0 c1 c2 c3 c4 d0 d1 d2 d3 HB4 zc
  go_wp2
  go_ret2
  exact ⟨rfl, HBU.out _ HB5.out⟩

end Go.Proofs.YtgaoeoijdpdjiabDoor

namespace Go.Proofs.YtgaoeoijdpdjiabDoor
open Go.RowKit

set_option maxRecDepth 20000 in
set_option maxHeartbeats 4000000 in
theorem verify_key  (key msg sig : ByteArray) (w : World)
    (hK : ∀ V : World, Calls Tryd.prog 25 #[.string key] V fun e w' => e = .returned (.tuple #[.agg #[.int .i64 0, .int .i64 0, .int .i64 0, .int .i64 0, .int .i64 0, .string ⟨#[]⟩, .string ⟨#[]⟩], .int .i64 11]) ∧ Below V.heap.size V w') :
    Calls Tryd.prog 18 #[.string key, .string msg, .string sig] w fun e w' => e = .returned (.int .i64 11) ∧ Below w.heap.size w w' := by
  have HKK := hide hK
  clear hK
  go_enter Tryd.func18, Tryd.ntmps18
  go_wp2_with fail
  refine (HKK.out _).mono ?_
  rintro e w1 ⟨rfl, hb1⟩
  have HB1 := hide hb1
  clear hb1
  have HB2 := hide (HB1.out.alloc HB1.out.size (.cells #[.int .i64 0, .int .i64 0, .int .i64 0, .int .i64 0, .int .i64 0, .string ⟨#[]⟩, .string ⟨#[]⟩] 51))
  have HK2 := hide (Blk.new w1 [.int .i64 0, .int .i64 0, .int .i64 0, .int .i64 0, .int .i64 0, .string ⟨#[]⟩, .string ⟨#[]⟩] 51)
  go_wp2
  go_ret
  exact ⟨rfl, HB2.out⟩

set_option maxRecDepth 20000 in
set_option maxHeartbeats 4000000 in
theorem verify_long (k b x t l : Int) (root pub : ByteArray) (key msg sig : ByteArray) (w : World) (hm : 200 < msg.size)
    (hK : ∀ V : World, Calls Tryd.prog 25 #[.string key] V fun e w' => e = .returned (.tuple #[.agg #[.int .i64 k, .int .i64 b, .int .i64 x, .int .i64 t, .int .i64 l, .string root, .string pub], .int .i64 0]) ∧ Below V.heap.size V w') :
    Calls Tryd.prog 18 #[.string key, .string msg, .string sig] w fun e w' => e = .returned (.int .i64 3) ∧ Below w.heap.size w w' := by
  have hm2 : (200 : Int) < (msg.size : Int) := by omega
  have HKK := hide hK
  clear hK
  go_enter Tryd.func18, Tryd.ntmps18
  go_wp2_with fail
  refine (HKK.out _).mono ?_
  rintro e w1 ⟨rfl, hb1⟩
  have HB1 := hide hb1
  clear hb1
  have HB2 := hide (HB1.out.alloc HB1.out.size (.cells #[.int .i64 k, .int .i64 b, .int .i64 x, .int .i64 t, .int .i64 l, .string root, .string pub] 51))
  have HK2 := hide (Blk.new w1 [.int .i64 k, .int .i64 b, .int .i64 x, .int .i64 t, .int .i64 l, .string root, .string pub] 51)
  go_wp2
  go_ret
  exact ⟨rfl, HB2.out⟩

set_option maxRecDepth 20000 in
set_option maxHeartbeats 4000000 in
theorem verify_form (k b x t l er : Int) (root pub : ByteArray) (key msg sig : ByteArray) (w : World) (hm : msg.size ≤ 200) (her : er ≠ 0)
    (hK : ∀ V : World, Calls Tryd.prog 25 #[.string key] V fun e w' => e = .returned (.tuple #[.agg #[.int .i64 k, .int .i64 b, .int .i64 x, .int .i64 t, .int .i64 l, .string root, .string pub], .int .i64 0]) ∧ Below V.heap.size V w')
    (hS : ∀ V : World, Calls Tryd.prog 19 #[.agg #[.int .i64 k, .int .i64 b, .int .i64 x, .int .i64 t, .int .i64 l], .string sig] V fun r w' => r = .returned (.tuple #[.agg #[.int .i64 0, .string ⟨#[]⟩, .slice none 0 0], .int .i64 er]) ∧ Below V.heap.size V w') :
    Calls Tryd.prog 18 #[.string key, .string msg, .string sig] w fun e w' => e = .returned (.int .i64 er) ∧ Below w.heap.size w w' := by
  have hm2 : ¬ (200 : Int) < (msg.size : Int) := by omega
  have HSS := hide hS
  clear hS
  have HKK := hide hK
  clear hK
  go_enter Tryd.func18, Tryd.ntmps18
  go_wp2_with fail
  refine (HKK.out _).mono ?_
  rintro e w1 ⟨rfl, hb1⟩
  have HB1 := hide hb1
  clear hb1
  have HB2 := hide (HB1.out.alloc HB1.out.size (.cells #[.int .i64 k, .int .i64 b, .int .i64 x, .int .i64 t, .int .i64 l, .string root, .string pub] 51))
  have HK2 := hide (Blk.new w1 [.int .i64 k, .int .i64 b, .int .i64 x, .int .i64 t, .int .i64 l, .string root, .string pub] 51)
  obtain ⟨W2, hW2⟩ : ∃ W2, w1.alloc (.cells #[.int .i64 k, .int .i64 b, .int .i64 x, .int .i64 t, .int .i64 l, .string root, .string pub] 51) = W2 := ⟨_, rfl⟩
  rw [hW2] at HB2 HK2
  have HW2 := hide hW2
  clear hW2
  go_wp2_with fail
  rw [HW2.out]
  refine (HSS.out _).mono ?_
  rintro e w3 ⟨rfl, hb3⟩
  have HB3 := hide (heldB HB2.out hb3 (Nat.le_refl _))
  clear hb3
  have m0 : ((er : Int) != 0) = true := by simpa using her
  have m1 : ((er : Int) == 0) = false := by simpa using her
  go_wp2
  go_ret
  exact ⟨rfl, HB3.out.alloc HB3.out.size _⟩

set_option maxRecDepth 20000 in
set_option maxHeartbeats 4000000 in
theorem verify_yes (k b x t l idx : Int) (n : Nat) (root pub rnd : ByteArray) (ps : List ByteArray) (key msg sig : ByteArray) (w : World) (hm : msg.size ≤ 200) (hT : Tn w)
    (hK : ∀ V : World, Calls Tryd.prog 25 #[.string key] V fun e w' => e = .returned (.tuple #[.agg #[.int .i64 k, .int .i64 b, .int .i64 x, .int .i64 t, .int .i64 l, .string root, .string pub], .int .i64 0]) ∧ Below V.heap.size V w')
    (hS : ∀ V : World, Calls Tryd.prog 19 #[.agg #[.int .i64 k, .int .i64 b, .int .i64 x, .int .i64 t, .int .i64 l], .string sig] V fun r w' => ∃ g, r = .returned (.tuple #[.agg #[.int .i64 idx, .string rnd, .slice (some ⟨g, 0, none⟩) n n], .int .i64 0]) ∧ V.heap.size ≤ g ∧ Blk w' g (ps.map Value.string) 9 ∧ Below V.heap.size V w')
    (hR : ∀ (V : World) (g : Nat), Tn V → Blk V g (ps.map Value.string) 9 → Calls Tryd.prog 26 #[.agg #[.int .i64 k, .int .i64 b, .int .i64 x, .int .i64 t, .int .i64 l, .string root, .string pub], .agg #[.int .i64 idx, .string rnd, .slice (some ⟨g, 0, none⟩) n n], .string msg] V fun r w' => r = .returned (.string root) ∧ Below V.heap.size V w') :
    Calls Tryd.prog 18 #[.string key, .string msg, .string sig] w fun e w' => e = .returned (.int .i64 0) ∧ Below w.heap.size w w' := by
  have hm2 : ¬ (200 : Int) < (msg.size : Int) := by omega
  have HSS := hide hS
  clear hS
  have HRR := hide hR
  clear hR
  have HKK := hide hK
  clear hK
  go_enter Tryd.func18, Tryd.ntmps18
  go_wp2_with fail
  refine (HKK.out _).mono ?_
  rintro e w1 ⟨rfl, hb1⟩
  have HB1 := hide hb1
  clear hb1
  have HB2 := hide (HB1.out.alloc HB1.out.size (.cells #[.int .i64 k, .int .i64 b, .int .i64 x, .int .i64 t, .int .i64 l, .string root, .string pub] 51))
  have HK2 := hide (Blk.new w1 [.int .i64 k, .int .i64 b, .int .i64 x, .int .i64 t, .int .i64 l, .string root, .string pub] 51)
  obtain ⟨W2, hW2⟩ : ∃ W2, w1.alloc (.cells #[.int .i64 k, .int .i64 b, .int .i64 x, .int .i64 t, .int .i64 l, .string root, .string pub] 51) = W2 := ⟨_, rfl⟩
  rw [hW2] at HB2 HK2
  have HW2 := hide hW2
  clear hW2
  go_wp2_with fail
  rw [HW2.out]
  refine (HSS.out _).mono ?_
  rintro e w3 ⟨g, rfl, hg, hbk, hb3⟩
  have HB3 := hide (heldB HB2.out hb3 (Nat.le_refl _))
  have HK3 := hide (HK2.out.on hb3)
  have HG3 := hide hbk
  clear hb3 hg hbk
  have HB4 := hide (HB3.out.alloc HB3.out.size (.cells #[.int .i64 idx, .string rnd, .slice (some ⟨g, 0, none⟩) n n] 32))
  have HK4 := hide (HK3.out.alloc (.cells #[.int .i64 idx, .string rnd, .slice (some ⟨g, 0, none⟩) n n] 32))
  have HG4 := hide (HG3.out.alloc (.cells #[.int .i64 idx, .string rnd, .slice (some ⟨g, 0, none⟩) n n] 32))
  have HP4 := hide (Blk.new w3 [.int .i64 idx, .string rnd, .slice (some ⟨g, 0, none⟩) n n] 32)
  obtain ⟨W4, hW4⟩ : ∃ W4, w3.alloc (.cells #[.int .i64 idx, .string rnd, .slice (some ⟨g, 0, none⟩) n n] 32) = W4 := ⟨_, rfl⟩
  rw [hW4] at HB4 HK4 HG4 HP4
  have HW4 := hide hW4
  clear hW4
  have HS := hide (fun (V : World) (h : Below W4.heap.size W4 V) => (by
    have q1 := HK4.out.on h
    have q2 := HP4.out.on h
    exact ⟨q1.cell 0, q1.cell 1, q1.cell 2, q1.cell 3, q1.cell 4, q1.cell 5, q1.cell 6, q2.cell 0, q2.cell 1, q2.cell 2⟩ : V.cell? ⟨w1.heap.size, 0, none⟩ = some (.int .i64 k) ∧ V.cell? ⟨w1.heap.size, 1, none⟩ = some (.int .i64 b) ∧ V.cell? ⟨w1.heap.size, 2, none⟩ = some (.int .i64 x) ∧ V.cell? ⟨w1.heap.size, 3, none⟩ = some (.int .i64 t) ∧ V.cell? ⟨w1.heap.size, 4, none⟩ = some (.int .i64 l) ∧ V.cell? ⟨w1.heap.size, 5, none⟩ = some (.string root) ∧ V.cell? ⟨w1.heap.size, 6, none⟩ = some (.string pub) ∧ V.cell? ⟨w3.heap.size, 0, none⟩ = some (.int .i64 idx) ∧ V.cell? ⟨w3.heap.size, 1, none⟩ = some (.string rnd) ∧ V.cell? ⟨w3.heap.size, 2, none⟩ = some (.slice (some ⟨g, 0, none⟩) n n)))
  have HT4 := hide (hT.on HB4.out)
  go_wp2_with fail
  rw [HW4.out]
  go_region_held3 (fun V => V.cell? ⟨w1.heap.size, 0, none⟩ = some (.int .i64 k) ∧ V.cell? ⟨w1.heap.size, 1, none⟩ = some (.int .i64 b) ∧ V.cell? ⟨w1.heap.size, 2, none⟩ = some (.int .i64 x) ∧ V.cell? ⟨w1.heap.size, 3, none⟩ = some (.int .i64 t) ∧ V.cell? ⟨w1.heap.size, 4, none⟩ = some (.int .i64 l) ∧ V.cell? ⟨w1.heap.size, 5, none⟩ = some (.string root) ∧ V.cell? ⟨w1.heap.size, 6, none⟩ = some (.string pub) ∧ V.cell? ⟨w3.heap.size, 0, none⟩ = some (.int .i64 idx) ∧ V.cell? ⟨w3.heap.size, 1, none⟩ = some (.string rnd) ∧ V.cell? ⟨w3.heap.size, 2, none⟩ = some (.slice (some ⟨g, 0, none⟩) n n)) (first | exact HS.out _ hS1 | exact HS.out _ (Below.refl W4.heap.size W4).drew) ((go_at_call 26; refine (HRR.out _ g (HT4.out.on (Below.refl W4.heap.size W4).drew) (HG4.out.on (Below.refl W4.heap.size W4).drew)).mono ?_; rintro e w5 ⟨rfl, hb5⟩; have hS1 := heldB (Below.refl W4.heap.size W4).drew hb5 (Nat.le_refl _)))
  have HB5 := hide (heldB HB4.out hS1 (Nat.le_refl _))
  clear hS1 hb5
  go_wp2
  go_ret
  exact ⟨rfl, HB5.out⟩

set_option maxRecDepth 20000 in
set_option maxHeartbeats 4000000 in
theorem verify_no (k b x t l idx : Int) (n : Nat) (root pub rnd rr : ByteArray) (ps : List ByteArray) (key msg sig : ByteArray) (w : World) (hm : msg.size ≤ 200) (hT : Tn w) (hne : ¬ rr.toList = root.toList)
    (hK : ∀ V : World, Calls Tryd.prog 25 #[.string key] V fun e w' => e = .returned (.tuple #[.agg #[.int .i64 k, .int .i64 b, .int .i64 x, .int .i64 t, .int .i64 l, .string root, .string pub], .int .i64 0]) ∧ Below V.heap.size V w')
    (hS : ∀ V : World, Calls Tryd.prog 19 #[.agg #[.int .i64 k, .int .i64 b, .int .i64 x, .int .i64 t, .int .i64 l], .string sig] V fun r w' => ∃ g, r = .returned (.tuple #[.agg #[.int .i64 idx, .string rnd, .slice (some ⟨g, 0, none⟩) n n], .int .i64 0]) ∧ V.heap.size ≤ g ∧ Blk w' g (ps.map Value.string) 9 ∧ Below V.heap.size V w')
    (hR : ∀ (V : World) (g : Nat), Tn V → Blk V g (ps.map Value.string) 9 → Calls Tryd.prog 26 #[.agg #[.int .i64 k, .int .i64 b, .int .i64 x, .int .i64 t, .int .i64 l, .string root, .string pub], .agg #[.int .i64 idx, .string rnd, .slice (some ⟨g, 0, none⟩) n n], .string msg] V fun r w' => r = .returned (.string rr) ∧ Below V.heap.size V w') :
    Calls Tryd.prog 18 #[.string key, .string msg, .string sig] w fun e w' => e = .returned (.int .i64 13) ∧ Below w.heap.size w w' := by
  have hm2 : ¬ (200 : Int) < (msg.size : Int) := by omega
  have HSS := hide hS
  clear hS
  have HRR := hide hR
  clear hR
  have ne1 : (rr.toList == root.toList) = false := by simpa using hne
  have ne2 : (rr.toList != root.toList) = true := by simpa using hne
  have HKK := hide hK
  clear hK
  go_enter Tryd.func18, Tryd.ntmps18
  go_wp2_with fail
  refine (HKK.out _).mono ?_
  rintro e w1 ⟨rfl, hb1⟩
  have HB1 := hide hb1
  clear hb1
  have HB2 := hide (HB1.out.alloc HB1.out.size (.cells #[.int .i64 k, .int .i64 b, .int .i64 x, .int .i64 t, .int .i64 l, .string root, .string pub] 51))
  have HK2 := hide (Blk.new w1 [.int .i64 k, .int .i64 b, .int .i64 x, .int .i64 t, .int .i64 l, .string root, .string pub] 51)
  obtain ⟨W2, hW2⟩ : ∃ W2, w1.alloc (.cells #[.int .i64 k, .int .i64 b, .int .i64 x, .int .i64 t, .int .i64 l, .string root, .string pub] 51) = W2 := ⟨_, rfl⟩
  rw [hW2] at HB2 HK2
  have HW2 := hide hW2
  clear hW2
  go_wp2_with fail
  rw [HW2.out]
  refine (HSS.out _).mono ?_
  rintro e w3 ⟨g, rfl, hg, hbk, hb3⟩
  have HB3 := hide (heldB HB2.out hb3 (Nat.le_refl _))
  have HK3 := hide (HK2.out.on hb3)
  have HG3 := hide hbk
  clear hb3 hg hbk
  have HB4 := hide (HB3.out.alloc HB3.out.size (.cells #[.int .i64 idx, .string rnd, .slice (some ⟨g, 0, none⟩) n n] 32))
  have HK4 := hide (HK3.out.alloc (.cells #[.int .i64 idx, .string rnd, .slice (some ⟨g, 0, none⟩) n n] 32))
  have HG4 := hide (HG3.out.alloc (.cells #[.int .i64 idx, .string rnd, .slice (some ⟨g, 0, none⟩) n n] 32))
  have HP4 := hide (Blk.new w3 [.int .i64 idx, .string rnd, .slice (some ⟨g, 0, none⟩) n n] 32)
  obtain ⟨W4, hW4⟩ : ∃ W4, w3.alloc (.cells #[.int .i64 idx, .string rnd, .slice (some ⟨g, 0, none⟩) n n] 32) = W4 := ⟨_, rfl⟩
  rw [hW4] at HB4 HK4 HG4 HP4
  have HW4 := hide hW4
  clear hW4
  have HS := hide (fun (V : World) (h : Below W4.heap.size W4 V) => (by
    have q1 := HK4.out.on h
    have q2 := HP4.out.on h
    exact ⟨q1.cell 0, q1.cell 1, q1.cell 2, q1.cell 3, q1.cell 4, q1.cell 5, q1.cell 6, q2.cell 0, q2.cell 1, q2.cell 2⟩ : V.cell? ⟨w1.heap.size, 0, none⟩ = some (.int .i64 k) ∧ V.cell? ⟨w1.heap.size, 1, none⟩ = some (.int .i64 b) ∧ V.cell? ⟨w1.heap.size, 2, none⟩ = some (.int .i64 x) ∧ V.cell? ⟨w1.heap.size, 3, none⟩ = some (.int .i64 t) ∧ V.cell? ⟨w1.heap.size, 4, none⟩ = some (.int .i64 l) ∧ V.cell? ⟨w1.heap.size, 5, none⟩ = some (.string root) ∧ V.cell? ⟨w1.heap.size, 6, none⟩ = some (.string pub) ∧ V.cell? ⟨w3.heap.size, 0, none⟩ = some (.int .i64 idx) ∧ V.cell? ⟨w3.heap.size, 1, none⟩ = some (.string rnd) ∧ V.cell? ⟨w3.heap.size, 2, none⟩ = some (.slice (some ⟨g, 0, none⟩) n n)))
  have HT4 := hide (hT.on HB4.out)
  go_wp2_with fail
  rw [HW4.out]
  go_region_held3 (fun V => V.cell? ⟨w1.heap.size, 0, none⟩ = some (.int .i64 k) ∧ V.cell? ⟨w1.heap.size, 1, none⟩ = some (.int .i64 b) ∧ V.cell? ⟨w1.heap.size, 2, none⟩ = some (.int .i64 x) ∧ V.cell? ⟨w1.heap.size, 3, none⟩ = some (.int .i64 t) ∧ V.cell? ⟨w1.heap.size, 4, none⟩ = some (.int .i64 l) ∧ V.cell? ⟨w1.heap.size, 5, none⟩ = some (.string root) ∧ V.cell? ⟨w1.heap.size, 6, none⟩ = some (.string pub) ∧ V.cell? ⟨w3.heap.size, 0, none⟩ = some (.int .i64 idx) ∧ V.cell? ⟨w3.heap.size, 1, none⟩ = some (.string rnd) ∧ V.cell? ⟨w3.heap.size, 2, none⟩ = some (.slice (some ⟨g, 0, none⟩) n n)) (first | exact HS.out _ hS1 | exact HS.out _ (Below.refl W4.heap.size W4).drew) ((go_at_call 26; refine (HRR.out _ g (HT4.out.on (Below.refl W4.heap.size W4).drew) (HG4.out.on (Below.refl W4.heap.size W4).drew)).mono ?_; rintro e w5 ⟨rfl, hb5⟩; have hS1 := heldB (Below.refl W4.heap.size W4).drew hb5 (Nat.le_refl _)))
  have HB5 := hide (heldB HB4.out hS1 (Nat.le_refl _))
  clear hS1 hb5
  go_wp2
  go_ret
  exact ⟨rfl, HB5.out⟩
end Go.Proofs.YtgaoeoijdpdjiabDoor
