/-
  The program's within, Leaves, trees. The program's Fold, call by call.
-/
import Derived.Test.YtbncojflfnpikaaDoorPart27
import Derived.Test.YtbncojflfnpikaaDoorPart25
import Derived.Test.YtbncojflfnpikaaDoorPart4
namespace Go.Proofs.YtbncojflfnpikaaDoor
open Go.RowKit

theorem within_any (v n : Int) (w : World) : Calls Tryd.prog 138 #[.int .i64 v, .int .i64 n] w fun e w' => e = .returned (.bool (decide (0 ≤ v ∧ v < n))) ∧ w' = w := by
  by_cases h0 : 0 ≤ v
  · by_cases h1 : v < n
    · have e : decide (0 ≤ v ∧ v < n) = true := by simp [h0, h1]
      rw [e]
      go_enter Tryd.func138, Tryd.ntmps138
      go_wp2
      go_ret
      exact ⟨rfl, rfl⟩
    · have e : decide (0 ≤ v ∧ v < n) = false := by simp [h1]
      rw [e]
      go_enter Tryd.func138, Tryd.ntmps138
      go_wp2
      go_ret
      exact ⟨rfl, rfl⟩
  · have e : decide (0 ≤ v ∧ v < n) = false := by simp [h0]
    rw [e]
    go_enter Tryd.func138, Tryd.ntmps138
    go_wp2
    go_ret
    exact ⟨rfl, rfl⟩

theorem setsLeaves_any (k b x l : Int) (t : Nat) (w : World) (h1 : 1 ≤ t) (h2 : t ≤ 4) :
    Calls Tryd.prog 119 #[.agg #[.int .i64 k, .int .i64 b, .int .i64 x, .int .i64 t, .int .i64 l]] w fun e w' => e = .returned (.int .i64 ((2 ^ t : Nat) : Int)) ∧ Below w.heap.size w w' := by
  rcases (show t = 1 ∨ t = 2 ∨ t = 3 ∨ t = 4 by omega) with rfl | rfl | rfl | rfl
  all_goals
    go_enter Tryd.func119, Tryd.ntmps119
    go_wp2
    go_ret
    exact ⟨rfl, (Below.refl _ _).alloc (Nat.le_refl _) _⟩

set_option maxHeartbeats 4000000 in
theorem trees_any (k b x : Int) (t l q : Nat) (w : World) (h1 : 1 ≤ t) (h2 : t ≤ 4) (h3 : l ≤ 3) (h4 : q < l) :
    Calls Tryd.prog 148 #[.agg #[.int .i64 k, .int .i64 b, .int .i64 x, .int .i64 t, .int .i64 l], .int .i64 q] w fun e w' => e = .returned (.int .i64 ((2 ^ (t * (l - 1 - q)) : Nat) : Int)) ∧ Below w.heap.size w w' := by
  rcases (show t = 1 ∨ t = 2 ∨ t = 3 ∨ t = 4 by omega) with rfl | rfl | rfl | rfl <;> rcases (show (l = 1 ∧ q = 0) ∨ (l = 2 ∧ q = 0) ∨ (l = 2 ∧ q = 1) ∨ (l = 3 ∧ q = 0) ∨ (l = 3 ∧ q = 1) ∨ (l = 3 ∧ q = 2) by omega) with ⟨rfl, rfl⟩ | ⟨rfl, rfl⟩ | ⟨rfl, rfl⟩ | ⟨rfl, rfl⟩ | ⟨rfl, rfl⟩ | ⟨rfl, rfl⟩
  all_goals
    go_enter Tryd.func148, Tryd.ntmps148
    go_wp2
    go_ret
    exact ⟨rfl, (Below.refl _ _).alloc (Nat.le_refl _) _⟩

/-- Is it the place of a leaf of some tree, whatever its chain? -/
def leafB (t l : Nat) (p0 p1 p2 : Int) : Bool := decide (0 ≤ p0 ∧ p0 < l) && (decide (0 ≤ p1 ∧ p1 < ((2 ^ (t * (l - 1 - p0.toNat)) : Nat) : Int)) && decide (0 ≤ p2 ∧ p2 < ((2 ^ t : Nat) : Int)))

end Go.Proofs.YtbncojflfnpikaaDoor

namespace Go.Proofs.YtbncojflfnpikaaDoor
open Go.RowKit

set_option maxRecDepth 20000 in
set_option maxHeartbeats 4000000 in
theorem fT_set (k b x t l a0 a1 ch a3 a4 a5 : Int) (pub : ByteArray) (p0 p1 p2 p3 : Int) (sp : Option Addr) (n c : Nat) (w : World) (hC : ∀ V : World, Calls Tryd.prog 81 #[.agg #[.int .i64 k, .int .i64 b, .int .i64 x, .int .i64 t, .int .i64 l]] V fun e w' => e = .returned (.tuple #[.agg #[.int .i64 a0, .int .i64 a1, .int .i64 ch, .int .i64 a3, .int .i64 a4, .int .i64 a5], .int .i64 1]) ∧ Below V.heap.size V w') :
    Calls Tryd.prog 75 #[.agg #[.int .i64 k, .int .i64 b, .int .i64 x, .int .i64 t, .int .i64 l], .string pub, .agg #[.int .i64 p0, .int .i64 p1, .int .i64 p2, .int .i64 p3], .slice sp n c] w fun e w' => e = .returned (.tuple #[.string ⟨#[]⟩, .int .i64 1]) ∧ Below w.heap.size w w' := by
  obtain ⟨W0, hW⟩ : ∃ W0, (w.alloc (.cells #[.int .i64 k, .int .i64 b, .int .i64 x, .int .i64 t, .int .i64 l] 25)).alloc (.cells #[.int .i64 p0, .int .i64 p1, .int .i64 p2, .int .i64 p3] 29) = W0 := ⟨_, rfl⟩
  have HF := hide (show FiveC w.heap.size W0 k b x t l by subst hW; refine ⟨?_, ?_, ?_, ?_, ?_⟩ <;> simp [go_sem])
  have HP := hide (show FourC (w.heap.size + 1) W0 p0 p1 p2 p3 by subst hW; refine ⟨?_, ?_, ?_, ?_⟩ <;> simp [go_sem])
  have HB := hide (show Below w.heap.size w W0 by subst hW; exact ((Below.refl _ _).alloc (Nat.le_refl _) _).alloc (by simp) _)
  have hz : W0.heap.size ≤ w.heap.size + 2 := by subst hW; simp
  have hz' : w.heap.size + 2 ≤ W0.heap.size := by subst hW; simp
  have HBU := hide (fun (V : World) (h : Below W0.heap.size W0 V) => HB.out.trans (h.mono (by omega)))
  have HS := hide (fun (V : World) (h : Below W0.heap.size W0 V) => (by
    obtain ⟨c0, c1, c2, c3, c4⟩ := HF.out.below h (by omega)
    obtain ⟨d0, d1, d2, d3⟩ := HP.out.below h (by omega)
    exact ⟨c0, c1, c2, c3, c4, d0, d1, d2, d3⟩ : V.cell? ⟨w.heap.size, 0, none⟩ = some (.int .i64 k) ∧ V.cell? ⟨w.heap.size, 1, none⟩ = some (.int .i64 b) ∧ V.cell? ⟨w.heap.size, 2, none⟩ = some (.int .i64 x) ∧ V.cell? ⟨w.heap.size, 3, none⟩ = some (.int .i64 t) ∧ V.cell? ⟨w.heap.size, 4, none⟩ = some (.int .i64 l) ∧ V.cell? ⟨w.heap.size + 1, 0, none⟩ = some (.int .i64 p0) ∧ V.cell? ⟨w.heap.size + 1, 1, none⟩ = some (.int .i64 p1) ∧ V.cell? ⟨w.heap.size + 1, 2, none⟩ = some (.int .i64 p2) ∧ V.cell? ⟨w.heap.size + 1, 3, none⟩ = some (.int .i64 p3)))
  obtain ⟨c0, c1, c2, c3, c4, d0, d1, d2, d3⟩ := HS.out W0 (Below.refl _ _)
  have HC := hide hC
  clear hC
  go_enter Tryd.func75, Tryd.ntmps75
  go_wp2_with fail
  try rw [hW]
  refine (HC.out _).mono ?_
  rintro e w1 ⟨rfl, hb1⟩
  have HB1 := hide ((heldB (Below.refl W0.heap.size W0) hb1 (Nat.le_refl _)).alloc (heldB (Below.refl W0.heap.size W0) hb1 (Nat.le_refl _)).size (.cells #[.int .i64 a0, .int .i64 a1, .int .i64 ch, .int .i64 a3, .int .i64 a4, .int .i64 a5] 106))
  have HZ := hide (Blk.new w1 [.int .i64 a0, .int .i64 a1, .int .i64 ch, .int .i64 a3, .int .i64 a4, .int .i64 a5] 106)
  have HD1 := hide (Below.refl (w1.alloc (.cells #[.int .i64 a0, .int .i64 a1, .int .i64 ch, .int .i64 a3, .int .i64 a4, .int .i64 a5] 106)).heap.size (w1.alloc (.cells #[.int .i64 a0, .int .i64 a1, .int .i64 ch, .int .i64 a3, .int .i64 a4, .int .i64 a5] 106)))
  clear hb1 c0 c1 c2 c3 c4 d0 d1 d2 d3 hW
  go_wp2
  go_ret2
  exact ⟨rfl, HBU.out _ HB1.out⟩

set_option maxRecDepth 20000 in
set_option maxHeartbeats 4000000 in
theorem fT_pub (k b x t l a0 a1 ch a3 a4 a5 : Int) (pub : ByteArray) (p0 p1 p2 p3 : Int) (sp : Option Addr) (n c : Nat) (w : World) (hC : ∀ V : World, Calls Tryd.prog 81 #[.agg #[.int .i64 k, .int .i64 b, .int .i64 x, .int .i64 t, .int .i64 l]] V fun e w' => e = .returned (.tuple #[.agg #[.int .i64 a0, .int .i64 a1, .int .i64 ch, .int .i64 a3, .int .i64 a4, .int .i64 a5], .int .i64 0]) ∧ Below V.heap.size V w') (hV : ∀ (V : World) (B : Nat), B = V.heap.size → Calls Tryd.prog 107 #[.agg #[.int .i64 k, .int .i64 b, .int .i64 x, .int .i64 t, .int .i64 l], .slice (some ⟨B, 0, none⟩) 1 1] (V.alloc (.cells #[.string pub] 9)) fun e w' => e = .returned (.bool false) ∧ Below (V.alloc (.cells #[.string pub] 9)).heap.size (V.alloc (.cells #[.string pub] 9)) w') :
    Calls Tryd.prog 75 #[.agg #[.int .i64 k, .int .i64 b, .int .i64 x, .int .i64 t, .int .i64 l], .string pub, .agg #[.int .i64 p0, .int .i64 p1, .int .i64 p2, .int .i64 p3], .slice sp n c] w fun e w' => e = .returned (.tuple #[.string ⟨#[]⟩, .int .i64 2]) ∧ Below w.heap.size w w' := by
  obtain ⟨W0, hW⟩ : ∃ W0, (w.alloc (.cells #[.int .i64 k, .int .i64 b, .int .i64 x, .int .i64 t, .int .i64 l] 25)).alloc (.cells #[.int .i64 p0, .int .i64 p1, .int .i64 p2, .int .i64 p3] 29) = W0 := ⟨_, rfl⟩
  have HF := hide (show FiveC w.heap.size W0 k b x t l by subst hW; refine ⟨?_, ?_, ?_, ?_, ?_⟩ <;> simp [go_sem])
  have HP := hide (show FourC (w.heap.size + 1) W0 p0 p1 p2 p3 by subst hW; refine ⟨?_, ?_, ?_, ?_⟩ <;> simp [go_sem])
  have HB := hide (show Below w.heap.size w W0 by subst hW; exact ((Below.refl _ _).alloc (Nat.le_refl _) _).alloc (by simp) _)
  have hz : W0.heap.size ≤ w.heap.size + 2 := by subst hW; simp
  have hz' : w.heap.size + 2 ≤ W0.heap.size := by subst hW; simp
  have HBU := hide (fun (V : World) (h : Below W0.heap.size W0 V) => HB.out.trans (h.mono (by omega)))
  have HS := hide (fun (V : World) (h : Below W0.heap.size W0 V) => (by
    obtain ⟨c0, c1, c2, c3, c4⟩ := HF.out.below h (by omega)
    obtain ⟨d0, d1, d2, d3⟩ := HP.out.below h (by omega)
    exact ⟨c0, c1, c2, c3, c4, d0, d1, d2, d3⟩ : V.cell? ⟨w.heap.size, 0, none⟩ = some (.int .i64 k) ∧ V.cell? ⟨w.heap.size, 1, none⟩ = some (.int .i64 b) ∧ V.cell? ⟨w.heap.size, 2, none⟩ = some (.int .i64 x) ∧ V.cell? ⟨w.heap.size, 3, none⟩ = some (.int .i64 t) ∧ V.cell? ⟨w.heap.size, 4, none⟩ = some (.int .i64 l) ∧ V.cell? ⟨w.heap.size + 1, 0, none⟩ = some (.int .i64 p0) ∧ V.cell? ⟨w.heap.size + 1, 1, none⟩ = some (.int .i64 p1) ∧ V.cell? ⟨w.heap.size + 1, 2, none⟩ = some (.int .i64 p2) ∧ V.cell? ⟨w.heap.size + 1, 3, none⟩ = some (.int .i64 p3)))
  obtain ⟨c0, c1, c2, c3, c4, d0, d1, d2, d3⟩ := HS.out W0 (Below.refl _ _)
  have HC := hide hC
  have HV := hide hV
  clear hC hV
  go_enter Tryd.func75, Tryd.ntmps75
  go_wp2_with fail
  try rw [hW]
  refine (HC.out _).mono ?_
  rintro e w1 ⟨rfl, hb1⟩
  have HB1 := hide ((heldB (Below.refl W0.heap.size W0) hb1 (Nat.le_refl _)).alloc (heldB (Below.refl W0.heap.size W0) hb1 (Nat.le_refl _)).size (.cells #[.int .i64 a0, .int .i64 a1, .int .i64 ch, .int .i64 a3, .int .i64 a4, .int .i64 a5] 106))
  have HZ := hide (Blk.new w1 [.int .i64 a0, .int .i64 a1, .int .i64 ch, .int .i64 a3, .int .i64 a4, .int .i64 a5] 106)
  have HD1 := hide (Below.refl (w1.alloc (.cells #[.int .i64 a0, .int .i64 a1, .int .i64 ch, .int .i64 a3, .int .i64 a4, .int .i64 a5] 106)).heap.size (w1.alloc (.cells #[.int .i64 a0, .int .i64 a1, .int .i64 ch, .int .i64 a3, .int .i64 a4, .int .i64 a5] 106)))
  clear hb1 c0 c1 c2 c3 c4 d0 d1 d2 d3 hW
  obtain ⟨c0, c1, c2, c3, c4, d0, d1, d2, d3⟩ := HS.out (w1.alloc (.cells #[.int .i64 a0, .int .i64 a1, .int .i64 ch, .int .i64 a3, .int .i64 a4, .int .i64 a5] 106)) HB1.out
  go_wp2_with fail
  refine (HV.out (w1.alloc (.cells #[.int .i64 a0, .int .i64 a1, .int .i64 ch, .int .i64 a3, .int .i64 a4, .int .i64 a5] 106)) _ (by simp)).mono ?_
  rintro e w2 ⟨rfl, hb2⟩
  have HB2 := hide (heldB (HB1.out.alloc HB1.out.size _) hb2 (Nat.le_refl _))
  have HD2 := hide (heldB (HD1.out.alloc HD1.out.size _) hb2 (Nat.le_refl _))
  clear hb2 c0 c1 c2 c3 c4 d0 d1 d2 d3 HB1
  go_wp2
  go_ret2
  exact ⟨rfl, HBU.out _ HB2.out⟩

set_option maxRecDepth 20000 in
set_option maxHeartbeats 4000000 in
theorem fT_pla (k b x t l a0 a1 ch a3 a4 a5 : Int) (pub : ByteArray) (p0 p1 p2 p3 : Int) (sp : Option Addr) (n c : Nat) (w : World) (hC : ∀ V : World, Calls Tryd.prog 81 #[.agg #[.int .i64 k, .int .i64 b, .int .i64 x, .int .i64 t, .int .i64 l]] V fun e w' => e = .returned (.tuple #[.agg #[.int .i64 a0, .int .i64 a1, .int .i64 ch, .int .i64 a3, .int .i64 a4, .int .i64 a5], .int .i64 0]) ∧ Below V.heap.size V w') (hV : ∀ (V : World) (B : Nat), B = V.heap.size → Calls Tryd.prog 107 #[.agg #[.int .i64 k, .int .i64 b, .int .i64 x, .int .i64 t, .int .i64 l], .slice (some ⟨B, 0, none⟩) 1 1] (V.alloc (.cells #[.string pub] 9)) fun e w' => e = .returned (.bool true) ∧ Below (V.alloc (.cells #[.string pub] 9)).heap.size (V.alloc (.cells #[.string pub] 9)) w') (hI : ∀ V : World, Calls Tryd.prog 110 #[.agg #[.int .i64 k, .int .i64 b, .int .i64 x, .int .i64 t, .int .i64 l], .agg #[.int .i64 p0, .int .i64 p1, .int .i64 p2, .int .i64 p3]] V fun e w' => e = .returned (.bool false) ∧ Below V.heap.size V w') :
    Calls Tryd.prog 75 #[.agg #[.int .i64 k, .int .i64 b, .int .i64 x, .int .i64 t, .int .i64 l], .string pub, .agg #[.int .i64 p0, .int .i64 p1, .int .i64 p2, .int .i64 p3], .slice sp n c] w fun e w' => e = .returned (.tuple #[.string ⟨#[]⟩, .int .i64 2]) ∧ Below w.heap.size w w' := by
  obtain ⟨W0, hW⟩ : ∃ W0, (w.alloc (.cells #[.int .i64 k, .int .i64 b, .int .i64 x, .int .i64 t, .int .i64 l] 25)).alloc (.cells #[.int .i64 p0, .int .i64 p1, .int .i64 p2, .int .i64 p3] 29) = W0 := ⟨_, rfl⟩
  have HF := hide (show FiveC w.heap.size W0 k b x t l by subst hW; refine ⟨?_, ?_, ?_, ?_, ?_⟩ <;> simp [go_sem])
  have HP := hide (show FourC (w.heap.size + 1) W0 p0 p1 p2 p3 by subst hW; refine ⟨?_, ?_, ?_, ?_⟩ <;> simp [go_sem])
  have HB := hide (show Below w.heap.size w W0 by subst hW; exact ((Below.refl _ _).alloc (Nat.le_refl _) _).alloc (by simp) _)
  have hz : W0.heap.size ≤ w.heap.size + 2 := by subst hW; simp
  have hz' : w.heap.size + 2 ≤ W0.heap.size := by subst hW; simp
  have HBU := hide (fun (V : World) (h : Below W0.heap.size W0 V) => HB.out.trans (h.mono (by omega)))
  have HS := hide (fun (V : World) (h : Below W0.heap.size W0 V) => (by
    obtain ⟨c0, c1, c2, c3, c4⟩ := HF.out.below h (by omega)
    obtain ⟨d0, d1, d2, d3⟩ := HP.out.below h (by omega)
    exact ⟨c0, c1, c2, c3, c4, d0, d1, d2, d3⟩ : V.cell? ⟨w.heap.size, 0, none⟩ = some (.int .i64 k) ∧ V.cell? ⟨w.heap.size, 1, none⟩ = some (.int .i64 b) ∧ V.cell? ⟨w.heap.size, 2, none⟩ = some (.int .i64 x) ∧ V.cell? ⟨w.heap.size, 3, none⟩ = some (.int .i64 t) ∧ V.cell? ⟨w.heap.size, 4, none⟩ = some (.int .i64 l) ∧ V.cell? ⟨w.heap.size + 1, 0, none⟩ = some (.int .i64 p0) ∧ V.cell? ⟨w.heap.size + 1, 1, none⟩ = some (.int .i64 p1) ∧ V.cell? ⟨w.heap.size + 1, 2, none⟩ = some (.int .i64 p2) ∧ V.cell? ⟨w.heap.size + 1, 3, none⟩ = some (.int .i64 p3)))
  obtain ⟨c0, c1, c2, c3, c4, d0, d1, d2, d3⟩ := HS.out W0 (Below.refl _ _)
  have HC := hide hC
  have HV := hide hV
  have HI := hide hI
  clear hC hV hI
  go_enter Tryd.func75, Tryd.ntmps75
  go_wp2_with fail
  try rw [hW]
  refine (HC.out _).mono ?_
  rintro e w1 ⟨rfl, hb1⟩
  have HB1 := hide ((heldB (Below.refl W0.heap.size W0) hb1 (Nat.le_refl _)).alloc (heldB (Below.refl W0.heap.size W0) hb1 (Nat.le_refl _)).size (.cells #[.int .i64 a0, .int .i64 a1, .int .i64 ch, .int .i64 a3, .int .i64 a4, .int .i64 a5] 106))
  have HZ := hide (Blk.new w1 [.int .i64 a0, .int .i64 a1, .int .i64 ch, .int .i64 a3, .int .i64 a4, .int .i64 a5] 106)
  have HD1 := hide (Below.refl (w1.alloc (.cells #[.int .i64 a0, .int .i64 a1, .int .i64 ch, .int .i64 a3, .int .i64 a4, .int .i64 a5] 106)).heap.size (w1.alloc (.cells #[.int .i64 a0, .int .i64 a1, .int .i64 ch, .int .i64 a3, .int .i64 a4, .int .i64 a5] 106)))
  clear hb1 c0 c1 c2 c3 c4 d0 d1 d2 d3 hW
  obtain ⟨c0, c1, c2, c3, c4, d0, d1, d2, d3⟩ := HS.out (w1.alloc (.cells #[.int .i64 a0, .int .i64 a1, .int .i64 ch, .int .i64 a3, .int .i64 a4, .int .i64 a5] 106)) HB1.out
  go_wp2_with fail
  refine (HV.out (w1.alloc (.cells #[.int .i64 a0, .int .i64 a1, .int .i64 ch, .int .i64 a3, .int .i64 a4, .int .i64 a5] 106)) _ (by simp)).mono ?_
  rintro e w2 ⟨rfl, hb2⟩
  have HB2 := hide (heldB (HB1.out.alloc HB1.out.size _) hb2 (Nat.le_refl _))
  have HD2 := hide (heldB (HD1.out.alloc HD1.out.size _) hb2 (Nat.le_refl _))
  clear hb2 c0 c1 c2 c3 c4 d0 d1 d2 d3 HB1
  obtain ⟨c0, c1, c2, c3, c4, d0, d1, d2, d3⟩ := HS.out w2 HB2.out
  have zc := (HZ.out.below HD2.out (by simp)).cell 2
  simp only [List.getElem?_cons_zero, List.getElem?_cons_succ] at zc
  go_wp2_with fail
  refine (HI.out _).mono ?_
  rintro e w3 ⟨rfl, hb3⟩
  have HB3 := hide (heldB HB2.out hb3 (Nat.le_refl _))
  have HD3 := hide (heldB HD2.out hb3 (Nat.le_refl _))
  clear hb3 c0 c1 c2 c3 c4 d0 d1 d2 d3 HB2 zc
  go_wp2
  go_ret2
  exact ⟨rfl, HBU.out _ HB3.out⟩

set_option maxRecDepth 20000 in
set_option maxHeartbeats 4000000 in
theorem fT_len (k b x t l a0 a1 ch a3 a4 a5 : Int) (pub : ByteArray) (p0 p1 p2 p3 : Int) (sp : Option Addr) (n c : Nat) (w : World) (hC : ∀ V : World, Calls Tryd.prog 81 #[.agg #[.int .i64 k, .int .i64 b, .int .i64 x, .int .i64 t, .int .i64 l]] V fun e w' => e = .returned (.tuple #[.agg #[.int .i64 a0, .int .i64 a1, .int .i64 ch, .int .i64 a3, .int .i64 a4, .int .i64 a5], .int .i64 0]) ∧ Below V.heap.size V w') (hV : ∀ (V : World) (B : Nat), B = V.heap.size → Calls Tryd.prog 107 #[.agg #[.int .i64 k, .int .i64 b, .int .i64 x, .int .i64 t, .int .i64 l], .slice (some ⟨B, 0, none⟩) 1 1] (V.alloc (.cells #[.string pub] 9)) fun e w' => e = .returned (.bool true) ∧ Below (V.alloc (.cells #[.string pub] 9)).heap.size (V.alloc (.cells #[.string pub] 9)) w') (hI : ∀ V : World, Calls Tryd.prog 110 #[.agg #[.int .i64 k, .int .i64 b, .int .i64 x, .int .i64 t, .int .i64 l], .agg #[.int .i64 p0, .int .i64 p1, .int .i64 p2, .int .i64 p3]] V fun e w' => e = .returned (.bool true) ∧ Below V.heap.size V w') (g3 : ((n : Int) == ch) = false) :
    Calls Tryd.prog 75 #[.agg #[.int .i64 k, .int .i64 b, .int .i64 x, .int .i64 t, .int .i64 l], .string pub, .agg #[.int .i64 p0, .int .i64 p1, .int .i64 p2, .int .i64 p3], .slice sp n c] w fun e w' => e = .returned (.tuple #[.string ⟨#[]⟩, .int .i64 2]) ∧ Below w.heap.size w w' := by
  obtain ⟨W0, hW⟩ : ∃ W0, (w.alloc (.cells #[.int .i64 k, .int .i64 b, .int .i64 x, .int .i64 t, .int .i64 l] 25)).alloc (.cells #[.int .i64 p0, .int .i64 p1, .int .i64 p2, .int .i64 p3] 29) = W0 := ⟨_, rfl⟩
  have HF := hide (show FiveC w.heap.size W0 k b x t l by subst hW; refine ⟨?_, ?_, ?_, ?_, ?_⟩ <;> simp [go_sem])
  have HP := hide (show FourC (w.heap.size + 1) W0 p0 p1 p2 p3 by subst hW; refine ⟨?_, ?_, ?_, ?_⟩ <;> simp [go_sem])
  have HB := hide (show Below w.heap.size w W0 by subst hW; exact ((Below.refl _ _).alloc (Nat.le_refl _) _).alloc (by simp) _)
  have hz : W0.heap.size ≤ w.heap.size + 2 := by subst hW; simp
  have hz' : w.heap.size + 2 ≤ W0.heap.size := by subst hW; simp
  have HBU := hide (fun (V : World) (h : Below W0.heap.size W0 V) => HB.out.trans (h.mono (by omega)))
  have HS := hide (fun (V : World) (h : Below W0.heap.size W0 V) => (by
    obtain ⟨c0, c1, c2, c3, c4⟩ := HF.out.below h (by omega)
    obtain ⟨d0, d1, d2, d3⟩ := HP.out.below h (by omega)
    exact ⟨c0, c1, c2, c3, c4, d0, d1, d2, d3⟩ : V.cell? ⟨w.heap.size, 0, none⟩ = some (.int .i64 k) ∧ V.cell? ⟨w.heap.size, 1, none⟩ = some (.int .i64 b) ∧ V.cell? ⟨w.heap.size, 2, none⟩ = some (.int .i64 x) ∧ V.cell? ⟨w.heap.size, 3, none⟩ = some (.int .i64 t) ∧ V.cell? ⟨w.heap.size, 4, none⟩ = some (.int .i64 l) ∧ V.cell? ⟨w.heap.size + 1, 0, none⟩ = some (.int .i64 p0) ∧ V.cell? ⟨w.heap.size + 1, 1, none⟩ = some (.int .i64 p1) ∧ V.cell? ⟨w.heap.size + 1, 2, none⟩ = some (.int .i64 p2) ∧ V.cell? ⟨w.heap.size + 1, 3, none⟩ = some (.int .i64 p3)))
  obtain ⟨c0, c1, c2, c3, c4, d0, d1, d2, d3⟩ := HS.out W0 (Below.refl _ _)
  have g3n : ((n : Int) != ch) = true := by rw [bne, g3]; rfl
  have HC := hide hC
  have HV := hide hV
  have HI := hide hI
  clear hC hV hI
  go_enter Tryd.func75, Tryd.ntmps75
  go_wp2_with fail
  try rw [hW]
  refine (HC.out _).mono ?_
  rintro e w1 ⟨rfl, hb1⟩
  have HB1 := hide ((heldB (Below.refl W0.heap.size W0) hb1 (Nat.le_refl _)).alloc (heldB (Below.refl W0.heap.size W0) hb1 (Nat.le_refl _)).size (.cells #[.int .i64 a0, .int .i64 a1, .int .i64 ch, .int .i64 a3, .int .i64 a4, .int .i64 a5] 106))
  have HZ := hide (Blk.new w1 [.int .i64 a0, .int .i64 a1, .int .i64 ch, .int .i64 a3, .int .i64 a4, .int .i64 a5] 106)
  have HD1 := hide (Below.refl (w1.alloc (.cells #[.int .i64 a0, .int .i64 a1, .int .i64 ch, .int .i64 a3, .int .i64 a4, .int .i64 a5] 106)).heap.size (w1.alloc (.cells #[.int .i64 a0, .int .i64 a1, .int .i64 ch, .int .i64 a3, .int .i64 a4, .int .i64 a5] 106)))
  clear hb1 c0 c1 c2 c3 c4 d0 d1 d2 d3 hW
  obtain ⟨c0, c1, c2, c3, c4, d0, d1, d2, d3⟩ := HS.out (w1.alloc (.cells #[.int .i64 a0, .int .i64 a1, .int .i64 ch, .int .i64 a3, .int .i64 a4, .int .i64 a5] 106)) HB1.out
  go_wp2_with fail
  refine (HV.out (w1.alloc (.cells #[.int .i64 a0, .int .i64 a1, .int .i64 ch, .int .i64 a3, .int .i64 a4, .int .i64 a5] 106)) _ (by simp)).mono ?_
  rintro e w2 ⟨rfl, hb2⟩
  have HB2 := hide (heldB (HB1.out.alloc HB1.out.size _) hb2 (Nat.le_refl _))
  have HD2 := hide (heldB (HD1.out.alloc HD1.out.size _) hb2 (Nat.le_refl _))
  clear hb2 c0 c1 c2 c3 c4 d0 d1 d2 d3 HB1
  obtain ⟨c0, c1, c2, c3, c4, d0, d1, d2, d3⟩ := HS.out w2 HB2.out
  have zc := (HZ.out.below HD2.out (by simp)).cell 2
  simp only [List.getElem?_cons_zero, List.getElem?_cons_succ] at zc
  go_wp2_with fail
  refine (HI.out _).mono ?_
  rintro e w3 ⟨rfl, hb3⟩
  have HB3 := hide (heldB HB2.out hb3 (Nat.le_refl _))
  have HD3 := hide (heldB HD2.out hb3 (Nat.le_refl _))
  clear hb3 c0 c1 c2 c3 c4 d0 d1 d2 d3 HB2 zc
  obtain ⟨c0, c1, c2, c3, c4, d0, d1, d2, d3⟩ := HS.out w3 HB3.out
  have zc := (HZ.out.below HD3.out (by simp)).cell 2
  simp only [List.getElem?_cons_zero, List.getElem?_cons_succ] at zc
  go_wp2
  go_ret2
  exact ⟨rfl, HBU.out _ HB3.out⟩

end Go.Proofs.YtbncojflfnpikaaDoor
