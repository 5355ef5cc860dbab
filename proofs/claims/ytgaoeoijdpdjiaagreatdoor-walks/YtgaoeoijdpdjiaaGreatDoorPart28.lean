/-
  The program's within, Leaves, trees. The document's own Placed: a chain below 0.
-/
import Derived.Test.YtgaoeoijdpdjiaaGreatDoorPart18
import Derived.Test.YtgaoeoijdpdjiaaGreatDoorPart19
import Derived.Test.YtgaoeoijdpdjiaaGreatDoorPart5
namespace Go.Proofs.YtgaoeoijdpdjiaaGreatDoor
open Go.RowKit
theorem within_any (v n : Int) (w : World) : Calls Tryz.prog 164 #[.int .i64 v, .int .i64 n] w fun e w' => e = .returned (.bool (decide (0 ≤ v ∧ v < n))) ∧ w' = w := by
  by_cases h0 : 0 ≤ v
  · by_cases h1 : v < n
    · have e : decide (0 ≤ v ∧ v < n) = true := by simp [h0, h1]
      rw [e]
      go_enter Tryz.func164, Tryz.ntmps164
      go_wp2
      go_ret
      exact ⟨rfl, rfl⟩
    · have e : decide (0 ≤ v ∧ v < n) = false := by simp [h1]
      rw [e]
      go_enter Tryz.func164, Tryz.ntmps164
      go_wp2
      go_ret
      exact ⟨rfl, rfl⟩
  · have e : decide (0 ≤ v ∧ v < n) = false := by simp [h0]
    rw [e]
    go_enter Tryz.func164, Tryz.ntmps164
    go_wp2
    go_ret
    exact ⟨rfl, rfl⟩
theorem setsLeaves_any (k b x l : Int) (t : Nat) (w : World) (h1 : 1 ≤ t) (h2 : t ≤ 4) :
    Calls Tryz.prog 156 #[.agg #[.int .i64 k, .int .i64 b, .int .i64 x, .int .i64 t, .int .i64 l]] w fun e w' => e = .returned (.int .i64 ((2 ^ t : Nat) : Int)) ∧ Below w.heap.size w w' := by
  rcases (show t = 1 ∨ t = 2 ∨ t = 3 ∨ t = 4 by omega) with rfl | rfl | rfl | rfl
  all_goals
    go_enter Tryz.func156, Tryz.ntmps156
    go_wp2
    go_ret
    exact ⟨rfl, (Below.refl _ _).alloc (Nat.le_refl _) _⟩
set_option maxHeartbeats 4000000 in
theorem trees_any (k b x : Int) (t l q : Nat) (w : World) (h1 : 1 ≤ t) (h2 : t ≤ 4) (h3 : l ≤ 3) (h4 : q < l) :
    Calls Tryz.prog 236 #[.agg #[.int .i64 k, .int .i64 b, .int .i64 x, .int .i64 t, .int .i64 l], .int .i64 q] w fun e w' => e = .returned (.int .i64 ((2 ^ (t * (l - 1 - q)) : Nat) : Int)) ∧ Below w.heap.size w w' := by
  rcases (show t = 1 ∨ t = 2 ∨ t = 3 ∨ t = 4 by omega) with rfl | rfl | rfl | rfl <;> rcases (show (l = 1 ∧ q = 0) ∨ (l = 2 ∧ q = 0) ∨ (l = 2 ∧ q = 1) ∨ (l = 3 ∧ q = 0) ∨ (l = 3 ∧ q = 1) ∨ (l = 3 ∧ q = 2) by omega) with ⟨rfl, rfl⟩ | ⟨rfl, rfl⟩ | ⟨rfl, rfl⟩ | ⟨rfl, rfl⟩ | ⟨rfl, rfl⟩ | ⟨rfl, rfl⟩
  all_goals
    go_enter Tryz.func236, Tryz.ntmps236
    go_wp2
    go_ret
    exact ⟨rfl, (Below.refl _ _).alloc (Nat.le_refl _) _⟩
/-- Is it the place of a leaf of some tree, whatever its chain? -/
def leafB (t l : Nat) (p0 p1 p2 : Int) : Bool := decide (0 ≤ p0 ∧ p0 < l) && (decide (0 ≤ p1 ∧ p1 < ((2 ^ (t * (l - 1 - p0.toNat)) : Nat) : Int)) && decide (0 ≤ p2 ∧ p2 < ((2 ^ t : Nat) : Int)))
end Go.Proofs.YtgaoeoijdpdjiaaGreatDoor

namespace Go.Proofs.YtgaoeoijdpdjiaaGreatDoor
open Go.RowKit
set_option maxRecDepth 20000 in
set_option maxHeartbeats 8000000 in
theorem placed_5 (k x a0 a1 a3 a4 a5 : Int) (b t l q ch : Nat) (p1 p2 p3 : Int) (w : World) (h2 : t ≤ 4) (h4 : l ≤ 3) (hq : q < l)
    (hsz : ∀ V : World, Calls Tryz.prog 89 #[.agg #[.int .i64 k, .int .i64 b, .int .i64 x, .int .i64 t, .int .i64 l]] V fun r w' => r = .returned (.agg #[.int .i64 a0, .int .i64 a1, .int .i64 ch, .int .i64 a3, .int .i64 a4, .int .i64 a5]) ∧ Below V.heap.size V w') (e1 : 0 ≤ p1) (e2 : p1 < ((((2 ^ t) ^ (l - 1 - q) : Nat)) : Int)) (e3 : 0 ≤ p2) (e4 : p2 < (((2 ^ t : Nat)) : Int)) (e5 : p3 < 0) :
    Calls Tryz.prog 51 #[.agg #[.int .i64 k, .int .i64 b, .int .i64 x, .int .i64 t, .int .i64 l], .agg #[.int .i64 q, .int .i64 p1, .int .i64 p2, .int .i64 p3]] w fun e w' => e = .returned (.bool false) ∧ Below w.heap.size w w' := by
  have ha : 2 ^ t ≤ 16 := Nat.le_trans (Nat.pow_le_pow_right (by decide) h2) (by decide)
  have hpl : (2 ^ t) ^ (l - 1 - q) ≤ 65536 := Nat.le_trans (Nat.pow_le_pow_left ha _) (Nat.le_trans (Nat.pow_le_pow_right (by decide) (show l - 1 - q ≤ 2 by omega)) (by decide))
  have HLV := hide (fun V : World => leaves_any t k b x l V h2)
  have HPW := hide (fun V : World => power_any (2 ^ t) (l - 1 - q) V ha (by omega) hpl Nat.one_le_two_pow)
  rw [show ((l - 1 - q : Nat) : Int) = (l : Int) - 1 - (q : Int) by omega] at HPW
  generalize ((2 ^ t) ^ (l - 1 - q) : Nat) = tr at HPW e2
  generalize (2 ^ t : Nat) = lv at HLV HPW e4
  clear ha hpl
  have HSZ := hide hsz
  have g0 : ¬ ((q : Int) < 0) := by omega
  have g1 : ¬ ((l : Int) ≤ (q : Int)) := by omega
  have hwa : IntKind.i64.wrap ((l : Int) - 1) = (l : Int) - 1 := by rw [IntKind.wrap_i64]; omega
  have hwb : IntKind.i64.wrap ((l : Int) - 1 - (q : Int)) = (l : Int) - 1 - (q : Int) := by rw [IntKind.wrap_i64]; omega
  obtain ⟨W0, hW⟩ : ∃ W0, (w.alloc (.cells #[.int .i64 k, .int .i64 b, .int .i64 x, .int .i64 t, .int .i64 l] 23)).alloc (.cells #[.int .i64 q, .int .i64 p1, .int .i64 p2, .int .i64 p3] 27) = W0 := ⟨_, rfl⟩
  have HF := hide (show FiveC w.heap.size W0 k b x t l by subst hW; refine ⟨?_, ?_, ?_, ?_, ?_⟩ <;> simp [go_sem])
  have HP := hide (show FourC (w.heap.size + 1) W0 q p1 p2 p3 by subst hW; refine ⟨?_, ?_, ?_, ?_⟩ <;> simp [go_sem])
  have HB := hide (show Below w.heap.size w W0 by subst hW; exact ((Below.refl _ _).alloc (Nat.le_refl _) _).alloc (by simp) _)
  have hz : W0.heap.size ≤ w.heap.size + 2 := by subst hW; simp
  have hz' : w.heap.size + 2 ≤ W0.heap.size := by subst hW; simp
  obtain ⟨c0, c1, c2, c3, c4⟩ := HF.out
  obtain ⟨d0, d1, d2, d3⟩ := HP.out
  clear hsz
  go_enter Tryz.func51, Tryz.ntmps51
  go_wp2_with fail
  try rw [hW]
  refine (HSZ.out _).mono ?_
  rintro e w1 ⟨rfl, hb1⟩
  have HB1 := hide (show Below W0.heap.size W0 (w1.alloc (.cells #[.int .i64 a0, .int .i64 a1, .int .i64 ch, .int .i64 a3, .int .i64 a4, .int .i64 a5] 127)) from (hb1.mono (Nat.le_refl _)).alloc hb1.size _)
  have HZ := hide (Blk.new w1 [.int .i64 a0, .int .i64 a1, .int .i64 ch, .int .i64 a3, .int .i64 a4, .int .i64 a5] 127)
  have hz1 : (w1.alloc (.cells #[.int .i64 a0, .int .i64 a1, .int .i64 ch, .int .i64 a3, .int .i64 a4, .int .i64 a5] 127)).heap.size = w1.heap.size + 1 := by simp
  have hzz := hb1.size
  obtain ⟨c0', c1', c2', c3', c4'⟩ := HF.out.below hb1 (by omega)
  obtain ⟨d0', d1', d2', d3'⟩ := HP.out.below hb1 (by omega)
  clear hb1 c0 c1 c2 c3 c4 d0 d1 d2 d3 hW
  go_wp2_with fail
  obtain ⟨W1, hW1⟩ : ∃ W1, w1.alloc (.cells #[.int .i64 a0, .int .i64 a1, .int .i64 ch, .int .i64 a3, .int .i64 a4, .int .i64 a5] 127) = W1 := ⟨_, rfl⟩
  rw [hW1] at HB1 HZ hz1 ⊢
  clear hW1 c0' c1' c2' c3' c4' d0' d1' d2' d3'
  have HS := hide (fun (V : World) (h : Below W1.heap.size W1 V) => (by
    have h0 := heldB HB1.out (h.mono (Nat.le_refl _)) (Nat.le_refl _)
    obtain ⟨c0, c1, c2, c3, c4⟩ := HF.out.below h0 (by omega)
    obtain ⟨d0, d1, d2, d3⟩ := HP.out.below h0 (by omega)
    exact ⟨c0, c1, c2, c3, c4, d0, d1, d2, d3, (HZ.out.on h).cell 2, h⟩ : V.cell? ⟨w.heap.size, 0, none⟩ = some (.int .i64 k) ∧ V.cell? ⟨w.heap.size, 1, none⟩ = some (.int .i64 b) ∧ V.cell? ⟨w.heap.size, 2, none⟩ = some (.int .i64 x) ∧ V.cell? ⟨w.heap.size, 3, none⟩ = some (.int .i64 t) ∧ V.cell? ⟨w.heap.size, 4, none⟩ = some (.int .i64 l) ∧ V.cell? ⟨w.heap.size + 1, 0, none⟩ = some (.int .i64 q) ∧ V.cell? ⟨w.heap.size + 1, 1, none⟩ = some (.int .i64 p1) ∧ V.cell? ⟨w.heap.size + 1, 2, none⟩ = some (.int .i64 p2) ∧ V.cell? ⟨w.heap.size + 1, 3, none⟩ = some (.int .i64 p3) ∧ V.cell? ⟨w1.heap.size, 2, none⟩ = some (.int .i64 ch) ∧ Below W1.heap.size W1 V))
  go_region_held3 (fun V => V.cell? ⟨w.heap.size, 0, none⟩ = some (.int .i64 k) ∧ V.cell? ⟨w.heap.size, 1, none⟩ = some (.int .i64 b) ∧ V.cell? ⟨w.heap.size, 2, none⟩ = some (.int .i64 x) ∧ V.cell? ⟨w.heap.size, 3, none⟩ = some (.int .i64 t) ∧ V.cell? ⟨w.heap.size, 4, none⟩ = some (.int .i64 l) ∧ V.cell? ⟨w.heap.size + 1, 0, none⟩ = some (.int .i64 q) ∧ V.cell? ⟨w.heap.size + 1, 1, none⟩ = some (.int .i64 p1) ∧ V.cell? ⟨w.heap.size + 1, 2, none⟩ = some (.int .i64 p2) ∧ V.cell? ⟨w.heap.size + 1, 3, none⟩ = some (.int .i64 p3) ∧ V.cell? ⟨w1.heap.size, 2, none⟩ = some (.int .i64 ch) ∧ Below W1.heap.size W1 V) (first | exact HS.out _ hS2 | exact HS.out _ hS1 | exact HS.out _ (Below.refl _ _).drew) (first | (go_at_call 90; refine (HLV.out _).mono ?_; rintro e w2 ⟨rfl, hb2⟩; have hS1 := heldB (Below.refl W1.heap.size W1).drew hb2 (Nat.le_refl _)) | (go_at_call 55; refine (HPW.out _).mono ?_; rintro e w3 ⟨rfl, rfl⟩; have hS2 := hS1))
  go_wp2_with fail
  have d1 : decide (0 ≤ p1) = true := by simp; omega
  have d2 : decide (p1 < (tr : Int)) = true := by simp; omega
  have d3 : decide (0 ≤ p2) = true := by simp; omega
  have d4 : decide (p2 < (lv : Int)) = true := by simp; omega
  have d5 : decide (0 ≤ p3) = false := by simp; omega
  clear e1 e2 e3 e4 e5
  refine wp_region_held_drew (S := fun V => V.cell? ⟨w.heap.size, 0, none⟩ = some (.int .i64 k) ∧ V.cell? ⟨w.heap.size, 1, none⟩ = some (.int .i64 b) ∧ V.cell? ⟨w.heap.size, 2, none⟩ = some (.int .i64 x) ∧ V.cell? ⟨w.heap.size, 3, none⟩ = some (.int .i64 t) ∧ V.cell? ⟨w.heap.size, 4, none⟩ = some (.int .i64 l) ∧ V.cell? ⟨w.heap.size + 1, 0, none⟩ = some (.int .i64 q) ∧ V.cell? ⟨w.heap.size + 1, 1, none⟩ = some (.int .i64 p1) ∧ V.cell? ⟨w.heap.size + 1, 2, none⟩ = some (.int .i64 p2) ∧ V.cell? ⟨w.heap.size + 1, 3, none⟩ = some (.int .i64 p3) ∧ V.cell? ⟨w1.heap.size, 2, none⟩ = some (.int .i64 ch) ∧ Below W1.heap.size W1 V) (by kernel_rfl) (HS.out _ (hS2.drew)) (fun hHeld => ?_)
  refine wpAnyH_take (i := 0) (oi := ?oip0) (v := ?vp0) ?hip0 (by kernel_rfl) (by kernel_rfl) (by kernel_rfl) ?hQp0 (Or.inl ⟨?h1p0, ?hyp0⟩) hHeld ?restp0
  case hip0 => (simp only [List.getElem?_toArray, List.getElem?_cons_zero]; rfl)
  case hQp0 => exact fun _ _ _ h => h
  case h1p0 => rfl
  case hyp0 => intro V hSV; (try dsimp only at hSV); go_simp; (try with_reducible rfl)
  try simp only [Act.put, List.setIfInBounds_toArray, List.set_cons_zero, List.set_cons_succ]
  refine wpAnyH_take (i := 1) (oi := ?oip1) (v := ?vp1) ?hip1 (by kernel_rfl) (by kernel_rfl) (by kernel_rfl) ?hQp1 (Or.inl ⟨?h1p1, ?hyp1⟩) hHeld ?restp1
  case hip1 => (simp only [List.getElem?_toArray, List.getElem?_cons_succ, List.getElem?_cons_zero]; rfl)
  case hQp1 => exact fun _ _ _ h => h
  case h1p1 => rfl
  case hyp1 => intro V hSV; (try dsimp only at hSV); go_simp; (try with_reducible rfl)
  try simp only [Act.put, List.setIfInBounds_toArray, List.set_cons_zero, List.set_cons_succ]
  refine wpAnyH_take (i := 2) (oi := ?oip2) (v := ?vp2) ?hip2 (by kernel_rfl) (by kernel_rfl) (by kernel_rfl) ?hQp2 (Or.inl ⟨?h1p2, ?hyp2⟩) hHeld ?restp2
  case hip2 => (simp only [List.getElem?_toArray, List.getElem?_cons_succ, List.getElem?_cons_zero]; rfl)
  case hQp2 => exact fun _ _ _ h => h
  case h1p2 => rfl
  case hyp2 => intro V hSV; (try dsimp only at hSV); go_simp; (try with_reducible rfl)
  try simp only [Act.put, List.setIfInBounds_toArray, List.set_cons_zero, List.set_cons_succ]
  refine wpAnyH_take (i := 3) (oi := ?oip3) (v := ?vp3) ?hip3 (by kernel_rfl) (by kernel_rfl) (by kernel_rfl) ?hQp3 (Or.inl ⟨?h1p3, ?hyp3⟩) hHeld ?restp3
  case hip3 => (simp only [List.getElem?_toArray, List.getElem?_cons_succ, List.getElem?_cons_zero]; rfl)
  case hQp3 => exact fun _ _ _ h => h
  case h1p3 => rfl
  case hyp3 => intro V hSV; (try dsimp only at hSV); go_simp; (try with_reducible rfl)
  try simp only [Act.put, List.setIfInBounds_toArray, List.set_cons_zero, List.set_cons_succ]
  refine wpAnyH_take (i := 4) (oi := ?oip4) (v := ?vp4) ?hip4 (by kernel_rfl) (by kernel_rfl) (by kernel_rfl) ?hQp4 (Or.inl ⟨?h1p4, ?hyp4⟩) hHeld ?restp4
  case hip4 => (simp only [List.getElem?_toArray, List.getElem?_cons_succ, List.getElem?_cons_zero]; rfl)
  case hQp4 => exact fun _ _ _ h => h
  case h1p4 => rfl
  case hyp4 => intro V hSV; (try dsimp only at hSV); go_simp; (try with_reducible rfl)
  try simp only [Act.put, List.setIfInBounds_toArray, List.set_cons_zero, List.set_cons_succ]
  refine wpAnyH_take (i := 5) (oi := ?oip5) (v := ?vp5) ?hip5 (by kernel_rfl) (by kernel_rfl) (by kernel_rfl) ?hQp5 (Or.inl ⟨?h1p5, ?hyp5⟩) hHeld ?restp5
  case hip5 => (simp only [List.getElem?_toArray, List.getElem?_cons_succ, List.getElem?_cons_zero]; rfl)
  case hQp5 => exact fun _ _ _ h => h
  case h1p5 => rfl
  case hyp5 => intro V hSV; (try dsimp only at hSV); go_simp; (try with_reducible rfl)
  try simp only [Act.put, List.setIfInBounds_toArray, List.set_cons_zero, List.set_cons_succ]
  refine wpAnyH_take (i := 6) (oi := ?oip6) (v := ?vp6) ?hip6 (by kernel_rfl) (by kernel_rfl) (by kernel_rfl) ?hQp6 (Or.inl ⟨?h1p6, ?hyp6⟩) hHeld ?restp6
  case hip6 => (simp only [List.getElem?_toArray, List.getElem?_cons_succ, List.getElem?_cons_zero]; rfl)
  case hQp6 => exact fun _ _ _ h => h
  case h1p6 => rfl
  case hyp6 => intro V hSV; (try dsimp only at hSV); go_simp; (try with_reducible rfl)
  try simp only [Act.put, List.setIfInBounds_toArray, List.set_cons_zero, List.set_cons_succ]
  refine wpAnyH_take (i := 7) (oi := ?oip7) (v := ?vp7) ?hip7 (by kernel_rfl) (by kernel_rfl) (by kernel_rfl) ?hQp7 (Or.inl ⟨?h1p7, ?hyp7⟩) hHeld ?restp7
  case hip7 => (simp only [List.getElem?_toArray, List.getElem?_cons_succ, List.getElem?_cons_zero]; rfl)
  case hQp7 => exact fun _ _ _ h => h
  case h1p7 => rfl
  case hyp7 => intro V hSV; (try dsimp only at hSV); go_simp; (try with_reducible rfl)
  try simp only [Act.put, List.setIfInBounds_toArray, List.set_cons_zero, List.set_cons_succ]
  refine wpAnyH_take (i := 8) (oi := ?oip8) (v := ?vp8) ?hip8 (by kernel_rfl) (by kernel_rfl) (by kernel_rfl) ?hQp8 (Or.inl ⟨?h1p8, ?hyp8⟩) hHeld ?restp8
  case hip8 => (simp only [List.getElem?_toArray, List.getElem?_cons_succ, List.getElem?_cons_zero]; rfl)
  case hQp8 => exact fun _ _ _ h => h
  case h1p8 => rfl
  case hyp8 => intro V hSV; (try dsimp only at hSV); go_simp; (try with_reducible rfl)
  try simp only [Act.put, List.setIfInBounds_toArray, List.set_cons_zero, List.set_cons_succ]
  refine wpAnyH_take (i := 9) (oi := ?oip9) (v := ?vp9) ?hip9 (by kernel_rfl) (by kernel_rfl) (by kernel_rfl) ?hQp9 (Or.inl ⟨?h1p9, ?hyp9⟩) hHeld ?restp9
  case hip9 => (simp only [List.getElem?_toArray, List.getElem?_cons_succ, List.getElem?_cons_zero]; rfl)
  case hQp9 => exact fun _ _ _ h => h
  case h1p9 => rfl
  case hyp9 => intro V hSV; (try dsimp only at hSV); go_simp; (try with_reducible rfl)
  try simp only [Act.put, List.setIfInBounds_toArray, List.set_cons_zero, List.set_cons_succ]
  refine wpAnyH_take (i := 10) (oi := ?oip10) (v := ?vp10) ?hip10 (by kernel_rfl) (by kernel_rfl) (by kernel_rfl) ?hQp10 (Or.inl ⟨?h1p10, ?hyp10⟩) hHeld ?restp10
  case hip10 => (simp only [List.getElem?_toArray, List.getElem?_cons_succ, List.getElem?_cons_zero]; rfl)
  case hQp10 => exact fun _ _ _ h => h
  case h1p10 => rfl
  case hyp10 => intro V hSV; (try dsimp only at hSV); go_simp; (try with_reducible rfl)
  try simp only [Act.put, List.setIfInBounds_toArray, List.set_cons_zero, List.set_cons_succ]
  refine wpAnyH_take (i := 11) (oi := ?oip11) (v := ?vp11) ?hip11 (by kernel_rfl) (by kernel_rfl) (by kernel_rfl) ?hQp11 (Or.inl ⟨?h1p11, ?hyp11⟩) hHeld ?restp11
  case hip11 => (simp only [List.getElem?_toArray, List.getElem?_cons_succ, List.getElem?_cons_zero]; rfl)
  case hQp11 => exact fun _ _ _ h => h
  case h1p11 => rfl
  case hyp11 => intro V hSV; (try dsimp only at hSV); go_simp; (try with_reducible rfl)
  try simp only [Act.put, List.setIfInBounds_toArray, List.set_cons_zero, List.set_cons_succ]
  refine wpAnyH_take (i := 12) (oi := ?oip12) (v := ?vp12) ?hip12 (by kernel_rfl) (by kernel_rfl) (by kernel_rfl) ?hQp12 (Or.inl ⟨?h1p12, ?hyp12⟩) hHeld ?restp12
  case hip12 => (simp only [List.getElem?_toArray, List.getElem?_cons_succ, List.getElem?_cons_zero]; rfl)
  case hQp12 => exact fun _ _ _ h => h
  case h1p12 => rfl
  case hyp12 => intro V hSV; (try dsimp only at hSV); go_simp; (try with_reducible rfl)
  try simp only [Act.put, List.setIfInBounds_toArray, List.set_cons_zero, List.set_cons_succ]
  refine wpAnyH_take (i := 13) (oi := ?oip13) (v := ?vp13) ?hip13 (by kernel_rfl) (by kernel_rfl) (by kernel_rfl) ?hQp13 (Or.inl ⟨?h1p13, ?hyp13⟩) hHeld ?restp13
  case hip13 => (simp only [List.getElem?_toArray, List.getElem?_cons_succ, List.getElem?_cons_zero]; rfl)
  case hQp13 => exact fun _ _ _ h => h
  case h1p13 => rfl
  case hyp13 => intro V hSV; (try dsimp only at hSV); go_simp; (try with_reducible rfl)
  try simp only [Act.put, List.setIfInBounds_toArray, List.set_cons_zero, List.set_cons_succ]
  refine wpAnyH_take (i := 14) (oi := ?oip14) (v := ?vp14) ?hip14 (by kernel_rfl) (by kernel_rfl) (by kernel_rfl) ?hQp14 (Or.inl ⟨?h1p14, ?hyp14⟩) hHeld ?restp14
  case hip14 => (simp only [List.getElem?_toArray, List.getElem?_cons_succ, List.getElem?_cons_zero]; rfl)
  case hQp14 => exact fun _ _ _ h => h
  case h1p14 => rfl
  case hyp14 => intro V hSV; (try dsimp only at hSV); go_simp; (try with_reducible rfl)
  try simp only [Act.put, List.setIfInBounds_toArray, List.set_cons_zero, List.set_cons_succ]
  refine wpAnyH_take (i := 15) (oi := ?oip15) (v := ?vp15) ?hip15 (by kernel_rfl) (by kernel_rfl) (by kernel_rfl) ?hQp15 (Or.inl ⟨?h1p15, ?hyp15⟩) hHeld ?restp15
  case hip15 => (simp only [List.getElem?_toArray, List.getElem?_cons_succ, List.getElem?_cons_zero]; rfl)
  case hQp15 => exact fun _ _ _ h => h
  case h1p15 => rfl
  case hyp15 => intro V hSV; (try dsimp only at hSV); go_simp; (try with_reducible rfl)
  try simp only [Act.put, List.setIfInBounds_toArray, List.set_cons_zero, List.set_cons_succ]
  refine wpAnyH_take (i := 16) (oi := ?oip16) (v := ?vp16) ?hip16 (by kernel_rfl) (by kernel_rfl) (by kernel_rfl) ?hQp16 (Or.inl ⟨?h1p16, ?hyp16⟩) hHeld ?restp16
  case hip16 => (simp only [List.getElem?_toArray, List.getElem?_cons_succ, List.getElem?_cons_zero]; rfl)
  case hQp16 => exact fun _ _ _ h => h
  case h1p16 => rfl
  case hyp16 => intro V hSV; (try dsimp only at hSV); go_simp; (try with_reducible rfl)
  try simp only [Act.put, List.setIfInBounds_toArray, List.set_cons_zero, List.set_cons_succ]
  refine wpAnyH_take (i := 17) (oi := ?oip17) (v := ?vp17) ?hip17 (by kernel_rfl) (by kernel_rfl) (by kernel_rfl) ?hQp17 (Or.inl ⟨?h1p17, ?hyp17⟩) hHeld ?restp17
  case hip17 => (simp only [List.getElem?_toArray, List.getElem?_cons_succ, List.getElem?_cons_zero]; rfl)
  case hQp17 => exact fun _ _ _ h => h
  case h1p17 => rfl
  case hyp17 => intro V hSV; (try dsimp only at hSV); go_simp; (try with_reducible rfl)
  try simp only [Act.put, List.setIfInBounds_toArray, List.set_cons_zero, List.set_cons_succ]
  refine wpAnyH_ready (rs := [18]) (by kernel_rfl) (by simp) ?_
  refine AllReadyH.cons (o := ?op18) ?hop18 (fun K hK => ?hsp18) AllReadyH.nil
  case hop18 => (simp only [List.getElem?_toArray, List.getElem?_cons_succ, List.getElem?_cons_zero]; rfl)
  go_simp
  refine (HLV.out _).mono ?_
  rintro e w4 ⟨rfl, hb4⟩
  have hS4 := heldB hS2.drew hb4 (Nat.le_refl _)
  try go_wp2_with fail
  refine hK.out _ _ (HS.out _ (hS4)) (fun hHeld => ?_)
  clear hK K
  try simp only [Act.put, List.setIfInBounds_toArray, List.set_cons_zero, List.set_cons_succ]
  refine wpAnyH_take (i := 19) (oi := ?oip19) (v := ?vp19) ?hip19 (by kernel_rfl) (by kernel_rfl) (by kernel_rfl) ?hQp19 (Or.inl ⟨?h1p19, ?hyp19⟩) hHeld ?restp19
  case hip19 => (simp only [List.getElem?_toArray, List.getElem?_cons_succ, List.getElem?_cons_zero]; rfl)
  case hQp19 => exact fun _ _ _ h => h
  case h1p19 => rfl
  case hyp19 => intro V hSV; (try dsimp only at hSV); go_simp; (try with_reducible rfl)
  try simp only [Act.put, List.setIfInBounds_toArray, List.set_cons_zero, List.set_cons_succ]
  refine wpAnyH_take (i := 20) (oi := ?oip20) (v := ?vp20) ?hip20 (by kernel_rfl) (by kernel_rfl) (by kernel_rfl) ?hQp20 (Or.inl ⟨?h1p20, ?hyp20⟩) hHeld ?restp20
  case hip20 => (simp only [List.getElem?_toArray, List.getElem?_cons_succ, List.getElem?_cons_zero]; rfl)
  case hQp20 => exact fun _ _ _ h => h
  case h1p20 => rfl
  case hyp20 => intro V hSV; (try dsimp only at hSV); go_simp; (try with_reducible rfl)
  try simp only [Act.put, List.setIfInBounds_toArray, List.set_cons_zero, List.set_cons_succ]
  refine wpAnyH_take (i := 21) (oi := ?oip21) (v := ?vp21) ?hip21 (by kernel_rfl) (by kernel_rfl) (by kernel_rfl) ?hQp21 (Or.inl ⟨?h1p21, ?hyp21⟩) hHeld ?restp21
  case hip21 => (simp only [List.getElem?_toArray, List.getElem?_cons_succ, List.getElem?_cons_zero]; rfl)
  case hQp21 => exact fun _ _ _ h => h
  case h1p21 => rfl
  case hyp21 => intro V hSV; (try dsimp only at hSV); go_simp; (try with_reducible rfl)
  try simp only [Act.put, List.setIfInBounds_toArray, List.set_cons_zero, List.set_cons_succ]
  refine wpAnyH_take (i := 22) (oi := ?oip22) (v := ?vp22) ?hip22 (by kernel_rfl) (by kernel_rfl) (by kernel_rfl) ?hQp22 (Or.inl ⟨?h1p22, ?hyp22⟩) hHeld ?restp22
  case hip22 => (simp only [List.getElem?_toArray, List.getElem?_cons_succ, List.getElem?_cons_zero]; rfl)
  case hQp22 => exact fun _ _ _ h => h
  case h1p22 => rfl
  case hyp22 => intro V hSV; (try dsimp only at hSV); go_simp; (try with_reducible rfl)
  try simp only [Act.put, List.setIfInBounds_toArray, List.set_cons_zero, List.set_cons_succ]
  refine wpAnyH_take (i := 23) (oi := ?oip23) (v := ?vp23) ?hip23 (by kernel_rfl) (by kernel_rfl) (by kernel_rfl) ?hQp23 (Or.inl ⟨?h1p23, ?hyp23⟩) hHeld ?restp23
  case hip23 => (simp only [List.getElem?_toArray, List.getElem?_cons_succ, List.getElem?_cons_zero]; rfl)
  case hQp23 => exact fun _ _ _ h => h
  case h1p23 => rfl
  case hyp23 => intro V hSV; (try dsimp only at hSV); go_simp; (try with_reducible rfl)
  try simp only [Act.put, List.setIfInBounds_toArray, List.set_cons_zero, List.set_cons_succ]
  refine wpAnyH_take (i := 24) (oi := ?oip24) (v := ?vp24) ?hip24 (by kernel_rfl) (by kernel_rfl) (by kernel_rfl) ?hQp24 (Or.inl ⟨?h1p24, ?hyp24⟩) hHeld ?restp24
  case hip24 => (simp only [List.getElem?_toArray, List.getElem?_cons_succ, List.getElem?_cons_zero]; rfl)
  case hQp24 => exact fun _ _ _ h => h
  case h1p24 => rfl
  case hyp24 => intro V hSV; (try dsimp only at hSV); go_simp; (try with_reducible rfl)
  try simp only [Act.put, List.setIfInBounds_toArray, List.set_cons_zero, List.set_cons_succ]
  refine wpAnyH_take (i := 25) (oi := ?oip25) (v := ?vp25) ?hip25 (by kernel_rfl) (by kernel_rfl) (by kernel_rfl) ?hQp25 (Or.inl ⟨?h1p25, ?hyp25⟩) hHeld ?restp25
  case hip25 => (simp only [List.getElem?_toArray, List.getElem?_cons_succ, List.getElem?_cons_zero]; rfl)
  case hQp25 => exact fun _ _ _ h => h
  case h1p25 => rfl
  case hyp25 => intro V hSV; (try dsimp only at hSV); go_simp; (try with_reducible rfl)
  try simp only [Act.put, List.setIfInBounds_toArray, List.set_cons_zero, List.set_cons_succ]
  refine wpAnyH_take (i := 26) (oi := ?oip26) (v := ?vp26) ?hip26 (by kernel_rfl) (by kernel_rfl) (by kernel_rfl) ?hQp26 (Or.inl ⟨?h1p26, ?hyp26⟩) hHeld ?restp26
  case hip26 => (simp only [List.getElem?_toArray, List.getElem?_cons_succ, List.getElem?_cons_zero]; rfl)
  case hQp26 => exact fun _ _ _ h => h
  case h1p26 => rfl
  case hyp26 => intro V hSV; (try dsimp only at hSV); go_simp; (try with_reducible rfl)
  try simp only [Act.put, List.setIfInBounds_toArray, List.set_cons_zero, List.set_cons_succ]
  refine wpAnyH_take (i := 27) (oi := ?oip27) (v := undef) ?hip27 (by kernel_rfl) (by kernel_rfl) (by kernel_rfl) ?hQp27 (Or.inr ⟨?h1p27, rfl⟩) hHeld ?restp27
  case hip27 => (simp only [List.getElem?_toArray, List.getElem?_cons_succ, List.getElem?_cons_zero]; rfl)
  case hQp27 => exact fun _ _ _ h => h
  case h1p27 => rfl
  try simp only [Act.put, List.setIfInBounds_toArray, List.set_cons_zero, List.set_cons_succ]
  refine wpAnyH_take (i := 28) (oi := ?oip28) (v := undef) ?hip28 (by kernel_rfl) (by kernel_rfl) (by kernel_rfl) ?hQp28 (Or.inr ⟨?h1p28, rfl⟩) hHeld ?restp28
  case hip28 => (simp only [List.getElem?_toArray, List.getElem?_cons_succ, List.getElem?_cons_zero]; rfl)
  case hQp28 => exact fun _ _ _ h => h
  case h1p28 => rfl
  try simp only [Act.put, List.setIfInBounds_toArray, List.set_cons_zero, List.set_cons_succ]
  refine wpAnyH_take (i := 29) (oi := ?oip29) (v := undef) ?hip29 (by kernel_rfl) (by kernel_rfl) (by kernel_rfl) ?hQp29 (Or.inr ⟨?h1p29, rfl⟩) hHeld ?restp29
  case hip29 => (simp only [List.getElem?_toArray, List.getElem?_cons_succ, List.getElem?_cons_zero]; rfl)
  case hQp29 => exact fun _ _ _ h => h
  case h1p29 => rfl
  try simp only [Act.put, List.setIfInBounds_toArray, List.set_cons_zero, List.set_cons_succ]
  refine wpAnyH_take (i := 30) (oi := ?oip30) (v := undef) ?hip30 (by kernel_rfl) (by kernel_rfl) (by kernel_rfl) ?hQp30 (Or.inr ⟨?h1p30, rfl⟩) hHeld ?restp30
  case hip30 => (simp only [List.getElem?_toArray, List.getElem?_cons_succ, List.getElem?_cons_zero]; rfl)
  case hQp30 => exact fun _ _ _ h => h
  case h1p30 => rfl
  try simp only [Act.put, List.setIfInBounds_toArray, List.set_cons_zero, List.set_cons_succ]
  refine wpAnyH_take (i := 31) (oi := ?oip31) (v := undef) ?hip31 (by kernel_rfl) (by kernel_rfl) (by kernel_rfl) ?hQp31 (Or.inr ⟨?h1p31, rfl⟩) hHeld ?restp31
  case hip31 => (simp only [List.getElem?_toArray, List.getElem?_cons_succ, List.getElem?_cons_zero]; rfl)
  case hQp31 => exact fun _ _ _ h => h
  case h1p31 => rfl
  try simp only [Act.put, List.setIfInBounds_toArray, List.set_cons_zero, List.set_cons_succ]
  refine wpAnyH_take (i := 32) (oi := ?oip32) (v := ?vp32) ?hip32 (by kernel_rfl) (by kernel_rfl) (by kernel_rfl) ?hQp32 (Or.inl ⟨?h1p32, ?hyp32⟩) hHeld ?restp32
  case hip32 => (simp only [List.getElem?_toArray, List.getElem?_cons_succ, List.getElem?_cons_zero]; rfl)
  case hQp32 => exact fun _ _ _ h => h
  case h1p32 => rfl
  case hyp32 => intro V hSV; (try dsimp only at hSV); go_simp; (try with_reducible rfl)
  try simp only [Act.put, List.setIfInBounds_toArray, List.set_cons_zero, List.set_cons_succ]
  refine wpAnyH_take (i := 33) (oi := ?oip33) (v := ?vp33) ?hip33 (by kernel_rfl) (by kernel_rfl) (by kernel_rfl) ?hQp33 (Or.inl ⟨?h1p33, ?hyp33⟩) hHeld ?restp33
  case hip33 => (simp only [List.getElem?_toArray, List.getElem?_cons_succ, List.getElem?_cons_zero]; rfl)
  case hQp33 => exact fun _ _ _ h => h
  case h1p33 => rfl
  case hyp33 => intro V hSV; (try dsimp only at hSV); go_simp; (try with_reducible rfl)
  try simp only [Act.put, List.setIfInBounds_toArray, List.set_cons_zero, List.set_cons_succ]
  refine wpAnyH_done (by kernel_rfl) ?_ _
  go_wp2
  go_ret
  exact ⟨rfl, HB.out.trans ((HB1.out.trans ((hS4).mono (by omega))).mono (by omega))⟩
end Go.Proofs.YtgaoeoijdpdjiaaGreatDoor
