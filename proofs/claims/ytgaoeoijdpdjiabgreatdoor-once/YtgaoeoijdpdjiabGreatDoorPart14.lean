/-
  The program's within, Leaves, trees. The program's New: a tree. The program's Verify, its calls' answers being given. A signer that is not over; how far it is. The steps, one behind the other. The statement's own sown: seeds that are right, out of any texts. slices.Repeat of a list of one number. The steps by which a signer begins: sync, read, refuse. signet.Split, Join, Verify: what the calls below answer. The journal: a record is laid on the disk. A new row of texts. slices.Grow of nil. From a leaf up to the root: what a climb makes. A list of texts in memory, and what both sides say of its lengths.
-/
import Derived.Test.YtgaoeoijdpdjiabGreatDoorPart13
import Derived.Test.YtgaoeoijdpdjiabGreatDoorPart11
import Derived.Test.YtgaoeoijdpdjiabGreatDoorPart2
import Derived.Test.YtgaoeoijdpdjiabGreatDoorPart12
import Derived.Test.YtgaoeoijdpdjiabGreatDoorPart3
import Derived.Test.YtgaoeoijdpdjiabGreatDoorPart5
import Derived.Laws.CopyOwn
import Derived.Test.YtgaoeoijdpdjiabGreatDoorPart7
import Derived.Lib.AppendZeros
namespace Go.Proofs.YtgaoeoijdpdjiabGreatDoor
open Go.RowKit

theorem within_any (v n : Int) (w : World) : Calls Tryz.prog 234 #[.int .i64 v, .int .i64 n] w fun e w' => e = .returned (.bool (decide (0 ≤ v ∧ v < n))) ∧ w' = w := by
  by_cases h0 : 0 ≤ v
  · by_cases h1 : v < n
    · have e : decide (0 ≤ v ∧ v < n) = true := by simp [h0, h1]
      rw [e]
      go_enter Tryz.func234, Tryz.ntmps234
      go_wp2
      go_ret
      exact ⟨rfl, rfl⟩
    · have e : decide (0 ≤ v ∧ v < n) = false := by simp [h1]
      rw [e]
      go_enter Tryz.func234, Tryz.ntmps234
      go_wp2
      go_ret
      exact ⟨rfl, rfl⟩
  · have e : decide (0 ≤ v ∧ v < n) = false := by simp [h0]
    rw [e]
    go_enter Tryz.func234, Tryz.ntmps234
    go_wp2
    go_ret
    exact ⟨rfl, rfl⟩

theorem setsLeaves_any (k b x l : Int) (t : Nat) (w : World) (h1 : 1 ≤ t) (h2 : t ≤ 4) :
    Calls Tryz.prog 282 #[.agg #[.int .i64 k, .int .i64 b, .int .i64 x, .int .i64 t, .int .i64 l]] w fun e w' => e = .returned (.int .i64 ((2 ^ t : Nat) : Int)) ∧ Below w.heap.size w w' := by
  rcases (show t = 1 ∨ t = 2 ∨ t = 3 ∨ t = 4 by omega) with rfl | rfl | rfl | rfl
  all_goals
    go_enter Tryz.func282, Tryz.ntmps282
    go_wp2
    go_ret
    exact ⟨rfl, (Below.refl _ _).alloc (Nat.le_refl _) _⟩

set_option maxHeartbeats 4000000 in
theorem trees_any (k b x : Int) (t l q : Nat) (w : World) (h1 : 1 ≤ t) (h2 : t ≤ 4) (h3 : l ≤ 3) (h4 : q < l) :
    Calls Tryz.prog 329 #[.agg #[.int .i64 k, .int .i64 b, .int .i64 x, .int .i64 t, .int .i64 l], .int .i64 q] w fun e w' => e = .returned (.int .i64 ((2 ^ (t * (l - 1 - q)) : Nat) : Int)) ∧ Below w.heap.size w w' := by
  rcases (show t = 1 ∨ t = 2 ∨ t = 3 ∨ t = 4 by omega) with rfl | rfl | rfl | rfl <;> rcases (show (l = 1 ∧ q = 0) ∨ (l = 2 ∧ q = 0) ∨ (l = 2 ∧ q = 1) ∨ (l = 3 ∧ q = 0) ∨ (l = 3 ∧ q = 1) ∨ (l = 3 ∧ q = 2) by omega) with ⟨rfl, rfl⟩ | ⟨rfl, rfl⟩ | ⟨rfl, rfl⟩ | ⟨rfl, rfl⟩ | ⟨rfl, rfl⟩ | ⟨rfl, rfl⟩
  all_goals
    go_enter Tryz.func329, Tryz.ntmps329
    go_wp2
    go_ret
    exact ⟨rfl, (Below.refl _ _).alloc (Nat.le_refl _) _⟩

/-- Is it the place of a leaf of some tree, whatever its chain? -/
def leafB (t l : Nat) (p0 p1 p2 : Int) : Bool := decide (0 ≤ p0 ∧ p0 < l) && (decide (0 ≤ p1 ∧ p1 < ((2 ^ (t * (l - 1 - p0.toNat)) : Nat) : Int)) && decide (0 ≤ p2 ∧ p2 < ((2 ^ t : Nat) : Int)))

end Go.Proofs.YtgaoeoijdpdjiabGreatDoor

namespace Go.Proofs.YtgaoeoijdpdjiabGreatDoor
open Go.RowKit

set_option maxRecDepth 20000 in
set_option maxHeartbeats 8000000 in
theorem new_yes (k b x t l a0 a1 ch a3 a4 a5 : Int) (sec rnd pub : ByteArray) (p0 p1 p2 p3 : Int) (w : World) (hC : ∀ V : World, Calls Tryz.prog 155 #[.agg #[.int .i64 k, .int .i64 b, .int .i64 x, .int .i64 t, .int .i64 l]] V fun e w' => e = .returned (.tuple #[.agg #[.int .i64 a0, .int .i64 a1, .int .i64 ch, .int .i64 a3, .int .i64 a4, .int .i64 a5], .int .i64 0]) ∧ Below V.heap.size V w') (hV : ∀ V : World, Calls Tryz.prog 265 #[.agg #[.int .i64 k, .int .i64 b, .int .i64 x, .int .i64 t, .int .i64 l], .agg #[.string sec, .string rnd, .string pub]] V fun e w' => e = .returned (.bool true) ∧ Below V.heap.size V w') (hI : ∀ V : World, Calls Tryz.prog 266 #[.agg #[.int .i64 k, .int .i64 b, .int .i64 x, .int .i64 t, .int .i64 l], .agg #[.int .i64 p0, .int .i64 p1, .int .i64 p2, .int .i64 p3]] V fun e w' => e = .returned (.bool true) ∧ Below V.heap.size V w') :
    Calls Tryz.prog 208 #[.agg #[.int .i64 k, .int .i64 b, .int .i64 x, .int .i64 t, .int .i64 l], .agg #[.string sec, .string rnd, .string pub], .agg #[.int .i64 p0, .int .i64 p1, .int .i64 p2, .int .i64 p3]] w fun e w' => e = .returned (.tuple #[.agg #[.int .i64 k, .int .i64 b, .int .i64 x, .int .i64 t, .int .i64 l, .string sec, .string rnd, .string pub, .int .i64 p0, .int .i64 p1, .int .i64 p2, .int .i64 p3, .int .i64 ch], .int .i64 0]) ∧ Below w.heap.size w w' := by
  obtain ⟨W0, hW⟩ : ∃ W0, (((w.alloc (.cells #[.int .i64 k, .int .i64 b, .int .i64 x, .int .i64 t, .int .i64 l] 26)).alloc (.cells #[.string sec, .string rnd, .string pub] 42)).alloc (.cells #[.int .i64 p0, .int .i64 p1, .int .i64 p2, .int .i64 p3] 91)).alloc (.cells #[.int .i64 0, .int .i64 0, .int .i64 0, .int .i64 0, .int .i64 0, .string ⟨#[]⟩, .string ⟨#[]⟩, .string ⟨#[]⟩, .int .i64 0, .int .i64 0, .int .i64 0, .int .i64 0, .int .i64 0] 274) = W0 := ⟨_, rfl⟩
  have HF := hide (show FiveC w.heap.size W0 k b x t l by subst hW; refine ⟨?_, ?_, ?_, ?_, ?_⟩ <;> simp [go_sem])
  have HSE := hide (show W0.cell? ⟨w.heap.size + 1, 0, none⟩ = some (.string sec) ∧ W0.cell? ⟨w.heap.size + 1, 1, none⟩ = some (.string rnd) ∧ W0.cell? ⟨w.heap.size + 1, 2, none⟩ = some (.string pub) by subst hW; refine ⟨?_, ?_, ?_⟩ <;> simp [go_sem])
  have HP := hide (show FourC (w.heap.size + 1 + 1) W0 p0 p1 p2 p3 by subst hW; refine ⟨?_, ?_, ?_, ?_⟩ <;> simp [go_sem])
  have HB := hide (show Below w.heap.size w W0 by subst hW; exact ((((Below.refl _ _).alloc (Nat.le_refl _) _).alloc (by simp) _).alloc (by simp; omega) _).alloc (by simp; omega) _)
  have hz : W0.heap.size ≤ w.heap.size + 4 := by subst hW; simp
  have hz' : w.heap.size + 4 ≤ W0.heap.size := by subst hW; simp
  have HBK := hide (show Blk W0 (w.heap.size + 1 + 1 + 1) [.int .i64 0, .int .i64 0, .int .i64 0, .int .i64 0, .int .i64 0, .string ⟨#[]⟩, .string ⟨#[]⟩, .string ⟨#[]⟩, .int .i64 0, .int .i64 0, .int .i64 0, .int .i64 0, .int .i64 0] 274 by
    subst hW
    have h := Blk.new (((w.alloc (.cells #[.int .i64 k, .int .i64 b, .int .i64 x, .int .i64 t, .int .i64 l] 26)).alloc (.cells #[.string sec, .string rnd, .string pub] 42)).alloc (.cells #[.int .i64 p0, .int .i64 p1, .int .i64 p2, .int .i64 p3] 91)) [.int .i64 0, .int .i64 0, .int .i64 0, .int .i64 0, .int .i64 0, .string ⟨#[]⟩, .string ⟨#[]⟩, .string ⟨#[]⟩, .int .i64 0, .int .i64 0, .int .i64 0, .int .i64 0, .int .i64 0] 274
    simp only [World.size_alloc] at h
    exact h)
  have HS := hide (fun (V : World) (h : Below W0.heap.size W0 V) => (by
    obtain ⟨c0, c1, c2, c3, c4⟩ := HF.out.below h (by omega)
    obtain ⟨d0, d1, d2, d3⟩ := HP.out.below h (by omega)
    exact ⟨c0, c1, c2, c3, c4, (h.cell (p := ⟨w.heap.size + 1, 0, none⟩) (by show w.heap.size + 1 < _; omega)).trans HSE.out.1, (h.cell (p := ⟨w.heap.size + 1, 1, none⟩) (by show w.heap.size + 1 < _; omega)).trans HSE.out.2.1, (h.cell (p := ⟨w.heap.size + 1, 2, none⟩) (by show w.heap.size + 1 < _; omega)).trans HSE.out.2.2, d0, d1, d2, d3⟩ : V.cell? ⟨w.heap.size, 0, none⟩ = some (.int .i64 k) ∧ V.cell? ⟨w.heap.size, 1, none⟩ = some (.int .i64 b) ∧ V.cell? ⟨w.heap.size, 2, none⟩ = some (.int .i64 x) ∧ V.cell? ⟨w.heap.size, 3, none⟩ = some (.int .i64 t) ∧ V.cell? ⟨w.heap.size, 4, none⟩ = some (.int .i64 l) ∧ V.cell? ⟨w.heap.size + 1, 0, none⟩ = some (.string sec) ∧ V.cell? ⟨w.heap.size + 1, 1, none⟩ = some (.string rnd) ∧ V.cell? ⟨w.heap.size + 1, 2, none⟩ = some (.string pub) ∧ V.cell? ⟨w.heap.size + 1 + 1, 0, none⟩ = some (.int .i64 p0) ∧ V.cell? ⟨w.heap.size + 1 + 1, 1, none⟩ = some (.int .i64 p1) ∧ V.cell? ⟨w.heap.size + 1 + 1, 2, none⟩ = some (.int .i64 p2) ∧ V.cell? ⟨w.heap.size + 1 + 1, 3, none⟩ = some (.int .i64 p3)))
  obtain ⟨c0, c1, c2, c3, c4, f0, f1, f2, d0, d1, d2, d3⟩ := HS.out W0 (Below.refl _ _)
  have HC := hide hC
  have HV := hide hV
  have HI := hide hI
  clear hC hV hI
  go_enter Tryz.func208, Tryz.ntmps208
  go_wp2_with fail
  try rw [hW]
  refine (HC.out _).mono ?_
  rintro e w1 ⟨rfl, hb1⟩
  have HB1 := hide (hb1.alloc hb1.size (.cells #[.int .i64 a0, .int .i64 a1, .int .i64 ch, .int .i64 a3, .int .i64 a4, .int .i64 a5] 158))
  have hzz := hb1.size
  have HZ := hide (Blk.new w1 [.int .i64 a0, .int .i64 a1, .int .i64 ch, .int .i64 a3, .int .i64 a4, .int .i64 a5] 158)
  clear hb1 c0 c1 c2 c3 c4 f0 f1 f2 d0 d1 d2 d3 hW
  obtain ⟨c0, c1, c2, c3, c4, f0, f1, f2, d0, d1, d2, d3⟩ := HS.out (w1.alloc (.cells #[.int .i64 a0, .int .i64 a1, .int .i64 ch, .int .i64 a3, .int .i64 a4, .int .i64 a5] 158)) HB1.out
  go_wp2_with fail
  refine (HV.out _).mono ?_
  rintro e w2 ⟨rfl, hb2⟩
  have HB2 := hide (heldB HB1.out hb2 (Nat.le_refl _))
  have HZ2 := hide (HZ.out.on hb2)
  clear hb2 c0 c1 c2 c3 c4 f0 f1 f2 d0 d1 d2 d3
  obtain ⟨c0, c1, c2, c3, c4, f0, f1, f2, d0, d1, d2, d3⟩ := HS.out w2 HB2.out
  go_wp2_with fail
  refine (HI.out _).mono ?_
  rintro e w3 ⟨rfl, hb3⟩
  have HB3 := hide (heldB HB2.out hb3 (Nat.le_refl _))
  have HZ3 := hide (HZ2.out.on hb3)
  clear hb3 c0 c1 c2 c3 c4 f0 f1 f2 d0 d1 d2 d3
  obtain ⟨c0, c1, c2, c3, c4, f0, f1, f2, d0, d1, d2, d3⟩ := HS.out w3 HB3.out
  have zc := HZ3.out.cell 2
  simp only [List.getElem?_cons_zero, List.getElem?_cons_succ] at zc
  have bk := hide (HBK.out.below HB3.out (by omega))
  have y0 := bk.out.cell 0
  have y1 := bk.out.cell 1
  have y2 := bk.out.cell 2
  have y3 := bk.out.cell 3
  have y4 := bk.out.cell 4
  have y5 := bk.out.cell 5
  have y6 := bk.out.cell 6
  have y7 := bk.out.cell 7
  have y8 := bk.out.cell 8
  have y9 := bk.out.cell 9
  have y10 := bk.out.cell 10
  have y11 := bk.out.cell 11
  have y12 := bk.out.cell 12
  have fz := bk.out.free
  simp only [List.getElem?_cons_zero, List.getElem?_cons_succ] at y0 y1 y2 y3 y4 y5 y6 y7 y8 y9 y10 y11 y12
  have HBL := hide (HB.out.trans (HB3.out.mono (by omega)))
  clear bk
  go_wp2
  refine bodyPost_ret (v := .tuple #[.agg #[.int .i64 k, .int .i64 b, .int .i64 x, .int .i64 t, .int .i64 l, .string sec, .string rnd, .string pub, .int .i64 p0, .int .i64 p1, .int .i64 p2, .int .i64 p3, .int .i64 ch], .int .i64 0]) (by simp [results, Tryz.results208, go_sem, y0, y1, y2, y3, y4, y5, y6, y7, y8, y9, y10, y11, y12]) rfl ⟨rfl, ?_⟩
  iterate 13 refine Below.setCell ?_ (show w.heap.size ≤ _ by simp <;> omega) _
  exact HBL.out

end Go.Proofs.YtgaoeoijdpdjiabGreatDoor

namespace Go.Proofs.YtgaoeoijdpdjiabGreatDoor
open Go.RowKit

set_option maxRecDepth 20000 in
set_option maxHeartbeats 4000000 in
theorem verify_key  (key msg sig : ByteArray) (w : World)
    (hK : ∀ V : World, Calls Tryz.prog 162 #[.string key] V fun e w' => e = .returned (.tuple #[.agg #[.int .i64 0, .int .i64 0, .int .i64 0, .int .i64 0, .int .i64 0, .string ⟨#[]⟩, .string ⟨#[]⟩], .int .i64 11]) ∧ Below V.heap.size V w') :
    Calls Tryz.prog 88 #[.string key, .string msg, .string sig] w fun e w' => e = .returned (.int .i64 11) ∧ Below w.heap.size w w' := by
  have HKK := hide hK
  clear hK
  go_enter Tryz.func88, Tryz.ntmps88
  go_wp2_with fail
  refine (HKK.out _).mono ?_
  rintro e w1 ⟨rfl, hb1⟩
  have HB1 := hide hb1
  clear hb1
  have HB2 := hide (HB1.out.alloc HB1.out.size (.cells #[.int .i64 0, .int .i64 0, .int .i64 0, .int .i64 0, .int .i64 0, .string ⟨#[]⟩, .string ⟨#[]⟩] 184))
  have HK2 := hide (Blk.new w1 [.int .i64 0, .int .i64 0, .int .i64 0, .int .i64 0, .int .i64 0, .string ⟨#[]⟩, .string ⟨#[]⟩] 184)
  go_wp2
  go_ret
  exact ⟨rfl, HB2.out⟩

set_option maxRecDepth 20000 in
set_option maxHeartbeats 4000000 in
theorem verify_long (k b x t l : Int) (root pub : ByteArray) (key msg sig : ByteArray) (w : World) (hm : 200 < msg.size)
    (hK : ∀ V : World, Calls Tryz.prog 162 #[.string key] V fun e w' => e = .returned (.tuple #[.agg #[.int .i64 k, .int .i64 b, .int .i64 x, .int .i64 t, .int .i64 l, .string root, .string pub], .int .i64 0]) ∧ Below V.heap.size V w') :
    Calls Tryz.prog 88 #[.string key, .string msg, .string sig] w fun e w' => e = .returned (.int .i64 3) ∧ Below w.heap.size w w' := by
  have hm2 : (200 : Int) < (msg.size : Int) := by omega
  have HKK := hide hK
  clear hK
  go_enter Tryz.func88, Tryz.ntmps88
  go_wp2_with fail
  refine (HKK.out _).mono ?_
  rintro e w1 ⟨rfl, hb1⟩
  have HB1 := hide hb1
  clear hb1
  have HB2 := hide (HB1.out.alloc HB1.out.size (.cells #[.int .i64 k, .int .i64 b, .int .i64 x, .int .i64 t, .int .i64 l, .string root, .string pub] 184))
  have HK2 := hide (Blk.new w1 [.int .i64 k, .int .i64 b, .int .i64 x, .int .i64 t, .int .i64 l, .string root, .string pub] 184)
  go_wp2
  go_ret
  exact ⟨rfl, HB2.out⟩

set_option maxRecDepth 20000 in
set_option maxHeartbeats 4000000 in
theorem verify_form (k b x t l er : Int) (root pub : ByteArray) (key msg sig : ByteArray) (w : World) (hm : msg.size ≤ 200) (her : er ≠ 0)
    (hK : ∀ V : World, Calls Tryz.prog 162 #[.string key] V fun e w' => e = .returned (.tuple #[.agg #[.int .i64 k, .int .i64 b, .int .i64 x, .int .i64 t, .int .i64 l, .string root, .string pub], .int .i64 0]) ∧ Below V.heap.size V w')
    (hS : ∀ V : World, Calls Tryz.prog 81 #[.agg #[.int .i64 k, .int .i64 b, .int .i64 x, .int .i64 t, .int .i64 l], .string sig] V fun r w' => r = .returned (.tuple #[.agg #[.int .i64 0, .string ⟨#[]⟩, .slice none 0 0], .int .i64 er]) ∧ Below V.heap.size V w') :
    Calls Tryz.prog 88 #[.string key, .string msg, .string sig] w fun e w' => e = .returned (.int .i64 er) ∧ Below w.heap.size w w' := by
  have hm2 : ¬ (200 : Int) < (msg.size : Int) := by omega
  have HSS := hide hS
  clear hS
  have HKK := hide hK
  clear hK
  go_enter Tryz.func88, Tryz.ntmps88
  go_wp2_with fail
  refine (HKK.out _).mono ?_
  rintro e w1 ⟨rfl, hb1⟩
  have HB1 := hide hb1
  clear hb1
  have HB2 := hide (HB1.out.alloc HB1.out.size (.cells #[.int .i64 k, .int .i64 b, .int .i64 x, .int .i64 t, .int .i64 l, .string root, .string pub] 184))
  have HK2 := hide (Blk.new w1 [.int .i64 k, .int .i64 b, .int .i64 x, .int .i64 t, .int .i64 l, .string root, .string pub] 184)
  obtain ⟨W2, hW2⟩ : ∃ W2, w1.alloc (.cells #[.int .i64 k, .int .i64 b, .int .i64 x, .int .i64 t, .int .i64 l, .string root, .string pub] 184) = W2 := ⟨_, rfl⟩
  rw [hW2] at HB2 HK2
  have HW2 := hide hW2
  clear hW2
  go_wp2_with fail
  rw [HW2.out]
  refine (HSS.out _).mono ?_
  rintro e w3 ⟨rfl, hb3⟩
  have HB3 := hide (heldB HB2.out hb3 (Nat.le_refl _))
  clear hb3
  have m0 : ((er : Int) != 0) = true := by simpa using her
  have m1 : ((er : Int) == 0) = false := by simpa using her
  go_wp2
  go_ret
  exact ⟨rfl, HB3.out.alloc HB3.out.size _⟩

set_option maxRecDepth 20000 in
set_option maxHeartbeats 4000000 in
theorem verify_yes (k b x t l idx : Int) (n : Nat) (root pub rnd : ByteArray) (ps : List ByteArray) (key msg sig : ByteArray) (w : World) (hm : msg.size ≤ 200) (hT : Tn w)
    (hK : ∀ V : World, Calls Tryz.prog 162 #[.string key] V fun e w' => e = .returned (.tuple #[.agg #[.int .i64 k, .int .i64 b, .int .i64 x, .int .i64 t, .int .i64 l, .string root, .string pub], .int .i64 0]) ∧ Below V.heap.size V w')
    (hS : ∀ V : World, Calls Tryz.prog 81 #[.agg #[.int .i64 k, .int .i64 b, .int .i64 x, .int .i64 t, .int .i64 l], .string sig] V fun r w' => ∃ g, r = .returned (.tuple #[.agg #[.int .i64 idx, .string rnd, .slice (some ⟨g, 0, none⟩) n n], .int .i64 0]) ∧ V.heap.size ≤ g ∧ Blk w' g (ps.map Value.string) 9 ∧ Below V.heap.size V w')
    (hR : ∀ (V : World) (g : Nat), Tn V → Blk V g (ps.map Value.string) 9 → Calls Tryz.prog 163 #[.agg #[.int .i64 k, .int .i64 b, .int .i64 x, .int .i64 t, .int .i64 l, .string root, .string pub], .agg #[.int .i64 idx, .string rnd, .slice (some ⟨g, 0, none⟩) n n], .string msg] V fun r w' => r = .returned (.string root) ∧ Below V.heap.size V w') :
    Calls Tryz.prog 88 #[.string key, .string msg, .string sig] w fun e w' => e = .returned (.int .i64 0) ∧ Below w.heap.size w w' := by
  have hm2 : ¬ (200 : Int) < (msg.size : Int) := by omega
  have HSS := hide hS
  clear hS
  have HRR := hide hR
  clear hR
  have HKK := hide hK
  clear hK
  go_enter Tryz.func88, Tryz.ntmps88
  go_wp2_with fail
  refine (HKK.out _).mono ?_
  rintro e w1 ⟨rfl, hb1⟩
  have HB1 := hide hb1
  clear hb1
  have HB2 := hide (HB1.out.alloc HB1.out.size (.cells #[.int .i64 k, .int .i64 b, .int .i64 x, .int .i64 t, .int .i64 l, .string root, .string pub] 184))
  have HK2 := hide (Blk.new w1 [.int .i64 k, .int .i64 b, .int .i64 x, .int .i64 t, .int .i64 l, .string root, .string pub] 184)
  obtain ⟨W2, hW2⟩ : ∃ W2, w1.alloc (.cells #[.int .i64 k, .int .i64 b, .int .i64 x, .int .i64 t, .int .i64 l, .string root, .string pub] 184) = W2 := ⟨_, rfl⟩
  rw [hW2] at HB2 HK2
  have HW2 := hide hW2
  clear hW2
  go_wp2_with fail
  rw [HW2.out]
  refine (HSS.out _).mono ?_
  rintro e w3 ⟨g, rfl, hg, hbk, hb3⟩
  have HB3 := hide (heldB HB2.out hb3 (Nat.le_refl _))
  have HK3 := hide (HK2.out.on hb3)
  have HG3 := hide hbk
  clear hb3 hg hbk
  have HB4 := hide (HB3.out.alloc HB3.out.size (.cells #[.int .i64 idx, .string rnd, .slice (some ⟨g, 0, none⟩) n n] 29))
  have HK4 := hide (HK3.out.alloc (.cells #[.int .i64 idx, .string rnd, .slice (some ⟨g, 0, none⟩) n n] 29))
  have HG4 := hide (HG3.out.alloc (.cells #[.int .i64 idx, .string rnd, .slice (some ⟨g, 0, none⟩) n n] 29))
  have HP4 := hide (Blk.new w3 [.int .i64 idx, .string rnd, .slice (some ⟨g, 0, none⟩) n n] 29)
  obtain ⟨W4, hW4⟩ : ∃ W4, w3.alloc (.cells #[.int .i64 idx, .string rnd, .slice (some ⟨g, 0, none⟩) n n] 29) = W4 := ⟨_, rfl⟩
  rw [hW4] at HB4 HK4 HG4 HP4
  have HW4 := hide hW4
  clear hW4
  have HS := hide (fun (V : World) (h : Below W4.heap.size W4 V) => (by
    have q1 := HK4.out.on h
    have q2 := HP4.out.on h
    exact ⟨q1.cell 0, q1.cell 1, q1.cell 2, q1.cell 3, q1.cell 4, q1.cell 5, q1.cell 6, q2.cell 0, q2.cell 1, q2.cell 2⟩ : V.cell? ⟨w1.heap.size, 0, none⟩ = some (.int .i64 k) ∧ V.cell? ⟨w1.heap.size, 1, none⟩ = some (.int .i64 b) ∧ V.cell? ⟨w1.heap.size, 2, none⟩ = some (.int .i64 x) ∧ V.cell? ⟨w1.heap.size, 3, none⟩ = some (.int .i64 t) ∧ V.cell? ⟨w1.heap.size, 4, none⟩ = some (.int .i64 l) ∧ V.cell? ⟨w1.heap.size, 5, none⟩ = some (.string root) ∧ V.cell? ⟨w1.heap.size, 6, none⟩ = some (.string pub) ∧ V.cell? ⟨w3.heap.size, 0, none⟩ = some (.int .i64 idx) ∧ V.cell? ⟨w3.heap.size, 1, none⟩ = some (.string rnd) ∧ V.cell? ⟨w3.heap.size, 2, none⟩ = some (.slice (some ⟨g, 0, none⟩) n n)))
  have HT4 := hide (hT.on HB4.out)
  go_wp2_with fail
  rw [HW4.out]
  go_region_held3 (fun V => V.cell? ⟨w1.heap.size, 0, none⟩ = some (.int .i64 k) ∧ V.cell? ⟨w1.heap.size, 1, none⟩ = some (.int .i64 b) ∧ V.cell? ⟨w1.heap.size, 2, none⟩ = some (.int .i64 x) ∧ V.cell? ⟨w1.heap.size, 3, none⟩ = some (.int .i64 t) ∧ V.cell? ⟨w1.heap.size, 4, none⟩ = some (.int .i64 l) ∧ V.cell? ⟨w1.heap.size, 5, none⟩ = some (.string root) ∧ V.cell? ⟨w1.heap.size, 6, none⟩ = some (.string pub) ∧ V.cell? ⟨w3.heap.size, 0, none⟩ = some (.int .i64 idx) ∧ V.cell? ⟨w3.heap.size, 1, none⟩ = some (.string rnd) ∧ V.cell? ⟨w3.heap.size, 2, none⟩ = some (.slice (some ⟨g, 0, none⟩) n n)) (first | exact HS.out _ hS1 | exact HS.out _ (Below.refl W4.heap.size W4).drew) ((go_at_call 163; refine (HRR.out _ g (HT4.out.on (Below.refl W4.heap.size W4).drew) (HG4.out.on (Below.refl W4.heap.size W4).drew)).mono ?_; rintro e w5 ⟨rfl, hb5⟩; have hS1 := heldB (Below.refl W4.heap.size W4).drew hb5 (Nat.le_refl _)))
  have HB5 := hide (heldB HB4.out hS1 (Nat.le_refl _))
  clear hS1 hb5
  go_wp2
  go_ret
  exact ⟨rfl, HB5.out⟩

set_option maxRecDepth 20000 in
set_option maxHeartbeats 4000000 in
theorem verify_no (k b x t l idx : Int) (n : Nat) (root pub rnd rr : ByteArray) (ps : List ByteArray) (key msg sig : ByteArray) (w : World) (hm : msg.size ≤ 200) (hT : Tn w) (hne : ¬ rr.toList = root.toList)
    (hK : ∀ V : World, Calls Tryz.prog 162 #[.string key] V fun e w' => e = .returned (.tuple #[.agg #[.int .i64 k, .int .i64 b, .int .i64 x, .int .i64 t, .int .i64 l, .string root, .string pub], .int .i64 0]) ∧ Below V.heap.size V w')
    (hS : ∀ V : World, Calls Tryz.prog 81 #[.agg #[.int .i64 k, .int .i64 b, .int .i64 x, .int .i64 t, .int .i64 l], .string sig] V fun r w' => ∃ g, r = .returned (.tuple #[.agg #[.int .i64 idx, .string rnd, .slice (some ⟨g, 0, none⟩) n n], .int .i64 0]) ∧ V.heap.size ≤ g ∧ Blk w' g (ps.map Value.string) 9 ∧ Below V.heap.size V w')
    (hR : ∀ (V : World) (g : Nat), Tn V → Blk V g (ps.map Value.string) 9 → Calls Tryz.prog 163 #[.agg #[.int .i64 k, .int .i64 b, .int .i64 x, .int .i64 t, .int .i64 l, .string root, .string pub], .agg #[.int .i64 idx, .string rnd, .slice (some ⟨g, 0, none⟩) n n], .string msg] V fun r w' => r = .returned (.string rr) ∧ Below V.heap.size V w') :
    Calls Tryz.prog 88 #[.string key, .string msg, .string sig] w fun e w' => e = .returned (.int .i64 13) ∧ Below w.heap.size w w' := by
  have hm2 : ¬ (200 : Int) < (msg.size : Int) := by omega
  have HSS := hide hS
  clear hS
  have HRR := hide hR
  clear hR
  have ne1 : (rr.toList == root.toList) = false := by simpa using hne
  have ne2 : (rr.toList != root.toList) = true := by simpa using hne
  have HKK := hide hK
  clear hK
  go_enter Tryz.func88, Tryz.ntmps88
  go_wp2_with fail
  refine (HKK.out _).mono ?_
  rintro e w1 ⟨rfl, hb1⟩
  have HB1 := hide hb1
  clear hb1
  have HB2 := hide (HB1.out.alloc HB1.out.size (.cells #[.int .i64 k, .int .i64 b, .int .i64 x, .int .i64 t, .int .i64 l, .string root, .string pub] 184))
  have HK2 := hide (Blk.new w1 [.int .i64 k, .int .i64 b, .int .i64 x, .int .i64 t, .int .i64 l, .string root, .string pub] 184)
  obtain ⟨W2, hW2⟩ : ∃ W2, w1.alloc (.cells #[.int .i64 k, .int .i64 b, .int .i64 x, .int .i64 t, .int .i64 l, .string root, .string pub] 184) = W2 := ⟨_, rfl⟩
  rw [hW2] at HB2 HK2
  have HW2 := hide hW2
  clear hW2
  go_wp2_with fail
  rw [HW2.out]
  refine (HSS.out _).mono ?_
  rintro e w3 ⟨g, rfl, hg, hbk, hb3⟩
  have HB3 := hide (heldB HB2.out hb3 (Nat.le_refl _))
  have HK3 := hide (HK2.out.on hb3)
  have HG3 := hide hbk
  clear hb3 hg hbk
  have HB4 := hide (HB3.out.alloc HB3.out.size (.cells #[.int .i64 idx, .string rnd, .slice (some ⟨g, 0, none⟩) n n] 29))
  have HK4 := hide (HK3.out.alloc (.cells #[.int .i64 idx, .string rnd, .slice (some ⟨g, 0, none⟩) n n] 29))
  have HG4 := hide (HG3.out.alloc (.cells #[.int .i64 idx, .string rnd, .slice (some ⟨g, 0, none⟩) n n] 29))
  have HP4 := hide (Blk.new w3 [.int .i64 idx, .string rnd, .slice (some ⟨g, 0, none⟩) n n] 29)
  obtain ⟨W4, hW4⟩ : ∃ W4, w3.alloc (.cells #[.int .i64 idx, .string rnd, .slice (some ⟨g, 0, none⟩) n n] 29) = W4 := ⟨_, rfl⟩
  rw [hW4] at HB4 HK4 HG4 HP4
  have HW4 := hide hW4
  clear hW4
  have HS := hide (fun (V : World) (h : Below W4.heap.size W4 V) => (by
    have q1 := HK4.out.on h
    have q2 := HP4.out.on h
    exact ⟨q1.cell 0, q1.cell 1, q1.cell 2, q1.cell 3, q1.cell 4, q1.cell 5, q1.cell 6, q2.cell 0, q2.cell 1, q2.cell 2⟩ : V.cell? ⟨w1.heap.size, 0, none⟩ = some (.int .i64 k) ∧ V.cell? ⟨w1.heap.size, 1, none⟩ = some (.int .i64 b) ∧ V.cell? ⟨w1.heap.size, 2, none⟩ = some (.int .i64 x) ∧ V.cell? ⟨w1.heap.size, 3, none⟩ = some (.int .i64 t) ∧ V.cell? ⟨w1.heap.size, 4, none⟩ = some (.int .i64 l) ∧ V.cell? ⟨w1.heap.size, 5, none⟩ = some (.string root) ∧ V.cell? ⟨w1.heap.size, 6, none⟩ = some (.string pub) ∧ V.cell? ⟨w3.heap.size, 0, none⟩ = some (.int .i64 idx) ∧ V.cell? ⟨w3.heap.size, 1, none⟩ = some (.string rnd) ∧ V.cell? ⟨w3.heap.size, 2, none⟩ = some (.slice (some ⟨g, 0, none⟩) n n)))
  have HT4 := hide (hT.on HB4.out)
  go_wp2_with fail
  rw [HW4.out]
  go_region_held3 (fun V => V.cell? ⟨w1.heap.size, 0, none⟩ = some (.int .i64 k) ∧ V.cell? ⟨w1.heap.size, 1, none⟩ = some (.int .i64 b) ∧ V.cell? ⟨w1.heap.size, 2, none⟩ = some (.int .i64 x) ∧ V.cell? ⟨w1.heap.size, 3, none⟩ = some (.int .i64 t) ∧ V.cell? ⟨w1.heap.size, 4, none⟩ = some (.int .i64 l) ∧ V.cell? ⟨w1.heap.size, 5, none⟩ = some (.string root) ∧ V.cell? ⟨w1.heap.size, 6, none⟩ = some (.string pub) ∧ V.cell? ⟨w3.heap.size, 0, none⟩ = some (.int .i64 idx) ∧ V.cell? ⟨w3.heap.size, 1, none⟩ = some (.string rnd) ∧ V.cell? ⟨w3.heap.size, 2, none⟩ = some (.slice (some ⟨g, 0, none⟩) n n)) (first | exact HS.out _ hS1 | exact HS.out _ (Below.refl W4.heap.size W4).drew) ((go_at_call 163; refine (HRR.out _ g (HT4.out.on (Below.refl W4.heap.size W4).drew) (HG4.out.on (Below.refl W4.heap.size W4).drew)).mono ?_; rintro e w5 ⟨rfl, hb5⟩; have hS1 := heldB (Below.refl W4.heap.size W4).drew hb5 (Nat.le_refl _)))
  have HB5 := hide (heldB HB4.out hS1 (Nat.le_refl _))
  clear hS1 hb5
  go_wp2
  go_ret
  exact ⟨rfl, HB5.out⟩
end Go.Proofs.YtgaoeoijdpdjiabGreatDoor

namespace Go.Proofs.YtgaoeoijdpdjiabGreatDoor
open Go.RowKit

set_option maxRecDepth 20000 in
theorem term_on (D : Nat) (tm : Int) (w : World) (h5 : w.cell? ⟨D, 5, none⟩ = some (.int .i64 tm)) :
    Calls Tryz.prog 181 #[.pointer (some ⟨D, 0, none⟩)] w fun e w' => e = .returned (.int .i64 tm) ∧ Below w.heap.size w w' := by
  go_enter Tryz.func181, Tryz.ntmps181
  go_wp2
  go_ret
  exact ⟨rfl, Below.refl _ _⟩
set_option maxRecDepth 20000 in
theorem sectors_on (D : Nat) (a : Option Addr) (n c : Nat) (w : World) (h5 : w.cell? ⟨D, 0, none⟩ = some (.slice a n c)) :
    Calls Tryz.prog 177 #[.pointer (some ⟨D, 0, none⟩)] w fun e w' => e = .returned (.int .i64 n) ∧ Below w.heap.size w w' := by
  go_enter Tryz.func177, Tryz.ntmps177
  go_wp2
  go_ret
  exact ⟨rfl, Below.refl _ _⟩
set_option maxRecDepth 20000 in
theorem batch_yes (m : Int) (w : World) (h1 : 1 ≤ m) (h2 : m ≤ 64) :
    Calls Tryz.prog 115 #[.int .i64 m] w fun e w' => e = .returned (.bool true) ∧ Below w.heap.size w w' := by
  have e1 : decide (1 ≤ m) = true := decide_eq_true h1
  have e2 : decide (m ≤ 64) = true := decide_eq_true h2
  go_enter Tryz.func115, Tryz.ntmps115
  go_wp2
  go_ret
  exact ⟨rfl, Below.refl _ _⟩

set_option maxRecDepth 20000 in
set_option maxHeartbeats 2000000 in
theorem isOver_no (S D : Nat) (tm : Int) (w : World) (hS : S < w.heap.size) (hD : D < w.heap.size) (h0 : w.cell? ⟨S, 0, none⟩ = some (.pointer (some ⟨D, 0, none⟩))) (h1 : w.cell? ⟨S, 1, none⟩ = some (.int .i64 tm)) (h18 : w.cell? ⟨S, 18, none⟩ = some (.bool false)) (h5 : w.cell? ⟨D, 5, none⟩ = some (.int .i64 tm)) :
    Calls Tryz.prog 114 #[.pointer (some ⟨S, 0, none⟩)] w fun e w' => e = .returned (.bool false) ∧ Below w.heap.size w w' := by
  have HT := hide (fun (V : World) (hb : Below w.heap.size w V) => term_on D tm V ((hb.cell (p := ⟨D, 5, none⟩) hD).trans h5))
  have HS := hide (fun (V : World) (hb : Below w.heap.size w V) => (⟨(hb.cell (p := ⟨S, 0, none⟩) hS).trans h0, (hb.cell (p := ⟨S, 1, none⟩) hS).trans h1, (hb.cell (p := ⟨S, 18, none⟩) hS).trans h18⟩ : V.cell? ⟨S, 0, none⟩ = some (.pointer (some ⟨D, 0, none⟩)) ∧ V.cell? ⟨S, 1, none⟩ = some (.int .i64 tm) ∧ V.cell? ⟨S, 18, none⟩ = some (.bool false)))
  have HB := hide (Below.refl w.heap.size w).drew
  have hS := (Below.refl w.heap.size w).drew
  clear h0 h1 h18 h5 hD
  go_enter Tryz.func114, Tryz.ntmps114
  go_wp2_with fail
  go_region_held3 (fun V => V.cell? ⟨S, 0, none⟩ = some (.pointer (some ⟨D, 0, none⟩)) ∧ V.cell? ⟨S, 1, none⟩ = some (.int .i64 tm) ∧ V.cell? ⟨S, 18, none⟩ = some (.bool false)) (exact HS.out _ hS) (first | (go_at_call 181; refine (HT.out _ hS).mono ?_; rintro e wN ⟨rfl, hbN⟩; have hS := heldB hS hbN (Nat.le_refl _)))
  have HB9 := hide hS
  clear hS
  go_wp2
  go_ret
  exact ⟨rfl, HB9.out⟩
end Go.Proofs.YtgaoeoijdpdjiabGreatDoor

namespace Go.Proofs.YtgaoeoijdpdjiabGreatDoor
open Go.RowKit

set_option maxRecDepth 20000 in
set_option maxHeartbeats 2000000 in
theorem done_on (fs : List Nat) (n O SB : Nat) (I : Nat → World → Prop) (J : Int → World → Prop) (w : World) (hl : fs.length = n) (hn : n ≤ 100) (h0 : I 0 w)
    (hen : ∀ (j f : Nat), fs[j]? = some f → ∀ (args : Array Value) (V : World), Sem.run Tryz.prog (callFunc f args) V = .ok (.enter f args) V)
    (hst : ∀ j f V, I j V → fs[j]? = some f → V.cell? ⟨SB, j, none⟩ = some (.func (.func f) #[] #[]))
    (hcall : ∀ j f V, I j V → fs[j]? = some f → Calls Tryz.prog f #[.pointer (some ⟨O, 0, none⟩)] V fun e V' => ∃ c, e = .returned (.int .i64 c) ∧ (c = 0 → I (j + 1) V') ∧ (c ≠ 0 → J c V')) :
    Calls Tryz.prog 180 #[.pointer (some ⟨O, 0, none⟩), .slice (some ⟨SB, 0, none⟩) n n] w fun e w' => ∃ c, e = .returned (.int .i64 c) ∧ (c = 0 → I n w') ∧ (c ≠ 0 → J c w') := by
  have HC := hide hcall
  have HST := hide hst
  have HEN := hide hen
  have H0 := hide h0
  have HL := hide hl
  clear hcall hst h0 hl hen
  go_enter Tryz.func180, Tryz.ntmps180
  go_wp2_with fail
  go_loopw [10] (fun i wr => ∃ m : Nat, m ≤ n ∧ i = .int .i64 m ∧ Hid (I m wr)) (fun i _ => n - (intOf i).toNat)
  case atStart => exact ⟨0, Nat.zero_le _, rfl, H0.out⟩
  case round =>
    obtain ⟨m, hm, rfl, hI⟩ := hrel
    by_cases hlt : m < n
    · obtain ⟨f, hf⟩ : ∃ f, fs[m]? = some f := ⟨_, List.getElem?_eq_getElem (by rw [HL.out]; exact hlt)⟩
      have hcell := HST.out m f wr hI.out hf
      have HCC := hide (HC.out m f wr hI.out hf)
      have hent := HEN.out m f hf
      clear hf
      have hms : (m : Int) < (n : Int) := by omega
      go_wp2_with fail
      refine HCC.out.mono ?_
      rintro e w1 ⟨c, rfl, hc1, hc2⟩
      by_cases hc : c = 0
      · have HI := hide (hc1 hc)
        clear hc1 hc2
        subst hc
        go_wp2
        go_roundw
        case rel =>
          have R : ∃ m' : Nat, m' ≤ n ∧ Value.int .i64 ((m : Int) + 1) = .int .i64 m' ∧ Hid (I m' w1) := ⟨m + 1, by omega, by go_num, HI.out⟩
          first | exact R | ((repeat apply Exists.intro); exact ⟨R, rfl⟩)
        case measure => simp [intOf]; omega
      · have HJ := hide (hc2 hc)
        have e1 : (c == 0) = false := by simpa using hc
        have e2 : (c != 0) = true := by simpa using hc
        have HC0 := hide hc
        clear hc1 hc2 hc
        go_wp2
        go_ret
        exact ⟨c, rfl, fun h => absurd h HC0.out, fun _ => HJ.out⟩
    · obtain rfl : m = n := by omega
      go_wp2
      go_ret
      exact ⟨0, rfl, fun _ => hI.out, fun h => absurd rfl h⟩
end Go.Proofs.YtgaoeoijdpdjiabGreatDoor

namespace Go.Proofs.YtgaoeoijdpdjiabGreatDoor
open Go.RowKit

set_option maxRecDepth 20000 in
set_option maxHeartbeats 4000000 in
theorem sown_any (k x t l : Int) (b : Nat) (sec rnd pub : ByteArray) (w : World) (hb : b ≤ 16) (m1 : sec.size ≤ maxLen) (m2 : rnd.size ≤ maxLen) (m3 : pub.size ≤ maxLen) :
    Calls Tryz.prog 15 #[.agg #[.int .i64 k, .int .i64 b, .int .i64 x, .int .i64 t, .int .i64 l], .agg #[.string sec, .string rnd, .string pub]] w fun e w' => e = .returned (.agg #[.string (someB sec b), .string (someB rnd b), .string (someB pub b)]) ∧ Below w.heap.size w w' := by
  obtain ⟨W0, hW⟩ : ∃ W0, ((w.alloc (.cells #[.int .i64 k, .int .i64 b, .int .i64 x, .int .i64 t, .int .i64 l] 26)).alloc (.cells #[.string sec, .string rnd, .string pub] 42)).alloc (.cells #[.string ⟨#[]⟩, .string ⟨#[]⟩, .string ⟨#[]⟩] 42) = W0 := ⟨_, rfl⟩
  have HF := hide (show FiveC w.heap.size W0 k b x t l by subst hW; refine ⟨?_, ?_, ?_, ?_, ?_⟩ <;> simp [go_sem])
  have HSE := hide (show W0.cell? ⟨w.heap.size + 1, 0, none⟩ = some (.string sec) ∧ W0.cell? ⟨w.heap.size + 1, 1, none⟩ = some (.string rnd) ∧ W0.cell? ⟨w.heap.size + 1, 2, none⟩ = some (.string pub) by subst hW; refine ⟨?_, ?_, ?_⟩ <;> simp [go_sem])
  have HB := hide (show Below w.heap.size w W0 by subst hW; exact (((Below.refl _ _).alloc (Nat.le_refl _) _).alloc (by simp) _).alloc (by simp; omega) _)
  have hz : W0.heap.size ≤ w.heap.size + 3 := by subst hW; simp
  have hz' : w.heap.size + 3 ≤ W0.heap.size := by subst hW; simp
  have HBK := hide (show Blk W0 (w.heap.size + 1 + 1) [.string ⟨#[]⟩, .string ⟨#[]⟩, .string ⟨#[]⟩] 42 by
    subst hW
    have h := Blk.new ((w.alloc (.cells #[.int .i64 k, .int .i64 b, .int .i64 x, .int .i64 t, .int .i64 l] 26)).alloc (.cells #[.string sec, .string rnd, .string pub] 42)) [.string ⟨#[]⟩, .string ⟨#[]⟩, .string ⟨#[]⟩] 42
    simp only [World.size_alloc] at h
    exact h)
  have HS := hide (fun (V : World) (h : Below (w.heap.size + 1 + 1) W0 V) => (by
    obtain ⟨_, c1, _, _, _⟩ := HF.out.below h (by omega)
    exact ⟨c1, (h.cell (p := ⟨w.heap.size + 1, 0, none⟩) (by show w.heap.size + 1 < _; omega)).trans HSE.out.1, (h.cell (p := ⟨w.heap.size + 1, 1, none⟩) (by show w.heap.size + 1 < _; omega)).trans HSE.out.2.1, (h.cell (p := ⟨w.heap.size + 1, 2, none⟩) (by show w.heap.size + 1 < _; omega)).trans HSE.out.2.2⟩ : V.cell? ⟨w.heap.size, 1, none⟩ = some (.int .i64 b) ∧ V.cell? ⟨w.heap.size + 1, 0, none⟩ = some (.string sec) ∧ V.cell? ⟨w.heap.size + 1, 1, none⟩ = some (.string rnd) ∧ V.cell? ⟨w.heap.size + 1, 2, none⟩ = some (.string pub)))
  have H1 := hide (fun V : World => someN_any sec b V m1 (by omega))
  have H2 := hide (fun V : World => someN_any rnd b V m2 (by omega))
  have H3 := hide (fun V : World => someN_any pub b V m3 (by omega))
  clear m1 m2 m3
  have HWE := hide hW
  clear hW
  go_enter Tryz.func15, Tryz.ntmps15
  go_wp2_with fail
  rw [HWE.out]
  refine wp_region_held_drew (S := fun V => V.cell? ⟨w.heap.size, 1, none⟩ = some (.int .i64 b) ∧ V.cell? ⟨w.heap.size + 1, 0, none⟩ = some (.string sec) ∧ V.cell? ⟨w.heap.size + 1, 1, none⟩ = some (.string rnd) ∧ V.cell? ⟨w.heap.size + 1, 2, none⟩ = some (.string pub)) (by kernel_rfl) (HS.out _ ((Below.refl W0.heap.size W0).drew.mono (by omega))) (fun hHeld => ?_)
  refine tk 0 hHeld (h := ?_)
  refine tk 1 hHeld (h := ?_)
  refine tk 2 hHeld (h := ?_)
  refine tk 3 hHeld (h := ?_)
  refine tk 5 hHeld (h := ?_)
  refine tk 6 hHeld (h := ?_)
  refine tk 7 hHeld (h := ?_)
  refine tk 8 hHeld (h := ?_)
  refine tk 10 hHeld (h := ?_)
  refine tk 11 hHeld (h := ?_)
  refine tk 12 hHeld (h := ?_)
  refine tk 13 hHeld (h := ?_)
  refine wpAnyH_ready (rs := [4]) (by kernel_rfl) (by simp) ?_
  refine AllReadyH.cons (o := ?oa4) ?hoa4 (fun K hK => ?hsa4) AllReadyH.nil
  case hoa4 => (simp only [List.getElem?_toArray, List.getElem?_cons_succ, List.getElem?_cons_zero]; rfl)
  go_simp
  go_at_call 49
  refine (H1.out _).mono ?_
  rintro e w1 ⟨rfl, hb1⟩
  have hS1 := heldB (Below.refl W0.heap.size W0).drew hb1 (Nat.le_refl _)
  have HB1 := hide hS1
  clear hb1 hS1
  try go_wp2_with fail
  refine hK.out _ _ (HS.out _ (HB1.out.mono (by omega))) (fun hHeld => ?_)
  clear hK K
  try simp only [Act.put, List.setIfInBounds_toArray, List.set_cons_zero, List.set_cons_succ]
  refine wpAnyH_ready (rs := [9]) (by kernel_rfl) (by simp) ?_
  refine AllReadyH.cons (o := ?oa9) ?hoa9 (fun K hK => ?hsa9) AllReadyH.nil
  case hoa9 => (simp only [List.getElem?_toArray, List.getElem?_cons_succ, List.getElem?_cons_zero]; rfl)
  go_simp
  go_at_call 49
  refine (H2.out _).mono ?_
  rintro e w2 ⟨rfl, hb2⟩
  have hS2 := heldB HB1.out hb2 (Nat.le_refl _)
  have HB2 := hide hS2
  clear hb2 hS2
  try go_wp2_with fail
  refine hK.out _ _ (HS.out _ (HB2.out.mono (by omega))) (fun hHeld => ?_)
  clear hK K
  try simp only [Act.put, List.setIfInBounds_toArray, List.set_cons_zero, List.set_cons_succ]
  refine wpAnyH_ready (rs := [14]) (by kernel_rfl) (by simp) ?_
  refine AllReadyH.cons (o := ?oa14) ?hoa14 (fun K hK => ?hsa14) AllReadyH.nil
  case hoa14 => (simp only [List.getElem?_toArray, List.getElem?_cons_succ, List.getElem?_cons_zero]; rfl)
  go_simp
  go_at_call 49
  refine (H3.out _).mono ?_
  rintro e w3 ⟨rfl, hb3⟩
  have hS3 := heldB HB2.out hb3 (Nat.le_refl _)
  have HB3 := hide hS3
  have HK3 := hide (HBK.out.below hS3 (by omega))
  clear hb3 hS3
  try go_wp2_with fail
  refine hK.out _ _ (HS.out _ (HB3.out.mono (by omega))) (fun hHeld => ?_)
  clear hK K
  try simp only [Act.put, List.setIfInBounds_toArray, List.set_cons_zero, List.set_cons_succ]
  refine tk 15 hHeld (h := ?_)
  have r0 := HK3.out.cell 0
  have r1 := HK3.out.cell 1
  have r2 := HK3.out.cell 2
  have f0 := HK3.out.free 0
  have f1 := HK3.out.free 1
  have f2 := HK3.out.free 2
  simp only [List.getElem?_cons_zero, List.getElem?_cons_succ] at r0 r1 r2
  refine wpAnyH_ready (rs := [16]) (by kernel_rfl) (by simp) ?_
  refine AllReadyH.cons (o := ?oa16) ?hoa16 (fun K hK => ?hsa16) AllReadyH.nil
  case hoa16 => (simp only [List.getElem?_toArray, List.getElem?_cons_succ, List.getElem?_cons_zero]; rfl)
  go_simp
  refine hK.out _ _ (HS.out _ ((((HB3.out.mono (by omega)).setCell (by simp <;> omega) _).setCell (by simp <;> omega) _).setCell (by simp <;> omega) _)) (fun hHeld => ?_)
  clear hK K
  try simp only [Act.put, List.setIfInBounds_toArray, List.set_cons_zero, List.set_cons_succ]
  refine wpAnyH_done (by kernel_rfl) ?_ _
  go_wp2
  refine bodyPost_ret (v := .agg #[.string (someB sec b), .string (someB rnd b), .string (someB pub b)]) (by simp [results, Tryz.results15, go_sem, r0, r1, r2]) rfl ⟨rfl, ?_⟩
  have HBB := HB.out.trans (HB3.out.mono (by omega))
  iterate 3 refine Below.setCell ?_ (by simp <;> omega) _
  exact HBB
end Go.Proofs.YtgaoeoijdpdjiabGreatDoor

namespace Go.Proofs.YtgaoeoijdpdjiabGreatDoor
open Go.RowKit

theorem infoInt : (Tryz.prog.info? 3).map (fun i => (i.zero, i.size, i.bytes)) = some (some (.int .i64 0), 1, 8) := by kernel_rfl

theorem cut_from (g N m : Nat) (hm : m < N) (wx : World) : (Instr.slice 56 (.slice (some ⟨g, 0, none⟩) N N) (some (.int .i64 m)) none none).run Tryz.prog wx = .ok (.slice (some ⟨g, m, none⟩) (N - m) (N - m)) wx := by
  have h2 : (m : Int) ≤ N := by omega
  have h3 : (0 : Int) ≤ m := by omega
  simp [go_sem, h2, h3]
  all_goals omega

theorem cut_to (g N m : Nat) (hm : m < N) (wx : World) : (Instr.slice 56 (.slice (some ⟨g, 0, none⟩) N N) none (some (.int .i64 m)) none).run Tryz.prog wx = .ok (.slice (some ⟨g, 0, none⟩) m N) wx := by
  have h2 : (m : Int) ≤ N := by omega
  have h3 : (0 : Int) ≤ m := by omega
  simp [go_sem, h2, h3]
  all_goals omega

theorem madeInt (n : Nat) : madeCells (Value.int .i64 0).cells n = (List.replicate n (Value.int .i64 0)).toArray := by
  apply Array.ext
  · simp [size_madeCells]
  · intro i h1 h2
    simp [madeCells, Value.cells, Nat.mod_one]
theorem makeInt (k : Nat) (hk : k ≤ 1000) (w : World) : (Instr.makeSlice 56 (.int .i64 k) (.int .i64 k)).run Tryz.prog w = .ok (.slice (some ⟨w.heap.size, 0, none⟩) k k) (w.alloc (.cells (List.replicate k (Value.int .i64 0)).toArray 3)) := by
  obtain ⟨i0, hi, hz0, hz1, hz2⟩ := info_parts infoInt
  have h := run_make (P := Tryz.prog) w 56 3 i0 (.int .i64 0) Tryz.underlying56 hi hz0 .i64 .i64 k k (by omega) (by omega) (by rw [hz2]; omega) (by omega)
  rw [hz1, Nat.mul_one, Int.toNat_natCast, madeInt] at h
  exact h

/-- The first m of n are v, the others 0. -/
def repL (v : Int) (n m : Nat) : List Value := List.replicate m (.int .i64 v) ++ List.replicate (n - m) (.int .i64 0)
theorem repL_len (v : Int) (n m : Nat) (h : m ≤ n) : (repL v n m).length = n := by simp [repL]; omega
theorem repL_splice (v : Int) (n m k : Nat) (h : m + k ≤ n) : splice (repL v n m) m (List.replicate k (.int .i64 v)) = repL v n (m + k) := by
  unfold splice repL
  rw [List.take_append_of_le_length (by simp), List.take_of_length_le (by simp), List.length_replicate, List.drop_append, List.drop_of_length_le (by simp), List.nil_append, List.length_replicate, List.drop_replicate, ← List.append_assoc, List.replicate_append_replicate]
  congr 2
  omega

set_option maxRecDepth 20000 in
set_option maxHeartbeats 2000000 in
theorem repeat_one (v : Int) (g ch : Nat) (w : World) (h1 : 1 ≤ ch) (h2 : ch ≤ 1000) (hg : g < w.heap.size) (hc : w.cell? ⟨g, 0, none⟩ = some (.int .i64 v))
    (hM : ∀ V : World, Calls Tryz.prog 309 #[.int .u64 1, .int .u64 ch] V fun e w' => e = .returned (.tuple #[.int .u64 0, .int .u64 ch]) ∧ w' = V) :
    Calls Tryz.prog 268 #[.slice (some ⟨g, 0, none⟩) 1 1, .int .i64 ch] w fun e w' => ∃ q, e = .returned (.slice (some ⟨q, 0, none⟩) ch ch) ∧ w.heap.size ≤ q ∧ Blk w' q (List.replicate ch (.int .i64 v)) 3 ∧ Below w.heap.size w w' := by
  obtain ⟨i0, hi, hz0, hz1, hz2⟩ := info_parts infoInt
  have hsz : (Tryz.prog.info? 3).map (·.size) = some 1 := by rw [hi]; simp [hz1]
  have hmk := makeInt ch h2
  have HM := hide hM
  obtain ⟨W1, hcp, HB, HR⟩ : ∃ W1, (Builtin.copy_ #[56, 56] 3 #[.slice (some ⟨w.heap.size, 0, none⟩) ch ch, .slice (some ⟨g, 0, none⟩) 1 1]).run Tryz.prog (w.alloc (.cells (Array.replicate ch (Value.int .i64 0)) 3)) = .ok (.int .i64 1) W1 ∧ Hid (Below w.heap.size w W1) ∧ Hid (Blk W1 w.heap.size (repL v ch 1) 3) := by
    have h0 : (w.alloc (.cells (Array.replicate ch (Value.int .i64 0)) 3)).heap[w.heap.size]? = some (.cells (Array.replicate ch (Value.int .i64 0)) 3 (0, 0)) := World.alloc_heap_new w _
    have h := run_copy_row (P := Tryz.prog) (w.alloc (.cells (Array.replicate ch (Value.int .i64 0)) 3)) 56 56 3 3 w.heap.size 0 ch ch ⟨g, 0, none⟩ 1 1 (Array.replicate ch (Value.int .i64 0)) 3 [.int .i64 v] Tryz.underlying56 hsz h0 (by rw [List.length_singleton]; exact (Nat.min_eq_left h1).symm) (by
      intro j u hj
      cases j with
      | zero => simp at hj; subst hj; exact (World.cell?_alloc_past _ _ _ hg).trans hc
      | succ j => simp at hj) (by simpa using h1) (by intro u hu; simp at hu; subst hu; rfl)
    refine ⟨_, h, below_setRow ((Below.refl _ _).alloc (Nat.le_refl _) _) (Nat.le_refl _) _, ?_⟩
    show Blk _ _ _ _
    unfold Blk
    rw [setRow_heap _ _ _ _ _ _ h0]
    congr 3
    simp [repL]
  clear hM hc
  have hc64 : IntKind.u64.wrap (ch : Int) = (ch : Int) := by rw [IntKind.wrap_u64] <;> omega
  have hci64 : IntKind.i64.wrap (ch : Int) = (ch : Int) := by rw [IntKind.wrap_i64] <;> omega
  have hbig : ¬ (9223372036854775807 : Int) < (ch : Int) := by omega
  have h0c : ¬ (ch : Int) < 0 := by omega
  go_enter Tryz.func268, Tryz.ntmps268
  go_wp2_with fail
  refine (HM.out _).mono ?_
  rintro e w1 ⟨rfl, hw1⟩
  obtain rfl := hw1.symm
  go_wp2_with fail
  clear hcp hmk hc64 hci64 hbig h0c HM hg
  go_loopw [8] (fun i wr => ∃ m : Nat, 1 ≤ m ∧ m ≤ ch ∧ i = .int .i64 m ∧ Hid (Blk wr w.heap.size (repL v ch m) 3) ∧ Hid (Below w.heap.size w wr)) (fun i _ => ch - (intOf i).toNat)
  case atStart => exact ⟨1, Nat.le_refl _, h1, rfl, HR.out, HB.out⟩
  case round =>
    obtain ⟨m, hm1, hm, rfl, hbk, hb⟩ := hrel
    by_cases hlt : m < ch
    · obtain ⟨c, hc⟩ : ∃ c, Nat.min m (ch - m) = c := ⟨_, rfl⟩
      have hc1 : 1 ≤ c := by rw [← hc]; exact Nat.le_min.2 ⟨hm1, by omega⟩
      have hc2 : c ≤ m := by rw [← hc]; exact Nat.min_le_left _ _
      have hc3 : m + c ≤ ch := by have : c ≤ ch - m := by rw [← hc]; exact Nat.min_le_right _ _
                                  omega
      have hf := cut_from w.heap.size ch m hlt
      have ht := cut_to w.heap.size ch m hlt
      have HCL := hide (show (List.replicate c (Value.int .i64 v)).length = Nat.min m (ch - m) by rw [List.length_replicate, hc])
      have HCE := hide (show ∀ (j : Nat) u, (List.replicate c (Value.int .i64 v))[j]? = some u → wr.drew.cell? ⟨w.heap.size, j, none⟩ = some u by
        intro j u hj
        rw [List.getElem?_replicate] at hj
        split at hj
        · rename_i hjc
          cases hj
          refine (hbk.out.cell j).trans ?_
          rw [repL, List.getElem?_append_left (by simp; omega), List.getElem?_replicate, if_pos (by omega)]
        · cases hj)
      have HFT := hide (show m + (List.replicate c (Value.int .i64 v)).length ≤ (repL v ch m).length by rw [List.length_replicate, repL_len v ch m hm]; exact hc3)
      have HON := hide (show ∀ u ∈ List.replicate c (Value.int .i64 v), u.oneCell' = true by intro u hu; rw [List.mem_replicate] at hu; rw [hu.2]; rfl)
      have HSP := hide (repL_splice v ch m c hc3)
      obtain ⟨W4, hcp, HB4, HR4⟩ : ∃ W4, (Builtin.copy_ #[56, 56] 3 #[.slice (some ⟨w.heap.size, m, none⟩) (ch - m) (ch - m), .slice (some ⟨w.heap.size, 0, none⟩) m ch]).run Tryz.prog wr.drew = .ok (.int .i64 c) W4 ∧ Hid (Below w.heap.size w W4) ∧ Hid (Blk W4 w.heap.size (repL v ch (m + c)) 3) := by
        have h := run_copy_row (P := Tryz.prog) wr.drew 56 56 3 3 w.heap.size m (ch - m) (ch - m) ⟨w.heap.size, 0, none⟩ m ch (repL v ch m).toArray 3 (List.replicate c (.int .i64 v)) Tryz.underlying56 hsz hbk.out HCL.out (by
          intro j u hj
          rw [show Addr.add ⟨w.heap.size, 0, none⟩ j = ⟨w.heap.size, j, none⟩ by unfold Addr.add; split <;> simp_all]
          exact HCE.out j u hj) (by simpa using HFT.out) HON.out
        refine ⟨_, h.trans (by rw [List.length_replicate]; rfl), below_setRow hb.out.drew (Nat.le_refl _) _, ?_⟩
        show Blk _ _ _ _
        unfold Blk
        rw [← HSP.out, splice, ← List.append_assoc, List.length_replicate]
        exact setRow_heap wr.drew _ _ _ _ _ hbk.out
      clear hc HCL HCE HFT HON HSP hsz hi hz0 hz1 hz2 i0
      go_wp2_with fail
      go_region
      go_wp2
      go_roundw
      case rel =>
        have R : ∃ m' : Nat, 1 ≤ m' ∧ m' ≤ ch ∧ Value.int .i64 ((m : Int) + (c : Int)) = .int .i64 m' ∧ Hid (Blk W4 w.heap.size (repL v ch m') 3) ∧ Hid (Below w.heap.size w W4) := ⟨m + c, by omega, by omega, by go_num, HR4.out, HB4.out⟩
        first | exact R | ((repeat apply Exists.intro); exact ⟨R, rfl⟩)
      case measure => simp [intOf]; omega
    · obtain rfl : m = ch := by omega
      go_wp2
      go_ret
      refine ⟨_, rfl, Nat.le_refl _, ?_, hb.out⟩
      have h := hbk.out
      rw [repL, Nat.sub_self, List.replicate_zero, List.append_nil] at h
      exact h
end Go.Proofs.YtgaoeoijdpdjiabGreatDoor

namespace Go.Proofs.YtgaoeoijdpdjiabGreatDoor
open Go.RowKit

set_option maxRecDepth 20000 in
theorem osync_on (Q : Int → World → Prop) (O D : Nat) (w : World) (h0 : w.cell? ⟨O, 0, none⟩ = some (.pointer (some ⟨D, 0, none⟩)))
    (hS : Calls Tryz.prog 105 #[.pointer (some ⟨D, 0, none⟩)] w fun e w' => ∃ c, e = .returned (.int .i64 c) ∧ Q c w') :
    Calls Tryz.prog 107 #[.pointer (some ⟨O, 0, none⟩)] w fun e w' => ∃ c, e = .returned (.int .i64 c) ∧ Q c w' := by
  have HS := hide hS
  clear hS
  go_enter Tryz.func107, Tryz.ntmps107
  go_wp2_with fail
  refine HS.out.mono ?_
  rintro e w2 ⟨c, rfl, hQ⟩
  have HQ := hide hQ
  clear hQ
  go_wp2
  go_ret
  exact ⟨c, rfl, HQ.out⟩

set_option maxRecDepth 20000 in
theorem oread_no (Q : World → Prop) (O D : Nat) (i : Int) (s : ByteArray) (w : World) (h0 : w.cell? ⟨O, 0, none⟩ = some (.pointer (some ⟨D, 0, none⟩))) (hs : isRec s = false) (hQ : ∀ V V', Q V → Below V.heap.size V V' → Q V')
    (hR : Calls Tryz.prog 103 #[.pointer (some ⟨D, 0, none⟩), .int .i64 i] w fun e w' => e = .returned (.tuple #[.string s, .int .i64 0]) ∧ Q w') :
    Calls Tryz.prog 182 #[.pointer (some ⟨O, 0, none⟩), .int .i64 i] w fun e w' => e = .returned (.int .i64 0) ∧ Q w' := by
  have HR := hide hR
  have HU := hide (fun V : World => unseal_any s V)
  rw [unsV_no hs] at HU
  have HQ := hide hQ
  clear hR hs hQ
  go_enter Tryz.func182, Tryz.ntmps182
  go_wp2_with fail
  refine HR.out.mono ?_
  rintro e w1 ⟨rfl, hq1⟩
  have HQ1 := hide hq1
  clear hq1
  go_wp2_with fail
  refine (HU.out _).mono ?_
  rintro e w2 ⟨rfl, hb2⟩
  have HQ2 := hide (HQ.out _ _ HQ1.out hb2)
  clear hb2
  go_wp2
  go_ret
  exact ⟨rfl, HQ.out _ _ HQ2.out ((Below.refl _ _).alloc (Nat.le_refl _) _)⟩

set_option maxRecDepth 20000 in
theorem oreadEven_on (Q : Int → World → Prop) (O : Nat) (w : World)
    (hR : Calls Tryz.prog 182 #[.pointer (some ⟨O, 0, none⟩), .int .i64 0] w fun e w' => ∃ c, e = .returned (.int .i64 c) ∧ Q c w') :
    Calls Tryz.prog 108 #[.pointer (some ⟨O, 0, none⟩)] w fun e w' => ∃ c, e = .returned (.int .i64 c) ∧ Q c w' := by
  have HR := hide hR
  clear hR
  go_enter Tryz.func108, Tryz.ntmps108
  go_wp2_with fail
  refine HR.out.mono ?_
  rintro e w1 ⟨c, rfl, hq1⟩
  have HQ1 := hide hq1
  clear hq1
  go_wp2
  go_ret
  exact ⟨c, rfl, HQ1.out⟩
set_option maxRecDepth 20000 in
theorem oreadOdd_on (Q : Int → World → Prop) (O : Nat) (w : World)
    (hR : Calls Tryz.prog 182 #[.pointer (some ⟨O, 0, none⟩), .int .i64 1] w fun e w' => ∃ c, e = .returned (.int .i64 c) ∧ Q c w') :
    Calls Tryz.prog 109 #[.pointer (some ⟨O, 0, none⟩)] w fun e w' => ∃ c, e = .returned (.int .i64 c) ∧ Q c w' := by
  have HR := hide hR
  clear hR
  go_enter Tryz.func109, Tryz.ntmps109
  go_wp2_with fail
  refine HR.out.mono ?_
  rintro e w1 ⟨c, rfl, hq1⟩
  have HQ1 := hide hq1
  clear hq1
  go_wp2
  go_ret
  exact ⟨c, rfl, HQ1.out⟩
set_option maxRecDepth 20000 in
theorem orefuse_no (O : Nat) (a : Option Addr) (c : Nat) (w : World) (h3 : w.cell? ⟨O, 3, none⟩ = some (.slice a 0 c)) :
    Calls Tryz.prog 110 #[.pointer (some ⟨O, 0, none⟩)] w fun e w' => e = .returned (.int .i64 0) ∧ w' = w := by
  go_enter Tryz.func110, Tryz.ntmps110
  go_wp2
  go_ret
  exact ⟨rfl, rfl⟩
end Go.Proofs.YtgaoeoijdpdjiabGreatDoor

namespace Go.Proofs.YtgaoeoijdpdjiabGreatDoor
open Go.RowKit

set_option maxRecDepth 20000 in
set_option maxHeartbeats 4000000 in
theorem sSplit_on (k b x t l i e : Int) (n : Nat) (rnd sig : ByteArray) (L : List Value) (w : World)
    (hS : ∀ V : World, Calls Tryz.prog 81 #[.agg #[.int .i64 k, .int .i64 b, .int .i64 x, .int .i64 t, .int .i64 l], .string sig] V fun r w' => ∃ g, r = .returned (.tuple #[.agg #[.int .i64 i, .string rnd, .slice (some ⟨g, 0, none⟩) n n], .int .i64 e]) ∧ V.heap.size ≤ g ∧ Blk w' g L 9 ∧ Below V.heap.size V w') :
    Calls Tryz.prog 35 #[.agg #[.int .i64 k, .int .i64 b, .int .i64 x, .int .i64 t, .int .i64 l], .string sig] w fun r w' => ∃ g, r = .returned (.tuple #[.agg #[.int .i64 i, .string rnd, .slice (some ⟨g, 0, none⟩) n n], .int .i64 e]) ∧ w.heap.size ≤ g ∧ Blk w' g L 9 ∧ Below w.heap.size w w' := by
  obtain ⟨W0, hW⟩ : ∃ W0, (w.alloc (.cells #[.int .i64 k, .int .i64 b, .int .i64 x, .int .i64 t, .int .i64 l] 26)).alloc (.cells #[.int .i64 0, .string ⟨#[]⟩, .slice none 0 0] 29) = W0 := ⟨_, rfl⟩
  have HB := hide (show Below w.heap.size w W0 by subst hW; exact ((Below.refl _ _).alloc (Nat.le_refl _) _).alloc (by simp) _)
  have HR := hide (show Blk W0 (w.heap.size + 1) [.int .i64 0, .string ⟨#[]⟩, .slice none 0 0] 29 by
    subst hW
    have h := Blk.new (w.alloc (.cells #[.int .i64 k, .int .i64 b, .int .i64 x, .int .i64 t, .int .i64 l] 26)) [.int .i64 0, .string ⟨#[]⟩, .slice none 0 0] 29
    simp only [World.size_alloc] at h
    exact h)
  have hz' : w.heap.size + 2 ≤ W0.heap.size := by subst hW; simp
  have HS := hide (hS W0)
  have HWE := hide hW
  clear hS hW
  go_enter Tryz.func35, Tryz.ntmps35
  go_wp2_with fail
  rw [HWE.out]
  refine HS.out.mono ?_
  rintro r w1 ⟨g, rfl, hg, hbk, hb1⟩
  have HR1 := hide (HR.out.on hb1)
  have HB1 := hide (HB.out.trans (hb1.mono HB.out.size))
  have HK1 := hide hbk
  have HG := hide hg
  clear hb1 hbk hg
  have r0 := HR1.out.cell 0
  have r1 := HR1.out.cell 1
  have r2 := HR1.out.cell 2
  have f0 := HR1.out.free 0
  have f1 := HR1.out.free 1
  have f2 := HR1.out.free 2
  simp only [List.getElem?_cons_zero, List.getElem?_cons_succ] at r0 r1 r2
  go_wp2
  refine bodyPost_ret (v := .tuple #[.agg #[.int .i64 i, .string rnd, .slice (some ⟨g, 0, none⟩) n n], .int .i64 e]) (by simp [results, Tryz.results35, go_sem, r0, r1, r2]) rfl ⟨g, rfl, ?_, ?_, ?_⟩
  · have := HG.out; omega
  · have hne : g ≠ w.heap.size + 1 := by have := HG.out; omega
    exact ((HK1.out.other (a := ⟨w.heap.size + 1, 0, none⟩) _ hne).other (a := ⟨w.heap.size + 1, 1, none⟩) _ hne).other (a := ⟨w.heap.size + 1, 2, none⟩) _ hne
  · have HBB := HB1.out
    iterate 3 refine Below.setCell ?_ (by simp) _
    exact HBB

set_option maxRecDepth 20000 in
set_option maxHeartbeats 4000000 in
theorem sSplit_no (k b x t l e : Int) (sig : ByteArray) (w : World)
    (hS : ∀ V : World, Calls Tryz.prog 81 #[.agg #[.int .i64 k, .int .i64 b, .int .i64 x, .int .i64 t, .int .i64 l], .string sig] V fun r w' => r = .returned (.tuple #[.agg #[.int .i64 0, .string ⟨#[]⟩, .slice none 0 0], .int .i64 e]) ∧ Below V.heap.size V w') :
    Calls Tryz.prog 35 #[.agg #[.int .i64 k, .int .i64 b, .int .i64 x, .int .i64 t, .int .i64 l], .string sig] w fun r w' => r = .returned (.tuple #[.agg #[.int .i64 0, .string ⟨#[]⟩, .slice none 0 0], .int .i64 e]) ∧ Below w.heap.size w w' := by
  obtain ⟨W0, hW⟩ : ∃ W0, (w.alloc (.cells #[.int .i64 k, .int .i64 b, .int .i64 x, .int .i64 t, .int .i64 l] 26)).alloc (.cells #[.int .i64 0, .string ⟨#[]⟩, .slice none 0 0] 29) = W0 := ⟨_, rfl⟩
  have HB := hide (show Below w.heap.size w W0 by subst hW; exact ((Below.refl _ _).alloc (Nat.le_refl _) _).alloc (by simp) _)
  have HR := hide (show Blk W0 (w.heap.size + 1) [.int .i64 0, .string ⟨#[]⟩, .slice none 0 0] 29 by
    subst hW
    have h := Blk.new (w.alloc (.cells #[.int .i64 k, .int .i64 b, .int .i64 x, .int .i64 t, .int .i64 l] 26)) [.int .i64 0, .string ⟨#[]⟩, .slice none 0 0] 29
    simp only [World.size_alloc] at h
    exact h)
  have HS := hide (hS W0)
  have HWE := hide hW
  clear hS hW
  go_enter Tryz.func35, Tryz.ntmps35
  go_wp2_with fail
  rw [HWE.out]
  refine HS.out.mono ?_
  rintro r w1 ⟨rfl, hb1⟩
  have HR1 := hide (HR.out.on hb1)
  have HB1 := hide (HB.out.trans (hb1.mono HB.out.size))
  clear hb1
  have r0 := HR1.out.cell 0
  have r1 := HR1.out.cell 1
  have r2 := HR1.out.cell 2
  have f0 := HR1.out.free 0
  have f1 := HR1.out.free 1
  have f2 := HR1.out.free 2
  simp only [List.getElem?_cons_zero, List.getElem?_cons_succ] at r0 r1 r2
  go_wp2
  refine bodyPost_ret (v := .tuple #[.agg #[.int .i64 0, .string ⟨#[]⟩, .slice none 0 0], .int .i64 e]) (by simp [results, Tryz.results35, go_sem, r0, r1, r2]) rfl ⟨rfl, ?_⟩
  have HBB := HB1.out
  iterate 3 refine Below.setCell ?_ (by simp) _
  exact HBB

set_option maxRecDepth 20000 in
set_option maxHeartbeats 4000000 in
theorem sJoin_on (k b x t l i e : Int) (rnd res : ByteArray) (sp : Option Addr) (n c : Nat) (w : World)
    (hJ : ∀ V : World, Below w.heap.size w V → Calls Tryz.prog 85 #[.agg #[.int .i64 k, .int .i64 b, .int .i64 x, .int .i64 t, .int .i64 l], .agg #[.int .i64 i, .string rnd, .slice sp n c]] V fun r w' => r = .returned (.tuple #[.string res, .int .i64 e]) ∧ Below V.heap.size V w') :
    Calls Tryz.prog 41 #[.agg #[.int .i64 k, .int .i64 b, .int .i64 x, .int .i64 t, .int .i64 l], .agg #[.int .i64 i, .string rnd, .slice sp n c]] w fun r w' => r = .returned (.tuple #[.string res, .int .i64 e]) ∧ Below w.heap.size w w' := by
  have HB := hide (((Below.refl w.heap.size w).alloc (Nat.le_refl _) (.cells #[.int .i64 k, .int .i64 b, .int .i64 x, .int .i64 t, .int .i64 l] 26)).alloc (by simp) (.cells #[.int .i64 i, .string rnd, .slice sp n c] 29))
  have HJ := hide (hJ _ HB.out)
  clear hJ
  go_enter Tryz.func41, Tryz.ntmps41
  go_wp2_with fail
  refine HJ.out.mono ?_
  rintro r w1 ⟨rfl, hb1⟩
  have HB1 := hide (HB.out.trans (hb1.mono HB.out.size))
  clear hb1
  go_wp2
  go_ret2
  exact ⟨rfl, HB1.out⟩

set_option maxRecDepth 20000 in
theorem sVerify_on (key msg sig : ByteArray) (e : Int) (w : World)
    (hV : Calls Tryz.prog 88 #[.string key, .string msg, .string sig] w fun r w' => r = .returned (.int .i64 e) ∧ Below w.heap.size w w') :
    Calls Tryz.prog 44 #[.string key, .string msg, .string sig] w fun r w' => r = .returned (.int .i64 e) ∧ Below w.heap.size w w' := by
  have HV := hide hV
  clear hV
  go_enter Tryz.func44, Tryz.ntmps44
  go_wp2_with fail
  refine HV.out.mono ?_
  rintro r w1 ⟨rfl, hb1⟩
  have HB1 := hide hb1
  clear hb1
  go_wp2
  go_ret
  exact ⟨rfl, HB1.out⟩
end Go.Proofs.YtgaoeoijdpdjiabGreatDoor

namespace Go.Proofs.YtgaoeoijdpdjiabGreatDoor
open Go.RowKit

set_option maxRecDepth 20000 in
theorem lay_on (Q : Int → World → Prop) (D : Nat) (q b q2 : Int) (d : ByteArray) (w : World) (h : RecR q b d) (hq : Int.tmod q 2 = q2) (_hv : IntKind.i64.wrap q2 = q2)
    (hW : ∀ V : World, Below w.heap.size w V → Calls Tryz.prog 104 #[.pointer (some ⟨D, 0, none⟩), .int .i64 q2, .string (sealS q b d)] V fun e w' => ∃ c, e = .returned (.int .i64 c) ∧ Q c w') :
    Calls Tryz.prog 183 #[.pointer (some ⟨D, 0, none⟩), .agg #[.int .i64 q, .int .i64 b, .string d]] w fun e w' => ∃ c, e = .returned (.int .i64 c) ∧ Q c w' := by
  have HS := hide (fun V : World => seal_yes q b d V h)
  have HW := hide hW
  have HK := hide (Blk.new w [.int .i64 q, .int .i64 b, .string d] 186)
  clear hW h
  generalize sealS q b d = z at HS HW
  go_enter Tryz.func183, Tryz.ntmps183
  go_wp2_with fail
  refine (HS.out _).mono ?_
  rintro e w1 ⟨rfl, hb1⟩
  have c0 : w1.cell? ⟨w.heap.size, 0, none⟩ = some (.int .i64 q) := (HK.out.on hb1).cell 0
  have HB := hide (((Below.refl w.heap.size w).alloc (Nat.le_refl _) _).trans (hb1.mono (by simp)))
  clear hb1
  go_wp2_with fail
  refine (HW.out _ HB.out).mono ?_
  rintro e w2 ⟨c, rfl, hQ⟩
  have HQ := hide hQ
  clear hQ
  go_wp2
  go_ret
  exact ⟨c, rfl, HQ.out⟩
end Go.Proofs.YtgaoeoijdpdjiabGreatDoor

namespace Go.Proofs.YtgaoeoijdpdjiabGreatDoor
open Go.RowKit

theorem madeStr (n : Nat) : madeCells (Value.string ⟨#[]⟩).cells n = ((List.replicate n (⟨#[]⟩ : ByteArray)).map Value.string).toArray := by
  apply Array.ext
  · simp [size_madeCells]
  · intro i h1 h2
    simp [madeCells, Value.cells, Nat.mod_one]
theorem makeStr (k : Nat) (hk : k ≤ 1000) (w : World) : (Instr.makeSlice 27 (.int .i64 k) (.int .i64 k)).run Tryz.prog w = .ok (.slice (some ⟨w.heap.size, 0, none⟩) k k) (w.alloc (.cells ((List.replicate k (⟨#[]⟩ : ByteArray)).map Value.string).toArray 9)) := by
  obtain ⟨i0, hi, hz0, hz1, hz2⟩ := info_parts infoStr
  have h := run_make (P := Tryz.prog) w 27 9 i0 (.string ⟨#[]⟩) Tryz.underlying27 hi hz0 .i64 .i64 k k (by omega) (by omega) (by rw [hz2]; omega) (by omega)
  rw [hz1, Nat.mul_one, Int.toNat_natCast, madeStr] at h
  exact h

theorem heldN {n : Nat} {w W V : World} (h : Below n w W) (hb : Below W.heap.size W V) (hn : n ≤ w.heap.size) : Below n w V := h.trans (hb.mono (Nat.le_trans hn h.size))
end Go.Proofs.YtgaoeoijdpdjiabGreatDoor

namespace Go.Proofs.YtgaoeoijdpdjiabGreatDoor
open Go.RowKit

theorem undInt : Tryz.prog.underlying 3 = some (.int .i64) := Tryz.underlying3

set_option maxRecDepth 20000 in
set_option maxHeartbeats 4000000 in
theorem grow_nil (N : Nat) (w : World) (h1 : 1 ≤ N) (h2 : N ≤ 1000) :
    Calls Tryz.prog 301 #[.slice none 0 0, .int .i64 N] w fun e w' => ∃ g cap, e = .returned (.slice (some ⟨g, 0, none⟩) 0 cap) ∧ w'.ownsRow w.heap.size 9 1 (.slice (some ⟨g, 0, none⟩) 0 cap) 0 [] ∧ Below w.heap.size w w' := by
  obtain ⟨i0, hi, hz0, hz1, hz2⟩ := info_parts infoStr
  have hr := Lib.run_append_nil_zeros (P := Tryz.prog) w 27 3 27 9 i0 (.string ⟨#[]⟩) .i64 .i64 Tryz.underlying27 undInt hi hz0 N (by omega) (by rw [hz1]; decide) (by omega) (by rw [hz2]; omega)
  have hge := grownCap_ge w N 0 9
  have hle := grownCap_le_maxLen w N 0 9 (by unfold maxLen; omega)
  generalize grownCap w N 0 9 = cap at hr hge hle
  have HO := hide (show (w.drew.alloc (.cells (Builtin.zeroCells (Value.string ⟨#[]⟩).cells N ++ Builtin.zeroCells (Value.string ⟨#[]⟩).cells (cap - N)) 9)).ownsRow w.heap.size 9 1 (.slice (some ⟨w.heap.size, 0, none⟩) 0 cap) 0 [] by
    refine ⟨rfl, Or.inr ⟨w.heap.size, cap, _, rfl, Nat.le_refl _, World.alloc_heap_new w.drew _, Nat.zero_le _, hle, ?_, by simp⟩⟩
    simp [Builtin.zeroCells, Value.cells]
    omega)
  have HB := hide (show Below w.heap.size w (w.drew.alloc (.cells (Builtin.zeroCells (Value.string ⟨#[]⟩).cells N ++ Builtin.zeroCells (Value.string ⟨#[]⟩).cells (cap - N)) 9)) from (Below.refl w.heap.size w).drew.alloc (Nat.le_refl _) _)
  generalize w.drew.alloc (.cells (Builtin.zeroCells (Value.string ⟨#[]⟩).cells N ++ Builtin.zeroCells (Value.string ⟨#[]⟩).cells (cap - N)) 9) = W1 at hr HO HB
  have HR := hide hr
  clear hr
  have hN0 : (0 : Int) < (N : Int) := by omega
  go_enter Tryz.func301, Tryz.ntmps301
  go_wp2_with (at_builtin; refine Lib.wpList_append_run _ rfl (.tmp 20) (.tmp 21) 27 3 rfl (.slice none 0 0) (.int .i64 N) rfl rfl _ _ HR.out ?_)
  go_ret
  exact ⟨_, _, rfl, HO.out, HB.out⟩
end Go.Proofs.YtgaoeoijdpdjiabGreatDoor

namespace Go.Proofs.YtgaoeoijdpdjiabGreatDoor
open Go.RowKit

/-- The value of height h over the leaf number F. -/
def climbS (k b : Int) (pub : ByteArray) (p0 p1 : Int) (F : Nat) (path : List ByteArray) (y : ByteArray) : Nat → ByteArray
  | 0 => y
  | h + 1 => if F / 2 ^ h % 2 = 0 then joinS k b pub p0 p1 (h + 1 : Nat) (F / 2 ^ (h + 1) : Nat) (climbS k b pub p0 p1 F path y h) (path.getD h ⟨#[]⟩) else joinS k b pub p0 p1 (h + 1 : Nat) (F / 2 ^ (h + 1) : Nat) (path.getD h ⟨#[]⟩) (climbS k b pub p0 p1 F path y h)

theorem climbS_size (k b : Int) (pub : ByteArray) (p0 p1 : Int) (F : Nat) (path : List ByteArray) (y : ByteArray) (hk : k = 1 ∨ k = 2) (h1 : 1 ≤ b) (h2 : b ≤ 16) (hp : pub.size ≤ 16) (hy : (y.size : Int) = b) (hx : ∀ z ∈ path, (z.size : Int) = b) : ∀ h, h ≤ path.length → ((climbS k b pub p0 p1 F path y h).size : Int) = b := by
  intro h
  induction h with
  | zero => intro _; exact hy
  | succ h ih =>
    intro hl
    have e0 := ih (by omega)
    have e1 : ((path.getD h ⟨#[]⟩).size : Int) = b := by
      rw [List.getD_eq_getElem?_getD, List.getElem?_eq_getElem (by omega)]
      exact hx _ (List.getElem_mem (by omega))
    rw [climbS]
    split
    · exact joinS_size k b pub p0 p1 _ _ _ _ hk h1 h2 hp (by omega) (by omega)
    · exact joinS_size k b pub p0 p1 _ _ _ _ hk h1 h2 hp (by omega) (by omega)

theorem tdiv_two (a : Nat) : Int.tdiv (a : Int) 2 = ((a / 2 : Nat) : Int) := by rw [Int.tdiv_eq_ediv_of_nonneg (by omega)]; omega
theorem tmod_two (a : Nat) : Int.tmod (a : Int) 2 = ((a % 2 : Nat) : Int) := by rw [Int.tmod_eq_emod_of_nonneg (by omega)]; omega
end Go.Proofs.YtgaoeoijdpdjiabGreatDoor

namespace Go.Proofs.YtgaoeoijdpdjiabGreatDoor
open Go.RowKit

/-- A list of texts lies in memory: nil, or empty at some place, or from a place on. -/
def StrsAt (w : World) (sp : Option Addr) (n c : Nat) (xs : List ByteArray) : Prop :=
  (sp = none ∧ n = 0 ∧ c = 0 ∧ xs = []) ∨ (∃ a : Addr, sp = some a ∧ n = 0 ∧ xs = []) ∨ ∃ bk o, sp = some ⟨bk, o, none⟩ ∧ n = xs.length ∧ xs.length ≤ c ∧ bk < w.heap.size ∧ ∀ (j : Nat) y, xs[j]? = some y → w.cell? ⟨bk, o + j, none⟩ = some (.string y)
theorem StrsAt.len {w : World} {sp : Option Addr} {n c : Nat} {xs : List ByteArray} (h : StrsAt w sp n c xs) : n = xs.length := by
  rcases h with ⟨_, rfl, _, rfl⟩ | ⟨_, _, rfl, rfl⟩ | ⟨_, _, _, h, _⟩
  · rfl
  · rfl
  · exact h
theorem StrsAt.on {w V : World} {sp : Option Addr} {n c : Nat} {xs : List ByteArray} (h : StrsAt w sp n c xs) (hb : Below w.heap.size w V) : StrsAt V sp n c xs := by
  rcases h with h | h | ⟨bk, o, h1, h2, h3, h4, h5⟩
  · exact .inl h
  · exact .inr (.inl h)
  · exact .inr (.inr ⟨bk, o, h1, h2, h3, Nat.lt_of_lt_of_le h4 hb.size, fun j y hj => (hb.cell (p := ⟨bk, o + j, none⟩) h4).trans (h5 j y hj)⟩)
theorem vals_any (k b x t l : Int) (sp : Option Addr) (n c : Nat) (xs : List ByteArray) (w : World) (h : StrsAt w sp n c xs) (hN : xs.length ≤ 8796093022208) :
    Calls Tryz.prog 159 #[.agg #[.int .i64 k, .int .i64 b, .int .i64 x, .int .i64 t, .int .i64 l], .slice sp n c] w fun e w' => e = .returned (.bool (allLen b xs)) ∧ Below w.heap.size w w' := by
  rcases h with ⟨rfl, rfl, rfl, rfl⟩ | ⟨a, rfl, rfl, rfl⟩ | ⟨bk, o, rfl, rfl, _, h4, h5⟩
  · exact valuesRight_nil k b x t l w
  · exact valuesRight_emp k b x t l a c w
  · exact valuesRight_some k b x t l bk o c xs w h5 h4 (by omega)
theorem values1 (k b x t l : Int) (pub : ByteArray) (V : World) (B : Nat) (hB : B = V.heap.size) : Calls Tryz.prog 159 #[.agg #[.int .i64 k, .int .i64 b, .int .i64 x, .int .i64 t, .int .i64 l], .slice (some ⟨B, 0, none⟩) 1 1] (V.alloc (.cells #[.string pub] 9)) fun e w' => e = .returned (.bool ((pub.size : Int) == b)) ∧ Below (V.alloc (.cells #[.string pub] 9)).heap.size (V.alloc (.cells #[.string pub] 9)) w' := by
  subst hB
  rw [show ((pub.size : Int) == b) = allLen b [pub] by simp [allLen, Bool.beq_eq_decide_eq]]
  exact valuesRight_some k b x t l V.heap.size 0 1 [pub] (V.alloc (.cells #[.string pub] 9)) (by
    intro j y hj
    match j, hj with
    | 0, hj => simp at hj; subst hj; simp [go_sem]) (by simp) (by simp)
theorem values2B (k b x t l : Int) (pub y : ByteArray) (V : World) (B : Nat) (hB : B = V.heap.size) : Calls Tryz.prog 159 #[.agg #[.int .i64 k, .int .i64 b, .int .i64 x, .int .i64 t, .int .i64 l], .slice (some ⟨B, 0, none⟩) 2 2] (V.alloc (.cells #[.string pub, .string y] 9)) fun e w' => e = .returned (.bool ((pub.size : Int) == b && (y.size : Int) == b)) ∧ Below (V.alloc (.cells #[.string pub, .string y] 9)).heap.size (V.alloc (.cells #[.string pub, .string y] 9)) w' := by
  subst hB
  rw [show ((pub.size : Int) == b && (y.size : Int) == b) = allLen b [pub, y] by simp [allLen, Bool.beq_eq_decide_eq]]
  exact valuesRight_some k b x t l V.heap.size 0 2 [pub, y] (V.alloc (.cells #[.string pub, .string y] 9)) (by
    intro j y hj
    match j, hj with
    | 0, hj => simp at hj; subst hj; simp [go_sem]
    | 1, hj => simp at hj; subst hj; simp [go_sem]) (by simp) (by simp)
end Go.Proofs.YtgaoeoijdpdjiabGreatDoor
