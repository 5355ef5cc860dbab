/-
  The program's Verify, its calls' answers being given. The program's within, Leaves, trees. The program's New: a tree. signet.Split, Join, Verify: what the calls below answer. A list of texts in memory, and what both sides say of its lengths.
-/
import Derived.Test.YtgaoeoijdpdjiabGreatDoorPart21
import Derived.Test.YtgaoeoijdpdjiabGreatDoorPart23
import Derived.Test.YtgaoeoijdpdjiabGreatDoorPart4
import Derived.Test.YtgaoeoijdpdjiabGreatDoorPart5
namespace Go.Proofs.YtgaoeoijdpdjiabGreatDoor
open Go.RowKit

set_option maxRecDepth 20000 in
set_option maxHeartbeats 4000000 in
theorem verify_key  (key msg sig : ByteArray) (w : World)
    (hK : ∀ V : World, Calls Tryz.prog 162 #[.string key] V fun e w' => e = .returned (.tuple #[.agg #[.int .i64 0, .int .i64 0, .int .i64 0, .int .i64 0, .int .i64 0, .string ⟨#[]⟩, .string ⟨#[]⟩], .int .i64 11]) ∧ Below V.heap.size V w') :
    Calls Tryz.prog 88 #[.string key, .string msg, .string sig] w fun e w' => e = .returned (.int .i64 11) ∧ Below w.heap.size w w' := by
  have HKK := hide hK
  clear hK
  go_enter Tryz.func88, Tryz.ntmps88
  go_wp2_with fail
  refine (HKK.out _).mono ?_
  rintro e w1 ⟨rfl, hb1⟩
  have HB1 := hide hb1
  clear hb1
  have HB2 := hide (HB1.out.alloc HB1.out.size (.cells #[.int .i64 0, .int .i64 0, .int .i64 0, .int .i64 0, .int .i64 0, .string ⟨#[]⟩, .string ⟨#[]⟩] 184))
  have HK2 := hide (Blk.new w1 [.int .i64 0, .int .i64 0, .int .i64 0, .int .i64 0, .int .i64 0, .string ⟨#[]⟩, .string ⟨#[]⟩] 184)
  go_wp2
  go_ret
  exact ⟨rfl, HB2.out⟩

set_option maxRecDepth 20000 in
set_option maxHeartbeats 4000000 in
theorem verify_long (k b x t l : Int) (root pub : ByteArray) (key msg sig : ByteArray) (w : World) (hm : 200 < msg.size)
    (hK : ∀ V : World, Calls Tryz.prog 162 #[.string key] V fun e w' => e = .returned (.tuple #[.agg #[.int .i64 k, .int .i64 b, .int .i64 x, .int .i64 t, .int .i64 l, .string root, .string pub], .int .i64 0]) ∧ Below V.heap.size V w') :
    Calls Tryz.prog 88 #[.string key, .string msg, .string sig] w fun e w' => e = .returned (.int .i64 3) ∧ Below w.heap.size w w' := by
  have hm2 : (200 : Int) < (msg.size : Int) := by omega
  have HKK := hide hK
  clear hK
  go_enter Tryz.func88, Tryz.ntmps88
  go_wp2_with fail
  refine (HKK.out _).mono ?_
  rintro e w1 ⟨rfl, hb1⟩
  have HB1 := hide hb1
  clear hb1
  have HB2 := hide (HB1.out.alloc HB1.out.size (.cells #[.int .i64 k, .int .i64 b, .int .i64 x, .int .i64 t, .int .i64 l, .string root, .string pub] 184))
  have HK2 := hide (Blk.new w1 [.int .i64 k, .int .i64 b, .int .i64 x, .int .i64 t, .int .i64 l, .string root, .string pub] 184)
  go_wp2
  go_ret
  exact ⟨rfl, HB2.out⟩

set_option maxRecDepth 20000 in
set_option maxHeartbeats 4000000 in
theorem verify_form (k b x t l er : Int) (root pub : ByteArray) (key msg sig : ByteArray) (w : World) (hm : msg.size ≤ 200) (her : er ≠ 0)
    (hK : ∀ V : World, Calls Tryz.prog 162 #[.string key] V fun e w' => e = .returned (.tuple #[.agg #[.int .i64 k, .int .i64 b, .int .i64 x, .int .i64 t, .int .i64 l, .string root, .string pub], .int .i64 0]) ∧ Below V.heap.size V w')
    (hS : ∀ V : World, Calls Tryz.prog 81 #[.agg #[.int .i64 k, .int .i64 b, .int .i64 x, .int .i64 t, .int .i64 l], .string sig] V fun r w' => r = .returned (.tuple #[.agg #[.int .i64 0, .string ⟨#[]⟩, .slice none 0 0], .int .i64 er]) ∧ Below V.heap.size V w') :
    Calls Tryz.prog 88 #[.string key, .string msg, .string sig] w fun e w' => e = .returned (.int .i64 er) ∧ Below w.heap.size w w' := by
  have hm2 : ¬ (200 : Int) < (msg.size : Int) := by omega
  have HSS := hide hS
  clear hS
  have HKK := hide hK
  clear hK
  go_enter Tryz.func88, Tryz.ntmps88
  go_wp2_with fail
  refine (HKK.out _).mono ?_
  rintro e w1 ⟨rfl, hb1⟩
  have HB1 := hide hb1
  clear hb1
  have HB2 := hide (HB1.out.alloc HB1.out.size (.cells #[.int .i64 k, .int .i64 b, .int .i64 x, .int .i64 t, .int .i64 l, .string root, .string pub] 184))
  have HK2 := hide (Blk.new w1 [.int .i64 k, .int .i64 b, .int .i64 x, .int .i64 t, .int .i64 l, .string root, .string pub] 184)
  obtain ⟨W2, hW2⟩ : ∃ W2, w1.alloc (.cells #[.int .i64 k, .int .i64 b, .int .i64 x, .int .i64 t, .int .i64 l, .string root, .string pub] 184) = W2 := ⟨_, rfl⟩
  rw [hW2] at HB2 HK2
  have HW2 := hide hW2
  clear hW2
  go_wp2_with fail
  rw [HW2.out]
  refine (HSS.out _).mono ?_
  rintro e w3 ⟨rfl, hb3⟩
  have HB3 := hide (heldB HB2.out hb3 (Nat.le_refl _))
  clear hb3
  have m0 : ((er : Int) != 0) = true := by simpa using her
  have m1 : ((er : Int) == 0) = false := by simpa using her
  go_wp2
  go_ret
  exact ⟨rfl, HB3.out.alloc HB3.out.size _⟩

set_option maxRecDepth 20000 in
set_option maxHeartbeats 4000000 in
theorem verify_yes (k b x t l idx : Int) (n : Nat) (root pub rnd : ByteArray) (ps : List ByteArray) (key msg sig : ByteArray) (w : World) (hm : msg.size ≤ 200) (hT : Tn w)
    (hK : ∀ V : World, Calls Tryz.prog 162 #[.string key] V fun e w' => e = .returned (.tuple #[.agg #[.int .i64 k, .int .i64 b, .int .i64 x, .int .i64 t, .int .i64 l, .string root, .string pub], .int .i64 0]) ∧ Below V.heap.size V w')
    (hS : ∀ V : World, Calls Tryz.prog 81 #[.agg #[.int .i64 k, .int .i64 b, .int .i64 x, .int .i64 t, .int .i64 l], .string sig] V fun r w' => ∃ g, r = .returned (.tuple #[.agg #[.int .i64 idx, .string rnd, .slice (some ⟨g, 0, none⟩) n n], .int .i64 0]) ∧ V.heap.size ≤ g ∧ Blk w' g (ps.map Value.string) 9 ∧ Below V.heap.size V w')
    (hR : ∀ (V : World) (g : Nat), Tn V → Blk V g (ps.map Value.string) 9 → Calls Tryz.prog 163 #[.agg #[.int .i64 k, .int .i64 b, .int .i64 x, .int .i64 t, .int .i64 l, .string root, .string pub], .agg #[.int .i64 idx, .string rnd, .slice (some ⟨g, 0, none⟩) n n], .string msg] V fun r w' => r = .returned (.string root) ∧ Below V.heap.size V w') :
    Calls Tryz.prog 88 #[.string key, .string msg, .string sig] w fun e w' => e = .returned (.int .i64 0) ∧ Below w.heap.size w w' := by
  have hm2 : ¬ (200 : Int) < (msg.size : Int) := by omega
  have HSS := hide hS
  clear hS
  have HRR := hide hR
  clear hR
  have HKK := hide hK
  clear hK
  go_enter Tryz.func88, Tryz.ntmps88
  go_wp2_with fail
  refine (HKK.out _).mono ?_
  rintro e w1 ⟨rfl, hb1⟩
  have HB1 := hide hb1
  clear hb1
  have HB2 := hide (HB1.out.alloc HB1.out.size (.cells #[.int .i64 k, .int .i64 b, .int .i64 x, .int .i64 t, .int .i64 l, .string root, .string pub] 184))
  have HK2 := hide (Blk.new w1 [.int .i64 k, .int .i64 b, .int .i64 x, .int .i64 t, .int .i64 l, .string root, .string pub] 184)
  obtain ⟨W2, hW2⟩ : ∃ W2, w1.alloc (.cells #[.int .i64 k, .int .i64 b, .int .i64 x, .int .i64 t, .int .i64 l, .string root, .string pub] 184) = W2 := ⟨_, rfl⟩
  rw [hW2] at HB2 HK2
  have HW2 := hide hW2
  clear hW2
  go_wp2_with fail
  rw [HW2.out]
  refine (HSS.out _).mono ?_
  rintro e w3 ⟨g, rfl, hg, hbk, hb3⟩
  have HB3 := hide (heldB HB2.out hb3 (Nat.le_refl _))
  have HK3 := hide (HK2.out.on hb3)
  have HG3 := hide hbk
  clear hb3 hg hbk
  have HB4 := hide (HB3.out.alloc HB3.out.size (.cells #[.int .i64 idx, .string rnd, .slice (some ⟨g, 0, none⟩) n n] 29))
  have HK4 := hide (HK3.out.alloc (.cells #[.int .i64 idx, .string rnd, .slice (some ⟨g, 0, none⟩) n n] 29))
  have HG4 := hide (HG3.out.alloc (.cells #[.int .i64 idx, .string rnd, .slice (some ⟨g, 0, none⟩) n n] 29))
  have HP4 := hide (Blk.new w3 [.int .i64 idx, .string rnd, .slice (some ⟨g, 0, none⟩) n n] 29)
  obtain ⟨W4, hW4⟩ : ∃ W4, w3.alloc (.cells #[.int .i64 idx, .string rnd, .slice (some ⟨g, 0, none⟩) n n] 29) = W4 := ⟨_, rfl⟩
  rw [hW4] at HB4 HK4 HG4 HP4
  have HW4 := hide hW4
  clear hW4
  have HS := hide (fun (V : World) (h : Below W4.heap.size W4 V) => (by
    have q1 := HK4.out.on h
    have q2 := HP4.out.on h
    exact ⟨q1.cell 0, q1.cell 1, q1.cell 2, q1.cell 3, q1.cell 4, q1.cell 5, q1.cell 6, q2.cell 0, q2.cell 1, q2.cell 2⟩ : V.cell? ⟨w1.heap.size, 0, none⟩ = some (.int .i64 k) ∧ V.cell? ⟨w1.heap.size, 1, none⟩ = some (.int .i64 b) ∧ V.cell? ⟨w1.heap.size, 2, none⟩ = some (.int .i64 x) ∧ V.cell? ⟨w1.heap.size, 3, none⟩ = some (.int .i64 t) ∧ V.cell? ⟨w1.heap.size, 4, none⟩ = some (.int .i64 l) ∧ V.cell? ⟨w1.heap.size, 5, none⟩ = some (.string root) ∧ V.cell? ⟨w1.heap.size, 6, none⟩ = some (.string pub) ∧ V.cell? ⟨w3.heap.size, 0, none⟩ = some (.int .i64 idx) ∧ V.cell? ⟨w3.heap.size, 1, none⟩ = some (.string rnd) ∧ V.cell? ⟨w3.heap.size, 2, none⟩ = some (.slice (some ⟨g, 0, none⟩) n n)))
  have HT4 := hide (hT.on HB4.out)
  go_wp2_with fail
  rw [HW4.out]
  go_region_held3 (fun V => V.cell? ⟨w1.heap.size, 0, none⟩ = some (.int .i64 k) ∧ V.cell? ⟨w1.heap.size, 1, none⟩ = some (.int .i64 b) ∧ V.cell? ⟨w1.heap.size, 2, none⟩ = some (.int .i64 x) ∧ V.cell? ⟨w1.heap.size, 3, none⟩ = some (.int .i64 t) ∧ V.cell? ⟨w1.heap.size, 4, none⟩ = some (.int .i64 l) ∧ V.cell? ⟨w1.heap.size, 5, none⟩ = some (.string root) ∧ V.cell? ⟨w1.heap.size, 6, none⟩ = some (.string pub) ∧ V.cell? ⟨w3.heap.size, 0, none⟩ = some (.int .i64 idx) ∧ V.cell? ⟨w3.heap.size, 1, none⟩ = some (.string rnd) ∧ V.cell? ⟨w3.heap.size, 2, none⟩ = some (.slice (some ⟨g, 0, none⟩) n n)) (first | exact HS.out _ hS1 | exact HS.out _ (Below.refl W4.heap.size W4).drew) ((go_at_call 163; refine (HRR.out _ g (HT4.out.on (Below.refl W4.heap.size W4).drew) (HG4.out.on (Below.refl W4.heap.size W4).drew)).mono ?_; rintro e w5 ⟨rfl, hb5⟩; have hS1 := heldB (Below.refl W4.heap.size W4).drew hb5 (Nat.le_refl _)))
  have HB5 := hide (heldB HB4.out hS1 (Nat.le_refl _))
  clear hS1 hb5
  go_wp2
  go_ret
  exact ⟨rfl, HB5.out⟩

set_option maxRecDepth 20000 in
set_option maxHeartbeats 4000000 in
theorem verify_no (k b x t l idx : Int) (n : Nat) (root pub rnd rr : ByteArray) (ps : List ByteArray) (key msg sig : ByteArray) (w : World) (hm : msg.size ≤ 200) (hT : Tn w) (hne : ¬ rr.toList = root.toList)
    (hK : ∀ V : World, Calls Tryz.prog 162 #[.string key] V fun e w' => e = .returned (.tuple #[.agg #[.int .i64 k, .int .i64 b, .int .i64 x, .int .i64 t, .int .i64 l, .string root, .string pub], .int .i64 0]) ∧ Below V.heap.size V w')
    (hS : ∀ V : World, Calls Tryz.prog 81 #[.agg #[.int .i64 k, .int .i64 b, .int .i64 x, .int .i64 t, .int .i64 l], .string sig] V fun r w' => ∃ g, r = .returned (.tuple #[.agg #[.int .i64 idx, .string rnd, .slice (some ⟨g, 0, none⟩) n n], .int .i64 0]) ∧ V.heap.size ≤ g ∧ Blk w' g (ps.map Value.string) 9 ∧ Below V.heap.size V w')
    (hR : ∀ (V : World) (g : Nat), Tn V → Blk V g (ps.map Value.string) 9 → Calls Tryz.prog 163 #[.agg #[.int .i64 k, .int .i64 b, .int .i64 x, .int .i64 t, .int .i64 l, .string root, .string pub], .agg #[.int .i64 idx, .string rnd, .slice (some ⟨g, 0, none⟩) n n], .string msg] V fun r w' => r = .returned (.string rr) ∧ Below V.heap.size V w') :
    Calls Tryz.prog 88 #[.string key, .string msg, .string sig] w fun e w' => e = .returned (.int .i64 13) ∧ Below w.heap.size w w' := by
  have hm2 : ¬ (200 : Int) < (msg.size : Int) := by omega
  have HSS := hide hS
  clear hS
  have HRR := hide hR
  clear hR
  have ne1 : (rr.toList == root.toList) = false := by simpa using hne
  have ne2 : (rr.toList != root.toList) = true := by simpa using hne
  have HKK := hide hK
  clear hK
  go_enter Tryz.func88, Tryz.ntmps88
  go_wp2_with fail
  refine (HKK.out _).mono ?_
  rintro e w1 ⟨rfl, hb1⟩
  have HB1 := hide hb1
  clear hb1
  have HB2 := hide (HB1.out.alloc HB1.out.size (.cells #[.int .i64 k, .int .i64 b, .int .i64 x, .int .i64 t, .int .i64 l, .string root, .string pub] 184))
  have HK2 := hide (Blk.new w1 [.int .i64 k, .int .i64 b, .int .i64 x, .int .i64 t, .int .i64 l, .string root, .string pub] 184)
  obtain ⟨W2, hW2⟩ : ∃ W2, w1.alloc (.cells #[.int .i64 k, .int .i64 b, .int .i64 x, .int .i64 t, .int .i64 l, .string root, .string pub] 184) = W2 := ⟨_, rfl⟩
  rw [hW2] at HB2 HK2
  have HW2 := hide hW2
  clear hW2
  go_wp2_with fail
  rw [HW2.out]
  refine (HSS.out _).mono ?_
  rintro e w3 ⟨g, rfl, hg, hbk, hb3⟩
  have HB3 := hide (heldB HB2.out hb3 (Nat.le_refl _))
  have HK3 := hide (HK2.out.on hb3)
  have HG3 := hide hbk
  clear hb3 hg hbk
  have HB4 := hide (HB3.out.alloc HB3.out.size (.cells #[.int .i64 idx, .string rnd, .slice (some ⟨g, 0, none⟩) n n] 29))
  have HK4 := hide (HK3.out.alloc (.cells #[.int .i64 idx, .string rnd, .slice (some ⟨g, 0, none⟩) n n] 29))
  have HG4 := hide (HG3.out.alloc (.cells #[.int .i64 idx, .string rnd, .slice (some ⟨g, 0, none⟩) n n] 29))
  have HP4 := hide (Blk.new w3 [.int .i64 idx, .string rnd, .slice (some ⟨g, 0, none⟩) n n] 29)
  obtain ⟨W4, hW4⟩ : ∃ W4, w3.alloc (.cells #[.int .i64 idx, .string rnd, .slice (some ⟨g, 0, none⟩) n n] 29) = W4 := ⟨_, rfl⟩
  rw [hW4] at HB4 HK4 HG4 HP4
  have HW4 := hide hW4
  clear hW4
  have HS := hide (fun (V : World) (h : Below W4.heap.size W4 V) => (by
    have q1 := HK4.out.on h
    have q2 := HP4.out.on h
    exact ⟨q1.cell 0, q1.cell 1, q1.cell 2, q1.cell 3, q1.cell 4, q1.cell 5, q1.cell 6, q2.cell 0, q2.cell 1, q2.cell 2⟩ : V.cell? ⟨w1.heap.size, 0, none⟩ = some (.int .i64 k) ∧ V.cell? ⟨w1.heap.size, 1, none⟩ = some (.int .i64 b) ∧ V.cell? ⟨w1.heap.size, 2, none⟩ = some (.int .i64 x) ∧ V.cell? ⟨w1.heap.size, 3, none⟩ = some (.int .i64 t) ∧ V.cell? ⟨w1.heap.size, 4, none⟩ = some (.int .i64 l) ∧ V.cell? ⟨w1.heap.size, 5, none⟩ = some (.string root) ∧ V.cell? ⟨w1.heap.size, 6, none⟩ = some (.string pub) ∧ V.cell? ⟨w3.heap.size, 0, none⟩ = some (.int .i64 idx) ∧ V.cell? ⟨w3.heap.size, 1, none⟩ = some (.string rnd) ∧ V.cell? ⟨w3.heap.size, 2, none⟩ = some (.slice (some ⟨g, 0, none⟩) n n)))
  have HT4 := hide (hT.on HB4.out)
  go_wp2_with fail
  rw [HW4.out]
  go_region_held3 (fun V => V.cell? ⟨w1.heap.size, 0, none⟩ = some (.int .i64 k) ∧ V.cell? ⟨w1.heap.size, 1, none⟩ = some (.int .i64 b) ∧ V.cell? ⟨w1.heap.size, 2, none⟩ = some (.int .i64 x) ∧ V.cell? ⟨w1.heap.size, 3, none⟩ = some (.int .i64 t) ∧ V.cell? ⟨w1.heap.size, 4, none⟩ = some (.int .i64 l) ∧ V.cell? ⟨w1.heap.size, 5, none⟩ = some (.string root) ∧ V.cell? ⟨w1.heap.size, 6, none⟩ = some (.string pub) ∧ V.cell? ⟨w3.heap.size, 0, none⟩ = some (.int .i64 idx) ∧ V.cell? ⟨w3.heap.size, 1, none⟩ = some (.string rnd) ∧ V.cell? ⟨w3.heap.size, 2, none⟩ = some (.slice (some ⟨g, 0, none⟩) n n)) (first | exact HS.out _ hS1 | exact HS.out _ (Below.refl W4.heap.size W4).drew) ((go_at_call 163; refine (HRR.out _ g (HT4.out.on (Below.refl W4.heap.size W4).drew) (HG4.out.on (Below.refl W4.heap.size W4).drew)).mono ?_; rintro e w5 ⟨rfl, hb5⟩; have hS1 := heldB (Below.refl W4.heap.size W4).drew hb5 (Nat.le_refl _)))
  have HB5 := hide (heldB HB4.out hS1 (Nat.le_refl _))
  clear hS1 hb5
  go_wp2
  go_ret
  exact ⟨rfl, HB5.out⟩
end Go.Proofs.YtgaoeoijdpdjiabGreatDoor

namespace Go.Proofs.YtgaoeoijdpdjiabGreatDoor
open Go.RowKit

theorem within_any (v n : Int) (w : World) : Calls Tryz.prog 234 #[.int .i64 v, .int .i64 n] w fun e w' => e = .returned (.bool (decide (0 ≤ v ∧ v < n))) ∧ w' = w := by
  by_cases h0 : 0 ≤ v
  · by_cases h1 : v < n
    · have e : decide (0 ≤ v ∧ v < n) = true := by simp [h0, h1]
      rw [e]
      go_enter Tryz.func234, Tryz.ntmps234
      go_wp2
      go_ret
      exact ⟨rfl, rfl⟩
    · have e : decide (0 ≤ v ∧ v < n) = false := by simp [h1]
      rw [e]
      go_enter Tryz.func234, Tryz.ntmps234
      go_wp2
      go_ret
      exact ⟨rfl, rfl⟩
  · have e : decide (0 ≤ v ∧ v < n) = false := by simp [h0]
    rw [e]
    go_enter Tryz.func234, Tryz.ntmps234
    go_wp2
    go_ret
    exact ⟨rfl, rfl⟩

theorem setsLeaves_any (k b x l : Int) (t : Nat) (w : World) (h1 : 1 ≤ t) (h2 : t ≤ 4) :
    Calls Tryz.prog 282 #[.agg #[.int .i64 k, .int .i64 b, .int .i64 x, .int .i64 t, .int .i64 l]] w fun e w' => e = .returned (.int .i64 ((2 ^ t : Nat) : Int)) ∧ Below w.heap.size w w' := by
  rcases (show t = 1 ∨ t = 2 ∨ t = 3 ∨ t = 4 by omega) with rfl | rfl | rfl | rfl
  all_goals
    go_enter Tryz.func282, Tryz.ntmps282
    go_wp2
    go_ret
    exact ⟨rfl, (Below.refl _ _).alloc (Nat.le_refl _) _⟩

set_option maxHeartbeats 4000000 in
theorem trees_any (k b x : Int) (t l q : Nat) (w : World) (h1 : 1 ≤ t) (h2 : t ≤ 4) (h3 : l ≤ 3) (h4 : q < l) :
    Calls Tryz.prog 329 #[.agg #[.int .i64 k, .int .i64 b, .int .i64 x, .int .i64 t, .int .i64 l], .int .i64 q] w fun e w' => e = .returned (.int .i64 ((2 ^ (t * (l - 1 - q)) : Nat) : Int)) ∧ Below w.heap.size w w' := by
  rcases (show t = 1 ∨ t = 2 ∨ t = 3 ∨ t = 4 by omega) with rfl | rfl | rfl | rfl <;> rcases (show (l = 1 ∧ q = 0) ∨ (l = 2 ∧ q = 0) ∨ (l = 2 ∧ q = 1) ∨ (l = 3 ∧ q = 0) ∨ (l = 3 ∧ q = 1) ∨ (l = 3 ∧ q = 2) by omega) with ⟨rfl, rfl⟩ | ⟨rfl, rfl⟩ | ⟨rfl, rfl⟩ | ⟨rfl, rfl⟩ | ⟨rfl, rfl⟩ | ⟨rfl, rfl⟩
  all_goals
    go_enter Tryz.func329, Tryz.ntmps329
    go_wp2
    go_ret
    exact ⟨rfl, (Below.refl _ _).alloc (Nat.le_refl _) _⟩

/-- Is it the place of a leaf of some tree, whatever its chain? -/
def leafB (t l : Nat) (p0 p1 p2 : Int) : Bool := decide (0 ≤ p0 ∧ p0 < l) && (decide (0 ≤ p1 ∧ p1 < ((2 ^ (t * (l - 1 - p0.toNat)) : Nat) : Int)) && decide (0 ≤ p2 ∧ p2 < ((2 ^ t : Nat) : Int)))

end Go.Proofs.YtgaoeoijdpdjiabGreatDoor

namespace Go.Proofs.YtgaoeoijdpdjiabGreatDoor
open Go.RowKit

set_option maxRecDepth 20000 in
set_option maxHeartbeats 8000000 in
theorem new_yes (k b x t l a0 a1 ch a3 a4 a5 : Int) (sec rnd pub : ByteArray) (p0 p1 p2 p3 : Int) (w : World) (hC : ∀ V : World, Calls Tryz.prog 155 #[.agg #[.int .i64 k, .int .i64 b, .int .i64 x, .int .i64 t, .int .i64 l]] V fun e w' => e = .returned (.tuple #[.agg #[.int .i64 a0, .int .i64 a1, .int .i64 ch, .int .i64 a3, .int .i64 a4, .int .i64 a5], .int .i64 0]) ∧ Below V.heap.size V w') (hV : ∀ V : World, Calls Tryz.prog 265 #[.agg #[.int .i64 k, .int .i64 b, .int .i64 x, .int .i64 t, .int .i64 l], .agg #[.string sec, .string rnd, .string pub]] V fun e w' => e = .returned (.bool true) ∧ Below V.heap.size V w') (hI : ∀ V : World, Calls Tryz.prog 266 #[.agg #[.int .i64 k, .int .i64 b, .int .i64 x, .int .i64 t, .int .i64 l], .agg #[.int .i64 p0, .int .i64 p1, .int .i64 p2, .int .i64 p3]] V fun e w' => e = .returned (.bool true) ∧ Below V.heap.size V w') :
    Calls Tryz.prog 208 #[.agg #[.int .i64 k, .int .i64 b, .int .i64 x, .int .i64 t, .int .i64 l], .agg #[.string sec, .string rnd, .string pub], .agg #[.int .i64 p0, .int .i64 p1, .int .i64 p2, .int .i64 p3]] w fun e w' => e = .returned (.tuple #[.agg #[.int .i64 k, .int .i64 b, .int .i64 x, .int .i64 t, .int .i64 l, .string sec, .string rnd, .string pub, .int .i64 p0, .int .i64 p1, .int .i64 p2, .int .i64 p3, .int .i64 ch], .int .i64 0]) ∧ Below w.heap.size w w' := by
  obtain ⟨W0, hW⟩ : ∃ W0, (((w.alloc (.cells #[.int .i64 k, .int .i64 b, .int .i64 x, .int .i64 t, .int .i64 l] 26)).alloc (.cells #[.string sec, .string rnd, .string pub] 42)).alloc (.cells #[.int .i64 p0, .int .i64 p1, .int .i64 p2, .int .i64 p3] 91)).alloc (.cells #[.int .i64 0, .int .i64 0, .int .i64 0, .int .i64 0, .int .i64 0, .string ⟨#[]⟩, .string ⟨#[]⟩, .string ⟨#[]⟩, .int .i64 0, .int .i64 0, .int .i64 0, .int .i64 0, .int .i64 0] 274) = W0 := ⟨_, rfl⟩
  have HF := hide (show FiveC w.heap.size W0 k b x t l by subst hW; refine ⟨?_, ?_, ?_, ?_, ?_⟩ <;> simp [go_sem])
  have HSE := hide (show W0.cell? ⟨w.heap.size + 1, 0, none⟩ = some (.string sec) ∧ W0.cell? ⟨w.heap.size + 1, 1, none⟩ = some (.string rnd) ∧ W0.cell? ⟨w.heap.size + 1, 2, none⟩ = some (.string pub) by subst hW; refine ⟨?_, ?_, ?_⟩ <;> simp [go_sem])
  have HP := hide (show FourC (w.heap.size + 1 + 1) W0 p0 p1 p2 p3 by subst hW; refine ⟨?_, ?_, ?_, ?_⟩ <;> simp [go_sem])
  have HB := hide (show Below w.heap.size w W0 by subst hW; exact ((((Below.refl _ _).alloc (Nat.le_refl _) _).alloc (by simp) _).alloc (by simp; omega) _).alloc (by simp; omega) _)
  have hz : W0.heap.size ≤ w.heap.size + 4 := by subst hW; simp
  have hz' : w.heap.size + 4 ≤ W0.heap.size := by subst hW; simp
  have HBK := hide (show Blk W0 (w.heap.size + 1 + 1 + 1) [.int .i64 0, .int .i64 0, .int .i64 0, .int .i64 0, .int .i64 0, .string ⟨#[]⟩, .string ⟨#[]⟩, .string ⟨#[]⟩, .int .i64 0, .int .i64 0, .int .i64 0, .int .i64 0, .int .i64 0] 274 by
    subst hW
    have h := Blk.new (((w.alloc (.cells #[.int .i64 k, .int .i64 b, .int .i64 x, .int .i64 t, .int .i64 l] 26)).alloc (.cells #[.string sec, .string rnd, .string pub] 42)).alloc (.cells #[.int .i64 p0, .int .i64 p1, .int .i64 p2, .int .i64 p3] 91)) [.int .i64 0, .int .i64 0, .int .i64 0, .int .i64 0, .int .i64 0, .string ⟨#[]⟩, .string ⟨#[]⟩, .string ⟨#[]⟩, .int .i64 0, .int .i64 0, .int .i64 0, .int .i64 0, .int .i64 0] 274
    simp only [World.size_alloc] at h
    exact h)
  have HS := hide (fun (V : World) (h : Below W0.heap.size W0 V) => (by
    obtain ⟨c0, c1, c2, c3, c4⟩ := HF.out.below h (by omega)
    obtain ⟨d0, d1, d2, d3⟩ := HP.out.below h (by omega)
    exact ⟨c0, c1, c2, c3, c4, (h.cell (p := ⟨w.heap.size + 1, 0, none⟩) (by show w.heap.size + 1 < _; omega)).trans HSE.out.1, (h.cell (p := ⟨w.heap.size + 1, 1, none⟩) (by show w.heap.size + 1 < _; omega)).trans HSE.out.2.1, (h.cell (p := ⟨w.heap.size + 1, 2, none⟩) (by show w.heap.size + 1 < _; omega)).trans HSE.out.2.2, d0, d1, d2, d3⟩ : V.cell? ⟨w.heap.size, 0, none⟩ = some (.int .i64 k) ∧ V.cell? ⟨w.heap.size, 1, none⟩ = some (.int .i64 b) ∧ V.cell? ⟨w.heap.size, 2, none⟩ = some (.int .i64 x) ∧ V.cell? ⟨w.heap.size, 3, none⟩ = some (.int .i64 t) ∧ V.cell? ⟨w.heap.size, 4, none⟩ = some (.int .i64 l) ∧ V.cell? ⟨w.heap.size + 1, 0, none⟩ = some (.string sec) ∧ V.cell? ⟨w.heap.size + 1, 1, none⟩ = some (.string rnd) ∧ V.cell? ⟨w.heap.size + 1, 2, none⟩ = some (.string pub) ∧ V.cell? ⟨w.heap.size + 1 + 1, 0, none⟩ = some (.int .i64 p0) ∧ V.cell? ⟨w.heap.size + 1 + 1, 1, none⟩ = some (.int .i64 p1) ∧ V.cell? ⟨w.heap.size + 1 + 1, 2, none⟩ = some (.int .i64 p2) ∧ V.cell? ⟨w.heap.size + 1 + 1, 3, none⟩ = some (.int .i64 p3)))
  obtain ⟨c0, c1, c2, c3, c4, f0, f1, f2, d0, d1, d2, d3⟩ := HS.out W0 (Below.refl _ _)
  have HC := hide hC
  have HV := hide hV
  have HI := hide hI
  clear hC hV hI
  go_enter Tryz.func208, Tryz.ntmps208
  go_wp2_with fail
  try rw [hW]
  refine (HC.out _).mono ?_
  rintro e w1 ⟨rfl, hb1⟩
  have HB1 := hide (hb1.alloc hb1.size (.cells #[.int .i64 a0, .int .i64 a1, .int .i64 ch, .int .i64 a3, .int .i64 a4, .int .i64 a5] 158))
  have hzz := hb1.size
  have HZ := hide (Blk.new w1 [.int .i64 a0, .int .i64 a1, .int .i64 ch, .int .i64 a3, .int .i64 a4, .int .i64 a5] 158)
  clear hb1 c0 c1 c2 c3 c4 f0 f1 f2 d0 d1 d2 d3 hW
  obtain ⟨c0, c1, c2, c3, c4, f0, f1, f2, d0, d1, d2, d3⟩ := HS.out (w1.alloc (.cells #[.int .i64 a0, .int .i64 a1, .int .i64 ch, .int .i64 a3, .int .i64 a4, .int .i64 a5] 158)) HB1.out
  go_wp2_with fail
  refine (HV.out _).mono ?_
  rintro e w2 ⟨rfl, hb2⟩
  have HB2 := hide (heldB HB1.out hb2 (Nat.le_refl _))
  have HZ2 := hide (HZ.out.on hb2)
  clear hb2 c0 c1 c2 c3 c4 f0 f1 f2 d0 d1 d2 d3
  obtain ⟨c0, c1, c2, c3, c4, f0, f1, f2, d0, d1, d2, d3⟩ := HS.out w2 HB2.out
  go_wp2_with fail
  refine (HI.out _).mono ?_
  rintro e w3 ⟨rfl, hb3⟩
  have HB3 := hide (heldB HB2.out hb3 (Nat.le_refl _))
  have HZ3 := hide (HZ2.out.on hb3)
  clear hb3 c0 c1 c2 c3 c4 f0 f1 f2 d0 d1 d2 d3
  obtain ⟨c0, c1, c2, c3, c4, f0, f1, f2, d0, d1, d2, d3⟩ := HS.out w3 HB3.out
  have zc := HZ3.out.cell 2
  simp only [List.getElem?_cons_zero, List.getElem?_cons_succ] at zc
  have bk := hide (HBK.out.below HB3.out (by omega))
  have y0 := bk.out.cell 0
  have y1 := bk.out.cell 1
  have y2 := bk.out.cell 2
  have y3 := bk.out.cell 3
  have y4 := bk.out.cell 4
  have y5 := bk.out.cell 5
  have y6 := bk.out.cell 6
  have y7 := bk.out.cell 7
  have y8 := bk.out.cell 8
  have y9 := bk.out.cell 9
  have y10 := bk.out.cell 10
  have y11 := bk.out.cell 11
  have y12 := bk.out.cell 12
  have fz := bk.out.free
  simp only [List.getElem?_cons_zero, List.getElem?_cons_succ] at y0 y1 y2 y3 y4 y5 y6 y7 y8 y9 y10 y11 y12
  have HBL := hide (HB.out.trans (HB3.out.mono (by omega)))
  clear bk
  go_wp2
  refine bodyPost_ret (v := .tuple #[.agg #[.int .i64 k, .int .i64 b, .int .i64 x, .int .i64 t, .int .i64 l, .string sec, .string rnd, .string pub, .int .i64 p0, .int .i64 p1, .int .i64 p2, .int .i64 p3, .int .i64 ch], .int .i64 0]) (by simp [results, Tryz.results208, go_sem, y0, y1, y2, y3, y4, y5, y6, y7, y8, y9, y10, y11, y12]) rfl ⟨rfl, ?_⟩
  iterate 13 refine Below.setCell ?_ (show w.heap.size ≤ _ by simp <;> omega) _
  exact HBL.out

end Go.Proofs.YtgaoeoijdpdjiabGreatDoor

namespace Go.Proofs.YtgaoeoijdpdjiabGreatDoor
open Go.RowKit

set_option maxRecDepth 20000 in
set_option maxHeartbeats 4000000 in
theorem sSplit_on (k b x t l i e : Int) (n : Nat) (rnd sig : ByteArray) (L : List Value) (w : World)
    (hS : ∀ V : World, Calls Tryz.prog 81 #[.agg #[.int .i64 k, .int .i64 b, .int .i64 x, .int .i64 t, .int .i64 l], .string sig] V fun r w' => ∃ g, r = .returned (.tuple #[.agg #[.int .i64 i, .string rnd, .slice (some ⟨g, 0, none⟩) n n], .int .i64 e]) ∧ V.heap.size ≤ g ∧ Blk w' g L 9 ∧ Below V.heap.size V w') :
    Calls Tryz.prog 35 #[.agg #[.int .i64 k, .int .i64 b, .int .i64 x, .int .i64 t, .int .i64 l], .string sig] w fun r w' => ∃ g, r = .returned (.tuple #[.agg #[.int .i64 i, .string rnd, .slice (some ⟨g, 0, none⟩) n n], .int .i64 e]) ∧ w.heap.size ≤ g ∧ Blk w' g L 9 ∧ Below w.heap.size w w' := by
  obtain ⟨W0, hW⟩ : ∃ W0, (w.alloc (.cells #[.int .i64 k, .int .i64 b, .int .i64 x, .int .i64 t, .int .i64 l] 26)).alloc (.cells #[.int .i64 0, .string ⟨#[]⟩, .slice none 0 0] 29) = W0 := ⟨_, rfl⟩
  have HB := hide (show Below w.heap.size w W0 by subst hW; exact ((Below.refl _ _).alloc (Nat.le_refl _) _).alloc (by simp) _)
  have HR := hide (show Blk W0 (w.heap.size + 1) [.int .i64 0, .string ⟨#[]⟩, .slice none 0 0] 29 by
    subst hW
    have h := Blk.new (w.alloc (.cells #[.int .i64 k, .int .i64 b, .int .i64 x, .int .i64 t, .int .i64 l] 26)) [.int .i64 0, .string ⟨#[]⟩, .slice none 0 0] 29
    simp only [World.size_alloc] at h
    exact h)
  have hz' : w.heap.size + 2 ≤ W0.heap.size := by subst hW; simp
  have HS := hide (hS W0)
  have HWE := hide hW
  clear hS hW
  go_enter Tryz.func35, Tryz.ntmps35
  go_wp2_with fail
  rw [HWE.out]
  refine HS.out.mono ?_
  rintro r w1 ⟨g, rfl, hg, hbk, hb1⟩
  have HR1 := hide (HR.out.on hb1)
  have HB1 := hide (HB.out.trans (hb1.mono HB.out.size))
  have HK1 := hide hbk
  have HG := hide hg
  clear hb1 hbk hg
  have r0 := HR1.out.cell 0
  have r1 := HR1.out.cell 1
  have r2 := HR1.out.cell 2
  have f0 := HR1.out.free 0
  have f1 := HR1.out.free 1
  have f2 := HR1.out.free 2
  simp only [List.getElem?_cons_zero, List.getElem?_cons_succ] at r0 r1 r2
  go_wp2
  refine bodyPost_ret (v := .tuple #[.agg #[.int .i64 i, .string rnd, .slice (some ⟨g, 0, none⟩) n n], .int .i64 e]) (by simp [results, Tryz.results35, go_sem, r0, r1, r2]) rfl ⟨g, rfl, ?_, ?_, ?_⟩
  · have := HG.out; omega
  · have hne : g ≠ w.heap.size + 1 := by have := HG.out; omega
    exact ((HK1.out.other (a := ⟨w.heap.size + 1, 0, none⟩) _ hne).other (a := ⟨w.heap.size + 1, 1, none⟩) _ hne).other (a := ⟨w.heap.size + 1, 2, none⟩) _ hne
  · have HBB := HB1.out
    iterate 3 refine Below.setCell ?_ (by simp) _
    exact HBB

set_option maxRecDepth 20000 in
set_option maxHeartbeats 4000000 in
theorem sSplit_no (k b x t l e : Int) (sig : ByteArray) (w : World)
    (hS : ∀ V : World, Calls Tryz.prog 81 #[.agg #[.int .i64 k, .int .i64 b, .int .i64 x, .int .i64 t, .int .i64 l], .string sig] V fun r w' => r = .returned (.tuple #[.agg #[.int .i64 0, .string ⟨#[]⟩, .slice none 0 0], .int .i64 e]) ∧ Below V.heap.size V w') :
    Calls Tryz.prog 35 #[.agg #[.int .i64 k, .int .i64 b, .int .i64 x, .int .i64 t, .int .i64 l], .string sig] w fun r w' => r = .returned (.tuple #[.agg #[.int .i64 0, .string ⟨#[]⟩, .slice none 0 0], .int .i64 e]) ∧ Below w.heap.size w w' := by
  obtain ⟨W0, hW⟩ : ∃ W0, (w.alloc (.cells #[.int .i64 k, .int .i64 b, .int .i64 x, .int .i64 t, .int .i64 l] 26)).alloc (.cells #[.int .i64 0, .string ⟨#[]⟩, .slice none 0 0] 29) = W0 := ⟨_, rfl⟩
  have HB := hide (show Below w.heap.size w W0 by subst hW; exact ((Below.refl _ _).alloc (Nat.le_refl _) _).alloc (by simp) _)
  have HR := hide (show Blk W0 (w.heap.size + 1) [.int .i64 0, .string ⟨#[]⟩, .slice none 0 0] 29 by
    subst hW
    have h := Blk.new (w.alloc (.cells #[.int .i64 k, .int .i64 b, .int .i64 x, .int .i64 t, .int .i64 l] 26)) [.int .i64 0, .string ⟨#[]⟩, .slice none 0 0] 29
    simp only [World.size_alloc] at h
    exact h)
  have HS := hide (hS W0)
  have HWE := hide hW
  clear hS hW
  go_enter Tryz.func35, Tryz.ntmps35
  go_wp2_with fail
  rw [HWE.out]
  refine HS.out.mono ?_
  rintro r w1 ⟨rfl, hb1⟩
  have HR1 := hide (HR.out.on hb1)
  have HB1 := hide (HB.out.trans (hb1.mono HB.out.size))
  clear hb1
  have r0 := HR1.out.cell 0
  have r1 := HR1.out.cell 1
  have r2 := HR1.out.cell 2
  have f0 := HR1.out.free 0
  have f1 := HR1.out.free 1
  have f2 := HR1.out.free 2
  simp only [List.getElem?_cons_zero, List.getElem?_cons_succ] at r0 r1 r2
  go_wp2
  refine bodyPost_ret (v := .tuple #[.agg #[.int .i64 0, .string ⟨#[]⟩, .slice none 0 0], .int .i64 e]) (by simp [results, Tryz.results35, go_sem, r0, r1, r2]) rfl ⟨rfl, ?_⟩
  have HBB := HB1.out
  iterate 3 refine Below.setCell ?_ (by simp) _
  exact HBB

set_option maxRecDepth 20000 in
set_option maxHeartbeats 4000000 in
theorem sJoin_on (k b x t l i e : Int) (rnd res : ByteArray) (sp : Option Addr) (n c : Nat) (w : World)
    (hJ : ∀ V : World, Below w.heap.size w V → Calls Tryz.prog 85 #[.agg #[.int .i64 k, .int .i64 b, .int .i64 x, .int .i64 t, .int .i64 l], .agg #[.int .i64 i, .string rnd, .slice sp n c]] V fun r w' => r = .returned (.tuple #[.string res, .int .i64 e]) ∧ Below V.heap.size V w') :
    Calls Tryz.prog 41 #[.agg #[.int .i64 k, .int .i64 b, .int .i64 x, .int .i64 t, .int .i64 l], .agg #[.int .i64 i, .string rnd, .slice sp n c]] w fun r w' => r = .returned (.tuple #[.string res, .int .i64 e]) ∧ Below w.heap.size w w' := by
  have HB := hide (((Below.refl w.heap.size w).alloc (Nat.le_refl _) (.cells #[.int .i64 k, .int .i64 b, .int .i64 x, .int .i64 t, .int .i64 l] 26)).alloc (by simp) (.cells #[.int .i64 i, .string rnd, .slice sp n c] 29))
  have HJ := hide (hJ _ HB.out)
  clear hJ
  go_enter Tryz.func41, Tryz.ntmps41
  go_wp2_with fail
  refine HJ.out.mono ?_
  rintro r w1 ⟨rfl, hb1⟩
  have HB1 := hide (HB.out.trans (hb1.mono HB.out.size))
  clear hb1
  go_wp2
  go_ret2
  exact ⟨rfl, HB1.out⟩

set_option maxRecDepth 20000 in
theorem sVerify_on (key msg sig : ByteArray) (e : Int) (w : World)
    (hV : Calls Tryz.prog 88 #[.string key, .string msg, .string sig] w fun r w' => r = .returned (.int .i64 e) ∧ Below w.heap.size w w') :
    Calls Tryz.prog 44 #[.string key, .string msg, .string sig] w fun r w' => r = .returned (.int .i64 e) ∧ Below w.heap.size w w' := by
  have HV := hide hV
  clear hV
  go_enter Tryz.func44, Tryz.ntmps44
  go_wp2_with fail
  refine HV.out.mono ?_
  rintro r w1 ⟨rfl, hb1⟩
  have HB1 := hide hb1
  clear hb1
  go_wp2
  go_ret
  exact ⟨rfl, HB1.out⟩
end Go.Proofs.YtgaoeoijdpdjiabGreatDoor

namespace Go.Proofs.YtgaoeoijdpdjiabGreatDoor
open Go.RowKit

/-- A list of texts lies in memory: nil, or empty at some place, or from a place on. -/
def StrsAt (w : World) (sp : Option Addr) (n c : Nat) (xs : List ByteArray) : Prop :=
  (sp = none ∧ n = 0 ∧ c = 0 ∧ xs = []) ∨ (∃ a : Addr, sp = some a ∧ n = 0 ∧ xs = []) ∨ ∃ bk o, sp = some ⟨bk, o, none⟩ ∧ n = xs.length ∧ xs.length ≤ c ∧ bk < w.heap.size ∧ ∀ (j : Nat) y, xs[j]? = some y → w.cell? ⟨bk, o + j, none⟩ = some (.string y)
theorem StrsAt.len {w : World} {sp : Option Addr} {n c : Nat} {xs : List ByteArray} (h : StrsAt w sp n c xs) : n = xs.length := by
  rcases h with ⟨_, rfl, _, rfl⟩ | ⟨_, _, rfl, rfl⟩ | ⟨_, _, _, h, _⟩
  · rfl
  · rfl
  · exact h
theorem StrsAt.on {w V : World} {sp : Option Addr} {n c : Nat} {xs : List ByteArray} (h : StrsAt w sp n c xs) (hb : Below w.heap.size w V) : StrsAt V sp n c xs := by
  rcases h with h | h | ⟨bk, o, h1, h2, h3, h4, h5⟩
  · exact .inl h
  · exact .inr (.inl h)
  · exact .inr (.inr ⟨bk, o, h1, h2, h3, Nat.lt_of_lt_of_le h4 hb.size, fun j y hj => (hb.cell (p := ⟨bk, o + j, none⟩) h4).trans (h5 j y hj)⟩)
theorem vals_any (k b x t l : Int) (sp : Option Addr) (n c : Nat) (xs : List ByteArray) (w : World) (h : StrsAt w sp n c xs) (hN : xs.length ≤ 8796093022208) :
    Calls Tryz.prog 159 #[.agg #[.int .i64 k, .int .i64 b, .int .i64 x, .int .i64 t, .int .i64 l], .slice sp n c] w fun e w' => e = .returned (.bool (allLen b xs)) ∧ Below w.heap.size w w' := by
  rcases h with ⟨rfl, rfl, rfl, rfl⟩ | ⟨a, rfl, rfl, rfl⟩ | ⟨bk, o, rfl, rfl, _, h4, h5⟩
  · exact valuesRight_nil k b x t l w
  · exact valuesRight_emp k b x t l a c w
  · exact valuesRight_some k b x t l bk o c xs w h5 h4 (by omega)
theorem values1 (k b x t l : Int) (pub : ByteArray) (V : World) (B : Nat) (hB : B = V.heap.size) : Calls Tryz.prog 159 #[.agg #[.int .i64 k, .int .i64 b, .int .i64 x, .int .i64 t, .int .i64 l], .slice (some ⟨B, 0, none⟩) 1 1] (V.alloc (.cells #[.string pub] 9)) fun e w' => e = .returned (.bool ((pub.size : Int) == b)) ∧ Below (V.alloc (.cells #[.string pub] 9)).heap.size (V.alloc (.cells #[.string pub] 9)) w' := by
  subst hB
  rw [show ((pub.size : Int) == b) = allLen b [pub] by simp [allLen, Bool.beq_eq_decide_eq]]
  exact valuesRight_some k b x t l V.heap.size 0 1 [pub] (V.alloc (.cells #[.string pub] 9)) (by
    intro j y hj
    match j, hj with
    | 0, hj => simp at hj; subst hj; simp [go_sem]) (by simp) (by simp)
theorem values2B (k b x t l : Int) (pub y : ByteArray) (V : World) (B : Nat) (hB : B = V.heap.size) : Calls Tryz.prog 159 #[.agg #[.int .i64 k, .int .i64 b, .int .i64 x, .int .i64 t, .int .i64 l], .slice (some ⟨B, 0, none⟩) 2 2] (V.alloc (.cells #[.string pub, .string y] 9)) fun e w' => e = .returned (.bool ((pub.size : Int) == b && (y.size : Int) == b)) ∧ Below (V.alloc (.cells #[.string pub, .string y] 9)).heap.size (V.alloc (.cells #[.string pub, .string y] 9)) w' := by
  subst hB
  rw [show ((pub.size : Int) == b && (y.size : Int) == b) = allLen b [pub, y] by simp [allLen, Bool.beq_eq_decide_eq]]
  exact valuesRight_some k b x t l V.heap.size 0 2 [pub, y] (V.alloc (.cells #[.string pub, .string y] 9)) (by
    intro j y hj
    match j, hj with
    | 0, hj => simp at hj; subst hj; simp [go_sem]
    | 1, hj => simp at hj; subst hj; simp [go_sem]) (by simp) (by simp)
end Go.Proofs.YtgaoeoijdpdjiabGreatDoor
