/-
  The disk as package signet hands it out: every call, in one word: what it answers, what the disk is then, what else may have turned. The program's Join and Node. The statement's own upTo and total. The program's mixed: what layer 0 signs instead of the message. The program's Join where all is right.
-/
import Derived.Test.YtgaoeoijdpdjiabGreatDoorPart23
import Derived.Test.YtgaoeoijdpdjiabGreatDoorPart25
import Derived.Test.YtgaoeoijdpdjiabGreatDoorPart22
namespace Go.Proofs.YtgaoeoijdpdjiabGreatDoor
open Go.RowKit
/-- A disk of package signet lies at block S: F are the blocks that are its own. -/
def SDisk (lo S : Nat) (st : DSt) (w : World) (F : Nat → Prop) : Prop := ∃ D E pv, w.heap[S]? = some (.cells (List.toArray [.pointer (some ⟨D, 0, none⟩)]) 135 (0, 0)) ∧ DAt lo D E pv st w ∧ S ≠ D ∧ S ≠ E ∧ pv.ownBlock ≠ some S ∧ lo ≤ S ∧ F = fun k => k = S ∨ DFoot D E pv k
theorem foot_of_D {D E : Nat} {pv : Value} {w w' : World} (h : Kept (fun k => k = D) w w') : Kept (DFoot D E pv) w w' := h.mono (fun _ _ e => .inl e)
theorem snew_yes (n : Nat) (w : World) (lo : Nat) (h1 : 1 ≤ n) (h2 : n ≤ 8) (hlo : lo ≤ w.heap.size) :
    Calls Tryz.prog 26 #[.int .i64 n] w fun e w' => ∃ S F, e = .returned (.tuple #[.pointer (some ⟨S, 0, none⟩), .int .i64 0]) ∧ SDisk lo S (newD n) w' F ∧ (∀ k, F k → w.heap.size ≤ k) ∧ Below w.heap.size w w' := by
  have HN := hideK (dnew_yes n w lo h1 h2 hlo)
  have HLO := hideK hlo
  clear h1 h2 hlo
  go_enter Tryz.func26, Tryz.ntmps26
  go_wp2_with fail
  refine HN.out.mono ?_
  rintro e w1 ⟨rfl, hd, hb⟩
  have HD := hideK hd
  have HB := hideK hb
  clear hd hb
  go_wp2
  go_ret2
  have hz := HD.out.ltD
  refine ⟨_, _, rfl, ⟨w.heap.size + 1, w.heap.size, .slice none 0 0, heap_alloc_new w1 _, HD.out.below ((Below.refl _ _).alloc (Nat.le_refl _) _), by omega, by omega, by simp [Value.ownBlock], Nat.le_trans HLO.out HB.out.size, rfl⟩, ?_, HB.out.alloc HB.out.size _⟩
  rintro k (rfl | rfl | rfl | e)
  · exact HB.out.size
  · omega
  · omega
  · simp [Value.ownBlock] at e
def syAns (st : DSt) : Int := if st.trouble = 1 then 5 else 0
def sySt (st : DSt) : DSt := if st.trouble = 1 then { st with trouble := tick st.trouble } else { st with trouble := tick st.trouble, dur := laidJ st st.pend.length, pend := [], syncs := st.syncs + 1 }
def crSt (st : DSt) (K : List Bool) : DSt := { st with trouble := 0, dur := keptJ st K st.pend.length, pend := [], term := st.term + 1 }
end Go.Proofs.YtgaoeoijdpdjiabGreatDoor

namespace Go.Proofs.YtgaoeoijdpdjiabGreatDoor
open Go.RowKit
set_option maxRecDepth 20000 in
set_option maxHeartbeats 4000000 in
theorem tjoin_any (k b x t l : Int) (sec rnd pub : ByteArray) (p0 p1 p2 p3 h j : Int) (ch : Nat) (y z : ByteArray) (w : World) (hk : k = 1 ∨ k = 2) (h1 : 1 ≤ b) (h2 : b ≤ 16) (hp : pub.size ≤ 16) (hy : y.size ≤ 16) (hz : z.size ≤ 16) (hT : Tn w) :
    Calls Tryz.prog 211 #[.agg #[.int .i64 k, .int .i64 b, .int .i64 x, .int .i64 t, .int .i64 l, .string sec, .string rnd, .string pub, .int .i64 p0, .int .i64 p1, .int .i64 p2, .int .i64 p3, .int .i64 ch], .int .i64 h, .int .i64 j, .string y, .string z] w fun e w' => e = .returned (.string (joinS k b pub p0 p1 h j y z)) ∧ Below w.heap.size w w' := by
  have HJ := hide (fun (V : World) (hV : Tn V) => sjoin_any k b x t l pub p0 p1 p2 p3 h j y z V hk h1 h2 hp hy hz hV)
  have HT := hide (hT.alloc (.cells #[.int .i64 k, .int .i64 b, .int .i64 x, .int .i64 t, .int .i64 l, .string sec, .string rnd, .string pub, .int .i64 p0, .int .i64 p1, .int .i64 p2, .int .i64 p3, .int .i64 ch] 274))
  clear hT
  go_enter Tryz.func211, Tryz.ntmps211
  go_wp2_with fail
  refine (HJ.out _ HT.out).mono ?_
  rintro e w1 ⟨rfl, hb1⟩
  have HB1 := hide (((Below.refl w.heap.size w).alloc (Nat.le_refl _) _).trans (hb1.mono (by simp)))
  clear hb1
  go_wp2
  go_ret
  exact ⟨rfl, HB1.out⟩
end Go.Proofs.YtgaoeoijdpdjiabGreatDoor

namespace Go.Proofs.YtgaoeoijdpdjiabGreatDoor
open Go.RowKit
/-- The first n bytes, or all. -/
def upS (s : ByteArray) (n : Nat) : ByteArray := if n < s.size then s.extract 0 n else s
theorem upS_size (s : ByteArray) (n : Nat) : (upS s n).size ≤ n := by
  unfold upS
  split
  · rw [ByteArray.size_extract]; omega
  · omega
theorem upTo_any (s : ByteArray) (n : Nat) (w : World) :
    Calls Tryz.prog 28 #[.string s, .int .i64 n] w fun e w' => e = .returned (.string (upS s n)) ∧ w' = w := by
  by_cases h : n < s.size
  · rw [upS, if_pos h]
    have e1 : (n : Int) < (s.size : Int) := by omega
    have hs : ∀ wx, (Instr.slice 9 (.string s) none (some (.int .i64 (n : Int))) none).run Tryz.prog wx = .ok (.string (s.extract 0 n)) wx := fun wx => by
      have e4 : (n : Int) ≤ (s.size : Int) := by omega
      have e5 : (0 : Int) ≤ (n : Int) := by omega
      simp [go_sem, e4, e5]
    go_enter Tryz.func28, Tryz.ntmps28
    go_wp2
    go_ret
    exact ⟨rfl, rfl⟩
  · rw [upS, if_neg h]
    have e1 : ¬ (n : Int) < (s.size : Int) := by omega
    go_enter Tryz.func28, Tryz.ntmps28
    go_wp2
    go_ret
    exact ⟨rfl, rfl⟩
set_option maxRecDepth 20000 in
theorem keepTotal_any (k b x : Int) (t l : Nat) (w : World) (h2 : t ≤ 4) (h4 : l ≤ 3) :
    Calls Tryz.prog 29 #[.agg #[.int .i64 k, .int .i64 b, .int .i64 x, .int .i64 t, .int .i64 l]] w fun e w' => e = .returned (.int .i64 ((2 ^ (t * l) : Nat) : Int)) ∧ Below w.heap.size w w' := by
  obtain ⟨d, hd⟩ : ∃ d, t * l = d := ⟨_, rfl⟩
  have hd12 : d ≤ 12 := by rw [← hd]; exact Nat.le_trans (Nat.mul_le_mul h2 h4) (by decide)
  have hw1 : IntKind.i64.wrap ((t : Int) * (l : Int)) = (d : Int) := by
    have e : (t : Int) * (l : Int) = (d : Int) := by rw [← hd, Int.natCast_mul]
    rw [e, IntKind.wrap_i64] <;> omega
  have hw2 : wrap64 (2 ^ d) = ((2 ^ d : Nat) : Int) := by
    have : d = 0 ∨ d = 1 ∨ d = 2 ∨ d = 3 ∨ d = 4 ∨ d = 5 ∨ d = 6 ∨ d = 7 ∨ d = 8 ∨ d = 9 ∨ d = 10 ∨ d = 11 ∨ d = 12 := by omega
    rcases this with rfl | rfl | rfl | rfl | rfl | rfl | rfl | rfl | rfl | rfl | rfl | rfl | rfl <;> decide +kernel
  rw [hd]
  have hd0 : 0 ≤ (d : Int) := by omega
  clear hd h2 h4
  go_enter Tryz.func29, Tryz.ntmps29
  go_wp2
  go_ret
  refine ⟨?_, (Below.refl _ _).alloc (Nat.le_refl _) _⟩
  rw [← hw2]
  rfl
end Go.Proofs.YtgaoeoijdpdjiabGreatDoor

namespace Go.Proofs.YtgaoeoijdpdjiabGreatDoor
open Go.RowKit
/-- What layer 0 signs. -/
def mixS (k b : Int) (rnd root pub : ByteArray) (idx : Int) (msg : ByteArray) : ByteArray := hv k b (numB 1 6 ++ (rnd ++ (root ++ (pub ++ (numB 4 idx ++ msg)))))
theorem mixS_size (k b : Int) (rnd root pub : ByteArray) (idx : Int) (msg : ByteArray) (hk : k = 1 ∨ k = 2) (h1 : 1 ≤ b) (h2 : b ≤ 16) (a1 : rnd.size ≤ 16) (a2 : root.size ≤ 16) (a3 : pub.size ≤ 16) (a4 : msg.size ≤ 200) : ((mixS k b rnd root pub idx msg).size : Int) = b :=
  hv_size k b _ hk h1 h2 (by simp only [ByteArray.size_append, numB_size]; omega)
set_option maxRecDepth 20000 in
set_option maxHeartbeats 4000000 in
theorem mixed_any (k b x t l idx : Int) (root pub rnd msg : ByteArray) (sl : Value) (w : World) (hk : k = 1 ∨ k = 2) (h1 : 1 ≤ b) (h2 : b ≤ 16) (a1 : rnd.size ≤ 16) (a2 : root.size ≤ 16) (a3 : pub.size ≤ 16) (a4 : msg.size ≤ 200) (hT : Tn w) :
    Calls Tryz.prog 239 #[.agg #[.int .i64 k, .int .i64 b, .int .i64 x, .int .i64 t, .int .i64 l, .string root, .string pub], .agg #[.int .i64 idx, .string rnd, sl], .string msg] w fun e w' => e = .returned (.string (mixS k b rnd root pub idx msg)) ∧ Below w.heap.size w w' := by
  obtain ⟨W0, hW⟩ : ∃ W0, (w.alloc (.cells #[.int .i64 k, .int .i64 b, .int .i64 x, .int .i64 t, .int .i64 l, .string root, .string pub] 184)).alloc (.cells #[.int .i64 idx, .string rnd, sl] 29) = W0 := ⟨_, rfl⟩
  have HC := hide (show W0.cell? ⟨w.heap.size, 0, none⟩ = some (.int .i64 k) ∧ W0.cell? ⟨w.heap.size, 1, none⟩ = some (.int .i64 b) ∧ W0.cell? ⟨w.heap.size, 2, none⟩ = some (.int .i64 x) ∧ W0.cell? ⟨w.heap.size, 3, none⟩ = some (.int .i64 t) ∧ W0.cell? ⟨w.heap.size, 4, none⟩ = some (.int .i64 l) ∧ W0.cell? ⟨w.heap.size, 5, none⟩ = some (.string root) ∧ W0.cell? ⟨w.heap.size, 6, none⟩ = some (.string pub) ∧ W0.cell? ⟨w.heap.size + 1, 0, none⟩ = some (.int .i64 idx) ∧ W0.cell? ⟨w.heap.size + 1, 1, none⟩ = some (.string rnd) by subst hW; refine ⟨?_, ?_, ?_, ?_, ?_, ?_, ?_, ?_, ?_⟩ <;> simp [go_sem])
  have HB := hide (show Below w.heap.size w W0 by subst hW; exact ((Below.refl _ _).alloc (Nat.le_refl _) _).alloc (by simp) _)
  have hz : W0.heap.size ≤ w.heap.size + 2 := by subst hW; simp
  have hz' : w.heap.size + 2 ≤ W0.heap.size := by subst hW; simp
  have HT := hide (hT.on HB.out)
  have HS := hide (fun (V : World) (h : Below W0.heap.size W0 V) => (by
    obtain ⟨c0, c1, c2, c3, c4, c5, c6, d0, d1⟩ := HC.out
    have e0 : ∀ i, V.cell? ⟨w.heap.size, i, none⟩ = W0.cell? ⟨w.heap.size, i, none⟩ := fun i => h.cell (p := ⟨w.heap.size, i, none⟩) (by show w.heap.size < _; omega)
    have e1 : ∀ i, V.cell? ⟨w.heap.size + 1, i, none⟩ = W0.cell? ⟨w.heap.size + 1, i, none⟩ := fun i => h.cell (p := ⟨w.heap.size + 1, i, none⟩) (by show w.heap.size + 1 < _; omega)
    exact ⟨(e0 0).trans c0, (e0 1).trans c1, (e0 2).trans c2, (e0 3).trans c3, (e0 4).trans c4, (e0 5).trans c5, (e0 6).trans c6, (e1 0).trans d0, (e1 1).trans d1⟩ : V.cell? ⟨w.heap.size, 0, none⟩ = some (.int .i64 k) ∧ V.cell? ⟨w.heap.size, 1, none⟩ = some (.int .i64 b) ∧ V.cell? ⟨w.heap.size, 2, none⟩ = some (.int .i64 x) ∧ V.cell? ⟨w.heap.size, 3, none⟩ = some (.int .i64 t) ∧ V.cell? ⟨w.heap.size, 4, none⟩ = some (.int .i64 l) ∧ V.cell? ⟨w.heap.size, 5, none⟩ = some (.string root) ∧ V.cell? ⟨w.heap.size, 6, none⟩ = some (.string pub) ∧ V.cell? ⟨w.heap.size + 1, 0, none⟩ = some (.int .i64 idx) ∧ V.cell? ⟨w.heap.size + 1, 1, none⟩ = some (.string rnd)))
  have HN := hide (fun V : World => number_any 4 idx V (by decide))
  have HV := hide (fun (V : World) (h : Below W0.heap.size W0 V) => (by
    have q := value_any k b x t l 6 V.heap.size 0 5 [rnd, root, pub, numB 4 idx, msg] (V.alloc (.cells #[.string rnd, .string root, .string pub, .string (numB 4 idx), .string msg] 9)) (by
      intro j y hj
      match j, hj with
      | 0, hj => simp at hj; subst hj; simp [go_sem]
      | 1, hj => simp at hj; subst hj; simp [go_sem]
      | 2, hj => simp at hj; subst hj; simp [go_sem]
      | 3, hj => simp at hj; subst hj; simp [go_sem]
      | 4, hj => simp at hj; subst hj; simp [go_sem]) (by simp) (by simp) (by simp) hk h1 h2 (by rw [cat_size]; simp [numB_size]; omega) ((HT.out.on h).alloc _)
    simp only [cat, append_empty, List.length_cons, List.length_nil, Nat.reduceAdd] at q
    exact q : Calls Tryz.prog 248 #[.agg #[.int .i64 k, .int .i64 b, .int .i64 x, .int .i64 t, .int .i64 l], .int .i64 6, .slice (some ⟨V.heap.size, 0, none⟩) 5 5] (V.alloc (.cells #[.string rnd, .string root, .string pub, .string (numB 4 idx), .string msg] 9)) fun e w' => e = .returned (.string (mixS k b rnd root pub idx msg)) ∧ Below (V.alloc (.cells #[.string rnd, .string root, .string pub, .string (numB 4 idx), .string msg] 9)).heap.size (V.alloc (.cells #[.string rnd, .string root, .string pub, .string (numB 4 idx), .string msg] 9)) w'))
  generalize mixS k b rnd root pub idx msg = mm at HV ⊢
  clear hT
  go_enter Tryz.func239, Tryz.ntmps239
  go_wp2_with fail
  try rw [hW]
  clear hW
  go_region_held3 (fun V => V.cell? ⟨w.heap.size, 0, none⟩ = some (.int .i64 k) ∧ V.cell? ⟨w.heap.size, 1, none⟩ = some (.int .i64 b) ∧ V.cell? ⟨w.heap.size, 2, none⟩ = some (.int .i64 x) ∧ V.cell? ⟨w.heap.size, 3, none⟩ = some (.int .i64 t) ∧ V.cell? ⟨w.heap.size, 4, none⟩ = some (.int .i64 l) ∧ V.cell? ⟨w.heap.size, 5, none⟩ = some (.string root) ∧ V.cell? ⟨w.heap.size, 6, none⟩ = some (.string pub) ∧ V.cell? ⟨w.heap.size + 1, 0, none⟩ = some (.int .i64 idx) ∧ V.cell? ⟨w.heap.size + 1, 1, none⟩ = some (.string rnd)) (first | exact HS.out _ hS4 | exact HS.out _ (hS1.alloc hS1.size _) | exact HS.out _ hS1 | exact HS.out _ (Below.refl W0.heap.size W0).drew) (first | (go_at_call 160; refine (HN.out _).mono ?_; rintro e w1 ⟨rfl, hb1⟩; have hS1 := heldB (Below.refl W0.heap.size W0).drew hb1 (Nat.le_refl _)) | (go_at_call 248; refine (HV.out _ hS1).mono ?_; rintro e w4 ⟨rfl, hb4⟩; have hS4 := heldB (hS1.alloc hS1.size _) hb4 (Nat.le_refl _)))
  have HB4 := hide hS4
  clear hS1 hS4 hb1 hb4
  go_wp2
  go_ret
  exact ⟨rfl, HB.out.trans (HB4.out.mono (by omega))⟩
end Go.Proofs.YtgaoeoijdpdjiabGreatDoor

namespace Go.Proofs.YtgaoeoijdpdjiabGreatDoor
open Go.RowKit
set_option maxRecDepth 20000 in
set_option maxHeartbeats 8000000 in
theorem join_yes (k b x t l a0 a1 a2 a3 a4 a5 idx : Int) (n g c : Nat) (rnd cs : ByteArray) (w : World) (hw1 : IntKind.i64.wrap (a2 + t) = a2 + t) (hw2 : IntKind.i64.wrap (l * (a2 + t)) = (n : Int)) (z1 : rnd.size ≤ 16) (z2 : cs.size ≤ 1000)
    (hM : ∀ V : World, Calls Tryz.prog 155 #[.agg #[.int .i64 k, .int .i64 b, .int .i64 x, .int .i64 t, .int .i64 l]] V fun e w' => e = .returned (.tuple #[.agg #[.int .i64 a0, .int .i64 a1, .int .i64 a2, .int .i64 a3, .int .i64 a4, .int .i64 a5], .int .i64 0]) ∧ Below V.heap.size V w')
    (hI : ∀ V : World, Calls Tryz.prog 157 #[.agg #[.int .i64 k, .int .i64 b, .int .i64 x, .int .i64 t, .int .i64 l], .int .i64 idx] V fun e w' => e = .returned (.bool true) ∧ Below V.heap.size V w')
    (hV1 : ∀ (V : World) (B : Nat), B = V.heap.size → Calls Tryz.prog 159 #[.agg #[.int .i64 k, .int .i64 b, .int .i64 x, .int .i64 t, .int .i64 l], .slice (some ⟨B, 0, none⟩) 1 1] (V.alloc (.cells #[.string rnd] 9)) fun e w' => e = .returned (.bool true) ∧ Below (V.alloc (.cells #[.string rnd] 9)).heap.size (V.alloc (.cells #[.string rnd] 9)) w')
    (hV2 : ∀ V : World, Below w.heap.size w V → Calls Tryz.prog 159 #[.agg #[.int .i64 k, .int .i64 b, .int .i64 x, .int .i64 t, .int .i64 l], .slice (some ⟨g, 0, none⟩) n c] V fun e w' => e = .returned (.bool true) ∧ Below V.heap.size V w')
    (hJ : ∀ V : World, Below w.heap.size w V → Calls Tryz.prog 161 #[.slice (some ⟨g, 0, none⟩) n c, .string ⟨#[]⟩] V fun e w' => e = .returned (.string cs) ∧ Below V.heap.size V w') :
    Calls Tryz.prog 85 #[.agg #[.int .i64 k, .int .i64 b, .int .i64 x, .int .i64 t, .int .i64 l], .agg #[.int .i64 idx, .string rnd, .slice (some ⟨g, 0, none⟩) n c]] w fun r w' => r = .returned (.tuple #[.string (numB 4 idx ++ rnd ++ cs), .int .i64 0]) ∧ Below w.heap.size w w' := by
  have HM := hide hM
  have HI := hide hI
  have HV1 := hide hV1
  have HV2 := hide hV2
  have HJ := hide hJ
  have HN := hide (fun V : World => number_any 4 idx V (by decide))
  have cc1 := sadd (numB 4 idx) rnd (by rw [numB_size]; omega) (by omega)
  have cc2 := sadd (numB 4 idx ++ rnd) cs (by simp only [ByteArray.size_append, numB_size]; omega) (by omega)
  clear hM hI hV1 hV2 hJ
  generalize numB 4 idx ++ rnd ++ cs = res at cc2 ⊢
  generalize numB 4 idx ++ rnd = hd at cc1 cc2
  generalize numB 4 idx = nb at HN cc1
  obtain ⟨W0, hW⟩ : ∃ W0, (w.alloc (.cells #[.int .i64 k, .int .i64 b, .int .i64 x, .int .i64 t, .int .i64 l] 26)).alloc (.cells #[.int .i64 idx, .string rnd, .slice (some ⟨g, 0, none⟩) n c] 29) = W0 := ⟨_, rfl⟩
  have HK := hide (show Blk W0 w.heap.size [.int .i64 k, .int .i64 b, .int .i64 x, .int .i64 t, .int .i64 l] 26 by rw [← hW]; exact (Blk.new w _ _).alloc _)
  have HPA := hide (show Blk W0 (w.heap.size + 1) [.int .i64 idx, .string rnd, .slice (some ⟨g, 0, none⟩) n c] 29 by
    rw [← hW]
    have h := Blk.new (w.alloc (.cells #[.int .i64 k, .int .i64 b, .int .i64 x, .int .i64 t, .int .i64 l] 26)) [.int .i64 idx, .string rnd, .slice (some ⟨g, 0, none⟩) n c] 29
    simp only [World.size_alloc] at h
    exact h)
  have HB := hide (show Below w.heap.size w W0 by subst hW; exact ((Below.refl _ _).alloc (Nat.le_refl _) _).alloc (by simp) _)
  have HS := hide (fun (V : World) (h : Below W0.heap.size W0 V) => (by
    have q1 := HK.out.on h
    have q2 := HPA.out.on h
    exact ⟨q1.cell 0, q1.cell 1, q1.cell 2, q1.cell 3, q1.cell 4, q2.cell 0, q2.cell 1, q2.cell 2⟩ : V.cell? ⟨w.heap.size, 0, none⟩ = some (.int .i64 k) ∧ V.cell? ⟨w.heap.size, 1, none⟩ = some (.int .i64 b) ∧ V.cell? ⟨w.heap.size, 2, none⟩ = some (.int .i64 x) ∧ V.cell? ⟨w.heap.size, 3, none⟩ = some (.int .i64 t) ∧ V.cell? ⟨w.heap.size, 4, none⟩ = some (.int .i64 l) ∧ V.cell? ⟨w.heap.size + 1, 0, none⟩ = some (.int .i64 idx) ∧ V.cell? ⟨w.heap.size + 1, 1, none⟩ = some (.string rnd) ∧ V.cell? ⟨w.heap.size + 1, 2, none⟩ = some (.slice (some ⟨g, 0, none⟩) n c)))
  obtain ⟨c0, c1, c2, c3, c4, d0, d1, d2⟩ := HS.out W0 (Below.refl _ _)
  have HWE := hide hW
  clear hW
  go_enter Tryz.func85, Tryz.ntmps85
  go_wp2_with fail
  rw [HWE.out]
  refine (HM.out _).mono ?_
  rintro e w1 ⟨rfl, hb1⟩
  have HB1 := hide (heldB (Below.refl W0.heap.size W0) hb1 (Nat.le_refl _))
  clear hb1 c0 c1 c2 c3 c4 d0 d1 d2 HWE
  have HB2 := hide (HB1.out.alloc HB1.out.size (.cells #[.int .i64 a0, .int .i64 a1, .int .i64 a2, .int .i64 a3, .int .i64 a4, .int .i64 a5] 158))
  have HZ2 := hide (Blk.new w1 [.int .i64 a0, .int .i64 a1, .int .i64 a2, .int .i64 a3, .int .i64 a4, .int .i64 a5] 158)
  obtain ⟨W2, hW2⟩ : ∃ W2, w1.alloc (.cells #[.int .i64 a0, .int .i64 a1, .int .i64 a2, .int .i64 a3, .int .i64 a4, .int .i64 a5] 158) = W2 := ⟨_, rfl⟩
  rw [hW2] at HB2 HZ2
  obtain ⟨c0, c1, c2, c3, c4, d0, d1, d2⟩ := HS.out W2 HB2.out
  go_wp2_with fail
  try rw [hW2]
  clear hW2
  refine (HI.out _).mono ?_
  rintro e w3 ⟨rfl, hb3⟩
  have HB3 := hide (heldB HB2.out hb3 (Nat.le_refl _))
  have HZ3 := hide (HZ2.out.on hb3)
  clear hb3 c0 c1 c2 c3 c4 d0 d1 d2 HB2 HZ2
  obtain ⟨c0, c1, c2, c3, c4, d0, d1, d2⟩ := HS.out w3 HB3.out
  have z2' := HZ3.out.cell 2
  simp only [List.getElem?_cons_zero, List.getElem?_cons_succ] at z2'
  have HV1a := hide (HV1.out w3 w3.heap.size rfl)
  go_wp2_with fail
  refine HV1a.out.mono ?_
  rintro e w4 ⟨rfl, hb4⟩
  have HB4 := hide (heldB (HB3.out.alloc HB3.out.size _) hb4 (Nat.le_refl _))
  clear hb4 c0 c1 c2 c3 c4 d0 d1 d2 z2' HV1a
  obtain ⟨c0, c1, c2, c3, c4, d0, d1, d2⟩ := HS.out w4 HB4.out
  have HV2a := hide (HV2.out w4 (HB.out.trans (HB4.out.mono HB.out.size)))
  go_wp2_with fail
  refine HV2a.out.mono ?_
  rintro e w5 ⟨rfl, hb5⟩
  have HB5 := hide (heldB HB4.out hb5 (Nat.le_refl _))
  clear hb5 c0 c1 c2 c3 c4 d0 d1 d2 HV2a
  go_wp2_with fail
  have HSW := hide (fun (V : World) (h : Below w5.heap.size w5 V) => HS.out V (heldB HB5.out h (Nat.le_refl _)))
  have HBW := hide (fun (V : World) (h : Below w5.heap.size w5 V) => HB.out.trans ((heldB HB5.out h (Nat.le_refl _)).mono HB.out.size))
  go_region_held3 (fun V => V.cell? ⟨w.heap.size, 0, none⟩ = some (.int .i64 k) ∧ V.cell? ⟨w.heap.size, 1, none⟩ = some (.int .i64 b) ∧ V.cell? ⟨w.heap.size, 2, none⟩ = some (.int .i64 x) ∧ V.cell? ⟨w.heap.size, 3, none⟩ = some (.int .i64 t) ∧ V.cell? ⟨w.heap.size, 4, none⟩ = some (.int .i64 l) ∧ V.cell? ⟨w.heap.size + 1, 0, none⟩ = some (.int .i64 idx) ∧ V.cell? ⟨w.heap.size + 1, 1, none⟩ = some (.string rnd) ∧ V.cell? ⟨w.heap.size + 1, 2, none⟩ = some (.slice (some ⟨g, 0, none⟩) n c)) (first | exact HSW.out _ hS2 | exact HSW.out _ hS1 | exact HSW.out _ (Below.refl w5.heap.size w5).drew) (first | (go_at_call 160; refine (HN.out _).mono ?_; rintro e w6 ⟨rfl, hb6⟩; have hS1 := heldB (Below.refl w5.heap.size w5).drew hb6 (Nat.le_refl _)) | (go_at_call 161; refine (HJ.out _ (HBW.out _ hS1)).mono ?_; rintro e w7 ⟨rfl, hb7⟩; have hS2 := heldB hS1 hb7 (Nat.le_refl _)))
  have HB7 := hide (HBW.out _ hS2)
  clear hS1 hS2 hb6 hb7
  go_wp2
  go_ret2
  exact ⟨rfl, HB7.out⟩
end Go.Proofs.YtgaoeoijdpdjiabGreatDoor
