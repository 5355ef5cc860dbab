/-
  The id of a key; the key of a set and of seeds. How far a signer is; its key. What a reservation leaves behind in any case. A reservation.
-/
import Derived.Test.YtgaoeoijdpdjiabGreatDoorPart6
import Derived.Test.YtgaoeoijdpdjiabGreatDoorPart32
import Derived.Test.YtgaoeoijdpdjiabGreatDoorPart29
import Derived.Defers
import Derived.Test.YtgaoeoijdpdjiabGreatDoorPart28
namespace Go.Proofs.YtgaoeoijdpdjiabGreatDoor
open Go.RowKit
/-- The id of a key. -/
def idS (k b x t l : Int) (root pub : ByteArray) : ByteArray := hv k 8 (numB 1 7 ++ (headS k b x t l ++ root ++ pub))
theorem idS_size (k b x t l : Int) (root pub : ByteArray) (hk : k = 1 ∨ k = 2) (z1 : root.size ≤ 16) (z2 : pub.size ≤ 16) : (idS k b x t l root pub).size = 8 := by
  have h := hv_size k 8 (numB 1 7 ++ (headS k b x t l ++ root ++ pub)) hk (by decide) (by decide) (by simp only [ByteArray.size_append, numB_size, headS_size]; omega)
  unfold idS
  omega
set_option maxRecDepth 20000 in
set_option maxHeartbeats 8000000 in
theorem keyId_any (k b x t l : Int) (root pub : ByteArray) (w : World) (hk : k = 1 ∨ k = 2) (z1 : root.size ≤ 16) (z2 : pub.size ≤ 16) (hT : Tn w) :
    Calls Tryz.prog 179 #[.agg #[.int .i64 k, .int .i64 b, .int .i64 x, .int .i64 t, .int .i64 l, .string root, .string pub]] w fun e w' => e = .returned (.string (idS k b x t l root pub)) ∧ Below w.heap.size w w' := by
  have HN := hide (keyOne_any 7)
  have HTX := hide (fun V : World => keyText_any k b x t l root pub V z1 z2)
  have hz : (headS k b x t l ++ root ++ pub).size ≤ 40 := by simp only [ByteArray.size_append, headS_size]; omega
  have HO := hide (fun (V : World) (hV : Tn V) => of_hv k 8 (numB 1 7 ++ (headS k b x t l ++ root ++ pub)) V hk (by decide) (by decide) (by rw [ByteArray.size_append, numB_size]; omega) hV)
  have cc := sadd (numB 1 7) (headS k b x t l ++ root ++ pub) (by rw [numB_size]; omega) (by omega)
  have HI : Hid (hv k 8 (numB 1 7 ++ (headS k b x t l ++ root ++ pub)) = idS k b x t l root pub) := rfl
  rw [HI.out] at HO
  generalize idS k b x t l root pub = res at HO ⊢
  clear HI
  generalize numB 1 7 ++ (headS k b x t l ++ root ++ pub) = t2 at HO cc
  generalize headS k b x t l ++ root ++ pub = t1 at HTX cc
  generalize numB 1 7 = t0 at HN cc
  obtain ⟨W0, hW⟩ : ∃ W0, w.alloc (.cells #[.int .i64 k, .int .i64 b, .int .i64 x, .int .i64 t, .int .i64 l, .string root, .string pub] 184) = W0 := ⟨_, rfl⟩
  have HK := hide (show Blk W0 w.heap.size [.int .i64 k, .int .i64 b, .int .i64 x, .int .i64 t, .int .i64 l, .string root, .string pub] 184 by rw [← hW]; exact Blk.new w _ _)
  have HB := hide (show Below w.heap.size w W0 by subst hW; exact (Below.refl _ _).alloc (Nat.le_refl _) _)
  have HTW := hide (hT.on HB.out)
  have HS := hide (fun (V : World) (h : Below W0.heap.size W0 V) => (by
    have q2 := HK.out.on h
    exact ⟨q2.cell 0, q2.cell 1, q2.cell 2, q2.cell 3, q2.cell 4, q2.cell 5, q2.cell 6⟩ : V.cell? ⟨w.heap.size, 0, none⟩ = some (.int .i64 k) ∧ V.cell? ⟨w.heap.size, 1, none⟩ = some (.int .i64 b) ∧ V.cell? ⟨w.heap.size, 2, none⟩ = some (.int .i64 x) ∧ V.cell? ⟨w.heap.size, 3, none⟩ = some (.int .i64 t) ∧ V.cell? ⟨w.heap.size, 4, none⟩ = some (.int .i64 l) ∧ V.cell? ⟨w.heap.size, 5, none⟩ = some (.string root) ∧ V.cell? ⟨w.heap.size, 6, none⟩ = some (.string pub)))
  have HWE := hide hW
  clear hW hz hT
  have hS := (Below.refl W0.heap.size W0).drew
  go_enter Tryz.func179, Tryz.ntmps179
  go_wp2_with fail
  rw [HWE.out]
  go_region_held3 (fun V => V.cell? ⟨w.heap.size, 0, none⟩ = some (.int .i64 k) ∧ V.cell? ⟨w.heap.size, 1, none⟩ = some (.int .i64 b) ∧ V.cell? ⟨w.heap.size, 2, none⟩ = some (.int .i64 x) ∧ V.cell? ⟨w.heap.size, 3, none⟩ = some (.int .i64 t) ∧ V.cell? ⟨w.heap.size, 4, none⟩ = some (.int .i64 l) ∧ V.cell? ⟨w.heap.size, 5, none⟩ = some (.string root) ∧ V.cell? ⟨w.heap.size, 6, none⟩ = some (.string pub)) (exact HS.out _ hS) (first | (go_at_call 247; refine (HN.out _).mono ?_; rintro e wN ⟨rfl, hbN⟩; have hS := heldB hS hbN (Nat.le_refl _)) | (go_at_call 170; refine (HTX.out _).mono ?_; rintro e wN ⟨rfl, hbN⟩; have hS := heldB hS hbN (Nat.le_refl _)) | (go_at_call 169; refine (HO.out _ (HTW.out.on hS)).mono ?_; rintro e wN ⟨rfl, hbN⟩; have hS := heldB hS hbN (Nat.le_refl _)))
  have HB9 := hide (HB.out.trans (hS.mono HB.out.size))
  clear hS
  go_wp2
  go_ret
  exact ⟨rfl, HB9.out⟩
set_option maxRecDepth 20000 in
set_option maxHeartbeats 8000000 in
theorem keysOf_on (k b x t l q0 q1 q2 q3 ch : Int) (sec rnd pub root : ByteArray) (w : World) (hl : IntKind.i64.wrap (l - 1) = l - 1) (hT : Tn w)
    (hN : ∀ V : World, Calls Tryz.prog 208 #[.agg #[.int .i64 k, .int .i64 b, .int .i64 x, .int .i64 t, .int .i64 l], .agg #[.string sec, .string rnd, .string pub], .agg #[.int .i64 (l - 1), .int .i64 0, .int .i64 0, .int .i64 0]] V fun e w' => e = .returned (.tuple #[.agg #[.int .i64 k, .int .i64 b, .int .i64 x, .int .i64 t, .int .i64 l, .string sec, .string rnd, .string pub, .int .i64 q0, .int .i64 q1, .int .i64 q2, .int .i64 q3, .int .i64 ch], .int .i64 0]) ∧ Below V.heap.size V w')
    (hR : ∀ V : World, Tn V → Calls Tryz.prog 254 #[.agg #[.int .i64 k, .int .i64 b, .int .i64 x, .int .i64 t, .int .i64 l, .string sec, .string rnd, .string pub, .int .i64 q0, .int .i64 q1, .int .i64 q2, .int .i64 q3, .int .i64 ch]] V fun e w' => e = .returned (.string root) ∧ Below V.heap.size V w') :
    Calls Tryz.prog 178 #[.agg #[.int .i64 k, .int .i64 b, .int .i64 x, .int .i64 t, .int .i64 l], .agg #[.string sec, .string rnd, .string pub]] w fun e w' => e = .returned (.tuple #[.agg #[.int .i64 k, .int .i64 b, .int .i64 x, .int .i64 t, .int .i64 l, .string root, .string pub], .int .i64 0]) ∧ Below w.heap.size w w' := by
  have HN := hide hN
  have HR := hide hR
  clear hN hR
  obtain ⟨W0, hW⟩ : ∃ W0, ((w.alloc (.cells #[.int .i64 k, .int .i64 b, .int .i64 x, .int .i64 t, .int .i64 l] 26)).alloc (.cells #[.string sec, .string rnd, .string pub] 42)).alloc (.cells #[.int .i64 0, .int .i64 0, .int .i64 0, .int .i64 0, .int .i64 0, .string ⟨#[]⟩, .string ⟨#[]⟩] 184) = W0 := ⟨_, rfl⟩
  have HC := hide (show Blk W0 w.heap.size [.int .i64 k, .int .i64 b, .int .i64 x, .int .i64 t, .int .i64 l] 26 by rw [← hW]; exact ((Blk.new w _ _).alloc _).alloc _)
  have HE := hide (show Blk W0 (w.heap.size + 1) [.string sec, .string rnd, .string pub] 42 by
    rw [← hW]
    have h := (Blk.new (w.alloc (.cells #[.int .i64 k, .int .i64 b, .int .i64 x, .int .i64 t, .int .i64 l] 26)) [.string sec, .string rnd, .string pub] 42).alloc (.cells #[.int .i64 0, .int .i64 0, .int .i64 0, .int .i64 0, .int .i64 0, .string ⟨#[]⟩, .string ⟨#[]⟩] 184)
    simp only [World.size_alloc] at h
    exact h)
  have HKR := hide (show Blk W0 (w.heap.size + 1 + 1) [.int .i64 0, .int .i64 0, .int .i64 0, .int .i64 0, .int .i64 0, .string ⟨#[]⟩, .string ⟨#[]⟩] 184 by
    rw [← hW]
    have h := Blk.new ((w.alloc (.cells #[.int .i64 k, .int .i64 b, .int .i64 x, .int .i64 t, .int .i64 l] 26)).alloc (.cells #[.string sec, .string rnd, .string pub] 42)) [.int .i64 0, .int .i64 0, .int .i64 0, .int .i64 0, .int .i64 0, .string ⟨#[]⟩, .string ⟨#[]⟩] 184
    simp only [World.size_alloc] at h
    exact h)
  have hz : W0.heap.size = w.heap.size + 1 + 1 + 1 := by subst hW; simp
  have HB := hide (show Below w.heap.size w W0 by subst hW; exact (((Below.refl _ _).alloc (Nat.le_refl _) _).alloc (by simp) _).alloc (by simp; omega) _)
  have HWE := hide hW
  clear hW
  go_enter Tryz.func178, Tryz.ntmps178
  go_wp2_with fail
  rw [HWE.out]
  refine (HN.out _).mono ?_
  rintro e w1 ⟨rfl, hb1⟩
  have HB1 := hide (heldB (Below.refl W0.heap.size W0) hb1 (Nat.le_refl _))
  clear hb1 HWE
  have HB3 := hide (HB1.out.alloc HB1.out.size (.cells #[.int .i64 k, .int .i64 b, .int .i64 x, .int .i64 t, .int .i64 l, .string sec, .string rnd, .string pub, .int .i64 q0, .int .i64 q1, .int .i64 q2, .int .i64 q3, .int .i64 ch] 274))
  have HTR := hide (Blk.new w1 [.int .i64 k, .int .i64 b, .int .i64 x, .int .i64 t, .int .i64 l, .string sec, .string rnd, .string pub, .int .i64 q0, .int .i64 q1, .int .i64 q2, .int .i64 q3, .int .i64 ch] 274)
  have hTB : W0.heap.size ≤ w1.heap.size := HB1.out.size
  obtain ⟨W3, hW3⟩ : ∃ W3, w1.alloc (.cells #[.int .i64 k, .int .i64 b, .int .i64 x, .int .i64 t, .int .i64 l, .string sec, .string rnd, .string pub, .int .i64 q0, .int .i64 q1, .int .i64 q2, .int .i64 q3, .int .i64 ch] 274) = W3 := ⟨_, rfl⟩
  rw [hW3] at HB3 HTR
  have HW3 := hide hW3
  clear hW3
  go_wp2_with fail
  rw [HW3.out]
  obtain ⟨TB, hTBe⟩ : ∃ TB, w1.heap.size = TB := ⟨_, rfl⟩
  rw [hTBe] at HTR hTB ⊢
  clear hTBe HW3
  have HT3 := hide (hT.on (HB.out.trans (HB3.out.mono HB.out.size)))
  have HKZ := hide (HKR.out.below HB3.out (by omega))
  have HC3 := hide (HC.out.below HB3.out (by omega))
  have HE3 := hide (HE.out.below HB3.out (by omega))
  have HZK : Hid (w.heap.size + 1 + 1 ≤ W3.heap.size) := by have := HB3.out.size; show _ ≤ _; omega
  have HTL : Hid (TB < W3.heap.size) := HTR.out.lt
  have HS := hide (fun (V : World) (h : Below W3.heap.size W3 V) => (by
    have q1 := HC3.out.on h
    have q2 := HE3.out.on h
    have q3 := HTR.out.on h
    exact ⟨q1.cell 0, q1.cell 1, q1.cell 2, q1.cell 3, q1.cell 4, q2.cell 2, q3.cell 0, q3.cell 1, q3.cell 2, q3.cell 3, q3.cell 4, q3.cell 5, q3.cell 6, q3.cell 7, q3.cell 8, q3.cell 9, q3.cell 10, q3.cell 11, q3.cell 12⟩ : V.cell? ⟨w.heap.size, 0, none⟩ = some (.int .i64 k) ∧ V.cell? ⟨w.heap.size, 1, none⟩ = some (.int .i64 b) ∧ V.cell? ⟨w.heap.size, 2, none⟩ = some (.int .i64 x) ∧ V.cell? ⟨w.heap.size, 3, none⟩ = some (.int .i64 t) ∧ V.cell? ⟨w.heap.size, 4, none⟩ = some (.int .i64 l) ∧ V.cell? ⟨w.heap.size + 1, 2, none⟩ = some (.string pub) ∧ V.cell? ⟨TB, 0, none⟩ = some (.int .i64 k) ∧ V.cell? ⟨TB, 1, none⟩ = some (.int .i64 b) ∧ V.cell? ⟨TB, 2, none⟩ = some (.int .i64 x) ∧ V.cell? ⟨TB, 3, none⟩ = some (.int .i64 t) ∧ V.cell? ⟨TB, 4, none⟩ = some (.int .i64 l) ∧ V.cell? ⟨TB, 5, none⟩ = some (.string sec) ∧ V.cell? ⟨TB, 6, none⟩ = some (.string rnd) ∧ V.cell? ⟨TB, 7, none⟩ = some (.string pub) ∧ V.cell? ⟨TB, 8, none⟩ = some (.int .i64 q0) ∧ V.cell? ⟨TB, 9, none⟩ = some (.int .i64 q1) ∧ V.cell? ⟨TB, 10, none⟩ = some (.int .i64 q2) ∧ V.cell? ⟨TB, 11, none⟩ = some (.int .i64 q3) ∧ V.cell? ⟨TB, 12, none⟩ = some (.int .i64 ch)))
  have HS5 := hide (fun (V : World) (h : Below W3.heap.size W3 V) => (by
    have q1 := ((((((((HC3.out.on h).other (a := ⟨w.heap.size + 1 + 1, 0, none⟩) (.int .i64 k) (by simp <;> omega)).other (a := ⟨w.heap.size + 1 + 1, 1, none⟩) (.int .i64 b) (by simp <;> omega)).other (a := ⟨w.heap.size + 1 + 1, 2, none⟩) (.int .i64 x) (by simp <;> omega)).other (a := ⟨w.heap.size + 1 + 1, 3, none⟩) (.int .i64 t) (by simp <;> omega)).other (a := ⟨w.heap.size + 1 + 1, 4, none⟩) (.int .i64 l) (by simp <;> omega)).other (a := ⟨w.heap.size + 1 + 1, 5, none⟩) (.string root) (by simp <;> omega)).other (a := ⟨w.heap.size + 1 + 1, 6, none⟩) (.string pub) (by simp <;> omega))
    have q2 := ((((((((HE3.out.on h).other (a := ⟨w.heap.size + 1 + 1, 0, none⟩) (.int .i64 k) (by simp <;> omega)).other (a := ⟨w.heap.size + 1 + 1, 1, none⟩) (.int .i64 b) (by simp <;> omega)).other (a := ⟨w.heap.size + 1 + 1, 2, none⟩) (.int .i64 x) (by simp <;> omega)).other (a := ⟨w.heap.size + 1 + 1, 3, none⟩) (.int .i64 t) (by simp <;> omega)).other (a := ⟨w.heap.size + 1 + 1, 4, none⟩) (.int .i64 l) (by simp <;> omega)).other (a := ⟨w.heap.size + 1 + 1, 5, none⟩) (.string root) (by simp <;> omega)).other (a := ⟨w.heap.size + 1 + 1, 6, none⟩) (.string pub) (by simp <;> omega))
    have q3 := ((((((((HTR.out.on h).other (a := ⟨w.heap.size + 1 + 1, 0, none⟩) (.int .i64 k) (by simp <;> omega)).other (a := ⟨w.heap.size + 1 + 1, 1, none⟩) (.int .i64 b) (by simp <;> omega)).other (a := ⟨w.heap.size + 1 + 1, 2, none⟩) (.int .i64 x) (by simp <;> omega)).other (a := ⟨w.heap.size + 1 + 1, 3, none⟩) (.int .i64 t) (by simp <;> omega)).other (a := ⟨w.heap.size + 1 + 1, 4, none⟩) (.int .i64 l) (by simp <;> omega)).other (a := ⟨w.heap.size + 1 + 1, 5, none⟩) (.string root) (by simp <;> omega)).other (a := ⟨w.heap.size + 1 + 1, 6, none⟩) (.string pub) (by simp <;> omega))
    exact ⟨q1.cell 0, q1.cell 1, q1.cell 2, q1.cell 3, q1.cell 4, q2.cell 2, q3.cell 0, q3.cell 1, q3.cell 2, q3.cell 3, q3.cell 4, q3.cell 5, q3.cell 6, q3.cell 7, q3.cell 8, q3.cell 9, q3.cell 10, q3.cell 11, q3.cell 12⟩ : (((((((V.setCell ⟨w.heap.size + 1 + 1, 0, none⟩ (.int .i64 k)).setCell ⟨w.heap.size + 1 + 1, 1, none⟩ (.int .i64 b)).setCell ⟨w.heap.size + 1 + 1, 2, none⟩ (.int .i64 x)).setCell ⟨w.heap.size + 1 + 1, 3, none⟩ (.int .i64 t)).setCell ⟨w.heap.size + 1 + 1, 4, none⟩ (.int .i64 l)).setCell ⟨w.heap.size + 1 + 1, 5, none⟩ (.string root)).setCell ⟨w.heap.size + 1 + 1, 6, none⟩ (.string pub)).cell? ⟨w.heap.size, 0, none⟩ = some (.int .i64 k) ∧ (((((((V.setCell ⟨w.heap.size + 1 + 1, 0, none⟩ (.int .i64 k)).setCell ⟨w.heap.size + 1 + 1, 1, none⟩ (.int .i64 b)).setCell ⟨w.heap.size + 1 + 1, 2, none⟩ (.int .i64 x)).setCell ⟨w.heap.size + 1 + 1, 3, none⟩ (.int .i64 t)).setCell ⟨w.heap.size + 1 + 1, 4, none⟩ (.int .i64 l)).setCell ⟨w.heap.size + 1 + 1, 5, none⟩ (.string root)).setCell ⟨w.heap.size + 1 + 1, 6, none⟩ (.string pub)).cell? ⟨w.heap.size, 1, none⟩ = some (.int .i64 b) ∧ (((((((V.setCell ⟨w.heap.size + 1 + 1, 0, none⟩ (.int .i64 k)).setCell ⟨w.heap.size + 1 + 1, 1, none⟩ (.int .i64 b)).setCell ⟨w.heap.size + 1 + 1, 2, none⟩ (.int .i64 x)).setCell ⟨w.heap.size + 1 + 1, 3, none⟩ (.int .i64 t)).setCell ⟨w.heap.size + 1 + 1, 4, none⟩ (.int .i64 l)).setCell ⟨w.heap.size + 1 + 1, 5, none⟩ (.string root)).setCell ⟨w.heap.size + 1 + 1, 6, none⟩ (.string pub)).cell? ⟨w.heap.size, 2, none⟩ = some (.int .i64 x) ∧ (((((((V.setCell ⟨w.heap.size + 1 + 1, 0, none⟩ (.int .i64 k)).setCell ⟨w.heap.size + 1 + 1, 1, none⟩ (.int .i64 b)).setCell ⟨w.heap.size + 1 + 1, 2, none⟩ (.int .i64 x)).setCell ⟨w.heap.size + 1 + 1, 3, none⟩ (.int .i64 t)).setCell ⟨w.heap.size + 1 + 1, 4, none⟩ (.int .i64 l)).setCell ⟨w.heap.size + 1 + 1, 5, none⟩ (.string root)).setCell ⟨w.heap.size + 1 + 1, 6, none⟩ (.string pub)).cell? ⟨w.heap.size, 3, none⟩ = some (.int .i64 t) ∧ (((((((V.setCell ⟨w.heap.size + 1 + 1, 0, none⟩ (.int .i64 k)).setCell ⟨w.heap.size + 1 + 1, 1, none⟩ (.int .i64 b)).setCell ⟨w.heap.size + 1 + 1, 2, none⟩ (.int .i64 x)).setCell ⟨w.heap.size + 1 + 1, 3, none⟩ (.int .i64 t)).setCell ⟨w.heap.size + 1 + 1, 4, none⟩ (.int .i64 l)).setCell ⟨w.heap.size + 1 + 1, 5, none⟩ (.string root)).setCell ⟨w.heap.size + 1 + 1, 6, none⟩ (.string pub)).cell? ⟨w.heap.size, 4, none⟩ = some (.int .i64 l) ∧ (((((((V.setCell ⟨w.heap.size + 1 + 1, 0, none⟩ (.int .i64 k)).setCell ⟨w.heap.size + 1 + 1, 1, none⟩ (.int .i64 b)).setCell ⟨w.heap.size + 1 + 1, 2, none⟩ (.int .i64 x)).setCell ⟨w.heap.size + 1 + 1, 3, none⟩ (.int .i64 t)).setCell ⟨w.heap.size + 1 + 1, 4, none⟩ (.int .i64 l)).setCell ⟨w.heap.size + 1 + 1, 5, none⟩ (.string root)).setCell ⟨w.heap.size + 1 + 1, 6, none⟩ (.string pub)).cell? ⟨w.heap.size + 1, 2, none⟩ = some (.string pub) ∧ (((((((V.setCell ⟨w.heap.size + 1 + 1, 0, none⟩ (.int .i64 k)).setCell ⟨w.heap.size + 1 + 1, 1, none⟩ (.int .i64 b)).setCell ⟨w.heap.size + 1 + 1, 2, none⟩ (.int .i64 x)).setCell ⟨w.heap.size + 1 + 1, 3, none⟩ (.int .i64 t)).setCell ⟨w.heap.size + 1 + 1, 4, none⟩ (.int .i64 l)).setCell ⟨w.heap.size + 1 + 1, 5, none⟩ (.string root)).setCell ⟨w.heap.size + 1 + 1, 6, none⟩ (.string pub)).cell? ⟨TB, 0, none⟩ = some (.int .i64 k) ∧ (((((((V.setCell ⟨w.heap.size + 1 + 1, 0, none⟩ (.int .i64 k)).setCell ⟨w.heap.size + 1 + 1, 1, none⟩ (.int .i64 b)).setCell ⟨w.heap.size + 1 + 1, 2, none⟩ (.int .i64 x)).setCell ⟨w.heap.size + 1 + 1, 3, none⟩ (.int .i64 t)).setCell ⟨w.heap.size + 1 + 1, 4, none⟩ (.int .i64 l)).setCell ⟨w.heap.size + 1 + 1, 5, none⟩ (.string root)).setCell ⟨w.heap.size + 1 + 1, 6, none⟩ (.string pub)).cell? ⟨TB, 1, none⟩ = some (.int .i64 b) ∧ (((((((V.setCell ⟨w.heap.size + 1 + 1, 0, none⟩ (.int .i64 k)).setCell ⟨w.heap.size + 1 + 1, 1, none⟩ (.int .i64 b)).setCell ⟨w.heap.size + 1 + 1, 2, none⟩ (.int .i64 x)).setCell ⟨w.heap.size + 1 + 1, 3, none⟩ (.int .i64 t)).setCell ⟨w.heap.size + 1 + 1, 4, none⟩ (.int .i64 l)).setCell ⟨w.heap.size + 1 + 1, 5, none⟩ (.string root)).setCell ⟨w.heap.size + 1 + 1, 6, none⟩ (.string pub)).cell? ⟨TB, 2, none⟩ = some (.int .i64 x) ∧ (((((((V.setCell ⟨w.heap.size + 1 + 1, 0, none⟩ (.int .i64 k)).setCell ⟨w.heap.size + 1 + 1, 1, none⟩ (.int .i64 b)).setCell ⟨w.heap.size + 1 + 1, 2, none⟩ (.int .i64 x)).setCell ⟨w.heap.size + 1 + 1, 3, none⟩ (.int .i64 t)).setCell ⟨w.heap.size + 1 + 1, 4, none⟩ (.int .i64 l)).setCell ⟨w.heap.size + 1 + 1, 5, none⟩ (.string root)).setCell ⟨w.heap.size + 1 + 1, 6, none⟩ (.string pub)).cell? ⟨TB, 3, none⟩ = some (.int .i64 t) ∧ (((((((V.setCell ⟨w.heap.size + 1 + 1, 0, none⟩ (.int .i64 k)).setCell ⟨w.heap.size + 1 + 1, 1, none⟩ (.int .i64 b)).setCell ⟨w.heap.size + 1 + 1, 2, none⟩ (.int .i64 x)).setCell ⟨w.heap.size + 1 + 1, 3, none⟩ (.int .i64 t)).setCell ⟨w.heap.size + 1 + 1, 4, none⟩ (.int .i64 l)).setCell ⟨w.heap.size + 1 + 1, 5, none⟩ (.string root)).setCell ⟨w.heap.size + 1 + 1, 6, none⟩ (.string pub)).cell? ⟨TB, 4, none⟩ = some (.int .i64 l) ∧ (((((((V.setCell ⟨w.heap.size + 1 + 1, 0, none⟩ (.int .i64 k)).setCell ⟨w.heap.size + 1 + 1, 1, none⟩ (.int .i64 b)).setCell ⟨w.heap.size + 1 + 1, 2, none⟩ (.int .i64 x)).setCell ⟨w.heap.size + 1 + 1, 3, none⟩ (.int .i64 t)).setCell ⟨w.heap.size + 1 + 1, 4, none⟩ (.int .i64 l)).setCell ⟨w.heap.size + 1 + 1, 5, none⟩ (.string root)).setCell ⟨w.heap.size + 1 + 1, 6, none⟩ (.string pub)).cell? ⟨TB, 5, none⟩ = some (.string sec) ∧ (((((((V.setCell ⟨w.heap.size + 1 + 1, 0, none⟩ (.int .i64 k)).setCell ⟨w.heap.size + 1 + 1, 1, none⟩ (.int .i64 b)).setCell ⟨w.heap.size + 1 + 1, 2, none⟩ (.int .i64 x)).setCell ⟨w.heap.size + 1 + 1, 3, none⟩ (.int .i64 t)).setCell ⟨w.heap.size + 1 + 1, 4, none⟩ (.int .i64 l)).setCell ⟨w.heap.size + 1 + 1, 5, none⟩ (.string root)).setCell ⟨w.heap.size + 1 + 1, 6, none⟩ (.string pub)).cell? ⟨TB, 6, none⟩ = some (.string rnd) ∧ (((((((V.setCell ⟨w.heap.size + 1 + 1, 0, none⟩ (.int .i64 k)).setCell ⟨w.heap.size + 1 + 1, 1, none⟩ (.int .i64 b)).setCell ⟨w.heap.size + 1 + 1, 2, none⟩ (.int .i64 x)).setCell ⟨w.heap.size + 1 + 1, 3, none⟩ (.int .i64 t)).setCell ⟨w.heap.size + 1 + 1, 4, none⟩ (.int .i64 l)).setCell ⟨w.heap.size + 1 + 1, 5, none⟩ (.string root)).setCell ⟨w.heap.size + 1 + 1, 6, none⟩ (.string pub)).cell? ⟨TB, 7, none⟩ = some (.string pub) ∧ (((((((V.setCell ⟨w.heap.size + 1 + 1, 0, none⟩ (.int .i64 k)).setCell ⟨w.heap.size + 1 + 1, 1, none⟩ (.int .i64 b)).setCell ⟨w.heap.size + 1 + 1, 2, none⟩ (.int .i64 x)).setCell ⟨w.heap.size + 1 + 1, 3, none⟩ (.int .i64 t)).setCell ⟨w.heap.size + 1 + 1, 4, none⟩ (.int .i64 l)).setCell ⟨w.heap.size + 1 + 1, 5, none⟩ (.string root)).setCell ⟨w.heap.size + 1 + 1, 6, none⟩ (.string pub)).cell? ⟨TB, 8, none⟩ = some (.int .i64 q0) ∧ (((((((V.setCell ⟨w.heap.size + 1 + 1, 0, none⟩ (.int .i64 k)).setCell ⟨w.heap.size + 1 + 1, 1, none⟩ (.int .i64 b)).setCell ⟨w.heap.size + 1 + 1, 2, none⟩ (.int .i64 x)).setCell ⟨w.heap.size + 1 + 1, 3, none⟩ (.int .i64 t)).setCell ⟨w.heap.size + 1 + 1, 4, none⟩ (.int .i64 l)).setCell ⟨w.heap.size + 1 + 1, 5, none⟩ (.string root)).setCell ⟨w.heap.size + 1 + 1, 6, none⟩ (.string pub)).cell? ⟨TB, 9, none⟩ = some (.int .i64 q1) ∧ (((((((V.setCell ⟨w.heap.size + 1 + 1, 0, none⟩ (.int .i64 k)).setCell ⟨w.heap.size + 1 + 1, 1, none⟩ (.int .i64 b)).setCell ⟨w.heap.size + 1 + 1, 2, none⟩ (.int .i64 x)).setCell ⟨w.heap.size + 1 + 1, 3, none⟩ (.int .i64 t)).setCell ⟨w.heap.size + 1 + 1, 4, none⟩ (.int .i64 l)).setCell ⟨w.heap.size + 1 + 1, 5, none⟩ (.string root)).setCell ⟨w.heap.size + 1 + 1, 6, none⟩ (.string pub)).cell? ⟨TB, 10, none⟩ = some (.int .i64 q2) ∧ (((((((V.setCell ⟨w.heap.size + 1 + 1, 0, none⟩ (.int .i64 k)).setCell ⟨w.heap.size + 1 + 1, 1, none⟩ (.int .i64 b)).setCell ⟨w.heap.size + 1 + 1, 2, none⟩ (.int .i64 x)).setCell ⟨w.heap.size + 1 + 1, 3, none⟩ (.int .i64 t)).setCell ⟨w.heap.size + 1 + 1, 4, none⟩ (.int .i64 l)).setCell ⟨w.heap.size + 1 + 1, 5, none⟩ (.string root)).setCell ⟨w.heap.size + 1 + 1, 6, none⟩ (.string pub)).cell? ⟨TB, 11, none⟩ = some (.int .i64 q3) ∧ (((((((V.setCell ⟨w.heap.size + 1 + 1, 0, none⟩ (.int .i64 k)).setCell ⟨w.heap.size + 1 + 1, 1, none⟩ (.int .i64 b)).setCell ⟨w.heap.size + 1 + 1, 2, none⟩ (.int .i64 x)).setCell ⟨w.heap.size + 1 + 1, 3, none⟩ (.int .i64 t)).setCell ⟨w.heap.size + 1 + 1, 4, none⟩ (.int .i64 l)).setCell ⟨w.heap.size + 1 + 1, 5, none⟩ (.string root)).setCell ⟨w.heap.size + 1 + 1, 6, none⟩ (.string pub)).cell? ⟨TB, 12, none⟩ = some (.int .i64 ch)))
  refine wp_region_held_drew (S := fun V => V.cell? ⟨w.heap.size, 0, none⟩ = some (.int .i64 k) ∧ V.cell? ⟨w.heap.size, 1, none⟩ = some (.int .i64 b) ∧ V.cell? ⟨w.heap.size, 2, none⟩ = some (.int .i64 x) ∧ V.cell? ⟨w.heap.size, 3, none⟩ = some (.int .i64 t) ∧ V.cell? ⟨w.heap.size, 4, none⟩ = some (.int .i64 l) ∧ V.cell? ⟨w.heap.size + 1, 2, none⟩ = some (.string pub) ∧ V.cell? ⟨TB, 0, none⟩ = some (.int .i64 k) ∧ V.cell? ⟨TB, 1, none⟩ = some (.int .i64 b) ∧ V.cell? ⟨TB, 2, none⟩ = some (.int .i64 x) ∧ V.cell? ⟨TB, 3, none⟩ = some (.int .i64 t) ∧ V.cell? ⟨TB, 4, none⟩ = some (.int .i64 l) ∧ V.cell? ⟨TB, 5, none⟩ = some (.string sec) ∧ V.cell? ⟨TB, 6, none⟩ = some (.string rnd) ∧ V.cell? ⟨TB, 7, none⟩ = some (.string pub) ∧ V.cell? ⟨TB, 8, none⟩ = some (.int .i64 q0) ∧ V.cell? ⟨TB, 9, none⟩ = some (.int .i64 q1) ∧ V.cell? ⟨TB, 10, none⟩ = some (.int .i64 q2) ∧ V.cell? ⟨TB, 11, none⟩ = some (.int .i64 q3) ∧ V.cell? ⟨TB, 12, none⟩ = some (.int .i64 ch)) (by kernel_rfl) (HS.out _ ((Below.refl W3.heap.size W3).drew)) (fun hHeld => ?_)
  refine tk 0 hHeld (h := ?_)
  refine tk 1 hHeld (h := ?_)
  refine tk 3 hHeld (h := ?_)
  refine tk 4 hHeld (h := ?_)
  refine wpAnyH_ready (rs := [2]) (by kernel_rfl) (by simp) ?_
  refine AllReadyH.cons (o := ?oa2) ?hoa2 (fun K hK => ?hsa2) AllReadyH.nil
  case hoa2 => (simp only [List.getElem?_toArray, List.getElem?_cons_succ, List.getElem?_cons_zero]; rfl)
  go_simp
  go_at_call 254
  refine (HR.out _ (HT3.out.on (Below.refl W3.heap.size W3).drew)).mono ?_
  rintro e w4 ⟨rfl, hb4⟩
  have HB4 := hide (heldB (Below.refl W3.heap.size W3).drew hb4 (Nat.le_refl _))
  have HK4 := hide (HKZ.out.below HB4.out HKZ.out.lt)
  clear hb4
  try go_wp2_with fail
  refine hK.out _ _ (HS.out _ (HB4.out)) (fun hHeld => ?_)
  clear hK K
  try simp only [Act.put, List.setIfInBounds_toArray, List.set_cons_zero, List.set_cons_succ]
  refine tk 5 hHeld (h := ?_)
  have r0 := HK4.out.cell 0
  have f0 := HK4.out.free 0
  have r1 := HK4.out.cell 1
  have f1 := HK4.out.free 1
  have r2 := HK4.out.cell 2
  have f2 := HK4.out.free 2
  have r3 := HK4.out.cell 3
  have f3 := HK4.out.free 3
  have r4 := HK4.out.cell 4
  have f4 := HK4.out.free 4
  have r5 := HK4.out.cell 5
  have f5 := HK4.out.free 5
  have r6 := HK4.out.cell 6
  have f6 := HK4.out.free 6
  simp only [List.getElem?_cons_zero, List.getElem?_cons_succ] at r0 r1 r2 r3 r4 r5 r6
  refine wpAnyH_ready (rs := [6]) (by kernel_rfl) (by simp) ?_
  refine AllReadyH.cons (o := ?oa6) ?hoa6 (fun K hK => ?hsa6) AllReadyH.nil
  case hoa6 => (simp only [List.getElem?_toArray, List.getElem?_cons_succ, List.getElem?_cons_zero]; rfl)
  go_simp
  refine hK.out _ _ (HS5.out _ HB4.out) (fun hHeld => ?_)
  clear hK K
  try simp only [Act.put, List.setIfInBounds_toArray, List.set_cons_zero, List.set_cons_succ]
  refine tk 7 hHeld (h := ?_)
  refine wpAnyH_done (by kernel_rfl) ?_ _
  go_wp2
  refine bodyPost_ret (v := .tuple #[.agg #[.int .i64 k, .int .i64 b, .int .i64 x, .int .i64 t, .int .i64 l, .string root, .string pub], .int .i64 0]) (by simp [results, Tryz.results178, go_sem, r0, r1, r2, r3, r4, r5, r6]) rfl ⟨rfl, ?_⟩
  have HBB := HB.out.trans ((HB3.out.trans (HB4.out.mono HB3.out.size)).mono HB.out.size)
  iterate 7 refine Below.setCell ?_ (by simp <;> omega) _
  exact HBB
end Go.Proofs.YtgaoeoijdpdjiabGreatDoor

namespace Go.Proofs.YtgaoeoijdpdjiabGreatDoor
open Go.RowKit
/-- A signer's cells. -/
def sgC (D : Nat) (tm : Int) (k b x t l : Int) (root pub sec rnd : ByteArray) (tot bat nx q bd : Int) (id : ByteArray) (ov : Bool) : List Value :=
  [.pointer (some ⟨D, 0, none⟩), .int .i64 tm, .int .i64 k, .int .i64 b, .int .i64 x, .int .i64 t, .int .i64 l, .string root, .string pub, .string sec, .string rnd, .string pub, .int .i64 tot, .int .i64 bat, .int .i64 nx, .int .i64 q, .int .i64 bd, .string id, .bool ov]
set_option maxRecDepth 20000 in
set_option maxHeartbeats 2000000 in
theorem state_on (S D : Nat) (tm k b x t l : Int) (root pub sec rnd : ByteArray) (tot bat nx q bd : Int) (id : ByteArray) (w : World) (hB : Blk w S (sgC D tm k b x t l root pub sec rnd tot bat nx q bd id false) 188) (hD : D < w.heap.size) (h5 : w.cell? ⟨D, 5, none⟩ = some (.int .i64 tm)) :
    Calls Tryz.prog 71 #[.pointer (some ⟨S, 0, none⟩)] w fun e w' => e = .returned (.agg #[.int .i64 nx, .int .i64 bd, .int .i64 q, .bool false]) ∧ Below w.heap.size w w' := by
  obtain ⟨W0, hW⟩ : ∃ W0, w.alloc (.cells #[.int .i64 0, .int .i64 0, .int .i64 0, .bool false] 79) = W0 := ⟨_, rfl⟩
  have HB := hide (show Below w.heap.size w W0 by subst hW; exact (Below.refl _ _).alloc (Nat.le_refl _) _)
  have HSB := hide (hB.on HB.out)
  have hz : w.heap.size < W0.heap.size := by subst hW; simp
  have HK := hide (show Blk W0 w.heap.size [.int .i64 0, .int .i64 0, .int .i64 0, .bool false] 79 by rw [← hW]; exact Blk.new w _ _)
  have HO := hide (fun (V : World) (h : Below W0.heap.size W0 V) => (by
    have q := HSB.out.on h
    exact isOver_no S D tm V q.lt (Nat.lt_of_lt_of_le hD (Nat.le_trans HB.out.size h.size)) (q.cell 0) (q.cell 1) (q.cell 18) ((h.cell (p := ⟨D, 5, none⟩) (Nat.lt_of_lt_of_le hD HB.out.size)).trans ((HB.out.cell (p := ⟨D, 5, none⟩) hD).trans h5)) : Calls Tryz.prog 114 #[.pointer (some ⟨S, 0, none⟩)] V fun e w' => e = .returned (.bool false) ∧ Below V.heap.size V w'))
  have HSL := hide hB.lt
  have HS5 := hide (fun (V : World) (h : Below w.heap.size W0 V) => (by
    have q1 := HSB.out.below h HSL.out
    exact ⟨q1.cell 14, q1.cell 15, q1.cell 16⟩ : V.cell? ⟨S, 14, none⟩ = some (.int .i64 nx) ∧ V.cell? ⟨S, 15, none⟩ = some (.int .i64 q) ∧ V.cell? ⟨S, 16, none⟩ = some (.int .i64 bd)))
  have HS := hide (fun (V : World) (h : Below W0.heap.size W0 V) => HS5.out V (h.mono HB.out.size))
  have HWE := hide hW
  have HZ := hide hz
  clear hW hB hD h5 hz
  go_enter Tryz.func71, Tryz.ntmps71
  go_wp2_with fail
  rw [HWE.out]
  refine wp_region_held_drew (S := fun V => V.cell? ⟨S, 14, none⟩ = some (.int .i64 nx) ∧ V.cell? ⟨S, 15, none⟩ = some (.int .i64 q) ∧ V.cell? ⟨S, 16, none⟩ = some (.int .i64 bd)) (by kernel_rfl) (HS.out _ ((Below.refl W0.heap.size W0).drew)) (fun hHeld => ?_)
  refine tk 0 hHeld (h := ?_)
  refine tk 1 hHeld (h := ?_)
  refine tk 2 hHeld (h := ?_)
  refine tk 3 hHeld (h := ?_)
  refine tk 4 hHeld (h := ?_)
  refine tk 5 hHeld (h := ?_)
  refine tk 6 hHeld (h := ?_)
  refine tk 7 hHeld (h := ?_)
  refine tk 8 hHeld (h := ?_)
  refine tk 9 hHeld (h := ?_)
  refine tk 10 hHeld (h := ?_)
  refine tk 11 hHeld (h := ?_)
  refine tk 12 hHeld (h := ?_)
  refine tk 13 hHeld (h := ?_)
  refine tk 14 hHeld (h := ?_)
  refine wpAnyH_ready (rs := [15]) (by kernel_rfl) (by simp) ?_
  refine AllReadyH.cons (o := ?oa15) ?hoa15 (fun K hK => ?hsa15) AllReadyH.nil
  case hoa15 => (simp only [List.getElem?_toArray, List.getElem?_cons_succ, List.getElem?_cons_zero]; rfl)
  go_simp
  go_at_call 114
  refine (HO.out _ (Below.refl W0.heap.size W0).drew).mono ?_
  rintro e w4 ⟨rfl, hb4⟩
  have HB4 := hide (heldB (Below.refl W0.heap.size W0).drew hb4 (Nat.le_refl _))
  have HK4 := hide (HK.out.on HB4.out)
  clear hb4
  try go_wp2_with fail
  refine hK.out _ _ (HS.out _ (HB4.out)) (fun hHeld => ?_)
  clear hK K
  try simp only [Act.put, List.setIfInBounds_toArray, List.set_cons_zero, List.set_cons_succ]
  refine tk 16 hHeld (h := ?_)
  have r0 := HK4.out.cell 0
  have f0 := HK4.out.free 0
  have r1 := HK4.out.cell 1
  have f1 := HK4.out.free 1
  have r2 := HK4.out.cell 2
  have f2 := HK4.out.free 2
  have r3 := HK4.out.cell 3
  have f3 := HK4.out.free 3
  simp only [List.getElem?_cons_zero, List.getElem?_cons_succ] at r0 r1 r2 r3
  refine wpAnyH_ready (rs := [17]) (by kernel_rfl) (by simp) ?_
  refine AllReadyH.cons (o := ?oa17) ?hoa17 (fun K hK => ?hsa17) AllReadyH.nil
  case hoa17 => (simp only [List.getElem?_toArray, List.getElem?_cons_succ, List.getElem?_cons_zero]; rfl)
  go_simp
  refine hK.out _ _ (HS5.out _ (((((HB4.out.mono (Nat.le_of_lt HZ.out)).setCell (p := ⟨w.heap.size, 0, none⟩) (Nat.le_refl _) _).setCell (p := ⟨w.heap.size, 1, none⟩) (Nat.le_refl _) _).setCell (p := ⟨w.heap.size, 2, none⟩) (Nat.le_refl _) _).setCell (p := ⟨w.heap.size, 3, none⟩) (Nat.le_refl _) _)) (fun hHeld => ?_)
  clear hK K
  try simp only [Act.put, List.setIfInBounds_toArray, List.set_cons_zero, List.set_cons_succ]
  refine wpAnyH_done (by kernel_rfl) ?_ _
  have HK9 := hide ((((HK4.out.set 0 (.int .i64 nx)).set 1 (.int .i64 bd)).set 2 (.int .i64 q)).set 3 (.bool false))
  have v0 := HK9.out.cell 0
  have v1 := HK9.out.cell 1
  have v2 := HK9.out.cell 2
  have v3 := HK9.out.cell 3
  have HB9 := hide (HB.out.trans (((((HB4.out.mono (Nat.le_of_lt HZ.out)).setCell (p := ⟨w.heap.size, 0, none⟩) (Nat.le_refl _) (.int .i64 nx)).setCell (p := ⟨w.heap.size, 1, none⟩) (Nat.le_refl _) (.int .i64 bd)).setCell (p := ⟨w.heap.size, 2, none⟩) (Nat.le_refl _) (.int .i64 q)).setCell (p := ⟨w.heap.size, 3, none⟩) (Nat.le_refl _) (.bool false)))
  clear r0 r1 r2 r3 f0 f1 f2 f3 hHeld
  generalize (((w4.setCell ⟨w.heap.size, 0, none⟩ (.int .i64 nx)).setCell ⟨w.heap.size, 1, none⟩ (.int .i64 bd)).setCell ⟨w.heap.size, 2, none⟩ (.int .i64 q)).setCell ⟨w.heap.size, 3, none⟩ (.bool false) = W9 at v0 v1 v2 v3 HB9 ⊢
  simp only [List.getElem?_cons_zero, List.getElem?_cons_succ, List.set_cons_zero, List.set_cons_succ] at v0 v1 v2 v3
  go_wp2
  refine bodyPost_ret (v := .agg #[.int .i64 nx, .int .i64 bd, .int .i64 q, .bool false]) (by simp [results, Tryz.results71, go_sem, v0, v1, v2, v3]) rfl ⟨rfl, ?_⟩
  exact HB9.out
end Go.Proofs.YtgaoeoijdpdjiabGreatDoor

namespace Go.Proofs.YtgaoeoijdpdjiabGreatDoor
open Go.RowKit
theorem resv_deferred (S R0 R1 : Nat) (sy : Bool) (v : Value) (u : FrameMode) (w : World) (h0 : w.cell? ⟨R0, 0, none⟩ = some (.pointer (some ⟨S, 0, none⟩))) (h1 : w.cell? ⟨R1, 0, none⟩ = some (.bool sy)) (h18 : w.cell? ⟨S, 18, none⟩ = some v) (hf : w.frozen? ⟨S, 18, none⟩ = false) :
    CallsD Tryz.prog 184 #[.pointer (some ⟨R1, 0, none⟩), .pointer (some ⟨R0, 0, none⟩)] u w fun e u' w' => u' = u ∧ (e = .returned (.tuple #[]) ∧ w' = w.setCell ⟨S, 18, none⟩ (.bool !sy)) := by
  have hnot : ∀ (x : Bool) (w : World), (Op.unary .not (.bool x)).run Tryz.prog w = .ok (.bool (!x)) w := fun _ _ => rfl
  go_enter_d Tryz.func184, Tryz.ntmps184
  go_wp2
  go_end0
  exact ⟨rfl, rfl⟩
end Go.Proofs.YtgaoeoijdpdjiabGreatDoor

namespace Go.Proofs.YtgaoeoijdpdjiabGreatDoor
open Go.RowKit
set_option maxRecDepth 20000 in
set_option maxHeartbeats 8000000 in
theorem reserve_yes (lo S D : Nat) (st : DSt) (F : Nat → Prop) (tm k b x t l : Int) (root pub sec rnd : ByteArray) (tot bat nx q bd : Int) (id : ByteArray) (ov : Bool) (m q2 nb : Int) (w : World)
    (hB : Blk w S (sgC D tm k b x t l root pub sec rnd tot bat nx q bd id ov) 188) (hD : DSk lo D st w F) (hSF : ¬ F S) (hlo : lo ≤ w.heap.size) (hw : 0 ≤ st.writes) (hw2 : st.writes < 9223372036854775806) (hy : 0 ≤ st.syncs) (hy2 : st.syncs < 9223372036854775807)
    (hR : RecR (q + 1) nb id) (hq2 : Int.tmod (q + 1) 2 = q2) (hv2 : IntKind.i64.wrap q2 = q2) (hq : IntKind.i64.wrap (q + 1) = q + 1) (hbm : IntKind.i64.wrap (bd + m) = bd + m) (hnb : (if tot < bd + m then tot else bd + m) = nb)
    (ha1 : wrAns st q2 (sealS (q + 1) nb id) = 0) (hys : (wrSt st q2 (sealS (q + 1) nb id)).syncs = st.syncs) (ha2 : syAns (wrSt st q2 (sealS (q + 1) nb id)) = 0) :
    Calls Tryz.prog 116 #[.pointer (some ⟨S, 0, none⟩), .int .i64 m] w fun e w' => e = .returned (.int .i64 0) ∧ Blk w' S (sgC D tm k b x t l root pub sec rnd tot bat nx (q + 1) nb id false) 188 ∧ ∃ F', DSk lo D (sySt (wrSt st q2 (sealS (q + 1) nb id))) w' F' ∧ Kept (fun k => k = S ∨ F k) w w' ∧ ∀ k, F' k → F k ∨ w.heap.size ≤ k := by
  have hmin : ∀ (ts : Array TypeId) (ty : TypeId) (V : World), (Builtin.min_ ts ty #[.int .i64 (bd + m), .int .i64 tot]).run Tryz.prog V = .ok (.int .i64 nb) V := by
    intro ts ty V
    rw [run_min_int2, hnb]
  obtain ⟨W0, hW⟩ : ∃ W0, (w.alloc (.cells #[.pointer (some ⟨S, 0, none⟩)] 127)).alloc (.cells #[.bool false] 4) = W0 := ⟨_, rfl⟩
  have HB0 := hide (show Below w.heap.size w W0 by subst hW; exact ((Below.refl _ _).alloc (Nat.le_refl _) _).alloc (by simp) _)
  have HR0 := hide (show Blk W0 w.heap.size [.pointer (some ⟨S, 0, none⟩)] 127 by rw [← hW]; exact (Blk.new w _ _).alloc _)
  have HR1 := hide (show Blk W0 (w.heap.size + 1) [.bool false] 4 by
    rw [← hW]
    have h := Blk.new (w.alloc (.cells #[.pointer (some ⟨S, 0, none⟩)] 127)) [.bool false] 4
    simp only [World.size_alloc] at h
    exact h)
  have HSB := hide (hB.on HB0.out)
  have HSL := hide hB.lt
  have HS := hide (fun (V : World) (h : Below W0.heap.size W0 V) => (by
    have q0 := HR0.out.on h
    have q1 := HSB.out.on h
    exact ⟨q0.cell 0, q1.cell 12, q1.cell 15, q1.cell 16, q1.cell 17⟩ : V.cell? ⟨w.heap.size, 0, none⟩ = some (.pointer (some ⟨S, 0, none⟩)) ∧ V.cell? ⟨S, 12, none⟩ = some (.int .i64 tot) ∧ V.cell? ⟨S, 15, none⟩ = some (.int .i64 q) ∧ V.cell? ⟨S, 16, none⟩ = some (.int .i64 bd) ∧ V.cell? ⟨S, 17, none⟩ = some (.string id)))
  have HWE := hide hW
  have HDK := hide (hD.below HB0.out)
  have hmf : ∀ (fn : Fn) (first cap : Array Value) (w : World), (Instr.makeFunc fn first cap).run Tryz.prog w = .ok (.func fn first cap) w := fun _ _ _ _ => rfl
  have HP := hide (And.intro hD (And.intro hSF (And.intro hlo (And.intro hw (And.intro hw2 (And.intro hy (And.intro hy2 (And.intro hR (And.intro hq2 (And.intro hv2 (And.intro ha1 (And.intro hys ha2))))))))))))
  clear hW hB hD hSF hlo hw hw2 hy hy2 hR hq2 hv2 hnb ha1 hys ha2
  go_enter_defers Tryz.func116, Tryz.ntmps116
  go_wp2_with fail
  rw [HWE.out]
  refine wp_region_noPanic ?_
  refine wp_region_held_drew (S := fun V => V.cell? ⟨w.heap.size, 0, none⟩ = some (.pointer (some ⟨S, 0, none⟩)) ∧ V.cell? ⟨S, 12, none⟩ = some (.int .i64 tot) ∧ V.cell? ⟨S, 15, none⟩ = some (.int .i64 q) ∧ V.cell? ⟨S, 16, none⟩ = some (.int .i64 bd) ∧ V.cell? ⟨S, 17, none⟩ = some (.string id)) (by kernel_rfl) (HS.out _ ((Below.refl W0.heap.size W0).drew)) (fun hHeld => ?_)
  refine tk 0 hHeld (h := ?_)
  refine tk 1 hHeld (h := ?_)
  refine tk 2 hHeld (h := ?_)
  refine tk 3 hHeld (h := ?_)
  refine tk 4 hHeld (h := ?_)
  refine tk 5 hHeld (h := ?_)
  refine tk 6 hHeld (h := ?_)
  refine tk 7 hHeld (h := ?_)
  refine tk 8 hHeld (h := ?_)
  refine tk 9 hHeld (h := ?_)
  refine tk 10 hHeld (h := ?_)
  refine tk 11 hHeld (h := ?_)
  refine tk 12 hHeld (h := ?_)
  refine tk 13 hHeld (h := ?_)
  refine tk 14 hHeld (h := ?_)
  refine tk 15 hHeld (h := ?_)
  refine tk 16 hHeld (h := ?_)
  refine tk 17 hHeld (h := ?_)
  refine tk 18 hHeld (h := ?_)
  refine tk 19 hHeld (h := ?_)
  refine tk 20 hHeld (h := ?_)
  refine tk 21 hHeld (h := ?_)
  refine tk 22 hHeld (h := ?_)
  refine tk 23 hHeld (h := ?_)
  refine wpAnyH_ready (rs := [24]) (by kernel_rfl) (by simp) ?_
  refine AllReadyH.cons (o := ?oa24) ?hoa24 (fun K hK => ?hsa24) AllReadyH.nil
  case hoa24 => (simp only [List.getElem?_toArray, List.getElem?_cons_succ, List.getElem?_cons_zero]; rfl)
  go_simp
  refine hK.out _ _ (HS.out _ ((Below.refl W0.heap.size W0).drew.alloc (Nat.le_refl _) _)) (fun hHeld => ?_)
  clear hK K
  try simp only [Act.put, List.setIfInBounds_toArray, List.set_cons_zero, List.set_cons_succ]
  obtain ⟨VA, hVA⟩ : ∃ VA, (W0.alloc (.cells #[.int .i64 0, .int .i64 0, .string ⟨#[]⟩] 186)).drew = VA := ⟨_, rfl⟩
  have HVB := hide (show Blk VA W0.heap.size [.int .i64 0, .int .i64 0, .string ⟨#[]⟩] 186 by rw [← hVA]; exact Blk.new W0 [.int .i64 0, .int .i64 0, .string ⟨#[]⟩] 186)
  have HVL := hide (show Below W0.heap.size W0 VA by rw [← hVA]; exact ((Below.refl W0.heap.size W0).alloc (Nat.le_refl _) _).drew)
  rw [hVA]
  clear hVA
  have r0 := HVB.out.cell 0
  have f0 := HVB.out.free 0
  have r1 := HVB.out.cell 1
  have f1 := HVB.out.free 1
  have r2 := HVB.out.cell 2
  have f2 := HVB.out.free 2
  simp only [List.getElem?_cons_zero, List.getElem?_cons_succ] at r0 r1 r2
  refine wpAnyH_ready (rs := [25]) (by kernel_rfl) (by simp) ?_
  refine AllReadyH.cons (o := ?oa25) ?hoa25 (fun K hK => ?hsa25) AllReadyH.nil
  case hoa25 => (simp only [List.getElem?_toArray, List.getElem?_cons_succ, List.getElem?_cons_zero]; rfl)
  go_simp
  refine hK.out _ _ (HS.out _ ((((HVL.out).setCell (p := ⟨W0.heap.size, 0, none⟩) (Nat.le_refl _) (.int .i64 (q + 1))).setCell (p := ⟨W0.heap.size, 1, none⟩) (Nat.le_refl _) (.int .i64 nb)).setCell (p := ⟨W0.heap.size, 2, none⟩) (Nat.le_refl _) (.string id))) (fun hHeld => ?_)
  clear hK K
  try simp only [Act.put, List.setIfInBounds_toArray, List.set_cons_zero, List.set_cons_succ]
  refine wpAnyH_done (by kernel_rfl) ?_ _
  refine NoPanic.normal ?_
  have HB3 := hide ((((HVL.out).setCell (p := ⟨W0.heap.size, 0, none⟩) (Nat.le_refl _) (.int .i64 (q + 1))).setCell (p := ⟨W0.heap.size, 1, none⟩) (Nat.le_refl _) (.int .i64 nb)).setCell (p := ⟨W0.heap.size, 2, none⟩) (Nat.le_refl _) (.string id))
  have HR2 := hide (((HVB.out.set 0 (.int .i64 (q + 1))).set 1 (.int .i64 nb)).set 2 (.string id))
  clear r0 r1 r2 f0 f1 f2 hHeld HVB HVL
  generalize ((VA.setCell ⟨W0.heap.size, 0, none⟩ (.int .i64 (q + 1))).setCell ⟨W0.heap.size, 1, none⟩ (.int .i64 nb)).setCell ⟨W0.heap.size, 2, none⟩ (.string id) = W3 at HB3 HR2 ⊢
  simp only [List.set_cons_zero, List.set_cons_succ] at HR2
  obtain ⟨hD, hSF, hlo, hw, hw2, hy, hy2, hR, hq2, hv2, ha1, hys, ha2⟩ := HP.out
  have hS0 : w.heap.size ≤ W0.heap.size := HB0.out.size
  have hz1 : w.heap.size + 1 < W0.heap.size := HR1.out.lt
  have hSl := HSL.out
  have HFW := hide (fun i hi => (hD.lt i hi).2 : ∀ i, F i → i < w.heap.size)
  have HD3 := hide (HDK.out.below HB3.out)
  have HA0 := hide (HR0.out.on HB3.out)
  have HA1 := hide (HR1.out.on HB3.out)
  have HAS := hide (HSB.out.on HB3.out)
  have HLAY := hide (jlay_any lo D st F (q + 1) nb q2 id W3.drew (HD3.out.below (Below.refl _ _).drew) (Nat.le_trans hlo (Nat.le_trans hS0 HB3.out.size)) hw (by omega) hR hq2 hv2)
  rw [ha1] at HLAY
  have HSY := hide (fun (F1 : Nat → Prop) (V : World) (h : DSk lo D (wrSt st q2 (sealS (q + 1) nb id)) V F1) => dsync_any lo D _ F1 V h (by rw [hys]; exact hy) (by rw [hys]; exact hy2))
  rw [ha2] at HSY
  have HFS := hide hSF
  have HS4 := hide (fun (V : World) (h0 : Blk V w.heap.size [.pointer (some ⟨S, 0, none⟩)] 127) (h1 : Blk V S (sgC D tm k b x t l root pub sec rnd tot bat nx q bd id ov) 188) (h2 : Blk V W0.heap.size [.int .i64 (q + 1), .int .i64 nb, .string id] 186) => (⟨h0.cell 0, h1.cell 0, h2.cell 0, h2.cell 1, h2.cell 2⟩ : V.cell? ⟨w.heap.size, 0, none⟩ = some (.pointer (some ⟨S, 0, none⟩)) ∧ V.cell? ⟨S, 0, none⟩ = some (.pointer (some ⟨D, 0, none⟩)) ∧ V.cell? ⟨W0.heap.size, 0, none⟩ = some (.int .i64 (q + 1)) ∧ V.cell? ⟨W0.heap.size, 1, none⟩ = some (.int .i64 nb) ∧ V.cell? ⟨W0.heap.size, 2, none⟩ = some (.string id)))
  have HLE := hide (And.intro hS0 (And.intro hz1 hSl))
  have c00 := HA0.out.cell 0
  have c30 := HR2.out.cell 0
  clear c00 c30 HP hD hSF hlo hw hw2 hy hy2 hR hq2 hv2 ha1 hys ha2 hS0 hz1 hSl HS hq hbm hmin
  have hS : DL lo D st F W3 W3.drew := (DL.refl HD3.out).then (Below.refl _ _).drew
  go_wp2_with fail
  go_region_held3 (fun V => V.cell? ⟨w.heap.size, 0, none⟩ = some (.pointer (some ⟨S, 0, none⟩)) ∧ V.cell? ⟨S, 0, none⟩ = some (.pointer (some ⟨D, 0, none⟩)) ∧ V.cell? ⟨W0.heap.size, 0, none⟩ = some (.int .i64 (q + 1)) ∧ V.cell? ⟨W0.heap.size, 1, none⟩ = some (.int .i64 nb) ∧ V.cell? ⟨W0.heap.size, 2, none⟩ = some (.string id)) (exact HS4.out _ (hS.blk HA0.out (fun h => by have := HFW.out _ h; omega)) (hS.blk HAS.out HFS.out) (hS.blk HR2.out (fun h => by have := HFW.out _ h; have := HLE.out.1; omega))) (first | (go_at_call 183; refine HLAY.out.mono ?_; rintro e w4 ⟨rfl, hl4⟩; have hS := DL.of_below (Below.refl W3.heap.size W3).drew hl4 (fun i hi => (HD3.out.lt i hi).2)))
  have HA0' := hide (hS.blk HA0.out (fun h => by have := HFW.out _ h; omega))
  have HA1' := hide (hS.blk HA1.out (fun h => by have := HFW.out _ h; omega))
  have HAS' := hide (hS.blk HAS.out HFS.out)
  have HR2' := hide (hS.blk HR2.out (fun h => by have := HFW.out _ h; have := HLE.out.1; omega))
  obtain ⟨F1, hd1, hk1, hf1⟩ := hS
  have HX1 := hide (And.intro hk1 hf1)
  have HD1 := hide hd1
  clear hk1 hf1 hd1 hl4
  have a0 : w4.cell? ⟨w.heap.size, 0, none⟩ = some (.pointer (some ⟨S, 0, none⟩)) := HA0'.out.cell 0
  have a1 : w4.cell? ⟨S, 0, none⟩ = some (.pointer (some ⟨D, 0, none⟩)) := HAS'.out.cell 0
  go_wp2_with fail
  refine (HSY.out F1 w4 HD1.out).mono ?_
  rintro e w5 ⟨rfl, hl5⟩
  clear a0 a1
  have HN0 := hide (fun h => by (rcases HX1.out.2 _ h with h | h); (have := HFW.out _ h; omega); (have := HLE.out; have := HB3.out.size; omega) : ¬ F1 w.heap.size)
  have HN1 := hide (fun h => by (rcases HX1.out.2 _ h with h | h); (have := HFW.out _ h; omega); (have := HLE.out; have := HB3.out.size; omega) : ¬ F1 (w.heap.size + 1))
  have HN2 := hide (fun h => by (rcases HX1.out.2 _ h with h | h); (have := HFW.out _ h; have := HLE.out; omega); (have := HR2.out.lt; omega) : ¬ F1 W0.heap.size)
  have HNS := hide (fun h => by (rcases HX1.out.2 _ h with h | h); exact HFS.out h; (have := HLE.out; have := HB3.out.size; omega) : ¬ F1 S)
  have HB0' := hide (hl5.blk HA0'.out HN0.out)
  have HB1' := hide (hl5.blk HA1'.out HN1.out)
  have HBS' := hide (hl5.blk HAS'.out HNS.out)
  have HB2' := hide (hl5.blk HR2'.out HN2.out)
  have HL5 := hide hl5
  clear hl5
  have a0 : w5.cell? ⟨w.heap.size, 0, none⟩ = some (.pointer (some ⟨S, 0, none⟩)) := HB0'.out.cell 0
  have a1 : w5.cell? ⟨w.heap.size + 1, 0, none⟩ = some (.bool false) := HB1'.out.cell 0
  have a2 : w5.frozen? ⟨w.heap.size + 1, 0, none⟩ = false := HB1'.out.free 0
  have b0 : w5.cell? ⟨W0.heap.size, 0, none⟩ = some (.int .i64 (q + 1)) := HB2'.out.cell 0
  have b1 : w5.cell? ⟨W0.heap.size, 1, none⟩ = some (.int .i64 nb) := HB2'.out.cell 1
  have b2 : w5.cell? ⟨W0.heap.size, 2, none⟩ = some (.string id) := HB2'.out.cell 2
  have s5 : w5.cell? ⟨S, 15, none⟩ = some (.int .i64 q) := HBS'.out.cell 15
  have s6 : w5.cell? ⟨S, 16, none⟩ = some (.int .i64 bd) := HBS'.out.cell 16
  have s7 : w5.cell? ⟨S, 17, none⟩ = some (.string id) := HBS'.out.cell 17
  have g5 := HBS'.out.free 15
  have g6 := HBS'.out.free 16
  have g7 := HBS'.out.free 17
  have n1 : ¬ S = w.heap.size + 1 := by have := HLE.out; omega
  have n2 : ¬ W0.heap.size = w.heap.size + 1 := by have := HLE.out; omega
  have n3 : ¬ w.heap.size + 1 = S := by have := HLE.out; omega
  have n4 : ¬ w.heap.size + 1 = W0.heap.size := by have := HLE.out; omega
  go_wp2
  clear a0 a1 a2 b0 b1 b2 s5 s6 s7 g5 g6 g7
  have m1 : w.heap.size ≠ w.heap.size + 1 := by omega
  have m2 : w.heap.size ≠ S := by have := HLE.out; omega
  have q0 := (((HB0'.out.other (a := ⟨w.heap.size + 1, 0, none⟩) (.bool true) m1).other (a := ⟨S, 15, none⟩) (.int .i64 (q + 1)) m2).other (a := ⟨S, 16, none⟩) (.int .i64 nb) m2).other (a := ⟨S, 17, none⟩) (.string id) m2
  have q1 := (((HB1'.out.set 0 (.bool true)).other (a := ⟨S, 15, none⟩) (.int .i64 (q + 1)) n3).other (a := ⟨S, 16, none⟩) (.int .i64 nb) n3).other (a := ⟨S, 17, none⟩) (.string id) n3
  have qS := (((HBS'.out.other (a := ⟨w.heap.size + 1, 0, none⟩) (.bool true) n1).set 15 (.int .i64 (q + 1))).set 16 (.int .i64 nb)).set 17 (.string id)
  have KS := (((kept_set w5 ⟨w.heap.size + 1, 0, none⟩ (.bool true)).mono (G := fun k => k = w.heap.size + 1 ∨ k = S) (fun _ _ e => .inl e)).setCell (p := ⟨S, 15, none⟩) (.inl (.inr rfl)) (.int .i64 (q + 1))).setCell (p := ⟨S, 16, none⟩) (.inl (.inr rfl)) (.int .i64 nb)
  have KS := (KS.setCell (p := ⟨S, 17, none⟩) (.inl (.inr rfl)) (.string id)).setCell (p := ⟨S, 18, none⟩) (.inl (.inr rfl)) (.bool false)
  refine leaves_cons (f := 184) (args := #[.pointer (some ⟨w.heap.size + 1, 0, none⟩), .pointer (some ⟨w.heap.size, 0, none⟩)]) (by simp) (by simp [go_sem]) ?_
  refine (resv_deferred S w.heap.size (w.heap.size + 1) true (.bool ov) .returning _ (q0.cell 0) (q1.cell 0) (qS.cell 18) (qS.free 18)).mono ?_
  rintro e u' w'' ⟨rfl, rfl, rfl⟩
  refine ⟨_, results_tmp rfl _ _ _, rfl, qS.set 18 (.bool false), ?_⟩
  obtain ⟨F2, d2, k2, f2⟩ := HL5.out
  have nf : ∀ k, F2 k → F k ∨ W3.heap.size ≤ k := fun k hk => by
    rcases f2 k hk with h | h
    · exact HX1.out.2 k h
    · exact .inr (Nat.le_trans HX1.out.1.size h)
  have z3 := HB3.out.size
  have hle := HLE.out
  refine ⟨F2, d2.kept KS (fun k hk => ?_), ?_, fun k hk => ?_⟩
  · rintro (rfl | rfl)
    · rcases nf _ hk with h | h
      · have := HFW.out _ h; omega
      · omega
    · rcases nf _ hk with h | h
      · exact HFS.out h
      · omega
  · refine ((((Kept.of_below (F := fun k => k = S ∨ F k) (HB0.out.trans (HB3.out.mono HB0.out.size))).trans HX1.out.1 (fun i hi => .inl (.inr hi))).trans k2 (fun i hi => ?_))).trans KS (fun i hi => ?_)
    · rcases HX1.out.2 i hi with h | h
      · exact .inl (.inr h)
      · exact .inr (by omega)
    · rcases hi with rfl | rfl
      · exact .inr (by omega)
      · exact .inl (.inl rfl)
  · rcases nf k hk with h | h
    · exact .inl h
    · exact .inr (by omega)
end Go.Proofs.YtgaoeoijdpdjiabGreatDoor
