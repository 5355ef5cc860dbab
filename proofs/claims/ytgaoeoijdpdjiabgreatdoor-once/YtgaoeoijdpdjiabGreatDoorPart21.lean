/-
  The id of a key; the key of a set and of seeds. What Sign makes leads to the root of the key.
-/
import Derived.Test.YtgaoeoijdpdjiabGreatDoorPart3
import Derived.Test.YtgaoeoijdpdjiabGreatDoorPart20
import Derived.Test.YtgaoeoijdpdjiabGreatDoorPart18
import Derived.Test.YtgaoeoijdpdjiabGreatDoorPart16
import Derived.Test.YtgaoeoijdpdjiabGreatDoorPart17
namespace Go.Proofs.YtgaoeoijdpdjiabGreatDoor
open Go.RowKit

/-- The id of a key. -/
def idS (k b x t l : Int) (root pub : ByteArray) : ByteArray := hv k 8 (numB 1 7 ++ (headS k b x t l ++ root ++ pub))
theorem idS_size (k b x t l : Int) (root pub : ByteArray) (hk : k = 1 ∨ k = 2) (z1 : root.size ≤ 16) (z2 : pub.size ≤ 16) : (idS k b x t l root pub).size = 8 := by
  have h := hv_size k 8 (numB 1 7 ++ (headS k b x t l ++ root ++ pub)) hk (by decide) (by decide) (by simp only [ByteArray.size_append, numB_size, headS_size]; omega)
  unfold idS
  omega

set_option maxRecDepth 20000 in
set_option maxHeartbeats 8000000 in
theorem keyId_any (k b x t l : Int) (root pub : ByteArray) (w : World) (hk : k = 1 ∨ k = 2) (z1 : root.size ≤ 16) (z2 : pub.size ≤ 16) (hT : Tn w) :
    Calls Tryz.prog 179 #[.agg #[.int .i64 k, .int .i64 b, .int .i64 x, .int .i64 t, .int .i64 l, .string root, .string pub]] w fun e w' => e = .returned (.string (idS k b x t l root pub)) ∧ Below w.heap.size w w' := by
  have HN := hide (keyOne_any 7)
  have HTX := hide (fun V : World => keyText_any k b x t l root pub V z1 z2)
  have hz : (headS k b x t l ++ root ++ pub).size ≤ 40 := by simp only [ByteArray.size_append, headS_size]; omega
  have HO := hide (fun (V : World) (hV : Tn V) => of_hv k 8 (numB 1 7 ++ (headS k b x t l ++ root ++ pub)) V hk (by decide) (by decide) (by rw [ByteArray.size_append, numB_size]; omega) hV)
  have cc := sadd (numB 1 7) (headS k b x t l ++ root ++ pub) (by rw [numB_size]; omega) (by omega)
  have HI : Hid (hv k 8 (numB 1 7 ++ (headS k b x t l ++ root ++ pub)) = idS k b x t l root pub) := rfl
  rw [HI.out] at HO
  generalize idS k b x t l root pub = res at HO ⊢
  clear HI
  generalize numB 1 7 ++ (headS k b x t l ++ root ++ pub) = t2 at HO cc
  generalize headS k b x t l ++ root ++ pub = t1 at HTX cc
  generalize numB 1 7 = t0 at HN cc
  obtain ⟨W0, hW⟩ : ∃ W0, w.alloc (.cells #[.int .i64 k, .int .i64 b, .int .i64 x, .int .i64 t, .int .i64 l, .string root, .string pub] 184) = W0 := ⟨_, rfl⟩
  have HK := hide (show Blk W0 w.heap.size [.int .i64 k, .int .i64 b, .int .i64 x, .int .i64 t, .int .i64 l, .string root, .string pub] 184 by rw [← hW]; exact Blk.new w _ _)
  have HB := hide (show Below w.heap.size w W0 by subst hW; exact (Below.refl _ _).alloc (Nat.le_refl _) _)
  have HTW := hide (hT.on HB.out)
  have HS := hide (fun (V : World) (h : Below W0.heap.size W0 V) => (by
    have q2 := HK.out.on h
    exact ⟨q2.cell 0, q2.cell 1, q2.cell 2, q2.cell 3, q2.cell 4, q2.cell 5, q2.cell 6⟩ : V.cell? ⟨w.heap.size, 0, none⟩ = some (.int .i64 k) ∧ V.cell? ⟨w.heap.size, 1, none⟩ = some (.int .i64 b) ∧ V.cell? ⟨w.heap.size, 2, none⟩ = some (.int .i64 x) ∧ V.cell? ⟨w.heap.size, 3, none⟩ = some (.int .i64 t) ∧ V.cell? ⟨w.heap.size, 4, none⟩ = some (.int .i64 l) ∧ V.cell? ⟨w.heap.size, 5, none⟩ = some (.string root) ∧ V.cell? ⟨w.heap.size, 6, none⟩ = some (.string pub)))
  have HWE := hide hW
  clear hW hz hT
  have hS := (Below.refl W0.heap.size W0).drew
  go_enter Tryz.func179, Tryz.ntmps179
  go_wp2_with fail
  rw [HWE.out]
  go_region_held3 (fun V => V.cell? ⟨w.heap.size, 0, none⟩ = some (.int .i64 k) ∧ V.cell? ⟨w.heap.size, 1, none⟩ = some (.int .i64 b) ∧ V.cell? ⟨w.heap.size, 2, none⟩ = some (.int .i64 x) ∧ V.cell? ⟨w.heap.size, 3, none⟩ = some (.int .i64 t) ∧ V.cell? ⟨w.heap.size, 4, none⟩ = some (.int .i64 l) ∧ V.cell? ⟨w.heap.size, 5, none⟩ = some (.string root) ∧ V.cell? ⟨w.heap.size, 6, none⟩ = some (.string pub)) (exact HS.out _ hS) (first | (go_at_call 247; refine (HN.out _).mono ?_; rintro e wN ⟨rfl, hbN⟩; have hS := heldB hS hbN (Nat.le_refl _)) | (go_at_call 170; refine (HTX.out _).mono ?_; rintro e wN ⟨rfl, hbN⟩; have hS := heldB hS hbN (Nat.le_refl _)) | (go_at_call 169; refine (HO.out _ (HTW.out.on hS)).mono ?_; rintro e wN ⟨rfl, hbN⟩; have hS := heldB hS hbN (Nat.le_refl _)))
  have HB9 := hide (HB.out.trans (hS.mono HB.out.size))
  clear hS
  go_wp2
  go_ret
  exact ⟨rfl, HB9.out⟩

set_option maxRecDepth 20000 in
set_option maxHeartbeats 8000000 in
theorem keysOf_on (k b x t l q0 q1 q2 q3 ch : Int) (sec rnd pub root : ByteArray) (w : World) (hl : IntKind.i64.wrap (l - 1) = l - 1) (hT : Tn w)
    (hN : ∀ V : World, Calls Tryz.prog 208 #[.agg #[.int .i64 k, .int .i64 b, .int .i64 x, .int .i64 t, .int .i64 l], .agg #[.string sec, .string rnd, .string pub], .agg #[.int .i64 (l - 1), .int .i64 0, .int .i64 0, .int .i64 0]] V fun e w' => e = .returned (.tuple #[.agg #[.int .i64 k, .int .i64 b, .int .i64 x, .int .i64 t, .int .i64 l, .string sec, .string rnd, .string pub, .int .i64 q0, .int .i64 q1, .int .i64 q2, .int .i64 q3, .int .i64 ch], .int .i64 0]) ∧ Below V.heap.size V w')
    (hR : ∀ V : World, Tn V → Calls Tryz.prog 254 #[.agg #[.int .i64 k, .int .i64 b, .int .i64 x, .int .i64 t, .int .i64 l, .string sec, .string rnd, .string pub, .int .i64 q0, .int .i64 q1, .int .i64 q2, .int .i64 q3, .int .i64 ch]] V fun e w' => e = .returned (.string root) ∧ Below V.heap.size V w') :
    Calls Tryz.prog 178 #[.agg #[.int .i64 k, .int .i64 b, .int .i64 x, .int .i64 t, .int .i64 l], .agg #[.string sec, .string rnd, .string pub]] w fun e w' => e = .returned (.tuple #[.agg #[.int .i64 k, .int .i64 b, .int .i64 x, .int .i64 t, .int .i64 l, .string root, .string pub], .int .i64 0]) ∧ Below w.heap.size w w' := by
  have HN := hide hN
  have HR := hide hR
  clear hN hR
  obtain ⟨W0, hW⟩ : ∃ W0, ((w.alloc (.cells #[.int .i64 k, .int .i64 b, .int .i64 x, .int .i64 t, .int .i64 l] 26)).alloc (.cells #[.string sec, .string rnd, .string pub] 42)).alloc (.cells #[.int .i64 0, .int .i64 0, .int .i64 0, .int .i64 0, .int .i64 0, .string ⟨#[]⟩, .string ⟨#[]⟩] 184) = W0 := ⟨_, rfl⟩
  have HC := hide (show Blk W0 w.heap.size [.int .i64 k, .int .i64 b, .int .i64 x, .int .i64 t, .int .i64 l] 26 by rw [← hW]; exact ((Blk.new w _ _).alloc _).alloc _)
  have HE := hide (show Blk W0 (w.heap.size + 1) [.string sec, .string rnd, .string pub] 42 by
    rw [← hW]
    have h := (Blk.new (w.alloc (.cells #[.int .i64 k, .int .i64 b, .int .i64 x, .int .i64 t, .int .i64 l] 26)) [.string sec, .string rnd, .string pub] 42).alloc (.cells #[.int .i64 0, .int .i64 0, .int .i64 0, .int .i64 0, .int .i64 0, .string ⟨#[]⟩, .string ⟨#[]⟩] 184)
    simp only [World.size_alloc] at h
    exact h)
  have HKR := hide (show Blk W0 (w.heap.size + 1 + 1) [.int .i64 0, .int .i64 0, .int .i64 0, .int .i64 0, .int .i64 0, .string ⟨#[]⟩, .string ⟨#[]⟩] 184 by
    rw [← hW]
    have h := Blk.new ((w.alloc (.cells #[.int .i64 k, .int .i64 b, .int .i64 x, .int .i64 t, .int .i64 l] 26)).alloc (.cells #[.string sec, .string rnd, .string pub] 42)) [.int .i64 0, .int .i64 0, .int .i64 0, .int .i64 0, .int .i64 0, .string ⟨#[]⟩, .string ⟨#[]⟩] 184
    simp only [World.size_alloc] at h
    exact h)
  have hz : W0.heap.size = w.heap.size + 1 + 1 + 1 := by subst hW; simp
  have HB := hide (show Below w.heap.size w W0 by subst hW; exact (((Below.refl _ _).alloc (Nat.le_refl _) _).alloc (by simp) _).alloc (by simp; omega) _)
  have HWE := hide hW
  clear hW
  go_enter Tryz.func178, Tryz.ntmps178
  go_wp2_with fail
  rw [HWE.out]
  refine (HN.out _).mono ?_
  rintro e w1 ⟨rfl, hb1⟩
  have HB1 := hide (heldB (Below.refl W0.heap.size W0) hb1 (Nat.le_refl _))
  clear hb1 HWE
  have HB3 := hide (HB1.out.alloc HB1.out.size (.cells #[.int .i64 k, .int .i64 b, .int .i64 x, .int .i64 t, .int .i64 l, .string sec, .string rnd, .string pub, .int .i64 q0, .int .i64 q1, .int .i64 q2, .int .i64 q3, .int .i64 ch] 274))
  have HTR := hide (Blk.new w1 [.int .i64 k, .int .i64 b, .int .i64 x, .int .i64 t, .int .i64 l, .string sec, .string rnd, .string pub, .int .i64 q0, .int .i64 q1, .int .i64 q2, .int .i64 q3, .int .i64 ch] 274)
  have hTB : W0.heap.size ≤ w1.heap.size := HB1.out.size
  obtain ⟨W3, hW3⟩ : ∃ W3, w1.alloc (.cells #[.int .i64 k, .int .i64 b, .int .i64 x, .int .i64 t, .int .i64 l, .string sec, .string rnd, .string pub, .int .i64 q0, .int .i64 q1, .int .i64 q2, .int .i64 q3, .int .i64 ch] 274) = W3 := ⟨_, rfl⟩
  rw [hW3] at HB3 HTR
  have HW3 := hide hW3
  clear hW3
  go_wp2_with fail
  rw [HW3.out]
  obtain ⟨TB, hTBe⟩ : ∃ TB, w1.heap.size = TB := ⟨_, rfl⟩
  rw [hTBe] at HTR hTB ⊢
  clear hTBe HW3
  have HT3 := hide (hT.on (HB.out.trans (HB3.out.mono HB.out.size)))
  have HKZ := hide (HKR.out.below HB3.out (by omega))
  have HC3 := hide (HC.out.below HB3.out (by omega))
  have HE3 := hide (HE.out.below HB3.out (by omega))
  have HZK : Hid (w.heap.size + 1 + 1 ≤ W3.heap.size) := by have := HB3.out.size; show _ ≤ _; omega
  have HTL : Hid (TB < W3.heap.size) := HTR.out.lt
  have HS := hide (fun (V : World) (h : Below W3.heap.size W3 V) => (by
    have q1 := HC3.out.on h
    have q2 := HE3.out.on h
    have q3 := HTR.out.on h
    exact ⟨q1.cell 0, q1.cell 1, q1.cell 2, q1.cell 3, q1.cell 4, q2.cell 2, q3.cell 0, q3.cell 1, q3.cell 2, q3.cell 3, q3.cell 4, q3.cell 5, q3.cell 6, q3.cell 7, q3.cell 8, q3.cell 9, q3.cell 10, q3.cell 11, q3.cell 12⟩ : V.cell? ⟨w.heap.size, 0, none⟩ = some (.int .i64 k) ∧ V.cell? ⟨w.heap.size, 1, none⟩ = some (.int .i64 b) ∧ V.cell? ⟨w.heap.size, 2, none⟩ = some (.int .i64 x) ∧ V.cell? ⟨w.heap.size, 3, none⟩ = some (.int .i64 t) ∧ V.cell? ⟨w.heap.size, 4, none⟩ = some (.int .i64 l) ∧ V.cell? ⟨w.heap.size + 1, 2, none⟩ = some (.string pub) ∧ V.cell? ⟨TB, 0, none⟩ = some (.int .i64 k) ∧ V.cell? ⟨TB, 1, none⟩ = some (.int .i64 b) ∧ V.cell? ⟨TB, 2, none⟩ = some (.int .i64 x) ∧ V.cell? ⟨TB, 3, none⟩ = some (.int .i64 t) ∧ V.cell? ⟨TB, 4, none⟩ = some (.int .i64 l) ∧ V.cell? ⟨TB, 5, none⟩ = some (.string sec) ∧ V.cell? ⟨TB, 6, none⟩ = some (.string rnd) ∧ V.cell? ⟨TB, 7, none⟩ = some (.string pub) ∧ V.cell? ⟨TB, 8, none⟩ = some (.int .i64 q0) ∧ V.cell? ⟨TB, 9, none⟩ = some (.int .i64 q1) ∧ V.cell? ⟨TB, 10, none⟩ = some (.int .i64 q2) ∧ V.cell? ⟨TB, 11, none⟩ = some (.int .i64 q3) ∧ V.cell? ⟨TB, 12, none⟩ = some (.int .i64 ch)))
  have HS5 := hide (fun (V : World) (h : Below W3.heap.size W3 V) => (by
    have q1 := ((((((((HC3.out.on h).other (a := ⟨w.heap.size + 1 + 1, 0, none⟩) (.int .i64 k) (by simp <;> omega)).other (a := ⟨w.heap.size + 1 + 1, 1, none⟩) (.int .i64 b) (by simp <;> omega)).other (a := ⟨w.heap.size + 1 + 1, 2, none⟩) (.int .i64 x) (by simp <;> omega)).other (a := ⟨w.heap.size + 1 + 1, 3, none⟩) (.int .i64 t) (by simp <;> omega)).other (a := ⟨w.heap.size + 1 + 1, 4, none⟩) (.int .i64 l) (by simp <;> omega)).other (a := ⟨w.heap.size + 1 + 1, 5, none⟩) (.string root) (by simp <;> omega)).other (a := ⟨w.heap.size + 1 + 1, 6, none⟩) (.string pub) (by simp <;> omega))
    have q2 := ((((((((HE3.out.on h).other (a := ⟨w.heap.size + 1 + 1, 0, none⟩) (.int .i64 k) (by simp <;> omega)).other (a := ⟨w.heap.size + 1 + 1, 1, none⟩) (.int .i64 b) (by simp <;> omega)).other (a := ⟨w.heap.size + 1 + 1, 2, none⟩) (.int .i64 x) (by simp <;> omega)).other (a := ⟨w.heap.size + 1 + 1, 3, none⟩) (.int .i64 t) (by simp <;> omega)).other (a := ⟨w.heap.size + 1 + 1, 4, none⟩) (.int .i64 l) (by simp <;> omega)).other (a := ⟨w.heap.size + 1 + 1, 5, none⟩) (.string root) (by simp <;> omega)).other (a := ⟨w.heap.size + 1 + 1, 6, none⟩) (.string pub) (by simp <;> omega))
    have q3 := ((((((((HTR.out.on h).other (a := ⟨w.heap.size + 1 + 1, 0, none⟩) (.int .i64 k) (by simp <;> omega)).other (a := ⟨w.heap.size + 1 + 1, 1, none⟩) (.int .i64 b) (by simp <;> omega)).other (a := ⟨w.heap.size + 1 + 1, 2, none⟩) (.int .i64 x) (by simp <;> omega)).other (a := ⟨w.heap.size + 1 + 1, 3, none⟩) (.int .i64 t) (by simp <;> omega)).other (a := ⟨w.heap.size + 1 + 1, 4, none⟩) (.int .i64 l) (by simp <;> omega)).other (a := ⟨w.heap.size + 1 + 1, 5, none⟩) (.string root) (by simp <;> omega)).other (a := ⟨w.heap.size + 1 + 1, 6, none⟩) (.string pub) (by simp <;> omega))
    exact ⟨q1.cell 0, q1.cell 1, q1.cell 2, q1.cell 3, q1.cell 4, q2.cell 2, q3.cell 0, q3.cell 1, q3.cell 2, q3.cell 3, q3.cell 4, q3.cell 5, q3.cell 6, q3.cell 7, q3.cell 8, q3.cell 9, q3.cell 10, q3.cell 11, q3.cell 12⟩ : (((((((V.setCell ⟨w.heap.size + 1 + 1, 0, none⟩ (.int .i64 k)).setCell ⟨w.heap.size + 1 + 1, 1, none⟩ (.int .i64 b)).setCell ⟨w.heap.size + 1 + 1, 2, none⟩ (.int .i64 x)).setCell ⟨w.heap.size + 1 + 1, 3, none⟩ (.int .i64 t)).setCell ⟨w.heap.size + 1 + 1, 4, none⟩ (.int .i64 l)).setCell ⟨w.heap.size + 1 + 1, 5, none⟩ (.string root)).setCell ⟨w.heap.size + 1 + 1, 6, none⟩ (.string pub)).cell? ⟨w.heap.size, 0, none⟩ = some (.int .i64 k) ∧ (((((((V.setCell ⟨w.heap.size + 1 + 1, 0, none⟩ (.int .i64 k)).setCell ⟨w.heap.size + 1 + 1, 1, none⟩ (.int .i64 b)).setCell ⟨w.heap.size + 1 + 1, 2, none⟩ (.int .i64 x)).setCell ⟨w.heap.size + 1 + 1, 3, none⟩ (.int .i64 t)).setCell ⟨w.heap.size + 1 + 1, 4, none⟩ (.int .i64 l)).setCell ⟨w.heap.size + 1 + 1, 5, none⟩ (.string root)).setCell ⟨w.heap.size + 1 + 1, 6, none⟩ (.string pub)).cell? ⟨w.heap.size, 1, none⟩ = some (.int .i64 b) ∧ (((((((V.setCell ⟨w.heap.size + 1 + 1, 0, none⟩ (.int .i64 k)).setCell ⟨w.heap.size + 1 + 1, 1, none⟩ (.int .i64 b)).setCell ⟨w.heap.size + 1 + 1, 2, none⟩ (.int .i64 x)).setCell ⟨w.heap.size + 1 + 1, 3, none⟩ (.int .i64 t)).setCell ⟨w.heap.size + 1 + 1, 4, none⟩ (.int .i64 l)).setCell ⟨w.heap.size + 1 + 1, 5, none⟩ (.string root)).setCell ⟨w.heap.size + 1 + 1, 6, none⟩ (.string pub)).cell? ⟨w.heap.size, 2, none⟩ = some (.int .i64 x) ∧ (((((((V.setCell ⟨w.heap.size + 1 + 1, 0, none⟩ (.int .i64 k)).setCell ⟨w.heap.size + 1 + 1, 1, none⟩ (.int .i64 b)).setCell ⟨w.heap.size + 1 + 1, 2, none⟩ (.int .i64 x)).setCell ⟨w.heap.size + 1 + 1, 3, none⟩ (.int .i64 t)).setCell ⟨w.heap.size + 1 + 1, 4, none⟩ (.int .i64 l)).setCell ⟨w.heap.size + 1 + 1, 5, none⟩ (.string root)).setCell ⟨w.heap.size + 1 + 1, 6, none⟩ (.string pub)).cell? ⟨w.heap.size, 3, none⟩ = some (.int .i64 t) ∧ (((((((V.setCell ⟨w.heap.size + 1 + 1, 0, none⟩ (.int .i64 k)).setCell ⟨w.heap.size + 1 + 1, 1, none⟩ (.int .i64 b)).setCell ⟨w.heap.size + 1 + 1, 2, none⟩ (.int .i64 x)).setCell ⟨w.heap.size + 1 + 1, 3, none⟩ (.int .i64 t)).setCell ⟨w.heap.size + 1 + 1, 4, none⟩ (.int .i64 l)).setCell ⟨w.heap.size + 1 + 1, 5, none⟩ (.string root)).setCell ⟨w.heap.size + 1 + 1, 6, none⟩ (.string pub)).cell? ⟨w.heap.size, 4, none⟩ = some (.int .i64 l) ∧ (((((((V.setCell ⟨w.heap.size + 1 + 1, 0, none⟩ (.int .i64 k)).setCell ⟨w.heap.size + 1 + 1, 1, none⟩ (.int .i64 b)).setCell ⟨w.heap.size + 1 + 1, 2, none⟩ (.int .i64 x)).setCell ⟨w.heap.size + 1 + 1, 3, none⟩ (.int .i64 t)).setCell ⟨w.heap.size + 1 + 1, 4, none⟩ (.int .i64 l)).setCell ⟨w.heap.size + 1 + 1, 5, none⟩ (.string root)).setCell ⟨w.heap.size + 1 + 1, 6, none⟩ (.string pub)).cell? ⟨w.heap.size + 1, 2, none⟩ = some (.string pub) ∧ (((((((V.setCell ⟨w.heap.size + 1 + 1, 0, none⟩ (.int .i64 k)).setCell ⟨w.heap.size + 1 + 1, 1, none⟩ (.int .i64 b)).setCell ⟨w.heap.size + 1 + 1, 2, none⟩ (.int .i64 x)).setCell ⟨w.heap.size + 1 + 1, 3, none⟩ (.int .i64 t)).setCell ⟨w.heap.size + 1 + 1, 4, none⟩ (.int .i64 l)).setCell ⟨w.heap.size + 1 + 1, 5, none⟩ (.string root)).setCell ⟨w.heap.size + 1 + 1, 6, none⟩ (.string pub)).cell? ⟨TB, 0, none⟩ = some (.int .i64 k) ∧ (((((((V.setCell ⟨w.heap.size + 1 + 1, 0, none⟩ (.int .i64 k)).setCell ⟨w.heap.size + 1 + 1, 1, none⟩ (.int .i64 b)).setCell ⟨w.heap.size + 1 + 1, 2, none⟩ (.int .i64 x)).setCell ⟨w.heap.size + 1 + 1, 3, none⟩ (.int .i64 t)).setCell ⟨w.heap.size + 1 + 1, 4, none⟩ (.int .i64 l)).setCell ⟨w.heap.size + 1 + 1, 5, none⟩ (.string root)).setCell ⟨w.heap.size + 1 + 1, 6, none⟩ (.string pub)).cell? ⟨TB, 1, none⟩ = some (.int .i64 b) ∧ (((((((V.setCell ⟨w.heap.size + 1 + 1, 0, none⟩ (.int .i64 k)).setCell ⟨w.heap.size + 1 + 1, 1, none⟩ (.int .i64 b)).setCell ⟨w.heap.size + 1 + 1, 2, none⟩ (.int .i64 x)).setCell ⟨w.heap.size + 1 + 1, 3, none⟩ (.int .i64 t)).setCell ⟨w.heap.size + 1 + 1, 4, none⟩ (.int .i64 l)).setCell ⟨w.heap.size + 1 + 1, 5, none⟩ (.string root)).setCell ⟨w.heap.size + 1 + 1, 6, none⟩ (.string pub)).cell? ⟨TB, 2, none⟩ = some (.int .i64 x) ∧ (((((((V.setCell ⟨w.heap.size + 1 + 1, 0, none⟩ (.int .i64 k)).setCell ⟨w.heap.size + 1 + 1, 1, none⟩ (.int .i64 b)).setCell ⟨w.heap.size + 1 + 1, 2, none⟩ (.int .i64 x)).setCell ⟨w.heap.size + 1 + 1, 3, none⟩ (.int .i64 t)).setCell ⟨w.heap.size + 1 + 1, 4, none⟩ (.int .i64 l)).setCell ⟨w.heap.size + 1 + 1, 5, none⟩ (.string root)).setCell ⟨w.heap.size + 1 + 1, 6, none⟩ (.string pub)).cell? ⟨TB, 3, none⟩ = some (.int .i64 t) ∧ (((((((V.setCell ⟨w.heap.size + 1 + 1, 0, none⟩ (.int .i64 k)).setCell ⟨w.heap.size + 1 + 1, 1, none⟩ (.int .i64 b)).setCell ⟨w.heap.size + 1 + 1, 2, none⟩ (.int .i64 x)).setCell ⟨w.heap.size + 1 + 1, 3, none⟩ (.int .i64 t)).setCell ⟨w.heap.size + 1 + 1, 4, none⟩ (.int .i64 l)).setCell ⟨w.heap.size + 1 + 1, 5, none⟩ (.string root)).setCell ⟨w.heap.size + 1 + 1, 6, none⟩ (.string pub)).cell? ⟨TB, 4, none⟩ = some (.int .i64 l) ∧ (((((((V.setCell ⟨w.heap.size + 1 + 1, 0, none⟩ (.int .i64 k)).setCell ⟨w.heap.size + 1 + 1, 1, none⟩ (.int .i64 b)).setCell ⟨w.heap.size + 1 + 1, 2, none⟩ (.int .i64 x)).setCell ⟨w.heap.size + 1 + 1, 3, none⟩ (.int .i64 t)).setCell ⟨w.heap.size + 1 + 1, 4, none⟩ (.int .i64 l)).setCell ⟨w.heap.size + 1 + 1, 5, none⟩ (.string root)).setCell ⟨w.heap.size + 1 + 1, 6, none⟩ (.string pub)).cell? ⟨TB, 5, none⟩ = some (.string sec) ∧ (((((((V.setCell ⟨w.heap.size + 1 + 1, 0, none⟩ (.int .i64 k)).setCell ⟨w.heap.size + 1 + 1, 1, none⟩ (.int .i64 b)).setCell ⟨w.heap.size + 1 + 1, 2, none⟩ (.int .i64 x)).setCell ⟨w.heap.size + 1 + 1, 3, none⟩ (.int .i64 t)).setCell ⟨w.heap.size + 1 + 1, 4, none⟩ (.int .i64 l)).setCell ⟨w.heap.size + 1 + 1, 5, none⟩ (.string root)).setCell ⟨w.heap.size + 1 + 1, 6, none⟩ (.string pub)).cell? ⟨TB, 6, none⟩ = some (.string rnd) ∧ (((((((V.setCell ⟨w.heap.size + 1 + 1, 0, none⟩ (.int .i64 k)).setCell ⟨w.heap.size + 1 + 1, 1, none⟩ (.int .i64 b)).setCell ⟨w.heap.size + 1 + 1, 2, none⟩ (.int .i64 x)).setCell ⟨w.heap.size + 1 + 1, 3, none⟩ (.int .i64 t)).setCell ⟨w.heap.size + 1 + 1, 4, none⟩ (.int .i64 l)).setCell ⟨w.heap.size + 1 + 1, 5, none⟩ (.string root)).setCell ⟨w.heap.size + 1 + 1, 6, none⟩ (.string pub)).cell? ⟨TB, 7, none⟩ = some (.string pub) ∧ (((((((V.setCell ⟨w.heap.size + 1 + 1, 0, none⟩ (.int .i64 k)).setCell ⟨w.heap.size + 1 + 1, 1, none⟩ (.int .i64 b)).setCell ⟨w.heap.size + 1 + 1, 2, none⟩ (.int .i64 x)).setCell ⟨w.heap.size + 1 + 1, 3, none⟩ (.int .i64 t)).setCell ⟨w.heap.size + 1 + 1, 4, none⟩ (.int .i64 l)).setCell ⟨w.heap.size + 1 + 1, 5, none⟩ (.string root)).setCell ⟨w.heap.size + 1 + 1, 6, none⟩ (.string pub)).cell? ⟨TB, 8, none⟩ = some (.int .i64 q0) ∧ (((((((V.setCell ⟨w.heap.size + 1 + 1, 0, none⟩ (.int .i64 k)).setCell ⟨w.heap.size + 1 + 1, 1, none⟩ (.int .i64 b)).setCell ⟨w.heap.size + 1 + 1, 2, none⟩ (.int .i64 x)).setCell ⟨w.heap.size + 1 + 1, 3, none⟩ (.int .i64 t)).setCell ⟨w.heap.size + 1 + 1, 4, none⟩ (.int .i64 l)).setCell ⟨w.heap.size + 1 + 1, 5, none⟩ (.string root)).setCell ⟨w.heap.size + 1 + 1, 6, none⟩ (.string pub)).cell? ⟨TB, 9, none⟩ = some (.int .i64 q1) ∧ (((((((V.setCell ⟨w.heap.size + 1 + 1, 0, none⟩ (.int .i64 k)).setCell ⟨w.heap.size + 1 + 1, 1, none⟩ (.int .i64 b)).setCell ⟨w.heap.size + 1 + 1, 2, none⟩ (.int .i64 x)).setCell ⟨w.heap.size + 1 + 1, 3, none⟩ (.int .i64 t)).setCell ⟨w.heap.size + 1 + 1, 4, none⟩ (.int .i64 l)).setCell ⟨w.heap.size + 1 + 1, 5, none⟩ (.string root)).setCell ⟨w.heap.size + 1 + 1, 6, none⟩ (.string pub)).cell? ⟨TB, 10, none⟩ = some (.int .i64 q2) ∧ (((((((V.setCell ⟨w.heap.size + 1 + 1, 0, none⟩ (.int .i64 k)).setCell ⟨w.heap.size + 1 + 1, 1, none⟩ (.int .i64 b)).setCell ⟨w.heap.size + 1 + 1, 2, none⟩ (.int .i64 x)).setCell ⟨w.heap.size + 1 + 1, 3, none⟩ (.int .i64 t)).setCell ⟨w.heap.size + 1 + 1, 4, none⟩ (.int .i64 l)).setCell ⟨w.heap.size + 1 + 1, 5, none⟩ (.string root)).setCell ⟨w.heap.size + 1 + 1, 6, none⟩ (.string pub)).cell? ⟨TB, 11, none⟩ = some (.int .i64 q3) ∧ (((((((V.setCell ⟨w.heap.size + 1 + 1, 0, none⟩ (.int .i64 k)).setCell ⟨w.heap.size + 1 + 1, 1, none⟩ (.int .i64 b)).setCell ⟨w.heap.size + 1 + 1, 2, none⟩ (.int .i64 x)).setCell ⟨w.heap.size + 1 + 1, 3, none⟩ (.int .i64 t)).setCell ⟨w.heap.size + 1 + 1, 4, none⟩ (.int .i64 l)).setCell ⟨w.heap.size + 1 + 1, 5, none⟩ (.string root)).setCell ⟨w.heap.size + 1 + 1, 6, none⟩ (.string pub)).cell? ⟨TB, 12, none⟩ = some (.int .i64 ch)))
  refine wp_region_held_drew (S := fun V => V.cell? ⟨w.heap.size, 0, none⟩ = some (.int .i64 k) ∧ V.cell? ⟨w.heap.size, 1, none⟩ = some (.int .i64 b) ∧ V.cell? ⟨w.heap.size, 2, none⟩ = some (.int .i64 x) ∧ V.cell? ⟨w.heap.size, 3, none⟩ = some (.int .i64 t) ∧ V.cell? ⟨w.heap.size, 4, none⟩ = some (.int .i64 l) ∧ V.cell? ⟨w.heap.size + 1, 2, none⟩ = some (.string pub) ∧ V.cell? ⟨TB, 0, none⟩ = some (.int .i64 k) ∧ V.cell? ⟨TB, 1, none⟩ = some (.int .i64 b) ∧ V.cell? ⟨TB, 2, none⟩ = some (.int .i64 x) ∧ V.cell? ⟨TB, 3, none⟩ = some (.int .i64 t) ∧ V.cell? ⟨TB, 4, none⟩ = some (.int .i64 l) ∧ V.cell? ⟨TB, 5, none⟩ = some (.string sec) ∧ V.cell? ⟨TB, 6, none⟩ = some (.string rnd) ∧ V.cell? ⟨TB, 7, none⟩ = some (.string pub) ∧ V.cell? ⟨TB, 8, none⟩ = some (.int .i64 q0) ∧ V.cell? ⟨TB, 9, none⟩ = some (.int .i64 q1) ∧ V.cell? ⟨TB, 10, none⟩ = some (.int .i64 q2) ∧ V.cell? ⟨TB, 11, none⟩ = some (.int .i64 q3) ∧ V.cell? ⟨TB, 12, none⟩ = some (.int .i64 ch)) (by kernel_rfl) (HS.out _ ((Below.refl W3.heap.size W3).drew)) (fun hHeld => ?_)
  refine tk 0 hHeld (h := ?_)
  refine tk 1 hHeld (h := ?_)
  refine tk 3 hHeld (h := ?_)
  refine tk 4 hHeld (h := ?_)
  refine wpAnyH_ready (rs := [2]) (by kernel_rfl) (by simp) ?_
  refine AllReadyH.cons (o := ?oa2) ?hoa2 (fun K hK => ?hsa2) AllReadyH.nil
  case hoa2 => (simp only [List.getElem?_toArray, List.getElem?_cons_succ, List.getElem?_cons_zero]; rfl)
  go_simp
  go_at_call 254
  refine (HR.out _ (HT3.out.on (Below.refl W3.heap.size W3).drew)).mono ?_
  rintro e w4 ⟨rfl, hb4⟩
  have HB4 := hide (heldB (Below.refl W3.heap.size W3).drew hb4 (Nat.le_refl _))
  have HK4 := hide (HKZ.out.below HB4.out HKZ.out.lt)
  clear hb4
  try go_wp2_with fail
  refine hK.out _ _ (HS.out _ (HB4.out)) (fun hHeld => ?_)
  clear hK K
  try simp only [Act.put, List.setIfInBounds_toArray, List.set_cons_zero, List.set_cons_succ]
  refine tk 5 hHeld (h := ?_)
  have r0 := HK4.out.cell 0
  have f0 := HK4.out.free 0
  have r1 := HK4.out.cell 1
  have f1 := HK4.out.free 1
  have r2 := HK4.out.cell 2
  have f2 := HK4.out.free 2
  have r3 := HK4.out.cell 3
  have f3 := HK4.out.free 3
  have r4 := HK4.out.cell 4
  have f4 := HK4.out.free 4
  have r5 := HK4.out.cell 5
  have f5 := HK4.out.free 5
  have r6 := HK4.out.cell 6
  have f6 := HK4.out.free 6
  simp only [List.getElem?_cons_zero, List.getElem?_cons_succ] at r0 r1 r2 r3 r4 r5 r6
  refine wpAnyH_ready (rs := [6]) (by kernel_rfl) (by simp) ?_
  refine AllReadyH.cons (o := ?oa6) ?hoa6 (fun K hK => ?hsa6) AllReadyH.nil
  case hoa6 => (simp only [List.getElem?_toArray, List.getElem?_cons_succ, List.getElem?_cons_zero]; rfl)
  go_simp
  refine hK.out _ _ (HS5.out _ HB4.out) (fun hHeld => ?_)
  clear hK K
  try simp only [Act.put, List.setIfInBounds_toArray, List.set_cons_zero, List.set_cons_succ]
  refine tk 7 hHeld (h := ?_)
  refine wpAnyH_done (by kernel_rfl) ?_ _
  go_wp2
  refine bodyPost_ret (v := .tuple #[.agg #[.int .i64 k, .int .i64 b, .int .i64 x, .int .i64 t, .int .i64 l, .string root, .string pub], .int .i64 0]) (by simp [results, Tryz.results178, go_sem, r0, r1, r2, r3, r4, r5, r6]) rfl ⟨rfl, ?_⟩
  have HBB := HB.out.trans ((HB3.out.trans (HB4.out.mono HB3.out.size)).mono HB.out.size)
  iterate 7 refine Below.setCell ?_ (by simp <;> omega) _
  exact HBB
end Go.Proofs.YtgaoeoijdpdjiabGreatDoor

namespace Go.Proofs.YtgaoeoijdpdjiabGreatDoor
open Go.RowKit

theorem chainS_plus (k b : Int) (pub : ByteArray) (p0 p1 p2 p3 : Int) (m : Nat) (y : ByteArray) : ∀ n : Nat, chainS k b pub p0 p1 p2 p3 (m : Int) n (chainS k b pub p0 p1 p2 p3 0 m y) = chainS k b pub p0 p1 p2 p3 0 (m + n) y := by
  intro n
  induction n with
  | zero => rfl
  | succ n ih =>
    rw [chainS, ih, ← Nat.add_assoc, chainS]
    congr 1
    omega

/-- From what is revealed on, the chains come to their ends. -/
theorem ends_rev (k b : Int) (x : Nat) (sec pub : ByteArray) (p0 p1 F : Int) (ds : List Nat) (hd : ∀ d ∈ ds, d < x) : endsV k b x pub p0 p1 F ds (revS k b sec pub p0 p1 F ds ds.length) ds.length = endsS k b (x - 1) sec pub p0 p1 F ds.length := by
  unfold endsV endsS endS
  apply List.map_congr_left
  intro i hi
  have hi' : i < ds.length := List.mem_range.1 hi
  have h1 : (revS k b sec pub p0 p1 F ds ds.length)[i]? = some (chainS k b pub p0 p1 F i 0 (ds[i]?.getD 0) (startS k b sec p0 p1 F i)) := by
    simp [revS, List.getElem?_range hi']
  have h2 : ds[i]?.getD 0 < x := by
    rw [List.getElem?_eq_getElem hi']
    exact hd _ (List.getElem_mem hi')
  rw [h1, Option.getD_some, chainS_plus, show ds[i]?.getD 0 + (x - 1 - ds[i]?.getD 0) = x - 1 by omega]

/-- The path leads from the leaf to the nodes above. -/
theorem climb_path (k b : Int) (wd ch : Nat) (sec pub : ByteArray) (p0 p1 : Int) (F t : Nat) : ∀ h, h ≤ t → climbS k b pub p0 p1 F (pathS k b wd ch sec pub p0 p1 F t) (leafS k b wd ch sec pub p0 p1 F) h = nodeS k b wd ch sec pub p0 p1 h (F / 2 ^ h) := by
  intro h
  induction h with
  | zero =>
    intro _
    rw [climbS, Nat.pow_zero, Nat.div_one, nodeS]
  | succ h ih =>
    intro hh
    have hp : (pathS k b wd ch sec pub p0 p1 F t).getD h ⟨#[]⟩ = nodeS k b wd ch sec pub p0 p1 h (F / 2 ^ h ^^^ 1) := by
      rw [List.getD_eq_getElem?_getD]
      simp [pathS, List.getElem?_range (show h < t by omega)]
    have hq : F / 2 ^ (h + 1) = F / 2 ^ h / 2 := by rw [Nat.pow_succ, Nat.div_div_eq_div_mul]
    rw [climbS, ih (by omega), hp, nodeS, hq, xor1]
    generalize F / 2 ^ h = a
    by_cases h0 : a % 2 = 0
    · rw [if_pos h0, if_pos h0, show 2 * (a / 2) = a by omega]
    · rw [if_neg h0, if_neg h0, show 2 * (a / 2) = a - 1 by omega, show a - 1 + 1 = a by omega]

/-- The root of a tree, by what Sign lays down of one of its leaves. -/
theorem root_rev (k b : Int) (x t ch : Nat) (sec pub : ByteArray) (p0 p1 : Int) (F : Nat) (ds : List Nat) (hd : ∀ d ∈ ds, d < x) (hn : ds.length = ch) (hF : F < 2 ^ t) : rootS k b x pub p0 p1 F ds (revS k b sec pub p0 p1 F ds ds.length) (pathS k b (x - 1) ch sec pub p0 p1 F t) = nodeS k b (x - 1) ch sec pub p0 p1 t 0 := by
  rw [rootS, revS_length, ends_rev k b x sec pub p0 p1 F ds hd, pathS_length, hn]
  have h := climb_path k b (x - 1) ch sec pub p0 p1 F t t (Nat.le_refl _)
  rw [Nat.div_eq_of_lt hF] at h
  exact h

/-! A signature's layers -/
/-- What the layers sign. -/
def sM (k : Int) (b x e f t ch : Nat) (sec pub : ByteArray) (idx : Nat) (m0 : ByteArray) : Nat → ByteArray
  | 0 => m0
  | q + 1 => rootS k b x pub q ((idx / 2 ^ (t * q) / 2 ^ t : Nat) : Int) (idx / 2 ^ (t * q) % 2 ^ t) (digitsN x e f (bytesN (sM k b x e f t ch sec pub idx m0 q))) (revS k b sec pub q ((idx / 2 ^ (t * q) / 2 ^ t : Nat) : Int) ((idx / 2 ^ (t * q) % 2 ^ t : Nat) : Int) (digitsN x e f (bytesN (sM k b x e f t ch sec pub idx m0 q))) (digitsN x e f (bytesN (sM k b x e f t ch sec pub idx m0 q))).length) (pathS k b (x - 1) ch sec pub q ((idx / 2 ^ (t * q) / 2 ^ t : Nat) : Int) (idx / 2 ^ (t * q) % 2 ^ t) t)
def sD (k : Int) (b x e f t ch : Nat) (sec pub : ByteArray) (idx : Nat) (m0 : ByteArray) (q : Nat) : List Nat := digitsN x e f (bytesN (sM k b x e f t ch sec pub idx m0 q))
def sV (k : Int) (b x e f t ch : Nat) (sec pub : ByteArray) (idx : Nat) (m0 : ByteArray) (q : Nat) : List ByteArray := revS k b sec pub q ((idx / 2 ^ (t * q) / 2 ^ t : Nat) : Int) ((idx / 2 ^ (t * q) % 2 ^ t : Nat) : Int) (sD k b x e f t ch sec pub idx m0 q) (sD k b x e f t ch sec pub idx m0 q).length
def sP (k : Int) (b x t ch : Nat) (sec pub : ByteArray) (idx : Nat) (q : Nat) : List ByteArray := pathS k b (x - 1) ch sec pub q ((idx / 2 ^ (t * q) / 2 ^ t : Nat) : Int) (idx / 2 ^ (t * q) % 2 ^ t) t

theorem psQ_pre (vs ph : Nat → List ByteArray) : ∀ q n, ∃ r, psQ vs ph (q + n) = psQ vs ph q ++ r
  | q, 0 => ⟨[], by simp⟩
  | q, n + 1 => by
    obtain ⟨r, hr⟩ := psQ_pre vs ph q n
    exact ⟨r ++ vs (q + n) ++ ph (q + n), by rw [← Nat.add_assoc, psQ, hr]; simp⟩
theorem psQ_cut (vs ph : Nat → List ByteArray) (ch t : Nat) (h1 : ∀ q, (vs q).length = ch) (h2 : ∀ q, (ph q).length = t) (q l : Nat) (hq : q < l) : ((psQ vs ph l).drop (q * (ch + t))).take ch = vs q ∧ ((psQ vs ph l).drop (q * (ch + t) + ch)).take t = ph q := by
  obtain ⟨r, hr⟩ := psQ_pre vs ph (q + 1) (l - (q + 1))
  rw [show q + 1 + (l - (q + 1)) = l by omega, psQ] at hr
  have hl := psQ_length vs ph ch t h1 h2 q
  constructor
  · rw [hr, List.append_assoc, List.append_assoc, List.drop_append_of_le_length (by omega), List.drop_of_length_le (by omega), List.nil_append, List.take_append_of_le_length (by rw [h1]; exact Nat.le_refl _), List.take_of_length_le (by rw [h1]; exact Nat.le_refl _)]
  · rw [hr, List.append_assoc, List.drop_append_of_le_length (by rw [List.length_append, hl, h1]; exact Nat.le_refl _), List.drop_of_length_le (by rw [List.length_append, hl, h1]; exact Nat.le_refl _), List.nil_append, List.take_append_of_le_length (by rw [h2]; exact Nat.le_refl _), List.take_of_length_le (by rw [h2]; exact Nat.le_refl _)]

theorem sM_facts (k : Int) (b x e f t ch : Nat) (sec pub : ByteArray) (idx : Nat) (m0 : ByteArray) (hp : Pair b x e f) (hch : ch = b * e + f) (hk : k = 1 ∨ k = 2) (zs : sec.size ≤ 16) (zp : pub.size ≤ 16) (hm : (m0.size : Int) = b) : ∀ q, ((sM k b x e f t ch sec pub idx m0 q).size : Int) = b ∧ (sD k b x e f t ch sec pub idx m0 q).length = ch := by
  obtain ⟨g1, g2, g3, g4, g5, g6⟩ := pair_small hp
  have dl : ∀ m : ByteArray, (m.size : Int) = b → (digitsN x e f (bytesN m)).length = ch := fun m h => by
    rw [digitsN_length, bytesN_length, hch]
    congr 2
    omega
  intro q
  induction q with
  | zero => exact ⟨hm, dl _ hm⟩
  | succ q ih =>
    have hs : ((sM k b x e f t ch sec pub idx m0 (q + 1)).size : Int) = b := by
      rw [sM]
      refine rootS_size k b x pub q _ _ _ _ _ hk (by omega) (by omega) zp ?_ (revS_size k b sec pub q _ _ _ _ hk (by omega) (by omega) zs zp) ?_
      · rw [revS_length, dl _ ih.1, hch]; exact g3
      · intro y hy
        simp only [pathS, List.mem_map] at hy
        obtain ⟨h, _, rfl⟩ := hy
        exact nodeS_size k b (x - 1) ch sec pub _ _ hk (by omega) (by omega) zs zp (by rw [hch]; exact g3) _ _
    exact ⟨hs, dl _ hs⟩
theorem sV_length (k : Int) (b x e f t ch : Nat) (sec pub : ByteArray) (idx : Nat) (m0 : ByteArray) (hp : Pair b x e f) (hch : ch = b * e + f) (hk : k = 1 ∨ k = 2) (zs : sec.size ≤ 16) (zp : pub.size ≤ 16) (hm : (m0.size : Int) = b) (q : Nat) : (sV k b x e f t ch sec pub idx m0 q).length = ch := by
  rw [sV, revS_length]
  exact (sM_facts k b x e f t ch sec pub idx m0 hp hch hk zs zp hm q).2
theorem sP_length (k : Int) (b x t ch : Nat) (sec pub : ByteArray) (idx : Nat) (q : Nat) : (sP k b x t ch sec pub idx q).length = t := by rw [sP, pathS_length]
theorem sVP_size (k : Int) (b x e f t ch : Nat) (sec pub : ByteArray) (idx : Nat) (m0 : ByteArray) (hp : Pair b x e f) (hch : ch = b * e + f) (hk : k = 1 ∨ k = 2) (zs : sec.size ≤ 16) (zp : pub.size ≤ 16) (q : Nat) : (∀ y ∈ sV k b x e f t ch sec pub idx m0 q, (y.size : Int) = b) ∧ ∀ y ∈ sP k b x t ch sec pub idx q, (y.size : Int) = b := by
  obtain ⟨g1, g2, g3, g4, g5, g6⟩ := pair_small hp
  refine ⟨revS_size k b sec pub q _ _ _ _ hk (by omega) (by omega) zs zp, fun y hy => ?_⟩
  simp only [sP, pathS, List.mem_map] at hy
  obtain ⟨h, _, rfl⟩ := hy
  exact nodeS_size k b (x - 1) ch sec pub _ _ hk (by omega) (by omega) zs zp (by rw [hch]; exact g3) _ _
theorem psQ_size (k : Int) (b x e f t ch : Nat) (sec pub : ByteArray) (idx : Nat) (m0 : ByteArray) (hp : Pair b x e f) (hch : ch = b * e + f) (hk : k = 1 ∨ k = 2) (zs : sec.size ≤ 16) (zp : pub.size ≤ 16) : ∀ q, ∀ y ∈ psQ (sV k b x e f t ch sec pub idx m0) (sP k b x t ch sec pub idx) q, (y.size : Int) = b := by
  intro q
  induction q with
  | zero => intro y hy; simp [psQ] at hy
  | succ q ih =>
    intro y hy
    rw [psQ, List.mem_append, List.mem_append] at hy
    obtain ⟨h1, h2⟩ := sVP_size k b x e f t ch sec pub idx m0 hp hch hk zs zp q
    rcases hy with (hy | hy) | hy
    · exact ih y hy
    · exact h1 y hy
    · exact h2 y hy
/-- By the parts that Sign lays down, each layer leads to what the next one has signed. -/
theorem lay_sM (k : Int) (b x e f t ch : Nat) (sec pub : ByteArray) (idx : Nat) (m0 : ByteArray) (hp : Pair b x e f) (hch : ch = b * e + f) (hk : k = 1 ∨ k = 2) (zs : sec.size ≤ 16) (zp : pub.size ≤ 16) (hm : (m0.size : Int) = b) (l : Nat) : ∀ q, q ≤ l → layS k b x e f t ch pub idx (psQ (sV k b x e f t ch sec pub idx m0) (sP k b x t ch sec pub idx) l) m0 q = sM k b x e f t ch sec pub idx m0 q := by
  intro q
  induction q with
  | zero => intro _; rfl
  | succ q ih =>
    intro hq
    obtain ⟨h1, h2⟩ := psQ_cut (sV k b x e f t ch sec pub idx m0) (sP k b x t ch sec pub idx) ch t (sV_length k b x e f t ch sec pub idx m0 hp hch hk zs zp hm) (sP_length k b x t ch sec pub idx) q l (by omega)
    rw [layS, ih (by omega), h1, h2, sM]
    rfl
/-- The last one is the root of the top tree. -/
theorem sM_last (k : Int) (b x e f t ch : Nat) (sec pub : ByteArray) (idx : Nat) (m0 : ByteArray) (hp : Pair b x e f) (hch : ch = b * e + f) (hk : k = 1 ∨ k = 2) (zs : sec.size ≤ 16) (zp : pub.size ≤ 16) (hm : (m0.size : Int) = b) (l : Nat) (hl : 1 ≤ l) (hi : idx < 2 ^ (t * l)) : sM k b x e f t ch sec pub idx m0 l = nodeS k b (x - 1) ch sec pub ((l : Int) - 1) 0 t 0 := by
  obtain ⟨g1, g2, g3, g4, g5, g6⟩ := pair_small hp
  obtain ⟨q, rfl⟩ : ∃ q, l = q + 1 := ⟨l - 1, by omega⟩
  have hd : ∀ d ∈ digitsN x e f (bytesN (sM k b x e f t ch sec pub idx m0 q)), d < x := digitsN_lt x e f _ (by omega)
  rw [sM, root_rev k b x t ch sec pub _ _ _ _ hd (sM_facts k b x e f t ch sec pub idx m0 hp hch hk zs zp hm q).2 (Nat.mod_lt _ (Nat.two_pow_pos t))]
  have h0 : idx / 2 ^ (t * q) / 2 ^ t = 0 := by
    rw [Nat.div_div_eq_div_mul, ← Nat.pow_add]
    exact Nat.div_eq_of_lt (by rw [Nat.mul_add, Nat.mul_one] at hi; exact hi)
  rw [h0, show ((q + 1 : Nat) : Int) - 1 = (q : Int) by omega]
  rfl

/-! The bytes of a signature -/
theorem cut_cat (b : Nat) : ∀ ps : List ByteArray, (∀ y ∈ ps, (y.size : Int) = b) → ∀ (a z : ByteArray), (List.range ps.length).map (fun i => (a ++ cat ps ++ z).extract (a.size + i * b) (a.size + (i + 1) * b)) = ps
  | [], _, _, _ => rfl
  | y :: ps, h, a, z => by
    have hy : y.size = b := by have := h y (by simp); omega
    have ih := cut_cat b ps (fun u hu => h u (by simp [hu])) (a ++ y) z
    rw [List.length_cons, List.range_succ_eq_map, List.map_cons, List.map_map]
    congr 1
    · rw [Nat.zero_mul, Nat.add_zero, Nat.zero_add, Nat.one_mul]
      refine byt_ext _ _ ?_ ?_
      · rw [ByteArray.size_extract]
        simp only [cat, ByteArray.size_append]
        omega
      · intro j hj
        rw [ByteArray.size_extract] at hj
        simp only [cat, ByteArray.size_append] at hj
        rw [byt_part _ _ _ j (by simp only [cat, ByteArray.size_append]; omega) (by omega), byt_left _ _ _ (by simp only [cat, ByteArray.size_append]; omega), byt_right _ _ _ (by omega), cat, byt_left _ _ _ (by omega), Nat.add_sub_cancel_left]
    · refine Eq.trans ?_ ih
      apply List.map_congr_left
      intro i hi
      simp only [Function.comp]
      have e1 : a ++ y ++ cat ps ++ z = a ++ cat (y :: ps) ++ z := by rw [cat]; simp only [ByteArray.append_assoc]
      rw [← e1, ByteArray.size_append, hy]
      congr 1
      · rw [Nat.succ_mul]; omega
      · rw [Nat.succ_mul (i + 1)]; omega

theorem sig_bytes (idx b : Nat) (hi : idx < 4294967296) (RV : ByteArray) (hr : RV.size = b) (ps : List ByteArray) (hps : ∀ y ∈ ps, (y.size : Int) = b) (hc : (cat ps).size = ps.length * b) :
    (numB 4 idx ++ RV ++ cat ps).size = 4 + b + ps.length * b ∧ valN (numB 4 idx ++ RV ++ cat ps) 0 4 = idx ∧ (numB 4 idx ++ RV ++ cat ps).extract 4 (4 + b) = RV ∧ cutS ((numB 4 idx ++ RV ++ cat ps).extract (4 + b) (numB 4 idx ++ RV ++ cat ps).size) b ps.length = ps := by
  have hn : (numB 4 (idx : Int)).size = 4 := numB_size 4 idx
  have hz : (numB 4 idx ++ RV ++ cat ps).size = 4 + b + ps.length * b := by simp only [ByteArray.size_append]; omega
  refine ⟨hz, ?_, ?_, ?_⟩
  · have h := valN_part (numB 4 idx ++ RV ++ cat ps) 0 4 4 (by omega) (by omega)
    have e : (numB 4 idx ++ RV ++ cat ps).extract 0 4 = numB 4 idx := by
      refine byt_ext _ _ ?_ ?_
      · rw [ByteArray.size_extract]; omega
      · intro j hj
        rw [ByteArray.size_extract] at hj
        rw [byt_part _ _ _ j (by omega) (by omega), Nat.zero_add, byt_left _ _ _ (by rw [ByteArray.size_append]; omega), byt_left _ _ _ (by omega)]
    rw [e] at h
    have h2 := val_num (idx : Int) (by omega) (by omega)
    omega
  · refine byt_ext _ _ ?_ ?_
    · rw [ByteArray.size_extract]; omega
    · intro j hj
      rw [ByteArray.size_extract] at hj
      rw [byt_part _ _ _ j (by omega) (by omega), byt_left _ _ _ (by rw [ByteArray.size_append]; omega), byt_right _ _ _ (by omega), hn, Nat.add_sub_cancel_left]
  · have h := cut_cat b ps hps (numB 4 idx ++ RV) ⟨#[]⟩
    rw [append_empty] at h
    refine Eq.trans ?_ h
    unfold cutS
    apply List.map_congr_left
    intro i hi'
    have hin : (i + 1) * b ≤ ps.length * b := Nat.mul_le_mul_right _ (List.mem_range.1 hi')
    have hib : (i + 1) * b = i * b + b := by rw [Nat.add_mul, Nat.one_mul]
    have hnr : (numB 4 idx ++ RV).size = 4 + b := by rw [ByteArray.size_append]; omega
    refine byt_ext _ _ ?_ ?_
    · simp only [ByteArray.size_extract]; omega
    · intro j hj
      simp only [ByteArray.size_extract] at hj
      rw [byt_part (ByteArray.extract _ _ _) _ _ j (by rw [ByteArray.size_extract]; omega) (by omega), byt_part _ _ _ _ (Nat.le_refl _) (by omega), byt_part _ _ _ j (by omega) (by omega)]
      congr 1
      omega
end Go.Proofs.YtgaoeoijdpdjiabGreatDoor
