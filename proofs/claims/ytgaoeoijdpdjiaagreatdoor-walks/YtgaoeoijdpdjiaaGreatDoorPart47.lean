/-
  The document's walk: it is begun.
-/
import Derived.Test.YtgaoeoijdpdjiaaGreatDoorPart46
import Derived.Test.YtgaoeoijdpdjiaaGreatDoorPart40
import Derived.Test.YtgaoeoijdpdjiaaGreatDoorPart19
namespace Go.Proofs.YtgaoeoijdpdjiaaGreatDoor
open Go.RowKit
set_option maxRecDepth 20000 in
set_option maxHeartbeats 2000000 in
theorem rnw_set (k b x t l : Int) (sec rnd pub : ByteArray) (p0 p1 p2 p3 : Int) (w : World) (hC : ∀ V : World, Calls Tryz.prog 49 #[.agg #[.int .i64 k, .int .i64 b, .int .i64 x, .int .i64 t, .int .i64 l]] V fun e w' => e = .returned (.int .i64 1) ∧ Below V.heap.size V w') :
    Calls Tryz.prog 109 #[.agg #[.int .i64 k, .int .i64 b, .int .i64 x, .int .i64 t, .int .i64 l], .agg #[.string sec, .string rnd, .string pub], .agg #[.int .i64 p0, .int .i64 p1, .int .i64 p2, .int .i64 p3]] w fun e w' => e = .returned (.tuple #[.pointer none, .int .i64 1]) ∧ Below w.heap.size w w' := by
  obtain ⟨W0, hW⟩ : ∃ W0, ((w.alloc (.cells #[.int .i64 k, .int .i64 b, .int .i64 x, .int .i64 t, .int .i64 l] 23)).alloc (.cells #[.string sec, .string rnd, .string pub] 25)).alloc (.cells #[.int .i64 p0, .int .i64 p1, .int .i64 p2, .int .i64 p3] 27) = W0 := ⟨_, rfl⟩
  have HX0 := hide (show Box3 W0 w.heap.size [.int .i64 k, .int .i64 b, .int .i64 x, .int .i64 t, .int .i64 l] [.string sec, .string rnd, .string pub] [.int .i64 p0, .int .i64 p1, .int .i64 p2, .int .i64 p3] by
    subst hW
    refine ⟨?_, ?_, ?_⟩
    · exact ((Blk.new w _ _).alloc _).alloc _
    · have h := (Blk.new (w.alloc (.cells #[.int .i64 k, .int .i64 b, .int .i64 x, .int .i64 t, .int .i64 l] 23)) [.string sec, .string rnd, .string pub] 25).alloc (.cells #[.int .i64 p0, .int .i64 p1, .int .i64 p2, .int .i64 p3] 27)
      simp only [World.size_alloc] at h
      exact h
    · have h := Blk.new ((w.alloc (.cells #[.int .i64 k, .int .i64 b, .int .i64 x, .int .i64 t, .int .i64 l] 23)).alloc (.cells #[.string sec, .string rnd, .string pub] 25)) [.int .i64 p0, .int .i64 p1, .int .i64 p2, .int .i64 p3] 27
      simp only [World.size_alloc] at h
      exact h)
  have HB0 := hide (show Below w.heap.size w W0 by subst hW; exact (((Below.refl _ _).alloc (Nat.le_refl _) _).alloc (by simp) _).alloc (by simp; omega) _)
  have HCS := hide (fun (V : World) (h : Box3 V w.heap.size [.int .i64 k, .int .i64 b, .int .i64 x, .int .i64 t, .int .i64 l] [.string sec, .string rnd, .string pub] [.int .i64 p0, .int .i64 p1, .int .i64 p2, .int .i64 p3]) => (⟨h.s.cell 0, h.s.cell 1, h.s.cell 2, h.s.cell 3, h.s.cell 4, h.u.cell 0, h.u.cell 1, h.u.cell 2, h.p.cell 0, h.p.cell 1, h.p.cell 2, h.p.cell 3⟩ : V.cell? ⟨w.heap.size, 0, none⟩ = some (.int .i64 k) ∧ V.cell? ⟨w.heap.size, 1, none⟩ = some (.int .i64 b) ∧ V.cell? ⟨w.heap.size, 2, none⟩ = some (.int .i64 x) ∧ V.cell? ⟨w.heap.size, 3, none⟩ = some (.int .i64 t) ∧ V.cell? ⟨w.heap.size, 4, none⟩ = some (.int .i64 l) ∧ V.cell? ⟨w.heap.size + 1, 0, none⟩ = some (.string sec) ∧ V.cell? ⟨w.heap.size + 1, 1, none⟩ = some (.string rnd) ∧ V.cell? ⟨w.heap.size + 1, 2, none⟩ = some (.string pub) ∧ V.cell? ⟨w.heap.size + 1 + 1, 0, none⟩ = some (.int .i64 p0) ∧ V.cell? ⟨w.heap.size + 1 + 1, 1, none⟩ = some (.int .i64 p1) ∧ V.cell? ⟨w.heap.size + 1 + 1, 2, none⟩ = some (.int .i64 p2) ∧ V.cell? ⟨w.heap.size + 1 + 1, 3, none⟩ = some (.int .i64 p3)))
  have HWE := hide hW
  have HC := hide hC
  clear hW hC
  go_enter Tryz.func109, Tryz.ntmps109
  go_wp2_with fail
  rw [HWE.out]
  clear HWE
  obtain ⟨c0, c1, c2, c3, c4, s0, s1, s2, d0, d1, d2, d3⟩ := HCS.out _ HX0.out
  refine (HC.out _).mono ?_
  rintro e w1 ⟨rfl, hb⟩
  have HX1 := hide (HX0.out.on hb)
  have HB1 := hide (heldB HB0.out hb (Nat.le_refl _))
  clear hb HX0 HB0 c0 c1 c2 c3 c4 s0 s1 s2 d0 d1 d2 d3
  obtain ⟨c0, c1, c2, c3, c4, s0, s1, s2, d0, d1, d2, d3⟩ := HCS.out _ HX1.out
  go_wp2
  go_ret2
  exact ⟨rfl, HB1.out⟩
set_option maxRecDepth 20000 in
set_option maxHeartbeats 2000000 in
theorem rnw_see (k b x t l : Int) (sec rnd pub : ByteArray) (p0 p1 p2 p3 : Int) (pb : Bool) (w : World) (hC : ∀ V : World, Calls Tryz.prog 49 #[.agg #[.int .i64 k, .int .i64 b, .int .i64 x, .int .i64 t, .int .i64 l]] V fun e w' => e = .returned (.int .i64 0) ∧ Below V.heap.size V w') (hV : ∀ V : World, Calls Tryz.prog 50 #[.agg #[.int .i64 k, .int .i64 b, .int .i64 x, .int .i64 t, .int .i64 l], .agg #[.string sec, .string rnd, .string pub]] V fun e w' => e = .returned (.bool false) ∧ Below V.heap.size V w') (hI : ∀ V : World, Calls Tryz.prog 51 #[.agg #[.int .i64 k, .int .i64 b, .int .i64 x, .int .i64 t, .int .i64 l], .agg #[.int .i64 p0, .int .i64 p1, .int .i64 p2, .int .i64 p3]] V fun e w' => e = .returned (.bool pb) ∧ Below V.heap.size V w') :
    Calls Tryz.prog 109 #[.agg #[.int .i64 k, .int .i64 b, .int .i64 x, .int .i64 t, .int .i64 l], .agg #[.string sec, .string rnd, .string pub], .agg #[.int .i64 p0, .int .i64 p1, .int .i64 p2, .int .i64 p3]] w fun e w' => e = .returned (.tuple #[.pointer none, .int .i64 2]) ∧ Below w.heap.size w w' := by
  obtain ⟨W0, hW⟩ : ∃ W0, ((w.alloc (.cells #[.int .i64 k, .int .i64 b, .int .i64 x, .int .i64 t, .int .i64 l] 23)).alloc (.cells #[.string sec, .string rnd, .string pub] 25)).alloc (.cells #[.int .i64 p0, .int .i64 p1, .int .i64 p2, .int .i64 p3] 27) = W0 := ⟨_, rfl⟩
  have HX0 := hide (show Box3 W0 w.heap.size [.int .i64 k, .int .i64 b, .int .i64 x, .int .i64 t, .int .i64 l] [.string sec, .string rnd, .string pub] [.int .i64 p0, .int .i64 p1, .int .i64 p2, .int .i64 p3] by
    subst hW
    refine ⟨?_, ?_, ?_⟩
    · exact ((Blk.new w _ _).alloc _).alloc _
    · have h := (Blk.new (w.alloc (.cells #[.int .i64 k, .int .i64 b, .int .i64 x, .int .i64 t, .int .i64 l] 23)) [.string sec, .string rnd, .string pub] 25).alloc (.cells #[.int .i64 p0, .int .i64 p1, .int .i64 p2, .int .i64 p3] 27)
      simp only [World.size_alloc] at h
      exact h
    · have h := Blk.new ((w.alloc (.cells #[.int .i64 k, .int .i64 b, .int .i64 x, .int .i64 t, .int .i64 l] 23)).alloc (.cells #[.string sec, .string rnd, .string pub] 25)) [.int .i64 p0, .int .i64 p1, .int .i64 p2, .int .i64 p3] 27
      simp only [World.size_alloc] at h
      exact h)
  have HB0 := hide (show Below w.heap.size w W0 by subst hW; exact (((Below.refl _ _).alloc (Nat.le_refl _) _).alloc (by simp) _).alloc (by simp; omega) _)
  have HCS := hide (fun (V : World) (h : Box3 V w.heap.size [.int .i64 k, .int .i64 b, .int .i64 x, .int .i64 t, .int .i64 l] [.string sec, .string rnd, .string pub] [.int .i64 p0, .int .i64 p1, .int .i64 p2, .int .i64 p3]) => (⟨h.s.cell 0, h.s.cell 1, h.s.cell 2, h.s.cell 3, h.s.cell 4, h.u.cell 0, h.u.cell 1, h.u.cell 2, h.p.cell 0, h.p.cell 1, h.p.cell 2, h.p.cell 3⟩ : V.cell? ⟨w.heap.size, 0, none⟩ = some (.int .i64 k) ∧ V.cell? ⟨w.heap.size, 1, none⟩ = some (.int .i64 b) ∧ V.cell? ⟨w.heap.size, 2, none⟩ = some (.int .i64 x) ∧ V.cell? ⟨w.heap.size, 3, none⟩ = some (.int .i64 t) ∧ V.cell? ⟨w.heap.size, 4, none⟩ = some (.int .i64 l) ∧ V.cell? ⟨w.heap.size + 1, 0, none⟩ = some (.string sec) ∧ V.cell? ⟨w.heap.size + 1, 1, none⟩ = some (.string rnd) ∧ V.cell? ⟨w.heap.size + 1, 2, none⟩ = some (.string pub) ∧ V.cell? ⟨w.heap.size + 1 + 1, 0, none⟩ = some (.int .i64 p0) ∧ V.cell? ⟨w.heap.size + 1 + 1, 1, none⟩ = some (.int .i64 p1) ∧ V.cell? ⟨w.heap.size + 1 + 1, 2, none⟩ = some (.int .i64 p2) ∧ V.cell? ⟨w.heap.size + 1 + 1, 3, none⟩ = some (.int .i64 p3)))
  have HWE := hide hW
  have HC := hide hC
  have HV := hide hV
  have HI := hide hI
  clear hW hC hV hI
  go_enter Tryz.func109, Tryz.ntmps109
  go_wp2_with fail
  rw [HWE.out]
  clear HWE
  obtain ⟨c0, c1, c2, c3, c4, s0, s1, s2, d0, d1, d2, d3⟩ := HCS.out _ HX0.out
  refine (HC.out _).mono ?_
  rintro e w1 ⟨rfl, hb⟩
  have HX1 := hide (HX0.out.on hb)
  have HB1 := hide (heldB HB0.out hb (Nat.le_refl _))
  clear hb HX0 HB0 c0 c1 c2 c3 c4 s0 s1 s2 d0 d1 d2 d3
  obtain ⟨c0, c1, c2, c3, c4, s0, s1, s2, d0, d1, d2, d3⟩ := HCS.out _ HX1.out
  go_wp2_with fail
  refine (HV.out _).mono ?_
  rintro e w2 ⟨rfl, hb⟩
  have HX2 := hide (HX1.out.on hb)
  have HB2 := hide (heldB HB1.out hb (Nat.le_refl _))
  clear hb HX1 HB1 c0 c1 c2 c3 c4 s0 s1 s2 d0 d1 d2 d3
  obtain ⟨c0, c1, c2, c3, c4, s0, s1, s2, d0, d1, d2, d3⟩ := HCS.out _ HX2.out
  go_wp2_with fail
  refine (HI.out _).mono ?_
  rintro e w3 ⟨rfl, hb⟩
  have HX3 := hide (HX2.out.on hb)
  have HB3 := hide (heldB HB2.out hb (Nat.le_refl _))
  clear hb HX2 HB2 c0 c1 c2 c3 c4 s0 s1 s2 d0 d1 d2 d3
  obtain ⟨c0, c1, c2, c3, c4, s0, s1, s2, d0, d1, d2, d3⟩ := HCS.out _ HX3.out
  go_wp2
  go_ret2
  exact ⟨rfl, HB3.out⟩
set_option maxRecDepth 20000 in
set_option maxHeartbeats 2000000 in
theorem rnw_pla (k b x t l : Int) (sec rnd pub : ByteArray) (p0 p1 p2 p3 : Int) (w : World) (hC : ∀ V : World, Calls Tryz.prog 49 #[.agg #[.int .i64 k, .int .i64 b, .int .i64 x, .int .i64 t, .int .i64 l]] V fun e w' => e = .returned (.int .i64 0) ∧ Below V.heap.size V w') (hV : ∀ V : World, Calls Tryz.prog 50 #[.agg #[.int .i64 k, .int .i64 b, .int .i64 x, .int .i64 t, .int .i64 l], .agg #[.string sec, .string rnd, .string pub]] V fun e w' => e = .returned (.bool true) ∧ Below V.heap.size V w') (hI : ∀ V : World, Calls Tryz.prog 51 #[.agg #[.int .i64 k, .int .i64 b, .int .i64 x, .int .i64 t, .int .i64 l], .agg #[.int .i64 p0, .int .i64 p1, .int .i64 p2, .int .i64 p3]] V fun e w' => e = .returned (.bool false) ∧ Below V.heap.size V w') :
    Calls Tryz.prog 109 #[.agg #[.int .i64 k, .int .i64 b, .int .i64 x, .int .i64 t, .int .i64 l], .agg #[.string sec, .string rnd, .string pub], .agg #[.int .i64 p0, .int .i64 p1, .int .i64 p2, .int .i64 p3]] w fun e w' => e = .returned (.tuple #[.pointer none, .int .i64 2]) ∧ Below w.heap.size w w' := by
  obtain ⟨W0, hW⟩ : ∃ W0, ((w.alloc (.cells #[.int .i64 k, .int .i64 b, .int .i64 x, .int .i64 t, .int .i64 l] 23)).alloc (.cells #[.string sec, .string rnd, .string pub] 25)).alloc (.cells #[.int .i64 p0, .int .i64 p1, .int .i64 p2, .int .i64 p3] 27) = W0 := ⟨_, rfl⟩
  have HX0 := hide (show Box3 W0 w.heap.size [.int .i64 k, .int .i64 b, .int .i64 x, .int .i64 t, .int .i64 l] [.string sec, .string rnd, .string pub] [.int .i64 p0, .int .i64 p1, .int .i64 p2, .int .i64 p3] by
    subst hW
    refine ⟨?_, ?_, ?_⟩
    · exact ((Blk.new w _ _).alloc _).alloc _
    · have h := (Blk.new (w.alloc (.cells #[.int .i64 k, .int .i64 b, .int .i64 x, .int .i64 t, .int .i64 l] 23)) [.string sec, .string rnd, .string pub] 25).alloc (.cells #[.int .i64 p0, .int .i64 p1, .int .i64 p2, .int .i64 p3] 27)
      simp only [World.size_alloc] at h
      exact h
    · have h := Blk.new ((w.alloc (.cells #[.int .i64 k, .int .i64 b, .int .i64 x, .int .i64 t, .int .i64 l] 23)).alloc (.cells #[.string sec, .string rnd, .string pub] 25)) [.int .i64 p0, .int .i64 p1, .int .i64 p2, .int .i64 p3] 27
      simp only [World.size_alloc] at h
      exact h)
  have HB0 := hide (show Below w.heap.size w W0 by subst hW; exact (((Below.refl _ _).alloc (Nat.le_refl _) _).alloc (by simp) _).alloc (by simp; omega) _)
  have HCS := hide (fun (V : World) (h : Box3 V w.heap.size [.int .i64 k, .int .i64 b, .int .i64 x, .int .i64 t, .int .i64 l] [.string sec, .string rnd, .string pub] [.int .i64 p0, .int .i64 p1, .int .i64 p2, .int .i64 p3]) => (⟨h.s.cell 0, h.s.cell 1, h.s.cell 2, h.s.cell 3, h.s.cell 4, h.u.cell 0, h.u.cell 1, h.u.cell 2, h.p.cell 0, h.p.cell 1, h.p.cell 2, h.p.cell 3⟩ : V.cell? ⟨w.heap.size, 0, none⟩ = some (.int .i64 k) ∧ V.cell? ⟨w.heap.size, 1, none⟩ = some (.int .i64 b) ∧ V.cell? ⟨w.heap.size, 2, none⟩ = some (.int .i64 x) ∧ V.cell? ⟨w.heap.size, 3, none⟩ = some (.int .i64 t) ∧ V.cell? ⟨w.heap.size, 4, none⟩ = some (.int .i64 l) ∧ V.cell? ⟨w.heap.size + 1, 0, none⟩ = some (.string sec) ∧ V.cell? ⟨w.heap.size + 1, 1, none⟩ = some (.string rnd) ∧ V.cell? ⟨w.heap.size + 1, 2, none⟩ = some (.string pub) ∧ V.cell? ⟨w.heap.size + 1 + 1, 0, none⟩ = some (.int .i64 p0) ∧ V.cell? ⟨w.heap.size + 1 + 1, 1, none⟩ = some (.int .i64 p1) ∧ V.cell? ⟨w.heap.size + 1 + 1, 2, none⟩ = some (.int .i64 p2) ∧ V.cell? ⟨w.heap.size + 1 + 1, 3, none⟩ = some (.int .i64 p3)))
  have HWE := hide hW
  have HC := hide hC
  have HV := hide hV
  have HI := hide hI
  clear hW hC hV hI
  go_enter Tryz.func109, Tryz.ntmps109
  go_wp2_with fail
  rw [HWE.out]
  clear HWE
  obtain ⟨c0, c1, c2, c3, c4, s0, s1, s2, d0, d1, d2, d3⟩ := HCS.out _ HX0.out
  refine (HC.out _).mono ?_
  rintro e w1 ⟨rfl, hb⟩
  have HX1 := hide (HX0.out.on hb)
  have HB1 := hide (heldB HB0.out hb (Nat.le_refl _))
  clear hb HX0 HB0 c0 c1 c2 c3 c4 s0 s1 s2 d0 d1 d2 d3
  obtain ⟨c0, c1, c2, c3, c4, s0, s1, s2, d0, d1, d2, d3⟩ := HCS.out _ HX1.out
  go_wp2_with fail
  refine (HV.out _).mono ?_
  rintro e w2 ⟨rfl, hb⟩
  have HX2 := hide (HX1.out.on hb)
  have HB2 := hide (heldB HB1.out hb (Nat.le_refl _))
  clear hb HX1 HB1 c0 c1 c2 c3 c4 s0 s1 s2 d0 d1 d2 d3
  obtain ⟨c0, c1, c2, c3, c4, s0, s1, s2, d0, d1, d2, d3⟩ := HCS.out _ HX2.out
  go_wp2_with fail
  refine (HI.out _).mono ?_
  rintro e w3 ⟨rfl, hb⟩
  have HX3 := hide (HX2.out.on hb)
  have HB3 := hide (heldB HB2.out hb (Nat.le_refl _))
  clear hb HX2 HB2 c0 c1 c2 c3 c4 s0 s1 s2 d0 d1 d2 d3
  obtain ⟨c0, c1, c2, c3, c4, s0, s1, s2, d0, d1, d2, d3⟩ := HCS.out _ HX3.out
  go_wp2
  go_ret2
  exact ⟨rfl, HB3.out⟩
set_option maxRecDepth 20000 in
set_option maxHeartbeats 2000000 in
theorem rnw_lea (k b x t l : Int) (sec rnd pub : ByteArray) (p0 p1 p2 p3 : Int) (w : World) (hC : ∀ V : World, Calls Tryz.prog 49 #[.agg #[.int .i64 k, .int .i64 b, .int .i64 x, .int .i64 t, .int .i64 l]] V fun e w' => e = .returned (.int .i64 0) ∧ Below V.heap.size V w') (hV : ∀ V : World, Calls Tryz.prog 50 #[.agg #[.int .i64 k, .int .i64 b, .int .i64 x, .int .i64 t, .int .i64 l], .agg #[.string sec, .string rnd, .string pub]] V fun e w' => e = .returned (.bool true) ∧ Below V.heap.size V w') (hI : ∀ V : World, Calls Tryz.prog 51 #[.agg #[.int .i64 k, .int .i64 b, .int .i64 x, .int .i64 t, .int .i64 l], .agg #[.int .i64 p0, .int .i64 p1, .int .i64 p2, .int .i64 p3]] V fun e w' => e = .returned (.bool true) ∧ Below V.heap.size V w') (z2 : (p2 == 0) = false) :
    Calls Tryz.prog 109 #[.agg #[.int .i64 k, .int .i64 b, .int .i64 x, .int .i64 t, .int .i64 l], .agg #[.string sec, .string rnd, .string pub], .agg #[.int .i64 p0, .int .i64 p1, .int .i64 p2, .int .i64 p3]] w fun e w' => e = .returned (.tuple #[.pointer none, .int .i64 2]) ∧ Below w.heap.size w w' := by
  obtain ⟨W0, hW⟩ : ∃ W0, ((w.alloc (.cells #[.int .i64 k, .int .i64 b, .int .i64 x, .int .i64 t, .int .i64 l] 23)).alloc (.cells #[.string sec, .string rnd, .string pub] 25)).alloc (.cells #[.int .i64 p0, .int .i64 p1, .int .i64 p2, .int .i64 p3] 27) = W0 := ⟨_, rfl⟩
  have HX0 := hide (show Box3 W0 w.heap.size [.int .i64 k, .int .i64 b, .int .i64 x, .int .i64 t, .int .i64 l] [.string sec, .string rnd, .string pub] [.int .i64 p0, .int .i64 p1, .int .i64 p2, .int .i64 p3] by
    subst hW
    refine ⟨?_, ?_, ?_⟩
    · exact ((Blk.new w _ _).alloc _).alloc _
    · have h := (Blk.new (w.alloc (.cells #[.int .i64 k, .int .i64 b, .int .i64 x, .int .i64 t, .int .i64 l] 23)) [.string sec, .string rnd, .string pub] 25).alloc (.cells #[.int .i64 p0, .int .i64 p1, .int .i64 p2, .int .i64 p3] 27)
      simp only [World.size_alloc] at h
      exact h
    · have h := Blk.new ((w.alloc (.cells #[.int .i64 k, .int .i64 b, .int .i64 x, .int .i64 t, .int .i64 l] 23)).alloc (.cells #[.string sec, .string rnd, .string pub] 25)) [.int .i64 p0, .int .i64 p1, .int .i64 p2, .int .i64 p3] 27
      simp only [World.size_alloc] at h
      exact h)
  have HB0 := hide (show Below w.heap.size w W0 by subst hW; exact (((Below.refl _ _).alloc (Nat.le_refl _) _).alloc (by simp) _).alloc (by simp; omega) _)
  have HCS := hide (fun (V : World) (h : Box3 V w.heap.size [.int .i64 k, .int .i64 b, .int .i64 x, .int .i64 t, .int .i64 l] [.string sec, .string rnd, .string pub] [.int .i64 p0, .int .i64 p1, .int .i64 p2, .int .i64 p3]) => (⟨h.s.cell 0, h.s.cell 1, h.s.cell 2, h.s.cell 3, h.s.cell 4, h.u.cell 0, h.u.cell 1, h.u.cell 2, h.p.cell 0, h.p.cell 1, h.p.cell 2, h.p.cell 3⟩ : V.cell? ⟨w.heap.size, 0, none⟩ = some (.int .i64 k) ∧ V.cell? ⟨w.heap.size, 1, none⟩ = some (.int .i64 b) ∧ V.cell? ⟨w.heap.size, 2, none⟩ = some (.int .i64 x) ∧ V.cell? ⟨w.heap.size, 3, none⟩ = some (.int .i64 t) ∧ V.cell? ⟨w.heap.size, 4, none⟩ = some (.int .i64 l) ∧ V.cell? ⟨w.heap.size + 1, 0, none⟩ = some (.string sec) ∧ V.cell? ⟨w.heap.size + 1, 1, none⟩ = some (.string rnd) ∧ V.cell? ⟨w.heap.size + 1, 2, none⟩ = some (.string pub) ∧ V.cell? ⟨w.heap.size + 1 + 1, 0, none⟩ = some (.int .i64 p0) ∧ V.cell? ⟨w.heap.size + 1 + 1, 1, none⟩ = some (.int .i64 p1) ∧ V.cell? ⟨w.heap.size + 1 + 1, 2, none⟩ = some (.int .i64 p2) ∧ V.cell? ⟨w.heap.size + 1 + 1, 3, none⟩ = some (.int .i64 p3)))
  have HWE := hide hW
  have HC := hide hC
  have HV := hide hV
  have HI := hide hI
  clear hW hC hV hI
  have z2' : (p2 != 0) = true := by simp only [bne, z2]; rfl
  go_enter Tryz.func109, Tryz.ntmps109
  go_wp2_with fail
  rw [HWE.out]
  clear HWE
  obtain ⟨c0, c1, c2, c3, c4, s0, s1, s2, d0, d1, d2, d3⟩ := HCS.out _ HX0.out
  refine (HC.out _).mono ?_
  rintro e w1 ⟨rfl, hb⟩
  have HX1 := hide (HX0.out.on hb)
  have HB1 := hide (heldB HB0.out hb (Nat.le_refl _))
  clear hb HX0 HB0 c0 c1 c2 c3 c4 s0 s1 s2 d0 d1 d2 d3
  obtain ⟨c0, c1, c2, c3, c4, s0, s1, s2, d0, d1, d2, d3⟩ := HCS.out _ HX1.out
  go_wp2_with fail
  refine (HV.out _).mono ?_
  rintro e w2 ⟨rfl, hb⟩
  have HX2 := hide (HX1.out.on hb)
  have HB2 := hide (heldB HB1.out hb (Nat.le_refl _))
  clear hb HX1 HB1 c0 c1 c2 c3 c4 s0 s1 s2 d0 d1 d2 d3
  obtain ⟨c0, c1, c2, c3, c4, s0, s1, s2, d0, d1, d2, d3⟩ := HCS.out _ HX2.out
  go_wp2_with fail
  refine (HI.out _).mono ?_
  rintro e w3 ⟨rfl, hb⟩
  have HX3 := hide (HX2.out.on hb)
  have HB3 := hide (heldB HB2.out hb (Nat.le_refl _))
  clear hb HX2 HB2 c0 c1 c2 c3 c4 s0 s1 s2 d0 d1 d2 d3
  obtain ⟨c0, c1, c2, c3, c4, s0, s1, s2, d0, d1, d2, d3⟩ := HCS.out _ HX3.out
  go_wp2
  go_ret2
  exact ⟨rfl, HB3.out⟩
set_option maxRecDepth 20000 in
set_option maxHeartbeats 2000000 in
theorem rnw_cha (k b x t l : Int) (sec rnd pub : ByteArray) (p0 p1 p3 : Int) (w : World) (hC : ∀ V : World, Calls Tryz.prog 49 #[.agg #[.int .i64 k, .int .i64 b, .int .i64 x, .int .i64 t, .int .i64 l]] V fun e w' => e = .returned (.int .i64 0) ∧ Below V.heap.size V w') (hV : ∀ V : World, Calls Tryz.prog 50 #[.agg #[.int .i64 k, .int .i64 b, .int .i64 x, .int .i64 t, .int .i64 l], .agg #[.string sec, .string rnd, .string pub]] V fun e w' => e = .returned (.bool true) ∧ Below V.heap.size V w') (hI : ∀ V : World, Calls Tryz.prog 51 #[.agg #[.int .i64 k, .int .i64 b, .int .i64 x, .int .i64 t, .int .i64 l], .agg #[.int .i64 p0, .int .i64 p1, .int .i64 0, .int .i64 p3]] V fun e w' => e = .returned (.bool true) ∧ Below V.heap.size V w') (z3 : (p3 == 0) = false) :
    Calls Tryz.prog 109 #[.agg #[.int .i64 k, .int .i64 b, .int .i64 x, .int .i64 t, .int .i64 l], .agg #[.string sec, .string rnd, .string pub], .agg #[.int .i64 p0, .int .i64 p1, .int .i64 0, .int .i64 p3]] w fun e w' => e = .returned (.tuple #[.pointer none, .int .i64 2]) ∧ Below w.heap.size w w' := by
  obtain ⟨W0, hW⟩ : ∃ W0, ((w.alloc (.cells #[.int .i64 k, .int .i64 b, .int .i64 x, .int .i64 t, .int .i64 l] 23)).alloc (.cells #[.string sec, .string rnd, .string pub] 25)).alloc (.cells #[.int .i64 p0, .int .i64 p1, .int .i64 0, .int .i64 p3] 27) = W0 := ⟨_, rfl⟩
  have HX0 := hide (show Box3 W0 w.heap.size [.int .i64 k, .int .i64 b, .int .i64 x, .int .i64 t, .int .i64 l] [.string sec, .string rnd, .string pub] [.int .i64 p0, .int .i64 p1, .int .i64 0, .int .i64 p3] by
    subst hW
    refine ⟨?_, ?_, ?_⟩
    · exact ((Blk.new w _ _).alloc _).alloc _
    · have h := (Blk.new (w.alloc (.cells #[.int .i64 k, .int .i64 b, .int .i64 x, .int .i64 t, .int .i64 l] 23)) [.string sec, .string rnd, .string pub] 25).alloc (.cells #[.int .i64 p0, .int .i64 p1, .int .i64 0, .int .i64 p3] 27)
      simp only [World.size_alloc] at h
      exact h
    · have h := Blk.new ((w.alloc (.cells #[.int .i64 k, .int .i64 b, .int .i64 x, .int .i64 t, .int .i64 l] 23)).alloc (.cells #[.string sec, .string rnd, .string pub] 25)) [.int .i64 p0, .int .i64 p1, .int .i64 0, .int .i64 p3] 27
      simp only [World.size_alloc] at h
      exact h)
  have HB0 := hide (show Below w.heap.size w W0 by subst hW; exact (((Below.refl _ _).alloc (Nat.le_refl _) _).alloc (by simp) _).alloc (by simp; omega) _)
  have HCS := hide (fun (V : World) (h : Box3 V w.heap.size [.int .i64 k, .int .i64 b, .int .i64 x, .int .i64 t, .int .i64 l] [.string sec, .string rnd, .string pub] [.int .i64 p0, .int .i64 p1, .int .i64 0, .int .i64 p3]) => (⟨h.s.cell 0, h.s.cell 1, h.s.cell 2, h.s.cell 3, h.s.cell 4, h.u.cell 0, h.u.cell 1, h.u.cell 2, h.p.cell 0, h.p.cell 1, h.p.cell 2, h.p.cell 3⟩ : V.cell? ⟨w.heap.size, 0, none⟩ = some (.int .i64 k) ∧ V.cell? ⟨w.heap.size, 1, none⟩ = some (.int .i64 b) ∧ V.cell? ⟨w.heap.size, 2, none⟩ = some (.int .i64 x) ∧ V.cell? ⟨w.heap.size, 3, none⟩ = some (.int .i64 t) ∧ V.cell? ⟨w.heap.size, 4, none⟩ = some (.int .i64 l) ∧ V.cell? ⟨w.heap.size + 1, 0, none⟩ = some (.string sec) ∧ V.cell? ⟨w.heap.size + 1, 1, none⟩ = some (.string rnd) ∧ V.cell? ⟨w.heap.size + 1, 2, none⟩ = some (.string pub) ∧ V.cell? ⟨w.heap.size + 1 + 1, 0, none⟩ = some (.int .i64 p0) ∧ V.cell? ⟨w.heap.size + 1 + 1, 1, none⟩ = some (.int .i64 p1) ∧ V.cell? ⟨w.heap.size + 1 + 1, 2, none⟩ = some (.int .i64 0) ∧ V.cell? ⟨w.heap.size + 1 + 1, 3, none⟩ = some (.int .i64 p3)))
  have HWE := hide hW
  have HC := hide hC
  have HV := hide hV
  have HI := hide hI
  clear hW hC hV hI
  have z3' : (p3 != 0) = true := by simp only [bne, z3]; rfl
  go_enter Tryz.func109, Tryz.ntmps109
  go_wp2_with fail
  rw [HWE.out]
  clear HWE
  obtain ⟨c0, c1, c2, c3, c4, s0, s1, s2, d0, d1, d2, d3⟩ := HCS.out _ HX0.out
  refine (HC.out _).mono ?_
  rintro e w1 ⟨rfl, hb⟩
  have HX1 := hide (HX0.out.on hb)
  have HB1 := hide (heldB HB0.out hb (Nat.le_refl _))
  clear hb HX0 HB0 c0 c1 c2 c3 c4 s0 s1 s2 d0 d1 d2 d3
  obtain ⟨c0, c1, c2, c3, c4, s0, s1, s2, d0, d1, d2, d3⟩ := HCS.out _ HX1.out
  go_wp2_with fail
  refine (HV.out _).mono ?_
  rintro e w2 ⟨rfl, hb⟩
  have HX2 := hide (HX1.out.on hb)
  have HB2 := hide (heldB HB1.out hb (Nat.le_refl _))
  clear hb HX1 HB1 c0 c1 c2 c3 c4 s0 s1 s2 d0 d1 d2 d3
  obtain ⟨c0, c1, c2, c3, c4, s0, s1, s2, d0, d1, d2, d3⟩ := HCS.out _ HX2.out
  go_wp2_with fail
  refine (HI.out _).mono ?_
  rintro e w3 ⟨rfl, hb⟩
  have HX3 := hide (HX2.out.on hb)
  have HB3 := hide (heldB HB2.out hb (Nat.le_refl _))
  clear hb HX2 HB2 c0 c1 c2 c3 c4 s0 s1 s2 d0 d1 d2 d3
  obtain ⟨c0, c1, c2, c3, c4, s0, s1, s2, d0, d1, d2, d3⟩ := HCS.out _ HX3.out
  go_wp2
  go_ret2
  exact ⟨rfl, HB3.out⟩
set_option maxRecDepth 20000 in
set_option maxHeartbeats 2000000 in
theorem rnw_yes (k b x l : Int) (t : Nat) (sec rnd pub : ByteArray) (p0 p1 : Int) (tv : Nat → Nat → ByteArray) (w : World) (hC : ∀ V : World, Calls Tryz.prog 49 #[.agg #[.int .i64 k, .int .i64 b, .int .i64 x, .int .i64 t, .int .i64 l]] V fun e w' => e = .returned (.int .i64 0) ∧ Below V.heap.size V w') (hV : ∀ V : World, Calls Tryz.prog 50 #[.agg #[.int .i64 k, .int .i64 b, .int .i64 x, .int .i64 t, .int .i64 l], .agg #[.string sec, .string rnd, .string pub]] V fun e w' => e = .returned (.bool true) ∧ Below V.heap.size V w') (hI : ∀ V : World, Calls Tryz.prog 51 #[.agg #[.int .i64 k, .int .i64 b, .int .i64 x, .int .i64 t, .int .i64 l], .agg #[.int .i64 p0, .int .i64 p1, .int .i64 0, .int .i64 0]] V fun e w' => e = .returned (.bool true) ∧ Below V.heap.size V w')
    (hG : ∀ V : World, Calls Tryz.prog 193 #[.agg #[.int .i64 k, .int .i64 b, .int .i64 x, .int .i64 t, .int .i64 l], .agg #[.string sec, .string rnd, .string pub], .agg #[.int .i64 p0, .int .i64 p1, .int .i64 0, .int .i64 0]] V fun e w' => ∃ ra rc vs, e = .returned (.agg #[.int .i64 p0, .int .i64 p1, .int .i64 0, .int .i64 0, .slice ra (t + 1) rc]) ∧ GrI V.heap.size w' (.slice ra (t + 1) rc) vs (t + 1) t tv ∧ Below V.heap.size V w') :
    Calls Tryz.prog 109 #[.agg #[.int .i64 k, .int .i64 b, .int .i64 x, .int .i64 t, .int .i64 l], .agg #[.string sec, .string rnd, .string pub], .agg #[.int .i64 p0, .int .i64 p1, .int .i64 0, .int .i64 0]] w fun e w' => ∃ R ra rc vs, e = .returned (.tuple #[.pointer (some ⟨R, 0, none⟩), .int .i64 0]) ∧ Blk w' R [.int .i64 p0, .int .i64 p1, .int .i64 0, .int .i64 0, .slice ra (t + 1) rc, .int .i64 0, .int .i64 t] 249 ∧ GrI w.heap.size w' (.slice ra (t + 1) rc) vs (t + 1) t tv ∧ w.heap.size ≤ R ∧ Below w.heap.size w w' := by
  obtain ⟨W0, hW⟩ : ∃ W0, ((w.alloc (.cells #[.int .i64 k, .int .i64 b, .int .i64 x, .int .i64 t, .int .i64 l] 23)).alloc (.cells #[.string sec, .string rnd, .string pub] 25)).alloc (.cells #[.int .i64 p0, .int .i64 p1, .int .i64 0, .int .i64 0] 27) = W0 := ⟨_, rfl⟩
  have HX0 := hide (show Box3 W0 w.heap.size [.int .i64 k, .int .i64 b, .int .i64 x, .int .i64 t, .int .i64 l] [.string sec, .string rnd, .string pub] [.int .i64 p0, .int .i64 p1, .int .i64 0, .int .i64 0] by
    subst hW
    refine ⟨?_, ?_, ?_⟩
    · exact ((Blk.new w _ _).alloc _).alloc _
    · have h := (Blk.new (w.alloc (.cells #[.int .i64 k, .int .i64 b, .int .i64 x, .int .i64 t, .int .i64 l] 23)) [.string sec, .string rnd, .string pub] 25).alloc (.cells #[.int .i64 p0, .int .i64 p1, .int .i64 0, .int .i64 0] 27)
      simp only [World.size_alloc] at h
      exact h
    · have h := Blk.new ((w.alloc (.cells #[.int .i64 k, .int .i64 b, .int .i64 x, .int .i64 t, .int .i64 l] 23)).alloc (.cells #[.string sec, .string rnd, .string pub] 25)) [.int .i64 p0, .int .i64 p1, .int .i64 0, .int .i64 0] 27
      simp only [World.size_alloc] at h
      exact h)
  have HB0 := hide (show Below w.heap.size w W0 by subst hW; exact (((Below.refl _ _).alloc (Nat.le_refl _) _).alloc (by simp) _).alloc (by simp; omega) _)
  have HCS := hide (fun (V : World) (h : Box3 V w.heap.size [.int .i64 k, .int .i64 b, .int .i64 x, .int .i64 t, .int .i64 l] [.string sec, .string rnd, .string pub] [.int .i64 p0, .int .i64 p1, .int .i64 0, .int .i64 0]) => (⟨h.s.cell 0, h.s.cell 1, h.s.cell 2, h.s.cell 3, h.s.cell 4, h.u.cell 0, h.u.cell 1, h.u.cell 2, h.p.cell 0, h.p.cell 1, h.p.cell 2, h.p.cell 3⟩ : V.cell? ⟨w.heap.size, 0, none⟩ = some (.int .i64 k) ∧ V.cell? ⟨w.heap.size, 1, none⟩ = some (.int .i64 b) ∧ V.cell? ⟨w.heap.size, 2, none⟩ = some (.int .i64 x) ∧ V.cell? ⟨w.heap.size, 3, none⟩ = some (.int .i64 t) ∧ V.cell? ⟨w.heap.size, 4, none⟩ = some (.int .i64 l) ∧ V.cell? ⟨w.heap.size + 1, 0, none⟩ = some (.string sec) ∧ V.cell? ⟨w.heap.size + 1, 1, none⟩ = some (.string rnd) ∧ V.cell? ⟨w.heap.size + 1, 2, none⟩ = some (.string pub) ∧ V.cell? ⟨w.heap.size + 1 + 1, 0, none⟩ = some (.int .i64 p0) ∧ V.cell? ⟨w.heap.size + 1 + 1, 1, none⟩ = some (.int .i64 p1) ∧ V.cell? ⟨w.heap.size + 1 + 1, 2, none⟩ = some (.int .i64 0) ∧ V.cell? ⟨w.heap.size + 1 + 1, 3, none⟩ = some (.int .i64 0)))
  have HWE := hide hW
  have HC := hide hC
  have HV := hide hV
  have HI := hide hI
  have HG := hide hG
  clear hW hC hV hI hG
  go_enter Tryz.func109, Tryz.ntmps109
  go_wp2_with fail
  rw [HWE.out]
  clear HWE
  obtain ⟨c0, c1, c2, c3, c4, s0, s1, s2, d0, d1, d2, d3⟩ := HCS.out _ HX0.out
  refine (HC.out _).mono ?_
  rintro e w1 ⟨rfl, hb⟩
  have HX1 := hide (HX0.out.on hb)
  have HB1 := hide (heldB HB0.out hb (Nat.le_refl _))
  clear hb HX0 HB0 c0 c1 c2 c3 c4 s0 s1 s2 d0 d1 d2 d3
  obtain ⟨c0, c1, c2, c3, c4, s0, s1, s2, d0, d1, d2, d3⟩ := HCS.out _ HX1.out
  go_wp2_with fail
  refine (HV.out _).mono ?_
  rintro e w2 ⟨rfl, hb⟩
  have HX2 := hide (HX1.out.on hb)
  have HB2 := hide (heldB HB1.out hb (Nat.le_refl _))
  clear hb HX1 HB1 c0 c1 c2 c3 c4 s0 s1 s2 d0 d1 d2 d3
  obtain ⟨c0, c1, c2, c3, c4, s0, s1, s2, d0, d1, d2, d3⟩ := HCS.out _ HX2.out
  go_wp2_with fail
  refine (HI.out _).mono ?_
  rintro e w3 ⟨rfl, hb⟩
  have HX3 := hide (HX2.out.on hb)
  have HB3 := hide (heldB HB2.out hb (Nat.le_refl _))
  clear hb HX2 HB2 c0 c1 c2 c3 c4 s0 s1 s2 d0 d1 d2 d3
  obtain ⟨c0, c1, c2, c3, c4, s0, s1, s2, d0, d1, d2, d3⟩ := HCS.out _ HX3.out
  go_wp2_with fail
  refine (HG.out _).mono ?_
  rintro e w4 ⟨ra, rc, vs, rfl, hg, hb⟩
  have HX4 := hide (HX3.out.on hb)
  have HB4 := hide (heldB HB3.out hb (Nat.le_refl _))
  have HG4 := hide (hg.low' HB3.out.size)
  clear hb hg HX3 HB3 c0 c1 c2 c3 c4 s0 s1 s2 d0 d1 d2 d3
  have s3 : ∀ o, (w4.alloc o).cell? ⟨w.heap.size, 3, none⟩ = some (.int .i64 t) := fun o => (HX4.out.s.alloc o).cell 3
  have HZ4 := hide HX4.out.p.lt
  go_wp2_with fail
  go_ret2
  have A1 : Below w4.heap.size w4 (w4.alloc (.cells #[.int .i64 p0, .int .i64 p1, .int .i64 0, .int .i64 0, .slice ra (t + 1) rc] 246)) := (Below.refl _ _).alloc (Nat.le_refl _) _
  have A2 : Below w4.heap.size w4 ((w4.alloc (.cells #[.int .i64 p0, .int .i64 p1, .int .i64 0, .int .i64 0, .slice ra (t + 1) rc] 246)).alloc (.cells #[.int .i64 p0, .int .i64 p1, .int .i64 0, .int .i64 0, .slice ra (t + 1) rc, .int .i64 0, .int .i64 t] 249)) := A1.alloc (by simp) _
  have hB := Blk.new (w4.alloc (.cells #[.int .i64 p0, .int .i64 p1, .int .i64 0, .int .i64 0, .slice ra (t + 1) rc] 246)) [.int .i64 p0, .int .i64 p1, .int .i64 0, .int .i64 0, .slice ra (t + 1) rc, .int .i64 0, .int .i64 t] 249
  rw [World.size_alloc] at hB
  have hz4 := HZ4.out
  first
    | exact ⟨_, _, _, vs, rfl, hB, HG4.out.on A2, by omega, HB4.out.trans (A2.mono HB4.out.size)⟩
    | exact ⟨_, _, _, rfl, hB, ⟨vs, HG4.out.on A2⟩, by omega, HB4.out.trans (A2.mono HB4.out.size)⟩
end Go.Proofs.YtgaoeoijdpdjiaaGreatDoor
