/-
  The program's New: seeds that are wrong. The statement Grown itself, its calls' answers being given.
-/
import Derived.Test.YtgaoeoijdpdjiaaDoorPart31
import Derived.Test.YtgaoeoijdpdjiaaDoorPart29
namespace Go.Proofs.YtgaoeoijdpdjiaaDoor
open Go.RowKit

set_option maxRecDepth 20000 in
set_option maxHeartbeats 8000000 in
theorem new_see (k b x t l a0 a1 ch a3 a4 a5 : Int) (sec rnd pub : ByteArray) (p0 p1 p2 p3 : Int) (w : World) (hC : ∀ V : World, Calls Tryd.prog 57 #[.agg #[.int .i64 k, .int .i64 b, .int .i64 x, .int .i64 t, .int .i64 l]] V fun e w' => e = .returned (.tuple #[.agg #[.int .i64 a0, .int .i64 a1, .int .i64 ch, .int .i64 a3, .int .i64 a4, .int .i64 a5], .int .i64 0]) ∧ Below V.heap.size V w') (hV : ∀ V : World, Calls Tryd.prog 96 #[.agg #[.int .i64 k, .int .i64 b, .int .i64 x, .int .i64 t, .int .i64 l], .agg #[.string sec, .string rnd, .string pub]] V fun e w' => e = .returned (.bool false) ∧ Below V.heap.size V w') :
    Calls Tryd.prog 71 #[.agg #[.int .i64 k, .int .i64 b, .int .i64 x, .int .i64 t, .int .i64 l], .agg #[.string sec, .string rnd, .string pub], .agg #[.int .i64 p0, .int .i64 p1, .int .i64 p2, .int .i64 p3]] w fun e w' => e = .returned (.tuple #[.agg #[.int .i64 0, .int .i64 0, .int .i64 0, .int .i64 0, .int .i64 0, .string ⟨#[]⟩, .string ⟨#[]⟩, .string ⟨#[]⟩, .int .i64 0, .int .i64 0, .int .i64 0, .int .i64 0, .int .i64 0], .int .i64 2]) ∧ Below w.heap.size w w' := by
  obtain ⟨W0, hW⟩ : ∃ W0, (((w.alloc (.cells #[.int .i64 k, .int .i64 b, .int .i64 x, .int .i64 t, .int .i64 l] 25)).alloc (.cells #[.string sec, .string rnd, .string pub] 33)).alloc (.cells #[.int .i64 p0, .int .i64 p1, .int .i64 p2, .int .i64 p3] 27)).alloc (.cells #[.int .i64 0, .int .i64 0, .int .i64 0, .int .i64 0, .int .i64 0, .string ⟨#[]⟩, .string ⟨#[]⟩, .string ⟨#[]⟩, .int .i64 0, .int .i64 0, .int .i64 0, .int .i64 0, .int .i64 0] 95) = W0 := ⟨_, rfl⟩
  have HF := hide (show FiveC w.heap.size W0 k b x t l by subst hW; refine ⟨?_, ?_, ?_, ?_, ?_⟩ <;> simp [go_sem])
  have HSE := hide (show W0.cell? ⟨w.heap.size + 1, 0, none⟩ = some (.string sec) ∧ W0.cell? ⟨w.heap.size + 1, 1, none⟩ = some (.string rnd) ∧ W0.cell? ⟨w.heap.size + 1, 2, none⟩ = some (.string pub) by subst hW; refine ⟨?_, ?_, ?_⟩ <;> simp [go_sem])
  have HP := hide (show FourC (w.heap.size + 1 + 1) W0 p0 p1 p2 p3 by subst hW; refine ⟨?_, ?_, ?_, ?_⟩ <;> simp [go_sem])
  have HB := hide (show Below w.heap.size w W0 by subst hW; exact ((((Below.refl _ _).alloc (Nat.le_refl _) _).alloc (by simp) _).alloc (by simp; omega) _).alloc (by simp; omega) _)
  have hz : W0.heap.size ≤ w.heap.size + 4 := by subst hW; simp
  have hz' : w.heap.size + 4 ≤ W0.heap.size := by subst hW; simp
  have HBK := hide (show Blk W0 (w.heap.size + 1 + 1 + 1) [.int .i64 0, .int .i64 0, .int .i64 0, .int .i64 0, .int .i64 0, .string ⟨#[]⟩, .string ⟨#[]⟩, .string ⟨#[]⟩, .int .i64 0, .int .i64 0, .int .i64 0, .int .i64 0, .int .i64 0] 95 by
    subst hW
    have h := Blk.new (((w.alloc (.cells #[.int .i64 k, .int .i64 b, .int .i64 x, .int .i64 t, .int .i64 l] 25)).alloc (.cells #[.string sec, .string rnd, .string pub] 33)).alloc (.cells #[.int .i64 p0, .int .i64 p1, .int .i64 p2, .int .i64 p3] 27)) [.int .i64 0, .int .i64 0, .int .i64 0, .int .i64 0, .int .i64 0, .string ⟨#[]⟩, .string ⟨#[]⟩, .string ⟨#[]⟩, .int .i64 0, .int .i64 0, .int .i64 0, .int .i64 0, .int .i64 0] 95
    simp only [World.size_alloc] at h
    exact h)
  have HS := hide (fun (V : World) (h : Below W0.heap.size W0 V) => (by
    obtain ⟨c0, c1, c2, c3, c4⟩ := HF.out.below h (by omega)
    obtain ⟨d0, d1, d2, d3⟩ := HP.out.below h (by omega)
    exact ⟨c0, c1, c2, c3, c4, (h.cell (p := ⟨w.heap.size + 1, 0, none⟩) (by show w.heap.size + 1 < _; omega)).trans HSE.out.1, (h.cell (p := ⟨w.heap.size + 1, 1, none⟩) (by show w.heap.size + 1 < _; omega)).trans HSE.out.2.1, (h.cell (p := ⟨w.heap.size + 1, 2, none⟩) (by show w.heap.size + 1 < _; omega)).trans HSE.out.2.2, d0, d1, d2, d3⟩ : V.cell? ⟨w.heap.size, 0, none⟩ = some (.int .i64 k) ∧ V.cell? ⟨w.heap.size, 1, none⟩ = some (.int .i64 b) ∧ V.cell? ⟨w.heap.size, 2, none⟩ = some (.int .i64 x) ∧ V.cell? ⟨w.heap.size, 3, none⟩ = some (.int .i64 t) ∧ V.cell? ⟨w.heap.size, 4, none⟩ = some (.int .i64 l) ∧ V.cell? ⟨w.heap.size + 1, 0, none⟩ = some (.string sec) ∧ V.cell? ⟨w.heap.size + 1, 1, none⟩ = some (.string rnd) ∧ V.cell? ⟨w.heap.size + 1, 2, none⟩ = some (.string pub) ∧ V.cell? ⟨w.heap.size + 1 + 1, 0, none⟩ = some (.int .i64 p0) ∧ V.cell? ⟨w.heap.size + 1 + 1, 1, none⟩ = some (.int .i64 p1) ∧ V.cell? ⟨w.heap.size + 1 + 1, 2, none⟩ = some (.int .i64 p2) ∧ V.cell? ⟨w.heap.size + 1 + 1, 3, none⟩ = some (.int .i64 p3)))
  obtain ⟨c0, c1, c2, c3, c4, f0, f1, f2, d0, d1, d2, d3⟩ := HS.out W0 (Below.refl _ _)
  have HC := hide hC
  have HV := hide hV
  clear hC hV
  go_enter Tryd.func71, Tryd.ntmps71
  go_wp2_with fail
  try rw [hW]
  refine (HC.out _).mono ?_
  rintro e w1 ⟨rfl, hb1⟩
  have HB1 := hide (hb1.alloc hb1.size (.cells #[.int .i64 a0, .int .i64 a1, .int .i64 ch, .int .i64 a3, .int .i64 a4, .int .i64 a5] 68))
  have hzz := hb1.size
  have HZ := hide (Blk.new w1 [.int .i64 a0, .int .i64 a1, .int .i64 ch, .int .i64 a3, .int .i64 a4, .int .i64 a5] 68)
  clear hb1 c0 c1 c2 c3 c4 f0 f1 f2 d0 d1 d2 d3 hW
  obtain ⟨c0, c1, c2, c3, c4, f0, f1, f2, d0, d1, d2, d3⟩ := HS.out (w1.alloc (.cells #[.int .i64 a0, .int .i64 a1, .int .i64 ch, .int .i64 a3, .int .i64 a4, .int .i64 a5] 68)) HB1.out
  go_wp2_with fail
  refine (HV.out _).mono ?_
  rintro e w2 ⟨rfl, hb2⟩
  have HB2 := hide (heldB HB1.out hb2 (Nat.le_refl _))
  have HZ2 := hide (HZ.out.on hb2)
  clear hb2 c0 c1 c2 c3 c4 f0 f1 f2 d0 d1 d2 d3
  have bk := hide (HBK.out.below HB2.out (by omega))
  have y0 := bk.out.cell 0
  have y1 := bk.out.cell 1
  have y2 := bk.out.cell 2
  have y3 := bk.out.cell 3
  have y4 := bk.out.cell 4
  have y5 := bk.out.cell 5
  have y6 := bk.out.cell 6
  have y7 := bk.out.cell 7
  have y8 := bk.out.cell 8
  have y9 := bk.out.cell 9
  have y10 := bk.out.cell 10
  have y11 := bk.out.cell 11
  have y12 := bk.out.cell 12
  have fz := bk.out.free
  simp only [List.getElem?_cons_zero, List.getElem?_cons_succ] at y0 y1 y2 y3 y4 y5 y6 y7 y8 y9 y10 y11 y12
  have HBL := hide (HB.out.trans (HB2.out.mono (by omega)))
  clear bk
  go_wp2
  refine bodyPost_ret (v := .tuple #[.agg #[.int .i64 0, .int .i64 0, .int .i64 0, .int .i64 0, .int .i64 0, .string ⟨#[]⟩, .string ⟨#[]⟩, .string ⟨#[]⟩, .int .i64 0, .int .i64 0, .int .i64 0, .int .i64 0, .int .i64 0], .int .i64 2]) (by simp [results, Tryd.results71, go_sem, y0, y1, y2, y3, y4, y5, y6, y7, y8, y9, y10, y11, y12]) rfl ⟨rfl, ?_⟩
  iterate 13 refine Below.setCell ?_ (show w.heap.size ≤ _ by simp <;> omega) _
  exact HBL.out

end Go.Proofs.YtgaoeoijdpdjiaaDoor

namespace Go.Proofs.YtgaoeoijdpdjiaaDoor
open Go.RowKit

theorem blk5 {V : World} {g : Nat} {T : TypeId} {u0 u1 u2 u3 u4 : Value} (h : Blk V g [u0, u1, u2, u3, u4] T) (v0 v1 v2 v3 v4 : Value) : Blk (((((V.setCell ⟨g, 0, none⟩ v0).setCell ⟨g, 1, none⟩ v1).setCell ⟨g, 2, none⟩ v2).setCell ⟨g, 3, none⟩ v3).setCell ⟨g, 4, none⟩ v4) g [v0, v1, v2, v3, v4] T :=
  ((((h.set 0 v0).set 1 v1).set 2 v2).set 3 v3).set 4 v4
theorem blk4 {V : World} {g : Nat} {T : TypeId} {u0 u1 u2 u3 : Value} (h : Blk V g [u0, u1, u2, u3] T) (v0 v1 v2 v3 : Value) : Blk ((((V.setCell ⟨g, 0, none⟩ v0).setCell ⟨g, 1, none⟩ v1).setCell ⟨g, 2, none⟩ v2).setCell ⟨g, 3, none⟩ v3) g [v0, v1, v2, v3] T :=
  (((h.set 0 v0).set 1 v1).set 2 v2).set 3 v3
theorem blk3 {V : World} {g : Nat} {T : TypeId} {u0 u1 u2 : Value} (h : Blk V g [u0, u1, u2] T) (v0 v1 v2 : Value) : Blk (((V.setCell ⟨g, 0, none⟩ v0).setCell ⟨g, 1, none⟩ v1).setCell ⟨g, 2, none⟩ v2) g [v0, v1, v2] T :=
  ((h.set 0 v0).set 1 v1).set 2 v2

/-- The three boxes. -/
structure Box3 (w : World) (B : Nat) (S U P : List Value) : Prop where
  s : Blk w B S 25
  u : Blk w (B + 1) U 33
  p : Blk w (B + 1 + 1) P 27
theorem Box3.on {w V : World} {B : Nat} {S U P : List Value} (h : Box3 w B S U P) (hb : Below w.heap.size w V) : Box3 V B S U P := ⟨h.s.on hb, h.u.on hb, h.p.on hb⟩

set_option maxRecDepth 20000 in
set_option maxHeartbeats 8000000 in
theorem grown_on (k0 b0 x0 t0 l0 a0 a1 a2 a3 pi qi ri : Int) (u0 u1 u2 xs : ByteArray) (k b x t l p0 p1 p2 p3 p q r q' r' : Int) (sec rnd pub y : ByteArray) (w : World) (hT : Tn w) (hx1 : 1 ≤ x) (hx2 : x ≤ 16) (hp1 : 0 ≤ p) (hp2 : p < x) (hq1 : 0 ≤ q') (hq2 : p + q' < x) (hr1 : 0 ≤ r') (hr2 : q + r' < x) (hq : p + q' = q) (hr : q + r' = r)
    (hF : ∀ V : World, Calls Tryd.prog 10 #[.agg #[.int .i64 k0, .int .i64 b0, .int .i64 x0, .int .i64 t0, .int .i64 l0]] V fun e w' => e = .returned (.agg #[.int .i64 k, .int .i64 b, .int .i64 x, .int .i64 t, .int .i64 l]) ∧ Below V.heap.size V w')
    (hSo : ∀ V : World, Calls Tryd.prog 11 #[.agg #[.int .i64 k, .int .i64 b, .int .i64 x, .int .i64 t, .int .i64 l], .agg #[.string u0, .string u1, .string u2]] V fun e w' => e = .returned (.agg #[.string sec, .string rnd, .string pub]) ∧ Below V.heap.size V w')
    (hPl : ∀ V : World, Calls Tryd.prog 12 #[.agg #[.int .i64 k, .int .i64 b, .int .i64 x, .int .i64 t, .int .i64 l], .agg #[.int .i64 a0, .int .i64 a1, .int .i64 a2, .int .i64 a3]] V fun e w' => e = .returned (.agg #[.int .i64 p0, .int .i64 p1, .int .i64 p2, .int .i64 p3]) ∧ Below V.heap.size V w')
    (hKn : ∀ V : World, Tn V → Calls Tryd.prog 13 #[] V fun e w' => e = .returned (.bool true) ∧ Below V.heap.size V w')
    (hA : ∀ V : World, Calls Tryd.prog 14 #[.int .i64 pi, .int .i64 x] V fun e w' => e = .returned (.int .i64 p) ∧ w' = V)
    (hB : ∀ V : World, Calls Tryd.prog 14 #[.int .i64 qi, .int .i64 (x - p)] V fun e w' => e = .returned (.int .i64 q') ∧ w' = V)
    (hC : ∀ V : World, Calls Tryd.prog 14 #[.int .i64 ri, .int .i64 (x - q)] V fun e w' => e = .returned (.int .i64 r') ∧ w' = V)
    (hSm : ∀ V : World, Calls Tryd.prog 16 #[.string xs, .int .i64 b] V fun e w' => e = .returned (.string y) ∧ Below V.heap.size V w')
    (hOn : ∀ V : World, Tn V → Calls Tryd.prog 15 #[.agg #[.int .i64 k, .int .i64 b, .int .i64 x, .int .i64 t, .int .i64 l], .string pub, .agg #[.int .i64 p0, .int .i64 p1, .int .i64 p2, .int .i64 p3], .int .i64 p, .int .i64 q, .int .i64 r, .string y] V fun e w' => e = .returned (.bool true) ∧ Below V.heap.size V w')
    (hNo : ∀ V : World, Tn V → Calls Tryd.prog 17 #[.agg #[.int .i64 k, .int .i64 b, .int .i64 x, .int .i64 t, .int .i64 l], .agg #[.string sec, .string rnd, .string pub], .agg #[.int .i64 p0, .int .i64 p1, .int .i64 p2, .int .i64 p3]] V fun e w' => e = .returned (.bool true) ∧ Below V.heap.size V w') :
    Calls Tryd.prog 5 #[.agg #[.int .i64 k0, .int .i64 b0, .int .i64 x0, .int .i64 t0, .int .i64 l0], .agg #[.string u0, .string u1, .string u2], .agg #[.int .i64 a0, .int .i64 a1, .int .i64 a2, .int .i64 a3], .int .i64 pi, .int .i64 qi, .int .i64 ri, .string xs] w fun e w' => e = .returned (.bool true) ∧ Below w.heap.size w w' := by
  have HFI := hide hF
  have HSO := hide hSo
  have HPL := hide hPl
  have HKN := hide hKn
  have HPA := hide hA
  have HPB := hide hB
  have HPC := hide hC
  have HSM := hide hSm
  have HON := hide hOn
  have HNO := hide hNo
  have HQ := hide hq
  have HR := hide hr
  clear hF hSo hPl hKn hA hB hC hSm hOn hNo
  have hq0 : 0 ≤ q := by omega
  have hqx : q < x := by omega
  have hwq : IntKind.i64.wrap (p + q') = q := by rw [IntKind.wrap_i64] <;> omega
  have hwr : IntKind.i64.wrap (q + r') = r := by rw [IntKind.wrap_i64] <;> omega
  have hvq : IntKind.i64.wrap (x - p) = x - p := by rw [IntKind.wrap_i64] <;> omega
  have hvr : IntKind.i64.wrap (x - q) = x - q := by rw [IntKind.wrap_i64] <;> omega
  clear hq hr
  obtain ⟨W0, hW⟩ : ∃ W0, ((w.alloc (.cells #[.int .i64 k0, .int .i64 b0, .int .i64 x0, .int .i64 t0, .int .i64 l0] 25)).alloc (.cells #[.string u0, .string u1, .string u2] 33)).alloc (.cells #[.int .i64 a0, .int .i64 a1, .int .i64 a2, .int .i64 a3] 27) = W0 := ⟨_, rfl⟩
  have HX0 := hide (show Box3 W0 w.heap.size [.int .i64 k0, .int .i64 b0, .int .i64 x0, .int .i64 t0, .int .i64 l0] [.string u0, .string u1, .string u2] [.int .i64 a0, .int .i64 a1, .int .i64 a2, .int .i64 a3] by
    subst hW
    refine ⟨?_, ?_, ?_⟩
    · exact ((Blk.new w _ _).alloc _).alloc _
    · have h := (Blk.new (w.alloc (.cells #[.int .i64 k0, .int .i64 b0, .int .i64 x0, .int .i64 t0, .int .i64 l0] 25)) [.string u0, .string u1, .string u2] 33).alloc (.cells #[.int .i64 a0, .int .i64 a1, .int .i64 a2, .int .i64 a3] 27)
      simp only [World.size_alloc] at h
      exact h
    · have h := Blk.new ((w.alloc (.cells #[.int .i64 k0, .int .i64 b0, .int .i64 x0, .int .i64 t0, .int .i64 l0] 25)).alloc (.cells #[.string u0, .string u1, .string u2] 33)) [.int .i64 a0, .int .i64 a1, .int .i64 a2, .int .i64 a3] 27
      simp only [World.size_alloc] at h
      exact h)
  have HB0 := hide (show Below w.heap.size w W0 by subst hW; exact (((Below.refl _ _).alloc (Nat.le_refl _) _).alloc (by simp) _).alloc (by simp; omega) _)
  have HTN := hide (fun (V : World) (h : Below w.heap.size w V) => hT.on h)
  clear hT
  have HWE := hide hW
  clear hW
  go_enter Tryd.func5, Tryd.ntmps5
  go_wp2_with fail
  rw [HWE.out]
  clear HWE
  refine (HFI.out W0).mono ?_
  rintro e w1 ⟨rfl, hb1⟩
  have HX1 := hide (HX0.out.on hb1)
  have HB1 := hide (heldB HB0.out hb1 (Nat.le_refl _))
  clear hb1 HX0 HB0
  have c0 := HX1.out.s.cell 0
  have c1 := HX1.out.s.cell 1
  have c2 := HX1.out.s.cell 2
  have c3 := HX1.out.s.cell 3
  have c4 := HX1.out.s.cell 4
  have f0 := HX1.out.s.free 0
  have f1 := HX1.out.s.free 1
  have f2 := HX1.out.s.free 2
  have f3 := HX1.out.s.free 3
  have f4 := HX1.out.s.free 4
  have s0 := HX1.out.u.cell 0
  have s1 := HX1.out.u.cell 1
  have s2 := HX1.out.u.cell 2
  simp only [List.getElem?_cons_zero, List.getElem?_cons_succ] at c0 c1 c2 c3 c4 s0 s1 s2
  obtain ⟨V1, HV1⟩ : ∃ V1, Hid ((((((w1.setCell ⟨w.heap.size, 0, none⟩ (.int .i64 k)).setCell ⟨w.heap.size, 1, none⟩ (.int .i64 b)).setCell ⟨w.heap.size, 2, none⟩ (.int .i64 x)).setCell ⟨w.heap.size, 3, none⟩ (.int .i64 t)).setCell ⟨w.heap.size, 4, none⟩ (.int .i64 l)) = V1) := ⟨_, rfl⟩
  go_wp2_with fail
  rw [HV1.out]
  have HY1 := hide (show Box3 V1 w.heap.size [.int .i64 k, .int .i64 b, .int .i64 x, .int .i64 t, .int .i64 l] [.string u0, .string u1, .string u2] [.int .i64 a0, .int .i64 a1, .int .i64 a2, .int .i64 a3] by
    rw [← HV1.out]
    exact ⟨blk5 HX1.out.s _ _ _ _ _, ((((HX1.out.u.other _ (by simp <;> omega)).other _ (by simp <;> omega)).other _ (by simp <;> omega)).other _ (by simp <;> omega)).other _ (by simp <;> omega), ((((HX1.out.p.other _ (by simp <;> omega)).other _ (by simp <;> omega)).other _ (by simp <;> omega)).other _ (by simp <;> omega)).other _ (by simp <;> omega)⟩)
  have HZ1 := hide (show Below w.heap.size w V1 by
    rw [← HV1.out]
    have h := HB1.out
    iterate 5 refine Below.setCell ?_ (by simp <;> omega) _
    exact h)
  clear HV1 HX1 HB1 c0 c1 c2 c3 c4 f0 f1 f2 f3 f4 s0 s1 s2
  refine (HSO.out V1).mono ?_
  rintro e w2 ⟨rfl, hb2⟩
  have HX2 := hide (HY1.out.on hb2)
  have HB2 := hide (heldB HZ1.out hb2 (Nat.le_refl _))
  clear hb2 HY1 HZ1
  have c0 := HX2.out.s.cell 0
  have c1 := HX2.out.s.cell 1
  have c2 := HX2.out.s.cell 2
  have c3 := HX2.out.s.cell 3
  have c4 := HX2.out.s.cell 4
  have s0 := HX2.out.u.cell 0
  have s1 := HX2.out.u.cell 1
  have s2 := HX2.out.u.cell 2
  have f0 := HX2.out.u.free 0
  have f1 := HX2.out.u.free 1
  have f2 := HX2.out.u.free 2
  have d0 := HX2.out.p.cell 0
  have d1 := HX2.out.p.cell 1
  have d2 := HX2.out.p.cell 2
  have d3 := HX2.out.p.cell 3
  simp only [List.getElem?_cons_zero, List.getElem?_cons_succ] at c0 c1 c2 c3 c4 s0 s1 s2 d0 d1 d2 d3
  obtain ⟨V2, HV2⟩ : ∃ V2, Hid ((((w2.setCell ⟨w.heap.size + 1, 0, none⟩ (.string sec)).setCell ⟨w.heap.size + 1, 1, none⟩ (.string rnd)).setCell ⟨w.heap.size + 1, 2, none⟩ (.string pub)) = V2) := ⟨_, rfl⟩
  go_wp2_with fail
  rw [HV2.out]
  have HY2 := hide (show Box3 V2 w.heap.size [.int .i64 k, .int .i64 b, .int .i64 x, .int .i64 t, .int .i64 l] [.string sec, .string rnd, .string pub] [.int .i64 a0, .int .i64 a1, .int .i64 a2, .int .i64 a3] by
    rw [← HV2.out]
    exact ⟨((HX2.out.s.other _ (by simp <;> omega)).other _ (by simp <;> omega)).other _ (by simp <;> omega), blk3 HX2.out.u _ _ _, ((HX2.out.p.other _ (by simp <;> omega)).other _ (by simp <;> omega)).other _ (by simp <;> omega)⟩)
  have HZ2 := hide (show Below w.heap.size w V2 by
    rw [← HV2.out]
    have h := HB2.out
    iterate 3 refine Below.setCell ?_ (by simp <;> omega) _
    exact h)
  clear HV2 HX2 HB2 c0 c1 c2 c3 c4 f0 f1 f2 s0 s1 s2 d0 d1 d2 d3
  refine (HPL.out V2).mono ?_
  rintro e w3 ⟨rfl, hb3⟩
  have HX3 := hide (HY2.out.on hb3)
  have HB3 := hide (heldB HZ2.out hb3 (Nat.le_refl _))
  clear hb3 HY2 HZ2
  have f0 := HX3.out.p.free 0
  have f1 := HX3.out.p.free 1
  have f2 := HX3.out.p.free 2
  have f3 := HX3.out.p.free 3
  have d0 := HX3.out.p.cell 0
  have d1 := HX3.out.p.cell 1
  have d2 := HX3.out.p.cell 2
  have d3 := HX3.out.p.cell 3
  simp only [List.getElem?_cons_zero, List.getElem?_cons_succ] at d0 d1 d2 d3
  obtain ⟨V3, HV3⟩ : ∃ V3, Hid (((((w3.setCell ⟨w.heap.size + 1 + 1, 0, none⟩ (.int .i64 p0)).setCell ⟨w.heap.size + 1 + 1, 1, none⟩ (.int .i64 p1)).setCell ⟨w.heap.size + 1 + 1, 2, none⟩ (.int .i64 p2)).setCell ⟨w.heap.size + 1 + 1, 3, none⟩ (.int .i64 p3)) = V3) := ⟨_, rfl⟩
  go_wp2_with fail
  rw [HV3.out]
  have HY3 := hide (show Box3 V3 w.heap.size [.int .i64 k, .int .i64 b, .int .i64 x, .int .i64 t, .int .i64 l] [.string sec, .string rnd, .string pub] [.int .i64 p0, .int .i64 p1, .int .i64 p2, .int .i64 p3] by
    rw [← HV3.out]
    exact ⟨(((HX3.out.s.other _ (by simp <;> omega)).other _ (by simp <;> omega)).other _ (by simp <;> omega)).other _ (by simp <;> omega), (((HX3.out.u.other _ (by simp <;> omega)).other _ (by simp <;> omega)).other _ (by simp <;> omega)).other _ (by simp <;> omega), blk4 HX3.out.p _ _ _ _⟩)
  have HZ3 := hide (show Below w.heap.size w V3 by
    rw [← HV3.out]
    have h := HB3.out
    iterate 4 refine Below.setCell ?_ (by simp <;> omega) _
    exact h)
  clear HV3 HX3 HB3 f0 f1 f2 f3 d0 d1 d2 d3
  refine (HKN.out V3 (HTN.out _ HZ3.out)).mono ?_
  rintro e w4 ⟨rfl, hb4⟩
  have HX4 := hide (HY3.out.on hb4)
  have HB4 := hide (heldB HZ3.out hb4 (Nat.le_refl _))
  clear hb4 HY3 HZ3
  have HS := hide (fun (V : World) (h : Below w4.heap.size w4 V) => (by
    have hx := HX4.out.on h
    exact ⟨hx.s.cell 0, hx.s.cell 1, hx.s.cell 2, hx.s.cell 3, hx.s.cell 4, hx.u.cell 0, hx.u.cell 1, hx.u.cell 2, hx.p.cell 0, hx.p.cell 1, hx.p.cell 2, hx.p.cell 3⟩ : V.cell? ⟨w.heap.size, 0, none⟩ = some (.int .i64 k) ∧ V.cell? ⟨w.heap.size, 1, none⟩ = some (.int .i64 b) ∧ V.cell? ⟨w.heap.size, 2, none⟩ = some (.int .i64 x) ∧ V.cell? ⟨w.heap.size, 3, none⟩ = some (.int .i64 t) ∧ V.cell? ⟨w.heap.size, 4, none⟩ = some (.int .i64 l) ∧ V.cell? ⟨w.heap.size + 1, 0, none⟩ = some (.string sec) ∧ V.cell? ⟨w.heap.size + 1, 1, none⟩ = some (.string rnd) ∧ V.cell? ⟨w.heap.size + 1, 2, none⟩ = some (.string pub) ∧ V.cell? ⟨w.heap.size + 1 + 1, 0, none⟩ = some (.int .i64 p0) ∧ V.cell? ⟨w.heap.size + 1 + 1, 1, none⟩ = some (.int .i64 p1) ∧ V.cell? ⟨w.heap.size + 1 + 1, 2, none⟩ = some (.int .i64 p2) ∧ V.cell? ⟨w.heap.size + 1 + 1, 3, none⟩ = some (.int .i64 p3)))
  obtain ⟨c0, c1, c2, c3, c4, s0, s1, s2, d0, d1, d2, d3⟩ := HS.out w4 (Below.refl _ _)
  go_wp2_with fail
  refine (HPA.out _).mono ?_
  rintro e w5 ⟨rfl, hw⟩
  obtain rfl := hw.symm
  clear hw
  go_wp2_with fail
  refine (HPB.out _).mono ?_
  rintro e w5 ⟨rfl, hw⟩
  obtain rfl := hw.symm
  clear hw
  go_wp2_with fail
  refine (HPC.out _).mono ?_
  rintro e w5 ⟨rfl, hw⟩
  obtain rfl := hw.symm
  clear hw
  go_wp2_with fail
  clear c0 c1 c2 c3 c4 s0 s1 s2 d0 d1 d2 d3
  go_region_held3 (fun V => V.cell? ⟨w.heap.size, 0, none⟩ = some (.int .i64 k) ∧ V.cell? ⟨w.heap.size, 1, none⟩ = some (.int .i64 b) ∧ V.cell? ⟨w.heap.size, 2, none⟩ = some (.int .i64 x) ∧ V.cell? ⟨w.heap.size, 3, none⟩ = some (.int .i64 t) ∧ V.cell? ⟨w.heap.size, 4, none⟩ = some (.int .i64 l) ∧ V.cell? ⟨w.heap.size + 1, 0, none⟩ = some (.string sec) ∧ V.cell? ⟨w.heap.size + 1, 1, none⟩ = some (.string rnd) ∧ V.cell? ⟨w.heap.size + 1, 2, none⟩ = some (.string pub) ∧ V.cell? ⟨w.heap.size + 1 + 1, 0, none⟩ = some (.int .i64 p0) ∧ V.cell? ⟨w.heap.size + 1 + 1, 1, none⟩ = some (.int .i64 p1) ∧ V.cell? ⟨w.heap.size + 1 + 1, 2, none⟩ = some (.int .i64 p2) ∧ V.cell? ⟨w.heap.size + 1 + 1, 3, none⟩ = some (.int .i64 p3)) (first | exact HS.out _ hS2 | exact HS.out _ hS1 | exact HS.out _ (Below.refl w4.heap.size w4).drew) (first | (go_at_call 16; refine (HSM.out _).mono ?_; rintro e w6 ⟨rfl, hb6⟩; have hS1 := heldB (Below.refl w4.heap.size w4).drew hb6 (Nat.le_refl _)) | (go_at_call 15; refine (HON.out _ (HTN.out _ (HB4.out.trans (hS1.mono HB4.out.size)))).mono ?_; rintro e w7 ⟨rfl, hb7⟩; have hS2 := heldB hS1 hb7 (Nat.le_refl _)))
  have HB7 := hide hS2
  clear hS1 hS2 hb6 hb7
  obtain ⟨c0, c1, c2, c3, c4, s0, s1, s2, d0, d1, d2, d3⟩ := HS.out _ HB7.out
  have HBW := hide (HB4.out.trans (HB7.out.mono HB4.out.size))
  go_wp2_with fail
  refine (HNO.out _ (HTN.out _ HBW.out)).mono ?_
  rintro e w8 ⟨rfl, hb8⟩
  have HB8 := hide (HBW.out.trans (hb8.mono HBW.out.size))
  clear hb8 c0 c1 c2 c3 c4 s0 s1 s2 d0 d1 d2 d3
  go_wp2
  go_ret
  exact ⟨rfl, HB8.out⟩
end Go.Proofs.YtgaoeoijdpdjiaaDoor
