/-
  The statement Climbs itself, its calls' answers being given.
-/
import Derived.Test.YtgaoeoijdpdjiaaGreatDoorPart48
import Derived.Test.YtgaoeoijdpdjiaaGreatDoorPart30
namespace Go.Proofs.YtgaoeoijdpdjiaaGreatDoor
open Go.RowKit
set_option maxRecDepth 20000 in
set_option maxHeartbeats 8000000 in
theorem climbs_on (k0 b0 x0 t0 l0 a0 a1 a2 a3 aq : Int) (u0 u1 u2 : ByteArray) (k b x l p0 p1 p2 p3 ak : Int) (t n : Nat) (sec rnd pub rt : ByteArray) (tr : Value) (tv : Nat → Nat → ByteArray) (w : World) (hT : Tn w) (hn : 2 ^ t = n) (h1n : 1 ≤ n) (hn16 : n ≤ 16) (hrt : (rt.size : Int) = b)
    (hF : ∀ V : World, Calls Tryz.prog 11 #[.agg #[.int .i64 k0, .int .i64 b0, .int .i64 x0, .int .i64 t0, .int .i64 l0]] V fun e w' => e = .returned (.agg #[.int .i64 k, .int .i64 b, .int .i64 x, .int .i64 t, .int .i64 l]) ∧ Below V.heap.size V w')
    (hSo : ∀ V : World, Calls Tryz.prog 12 #[.agg #[.int .i64 k, .int .i64 b, .int .i64 x, .int .i64 t, .int .i64 l], .agg #[.string u0, .string u1, .string u2]] V fun e w' => e = .returned (.agg #[.string sec, .string rnd, .string pub]) ∧ Below V.heap.size V w')
    (hPl : ∀ V : World, Calls Tryz.prog 14 #[.agg #[.int .i64 k, .int .i64 b, .int .i64 x, .int .i64 t, .int .i64 l], .agg #[.int .i64 a0, .int .i64 a1, .int .i64 a2, .int .i64 a3]] V fun e w' => e = .returned (.agg #[.int .i64 p0, .int .i64 p1, .int .i64 p2, .int .i64 p3]) ∧ Below V.heap.size V w')
    (hBr : ∀ V : World, Calls Tryz.prog 13 #[.agg #[.int .i64 p0, .int .i64 p1, .int .i64 p2, .int .i64 p3]] V fun e w' => e = .returned (.agg #[.int .i64 p0, .int .i64 p1, .int .i64 0, .int .i64 0]) ∧ Below V.heap.size V w')
    (hLv : ∀ V : World, Calls Tryz.prog 16 #[.agg #[.int .i64 k, .int .i64 b, .int .i64 x, .int .i64 t, .int .i64 l]] V fun e w' => e = .returned (.int .i64 (n : Int)) ∧ Below V.heap.size V w')
    (hPk : ∀ V : World, Calls Tryz.prog 15 #[.int .i64 aq, .int .i64 (n : Int)] V fun e w' => e = .returned (.int .i64 ak) ∧ w' = V)
    (hKn : ∀ V : World, Tn V → Calls Tryz.prog 17 #[] V fun e w' => e = .returned (.bool true) ∧ Below V.heap.size V w')
    (hNw : ∀ V : World, Tn V → Calls Tryz.prog 18 #[.agg #[.int .i64 k, .int .i64 b, .int .i64 x, .int .i64 t, .int .i64 l], .agg #[.string sec, .string rnd, .string pub], .agg #[.int .i64 p0, .int .i64 p1, .int .i64 0, .int .i64 0]] V fun e w' => ∃ X q, e = .returned (.tuple #[.pointer (some ⟨X, 0, none⟩), .int .i64 0]) ∧ Wl V.heap.size X q tr tv t 0 w' ∧ Below V.heap.size V w')
    (hNo : ∀ V : World, Tn V → Calls Tryz.prog 19 #[.agg #[.int .i64 k, .int .i64 b, .int .i64 x, .int .i64 t, .int .i64 l], .agg #[.string sec, .string rnd, .string pub], .agg #[.int .i64 p0, .int .i64 p1, .int .i64 0, .int .i64 0], .int .i64 t, .int .i64 0] V fun r w' => r = .returned (.tuple #[.string rt, .int .i64 0]) ∧ Below V.heap.size V w')
    (hCl : ∀ (i lo X : Nat) (q : Wk) (V : World), i < n → Tn V → Wl lo X q tr tv t i V → Calls Tryz.prog 20 #[.agg #[.int .i64 k, .int .i64 b, .int .i64 x, .int .i64 t, .int .i64 l], .agg #[.string sec, .string rnd, .string pub], .agg #[.int .i64 p0, .int .i64 p1, .int .i64 i, .int .i64 0], .pointer (some ⟨X, 0, none⟩), .string rt] V fun e w' => e = .returned (.bool true) ∧ Below V.heap.size V w')
    (hSt : ∀ (i lo X : Nat) (q : Wk) (V : World), i < n → Tn V → Wl lo X q tr tv t i V → Calls Tryz.prog 21 #[.agg #[.int .i64 k, .int .i64 b, .int .i64 x, .int .i64 t, .int .i64 l], .agg #[.string sec, .string rnd, .string pub], .agg #[.int .i64 p0, .int .i64 p1, .int .i64 i, .int .i64 0], .pointer (some ⟨X, 0, none⟩)] V fun e w' => e = .returned (.bool true) ∧ Below V.heap.size V w')
    (hDu : ∀ (i lo X : Nat) (q : Wk) (V : World), i + 1 < n → Wl lo X q tr tv t i V → Calls Tryz.prog 22 #[.agg #[.int .i64 k, .int .i64 b, .int .i64 x, .int .i64 t, .int .i64 l], .pointer (some ⟨X, 0, none⟩), .int .i64 (i : Int)] V fun e w' => ∃ m v, e = .returned (.tuple #[v, .bool true]) ∧ m ≤ t ∧ w'.ownsRow V.heap.size 9 1 v m (((List.range m).map (fun j => tv j (pnum (i + 1) j))).map .string) ∧ Below V.heap.size V w')
    (hNx : ∀ (i lo X : Nat) (q : Wk) (V : World), i + 1 < n → Tn V → w.heap.size ≤ lo → lo ≤ V.heap.size → Wl lo X q tr tv t i V → Calls Tryz.prog 23 #[.pointer (some ⟨X, 0, none⟩)] V fun e w' => e = .returned (.int .i64 0) ∧ ∃ q', Wl lo X q' tr tv t (i + 1) w' ∧ Kept q.foot V w')
    (hSp : ∀ (i lo X : Nat) (q : Wk) (V : World), i + 1 = n → Wl lo X q tr tv t i V → Calls Tryz.prog 23 #[.pointer (some ⟨X, 0, none⟩)] V fun e w' => e = .returned (.int .i64 10) ∧ Below V.heap.size V w')
    (hTk : ∀ (i lo X lo' m : Nat) (q : Wk) (v : Value) (V : World), Wl lo X q tr tv t i V → m ≤ t → V.ownsRow lo' 9 1 v m (((List.range m).map (fun j => tv j (pnum i j))).map .string) → Calls Tryz.prog 24 #[.pointer (some ⟨X, 0, none⟩), v] V fun e w' => e = .returned (.bool true) ∧ Below V.heap.size V w') :
    Calls Tryz.prog 5 #[.agg #[.int .i64 k0, .int .i64 b0, .int .i64 x0, .int .i64 t0, .int .i64 l0], .agg #[.string u0, .string u1, .string u2], .agg #[.int .i64 a0, .int .i64 a1, .int .i64 a2, .int .i64 a3], .int .i64 aq] w fun e w' => e = .returned (.bool true) ∧ Below w.heap.size w w' := by
  have HFI := hide hF
  have HSO := hide hSo
  have HPL := hide hPl
  have HBR := hide hBr
  have HLV := hide hLv
  have HPK := hide hPk
  have HKN := hide hKn
  have HNW := hide hNw
  have HNO := hide hNo
  have HCL := hide hCl
  have HST := hide hSt
  have HDU := hide hDu
  have HNX := hide hNx
  have HSP := hide hSp
  have HTK := hide hTk
  have HN2 := hide hn
  have ert : ((rt.size : Int) != b) = false := by simpa using hrt
  clear hF hSo hPl hBr hLv hPk hKn hNw hNo hCl hSt hDu hNx hSp hTk hn hrt
  obtain ⟨W0, hW⟩ : ∃ W0, ((w.alloc (.cells #[.int .i64 k0, .int .i64 b0, .int .i64 x0, .int .i64 t0, .int .i64 l0] 23)).alloc (.cells #[.string u0, .string u1, .string u2] 25)).alloc (.cells #[.int .i64 a0, .int .i64 a1, .int .i64 a2, .int .i64 a3] 27) = W0 := ⟨_, rfl⟩
  have HX0 := hide (show Box3 W0 w.heap.size [.int .i64 k0, .int .i64 b0, .int .i64 x0, .int .i64 t0, .int .i64 l0] [.string u0, .string u1, .string u2] [.int .i64 a0, .int .i64 a1, .int .i64 a2, .int .i64 a3] by
    subst hW
    refine ⟨?_, ?_, ?_⟩
    · exact ((Blk.new w _ _).alloc _).alloc _
    · have h := (Blk.new (w.alloc (.cells #[.int .i64 k0, .int .i64 b0, .int .i64 x0, .int .i64 t0, .int .i64 l0] 23)) [.string u0, .string u1, .string u2] 25).alloc (.cells #[.int .i64 a0, .int .i64 a1, .int .i64 a2, .int .i64 a3] 27)
      simp only [World.size_alloc] at h
      exact h
    · have h := Blk.new ((w.alloc (.cells #[.int .i64 k0, .int .i64 b0, .int .i64 x0, .int .i64 t0, .int .i64 l0] 23)).alloc (.cells #[.string u0, .string u1, .string u2] 25)) [.int .i64 a0, .int .i64 a1, .int .i64 a2, .int .i64 a3] 27
      simp only [World.size_alloc] at h
      exact h)
  have HB0 := hide (show Below w.heap.size w W0 by subst hW; exact (((Below.refl _ _).alloc (Nat.le_refl _) _).alloc (by simp) _).alloc (by simp; omega) _)
  have HTN := hide (fun (V : World) (h : Below w.heap.size w V) => hT.on h)
  clear hT
  have HWE := hide hW
  clear hW
  go_enter Tryz.func5, Tryz.ntmps5
  go_wp2_with fail
  rw [HWE.out]
  clear HWE
  refine (HFI.out W0).mono ?_
  rintro e w1 ⟨rfl, hb1⟩
  have HX1 := hide (HX0.out.on hb1)
  have HB1 := hide (heldB HB0.out hb1 (Nat.le_refl _))
  clear hb1 HX0 HB0
  have c0 := HX1.out.s.cell 0
  have c1 := HX1.out.s.cell 1
  have c2 := HX1.out.s.cell 2
  have c3 := HX1.out.s.cell 3
  have c4 := HX1.out.s.cell 4
  have f0 := HX1.out.s.free 0
  have f1 := HX1.out.s.free 1
  have f2 := HX1.out.s.free 2
  have f3 := HX1.out.s.free 3
  have f4 := HX1.out.s.free 4
  have s0 := HX1.out.u.cell 0
  have s1 := HX1.out.u.cell 1
  have s2 := HX1.out.u.cell 2
  simp only [List.getElem?_cons_zero, List.getElem?_cons_succ] at c0 c1 c2 c3 c4 s0 s1 s2
  obtain ⟨V1, HV1⟩ : ∃ V1, Hid ((((((w1.setCell ⟨w.heap.size, 0, none⟩ (.int .i64 k)).setCell ⟨w.heap.size, 1, none⟩ (.int .i64 b)).setCell ⟨w.heap.size, 2, none⟩ (.int .i64 x)).setCell ⟨w.heap.size, 3, none⟩ (.int .i64 t)).setCell ⟨w.heap.size, 4, none⟩ (.int .i64 l)) = V1) := ⟨_, rfl⟩
  go_wp2_with fail
  rw [HV1.out]
  have HY1 := hide (show Box3 V1 w.heap.size [.int .i64 k, .int .i64 b, .int .i64 x, .int .i64 t, .int .i64 l] [.string u0, .string u1, .string u2] [.int .i64 a0, .int .i64 a1, .int .i64 a2, .int .i64 a3] by
    rw [← HV1.out]
    exact ⟨blk5 HX1.out.s _ _ _ _ _, ((((HX1.out.u.other _ (by simp <;> omega)).other _ (by simp <;> omega)).other _ (by simp <;> omega)).other _ (by simp <;> omega)).other _ (by simp <;> omega), ((((HX1.out.p.other _ (by simp <;> omega)).other _ (by simp <;> omega)).other _ (by simp <;> omega)).other _ (by simp <;> omega)).other _ (by simp <;> omega)⟩)
  have HZ1 := hide (show Below w.heap.size w V1 by
    rw [← HV1.out]
    have h := HB1.out
    iterate 5 refine Below.setCell ?_ (by simp <;> omega) _
    exact h)
  clear HV1 HX1 HB1 c0 c1 c2 c3 c4 f0 f1 f2 f3 f4 s0 s1 s2
  refine (HSO.out V1).mono ?_
  rintro e w2 ⟨rfl, hb2⟩
  have HX2 := hide (HY1.out.on hb2)
  have HB2 := hide (heldB HZ1.out hb2 (Nat.le_refl _))
  clear hb2 HY1 HZ1
  have c0 := HX2.out.s.cell 0
  have c1 := HX2.out.s.cell 1
  have c2 := HX2.out.s.cell 2
  have c3 := HX2.out.s.cell 3
  have c4 := HX2.out.s.cell 4
  have s0 := HX2.out.u.cell 0
  have s1 := HX2.out.u.cell 1
  have s2 := HX2.out.u.cell 2
  have f0 := HX2.out.u.free 0
  have f1 := HX2.out.u.free 1
  have f2 := HX2.out.u.free 2
  have d0 := HX2.out.p.cell 0
  have d1 := HX2.out.p.cell 1
  have d2 := HX2.out.p.cell 2
  have d3 := HX2.out.p.cell 3
  simp only [List.getElem?_cons_zero, List.getElem?_cons_succ] at c0 c1 c2 c3 c4 s0 s1 s2 d0 d1 d2 d3
  obtain ⟨V2, HV2⟩ : ∃ V2, Hid ((((w2.setCell ⟨w.heap.size + 1, 0, none⟩ (.string sec)).setCell ⟨w.heap.size + 1, 1, none⟩ (.string rnd)).setCell ⟨w.heap.size + 1, 2, none⟩ (.string pub)) = V2) := ⟨_, rfl⟩
  go_wp2_with fail
  rw [HV2.out]
  have HY2 := hide (show Box3 V2 w.heap.size [.int .i64 k, .int .i64 b, .int .i64 x, .int .i64 t, .int .i64 l] [.string sec, .string rnd, .string pub] [.int .i64 a0, .int .i64 a1, .int .i64 a2, .int .i64 a3] by
    rw [← HV2.out]
    exact ⟨((HX2.out.s.other _ (by simp <;> omega)).other _ (by simp <;> omega)).other _ (by simp <;> omega), blk3 HX2.out.u _ _ _, ((HX2.out.p.other _ (by simp <;> omega)).other _ (by simp <;> omega)).other _ (by simp <;> omega)⟩)
  have HZ2 := hide (show Below w.heap.size w V2 by
    rw [← HV2.out]
    have h := HB2.out
    iterate 3 refine Below.setCell ?_ (by simp <;> omega) _
    exact h)
  clear HV2 HX2 HB2 c0 c1 c2 c3 c4 f0 f1 f2 s0 s1 s2 d0 d1 d2 d3
  refine (HPL.out V2).mono ?_
  rintro e w3 ⟨rfl, hb3⟩
  have HX3 := hide (HY2.out.on hb3)
  have HB3 := hide (heldB HZ2.out hb3 (Nat.le_refl _))
  clear hb3 HY2 HZ2
  go_wp2_with fail
  refine (HBR.out _).mono ?_
  rintro e w4 ⟨rfl, hb4⟩
  have HX4 := hide (HX3.out.on hb4)
  have HB4 := hide (heldB HB3.out hb4 (Nat.le_refl _))
  clear hb4 HX3 HB3
  have f0 := HX4.out.p.free 0
  have f1 := HX4.out.p.free 1
  have f2 := HX4.out.p.free 2
  have f3 := HX4.out.p.free 3
  have d0 := HX4.out.p.cell 0
  have d1 := HX4.out.p.cell 1
  have d2 := HX4.out.p.cell 2
  have d3 := HX4.out.p.cell 3
  have c0 := HX4.out.s.cell 0
  have c1 := HX4.out.s.cell 1
  have c2 := HX4.out.s.cell 2
  have c3 := HX4.out.s.cell 3
  have c4 := HX4.out.s.cell 4
  simp only [List.getElem?_cons_zero, List.getElem?_cons_succ] at c0 c1 c2 c3 c4 d0 d1 d2 d3
  obtain ⟨V3, HV3⟩ : ∃ V3, Hid (((((w4.setCell ⟨w.heap.size + 1 + 1, 0, none⟩ (.int .i64 p0)).setCell ⟨w.heap.size + 1 + 1, 1, none⟩ (.int .i64 p1)).setCell ⟨w.heap.size + 1 + 1, 2, none⟩ (.int .i64 0)).setCell ⟨w.heap.size + 1 + 1, 3, none⟩ (.int .i64 0)) = V3) := ⟨_, rfl⟩
  go_wp2_with fail
  rw [HV3.out]
  have HY3 := hide (show Box3 V3 w.heap.size [.int .i64 k, .int .i64 b, .int .i64 x, .int .i64 t, .int .i64 l] [.string sec, .string rnd, .string pub] [.int .i64 p0, .int .i64 p1, .int .i64 0, .int .i64 0] by
    rw [← HV3.out]
    exact ⟨(((HX4.out.s.other _ (by simp <;> omega)).other _ (by simp <;> omega)).other _ (by simp <;> omega)).other _ (by simp <;> omega), (((HX4.out.u.other _ (by simp <;> omega)).other _ (by simp <;> omega)).other _ (by simp <;> omega)).other _ (by simp <;> omega), blk4 HX4.out.p _ _ _ _⟩)
  have HZ3 := hide (show Below w.heap.size w V3 by
    rw [← HV3.out]
    have h := HB4.out
    iterate 4 refine Below.setCell ?_ (by simp <;> omega) _
    exact h)
  clear HV3 HX4 HB4 c0 c1 c2 c3 c4 f0 f1 f2 f3 d0 d1 d2 d3
  refine (HLV.out V3).mono ?_
  rintro e w5 ⟨rfl, hb5⟩
  have HX5 := hide (HY3.out.on hb5)
  have HB5 := hide (heldB HZ3.out hb5 (Nat.le_refl _))
  clear hb5 HY3 HZ3
  go_wp2_with fail
  refine (HPK.out _).mono ?_
  rintro e w6 ⟨rfl, hw⟩
  obtain rfl := hw.symm
  clear hw
  go_wp2_with fail
  refine (HKN.out _ (HTN.out _ HB5.out)).mono ?_
  rintro e w6 ⟨rfl, hb6⟩
  have HX6 := hide (HX5.out.on hb6)
  have HB6 := hide (heldB HB5.out hb6 (Nat.le_refl _))
  clear hb6 HX5 HB5
  have HCS := hide (fun (V : World) (z : Int) (h : Box3 V w.heap.size [.int .i64 k, .int .i64 b, .int .i64 x, .int .i64 t, .int .i64 l] [.string sec, .string rnd, .string pub] [.int .i64 p0, .int .i64 p1, .int .i64 z, .int .i64 0]) => (⟨h.s.cell 0, h.s.cell 1, h.s.cell 2, h.s.cell 3, h.s.cell 4, h.u.cell 0, h.u.cell 1, h.u.cell 2, h.p.cell 0, h.p.cell 1, h.p.cell 2, h.p.cell 3⟩ : V.cell? ⟨w.heap.size, 0, none⟩ = some (.int .i64 k) ∧ V.cell? ⟨w.heap.size, 1, none⟩ = some (.int .i64 b) ∧ V.cell? ⟨w.heap.size, 2, none⟩ = some (.int .i64 x) ∧ V.cell? ⟨w.heap.size, 3, none⟩ = some (.int .i64 t) ∧ V.cell? ⟨w.heap.size, 4, none⟩ = some (.int .i64 l) ∧ V.cell? ⟨w.heap.size + 1, 0, none⟩ = some (.string sec) ∧ V.cell? ⟨w.heap.size + 1, 1, none⟩ = some (.string rnd) ∧ V.cell? ⟨w.heap.size + 1, 2, none⟩ = some (.string pub) ∧ V.cell? ⟨w.heap.size + 1 + 1, 0, none⟩ = some (.int .i64 p0) ∧ V.cell? ⟨w.heap.size + 1 + 1, 1, none⟩ = some (.int .i64 p1) ∧ V.cell? ⟨w.heap.size + 1 + 1, 2, none⟩ = some (.int .i64 z) ∧ V.cell? ⟨w.heap.size + 1 + 1, 3, none⟩ = some (.int .i64 0)))
  obtain ⟨c0, c1, c2, c3, c4, s0, s1, s2, d0, d1, d2, d3⟩ := HCS.out _ _ HX6.out
  go_wp2_with fail
  refine (HNW.out _ (HTN.out _ HB6.out)).mono ?_
  rintro e w7 ⟨X, q0, rfl, hwl, hb7⟩
  have HX7 := hide (HX6.out.on hb7)
  have HB7 := hide (heldB HB6.out hb7 (Nat.le_refl _))
  have HW7 := hide hwl
  obtain ⟨lo, hlo⟩ : ∃ lo, w6.heap.size = lo := ⟨_, rfl⟩
  have HLO := hide (show w.heap.size ≤ lo ∧ w.heap.size + 1 + 1 < lo ∧ lo ≤ w7.heap.size from ⟨by rw [← hlo]; exact HB6.out.size, by rw [← hlo]; exact HX6.out.p.lt, by rw [← hlo]; exact hb7.size⟩)
  rw [hlo] at HW7
  clear hb7 HX6 HB6 hwl hlo c0 c1 c2 c3 c4 s0 s1 s2 d0 d1 d2 d3
  obtain ⟨c0, c1, c2, c3, c4, s0, s1, s2, d0, d1, d2, d3⟩ := HCS.out _ _ HX7.out
  go_wp2_with fail
  refine (HNO.out _ (HTN.out _ HB7.out)).mono ?_
  rintro e w8 ⟨rfl, hb8⟩
  have HX8 := hide (HX7.out.on hb8)
  have HB8 := hide (heldB HB7.out hb8 (Nat.le_refl _))
  have HW8 := hide (HW7.out.on hb8)
  have HL8 := hide (Nat.le_trans HLO.out.2.2 hb8.size)
  clear hb8 HX7 HB7 HW7 c0 c1 c2 c3 c4 s0 s1 s2 d0 d1 d2 d3
  obtain ⟨c0, c1, c2, c3, c4, s0, s1, s2, d0, d1, d2, d3⟩ := HCS.out _ _ HX8.out
  go_wp2_with fail
  clear c0 c1 c2 c3 c4 s0 s1 s2 d0 d1 d2 d3 ert
  go_loopw [11, 14, 15, 16] (fun e i o l' wr => ∃ j : Nat, j ≤ n ∧ i = .int .i64 (j : Int) ∧ Hid (Box3 wr w.heap.size [.int .i64 k, .int .i64 b, .int .i64 x, .int .i64 t, .int .i64 l] [.string sec, .string rnd, .string pub] [.int .i64 p0, .int .i64 p1, .int .i64 ((j - 1 : Nat) : Int), .int .i64 0]) ∧ Hid (∃ q, Wl lo X q tr tv t (min j (n - 1)) wr) ∧ Hid (Below w.heap.size w wr ∧ lo ≤ wr.heap.size)) (fun _ i _ _ _ => n - (intOf i).toNat)
  case atStart => exact ⟨0, Nat.zero_le _, rfl, HX8.out, ⟨q0, by rw [Nat.zero_min]; exact HW8.out⟩, HB8.out, HL8.out⟩
  case round =>
    clear HX8 HB8 HW8 HL8
    obtain ⟨j, hj, rfl, hx, hq, hb⟩ := hrel
    obtain ⟨c0, c1, c2, c3, c4, -⟩ := HCS.out _ _ hx.out
    go_wp2_with fail
    refine (HLV.out _).mono ?_
    rintro e w1 ⟨rfl, hb1⟩
    have HX1 := hide (hx.out.on hb1)
    have HB1 := hide (heldB hb.out.1 hb1 (Nat.le_refl _))
    have HL1 := hide (Nat.le_trans hb.out.2 hb1.size)
    have HQ1 : Hid (∃ q, Wl lo X q tr tv t (min j (n - 1)) w1) := by
      obtain ⟨q, h⟩ := hq.out
      exact ⟨q, h.on hb1⟩
    clear hb1 hx hq hb c0 c1 c2 c3 c4
    by_cases hlt : j < n
    · have hji : (j : Int) < (n : Int) := by omega
      obtain ⟨q, hwl⟩ := HQ1.out
      rw [show min j (n - 1) = j by omega] at hwl
      clear HQ1
      have f2 := HX1.out.p.free 2
      obtain ⟨c0, c1, c2, c3, c4, s0, s1, s2, d0, d1, d2, d3⟩ := HCS.out _ _ HX1.out
      obtain ⟨V1, HV1⟩ : ∃ V1, Hid (w1.setCell ⟨w.heap.size + 1 + 1, 2, none⟩ (.int .i64 (j : Int)) = V1) := ⟨_, rfl⟩
      have HY1 := hide (show Box3 V1 w.heap.size [.int .i64 k, .int .i64 b, .int .i64 x, .int .i64 t, .int .i64 l] [.string sec, .string rnd, .string pub] [.int .i64 p0, .int .i64 p1, .int .i64 (j : Int), .int .i64 0] by
        rw [← HV1.out]
        exact ⟨HX1.out.s.other _ (by simp <;> omega), HX1.out.u.other _ (by simp <;> omega), HX1.out.p.set 2 _⟩)
      have HZ1 := hide (show Below w.heap.size w V1 by rw [← HV1.out]; exact HB1.out.setCell (by simp <;> omega) _)
      have HL2 := hide (show lo ≤ V1.heap.size by rw [← HV1.out, World.size_setCell]; exact HL1.out)
      have HW1 := hide (show Wl lo X q tr tv t j V1 by
        rw [← HV1.out]
        refine hwl.kept (kept_set w1 ⟨w.heap.size + 1 + 1, 2, none⟩ _) ?_ (fun z hz e => ?_)
        · intro e
          have h1 := hwl.lX
          have h2 := HLO.out.2.1
          simp only at e
          omega
        · have h1 := (hwl.i.foot_lt z hz).1
          have h2 := HLO.out.2.1
          simp only at e
          omega)
      clear hwl HX1 HB1 HL1
      go_wp2_with fail
      rw [HV1.out]
      clear f2
      refine (HCL.out j lo X q V1 hlt (HTN.out _ HZ1.out) HW1.out).mono ?_
      rintro e w2 ⟨rfl, hb2⟩
      have HX2 := hide (HY1.out.on hb2)
      have HB2 := hide (heldB HZ1.out hb2 (Nat.le_refl _))
      have HW2 := hide (HW1.out.on hb2)
      have HL3 := hide (Nat.le_trans HL2.out hb2.size)
      clear hb2 HY1 HZ1 HW1 HV1 HL2 c0 c1 c2 c3 c4 s0 s1 s2 d0 d1 d2 d3
      obtain ⟨c0, c1, c2, c3, c4, s0, s1, s2, d0, d1, d2, d3⟩ := HCS.out _ _ HX2.out
      have HLAST : ∀ (o : Bool) (w3 : World), True := fun _ _ => trivial
      rcases (show ((j : Int) == 0) = true ∨ (((j : Int) == 0) = false ∧ ((j : Int) == ak) = true) ∨ (((j : Int) == 0) = false ∧ ((j : Int) == ak) = false) by
        cases h1 : ((j : Int) == 0) <;> cases h2 : ((j : Int) == ak) <;> simp) with z1 | ⟨z1, z2⟩ | ⟨z1, z2⟩
      case' inl =>
        go_wp2_with fail
        refine (HST.out j lo X q w2 hlt (HTN.out _ HB2.out) HW2.out).mono ?_
      case' inr.inl =>
        go_wp2_with fail
        refine (HST.out j lo X q w2 hlt (HTN.out _ HB2.out) HW2.out).mono ?_
      case' inr.inr =>
        go_wp2_with fail
        obtain ⟨w3, hw3⟩ : ∃ w3, w3 = w2 := ⟨_, rfl⟩
        rw [← hw3]
        rw [← hw3] at HX2 HB2 HW2 HL3
        have HX3 := HX2
        have HB3 := HB2
        have HW3 := HW2
        have HL4 := HL3
        clear hw3
      case' inl =>
        rintro e w3 ⟨rfl, hb3⟩
        have HX3 := hide (HX2.out.on hb3)
        have HB3 := hide (heldB HB2.out hb3 (Nat.le_refl _))
        have HW3 := hide (HW2.out.on hb3)
        have HL4 := hide (Nat.le_trans HL3.out hb3.size)
        clear hb3
      case' inr.inl =>
        rintro e w3 ⟨rfl, hb3⟩
        have HX3 := hide (HX2.out.on hb3)
        have HB3 := hide (heldB HB2.out hb3 (Nat.le_refl _))
        have HW3 := hide (HW2.out.on hb3)
        have HL4 := hide (Nat.le_trans HL3.out hb3.size)
        clear hb3
      all_goals
        clear HX2 HB2 HW2 HL3 c0 c1 c2 c3 c4 s0 s1 s2 d0 d1 d2 d3
        obtain ⟨c0, c1, c2, c3, c4, -⟩ := HCS.out _ _ HX3.out
        go_wp2_with fail
        refine (HLV.out _).mono ?_
        rintro e w4 ⟨rfl, hb4⟩
        have HX4 := hide (HX3.out.on hb4)
        have HB4 := hide (heldB HB3.out hb4 (Nat.le_refl _))
        have HW4 := hide (HW3.out.on hb4)
        have HL5 := hide (Nat.le_trans HL4.out hb4.size)
        clear hb4 HX3 HB3 HW3 HL4 c0 c1 c2 c3 c4
        obtain ⟨c0, c1, c2, c3, c4, -⟩ := HCS.out _ _ HX4.out
        by_cases hl2 : j + 1 < n
        · have hj2 : (j : Int) + 1 < (n : Int) := by omega
          have hj3 : decide ((j : Int) + 1 < (n : Int)) = true := decide_eq_true hj2
          go_wp2_with fail
          refine (HDU.out j lo X q w4 hl2 HW4.out).mono ?_
          rintro e w5 ⟨m, v, rfl, hm, hro, hb5⟩
          have HX5 := hide (HX4.out.on hb5)
          have HB5 := hide (heldB HB4.out hb5 (Nat.le_refl _))
          have HW5 := hide (HW4.out.on hb5)
          have HL6 := hide (Nat.le_trans HL5.out hb5.size)
          have HR5 := hide hro
          have HZ5 := hide (fun z (hz : q.foot z) => Nat.lt_of_lt_of_le (HW4.out.i.foot_lt z hz).2 (Nat.le_refl w4.heap.size))
          have HM := hide hm
          clear hb5 hro hm HX4 HB4 HW4 HL5 c0 c1 c2 c3 c4
          go_wp2_with fail
          refine (HNX.out j lo X q w5 hl2 (HTN.out _ HB5.out) HLO.out.1 HL6.out HW5.out).mono ?_
          rintro e w6 ⟨rfl, q', hw6, hk6⟩
          have hlow : ∀ z, q.foot z → lo ≤ z := fun z hz => (HW5.out.i.foot_lt z hz).1
          have HB65 := hide (hk6.below (B := lo) hlow HL6.out)
          have HX6 := hide (show Box3 w6 w.heap.size [.int .i64 k, .int .i64 b, .int .i64 x, .int .i64 t, .int .i64 l] [.string sec, .string rnd, .string pub] [.int .i64 p0, .int .i64 p1, .int .i64 (j : Int), .int .i64 0] from
            ⟨HX5.out.s.below HB65.out (by have := HLO.out.2.1; omega), HX5.out.u.below HB65.out (by have := HLO.out.2.1; omega), HX5.out.p.below HB65.out (by have := HLO.out.2.1; omega)⟩)
          have HB6 := hide (HB5.out.trans (HB65.out.mono HLO.out.1))
          have HL7 := hide (Nat.le_trans HL6.out hk6.size)
          have HW6 := hide hw6
          have HR6 := hide (owns_kept HR5.out hk6 (fun z hz e => by have h1 := (owns_loY HR5.out z hz).1; have h2 := HZ5.out z e; omega))
          clear hk6 hw6 hlow HB65 HX5 HB5 HW5 HL6 HR5 HZ5
          obtain ⟨c0, c1, c2, c3, c4, -⟩ := HCS.out _ _ HX6.out
          go_wp2_with fail
          refine (HLV.out _).mono ?_
          rintro e w7 ⟨rfl, hb7⟩
          have HX7 := hide (HX6.out.on hb7)
          have HB7 := hide (heldB HB6.out hb7 (Nat.le_refl _))
          have HW7 := hide (HW6.out.on hb7)
          have HL8 := hide (Nat.le_trans HL7.out hb7.size)
          have HR7 := hide (owns_kept HR6.out (Kept.of_below (F := fun _ => False) hb7) (fun _ _ e => e))
          clear hb7 HX6 HB6 HW6 HL7 HR6 c0 c1 c2 c3 c4
          go_wp2_with fail
          refine (HTK.out (j + 1) lo X _ m q' v w7 HW7.out HM.out HR7.out).mono ?_
          rintro e w8 ⟨rfl, hb8⟩
          have HX8 := hide (HX7.out.on hb8)
          have HB8 := hide (heldB HB7.out hb8 (Nat.le_refl _))
          have HW8 := hide (HW7.out.on hb8)
          have HL9 := hide (Nat.le_trans HL8.out hb8.size)
          clear hb8 HX7 HB7 HW7 HL8 HR7
          go_wp2_with fail
          go_roundw
          case rel =>
            have R : ∃ j' : Nat, j' ≤ n ∧ Value.int .i64 ((j : Int) + 1) = .int .i64 (j' : Int) ∧ Hid (Box3 w8 w.heap.size [.int .i64 k, .int .i64 b, .int .i64 x, .int .i64 t, .int .i64 l] [.string sec, .string rnd, .string pub] [.int .i64 p0, .int .i64 p1, .int .i64 ((j' - 1 : Nat) : Int), .int .i64 0]) ∧ Hid (∃ q, Wl lo X q tr tv t (min j' (n - 1)) w8) ∧ Hid (Below w.heap.size w w8 ∧ lo ≤ w8.heap.size) := ⟨j + 1, by omega, by go_num, by rw [show j + 1 - 1 = j by omega]; exact HX8, ⟨q', by rw [show min (j + 1) (n - 1) = j + 1 by omega]; exact HW8.out⟩, HB8.out, HL9.out⟩
            first | exact R | ((repeat apply Exists.intro); exact ⟨R, rfl⟩)
          case measure => simp [intOf]; omega
        · have hj2 : ¬ (j : Int) + 1 < (n : Int) := by omega
          have hj3 : decide ((j : Int) + 1 < (n : Int)) = false := decide_eq_false hj2
          have hjn : j + 1 = n := by omega
          go_wp2_with fail
          refine (HSP.out j lo X q w4 hjn HW4.out).mono ?_
          rintro e w5 ⟨rfl, hb5⟩
          have HX6 := hide (HX4.out.on hb5)
          have HB6 := hide (heldB HB4.out hb5 (Nat.le_refl _))
          have HW6 := hide (HW4.out.on hb5)
          have HL7 := hide (Nat.le_trans HL5.out hb5.size)
          clear hb5 HX4 HB4 HW4 HL5 c0 c1 c2 c3 c4
          obtain ⟨c0, c1, c2, c3, c4, -⟩ := HCS.out _ _ HX6.out
          have HJN := hide hjn
          clear hjn
          go_wp2_with fail
          refine (HLV.out _).mono ?_
          rintro e w7 ⟨rfl, hb7⟩
          have HX7 := hide (HX6.out.on hb7)
          have HB7 := hide (heldB HB6.out hb7 (Nat.le_refl _))
          have HW7 := hide (HW6.out.on hb7)
          have HL8 := hide (Nat.le_trans HL7.out hb7.size)
          clear hb7 HX6 HB6 HW6 HL7 c0 c1 c2 c3 c4
          go_wp2_with fail
          refine (HTK.out j lo X 0 0 q _ w7 HW7.out (Nat.zero_le _) (World.ownsRow_nil _ _ _ _)).mono ?_
          rintro e w8 ⟨rfl, hb8⟩
          have HX8 := hide (HX7.out.on hb8)
          have HB8 := hide (heldB HB7.out hb8 (Nat.le_refl _))
          have HW8 := hide (HW7.out.on hb8)
          have HL9 := hide (Nat.le_trans HL8.out hb8.size)
          clear hb8 HX7 HB7 HW7 HL8
          go_wp2_with fail
          go_roundw
          case rel =>
            have R : ∃ j' : Nat, j' ≤ n ∧ Value.int .i64 ((j : Int) + 1) = .int .i64 (j' : Int) ∧ Hid (Box3 w8 w.heap.size [.int .i64 k, .int .i64 b, .int .i64 x, .int .i64 t, .int .i64 l] [.string sec, .string rnd, .string pub] [.int .i64 p0, .int .i64 p1, .int .i64 ((j' - 1 : Nat) : Int), .int .i64 0]) ∧ Hid (∃ q, Wl lo X q tr tv t (min j' (n - 1)) w8) ∧ Hid (Below w.heap.size w w8 ∧ lo ≤ w8.heap.size) := ⟨j + 1, by omega, by go_num, by rw [show j + 1 - 1 = j by omega]; exact HX8, ⟨q, by rw [show min (j + 1) (n - 1) = j by have := HJN.out; omega]; exact HW8.out⟩, HB8.out, HL9.out⟩
            first | exact R | ((repeat apply Exists.intro); exact ⟨R, rfl⟩)
          case measure => simp [intOf]; omega
    · obtain rfl : j = n := by omega
      obtain ⟨q, hwl⟩ := HQ1.out
      rw [show min j (j - 1) = j - 1 by omega] at hwl
      have HW1 := hide hwl
      clear hwl HQ1
      obtain ⟨c0, c1, c2, c3, c4, s0, s1, s2, d0, d1, d2, d3⟩ := HCS.out _ _ HX1.out
      have HC2 := hide (HCL.out (j - 1) lo X q w1 (by omega) (HTN.out _ HB1.out) HW1.out)
      generalize ((j - 1 : Nat) : Int) = z at *
      go_wp2_with fail
      refine HC2.out.mono ?_
      rintro e w2 ⟨rfl, hb2⟩
      have HB2 := hide (heldB HB1.out hb2 (Nat.le_refl _))
      clear hb2 c0 c1 c2 c3 c4 s0 s1 s2 d0 d1 d2 d3
      go_wp2
      go_ret
      exact ⟨rfl, HB2.out⟩
end Go.Proofs.YtgaoeoijdpdjiaaGreatDoor
