/-
  The statement Once answers true.
-/
import Derived.Test.YtgaoeoijdpdjiabGreatDoorPart48
import Derived.Test.YtgaoeoijdpdjiabGreatDoorPart14
import Derived.Test.YtgaoeoijdpdjiabGreatDoorPart19
namespace Go.Proofs.YtgaoeoijdpdjiabGreatDoor
open Go.RowKit

/-- The hall at the start. -/
theorem hi_new {P : OP} (Kp : OPk P) (hw : P.Wd.heap.size = P.lo) {SD D : Nat} {F : Nat → Prop} {w : World} (hH : Blk w P.H (P.hall SD (.slice none 0 0) (.slice none 0 0) (.slice none 0 0)) 65) (hS : Blk w SD [.pointer (some ⟨D, 0, none⟩)] 135) (hD : DSk P.lo D (newD P.n) w F) (nH : ¬ F P.H) (nS : ¬ F SD) (hne : P.H ≠ SD) (hb : Below P.lo P.Wd w) : ∃ g, HI P 0 g w := by
  have hbig : P.lo ≤ w.heap.size := by rw [← hw]; exact hb.size
  refine ⟨⟨fun q => if q = P.H then 1 else if q = SD then 2 else 3, SD, D, newD P.n, F, P.idZ P.s1 P.s3, 0, 0, 0, [], [], .slice none 0 0, .slice none 0 0, .slice none 0 0, []⟩, hH, if_pos rfl, hS, ?_, hD, ?_, World.ownsRow_nil _ _ _ _, ?_, World.ownsRow_nil _ _ _ _, ?_, World.ownsRow_nil _ _ _ _, ?_, ?_, ?_, ?_, ?_, ji_new P.n Kp.n2 (Kp.id8 (.inl ⟨rfl, rfl, rfl⟩)) Kp.tot4, Nat.le_refl _, ?_, hb, hbig, rfl, ?_⟩
  · exact (if_neg (fun e => hne e.symm)).trans (if_pos rfl)
  · intro q e
    exact (if_neg (fun e2 => nH (by rw [← e2]; exact e))).trans (if_neg (fun e2 => nS (by rw [← e2]; exact e)))
  · intro q e; simp [Value.ownBlock] at e
  · intro q e; simp [Value.ownBlock] at e
  · intro q e; simp [Value.ownBlock] at e
  · intro i s e; simp at e
  · intro i s e; simp at e
  · intro i s e; simp at e
  · intro i s e; simp at e
  · intro p e; simp at e
  · exact ⟨by show (0 : Int) ≤ 0; omega, by show (0 : Int) ≤ _; omega, by show (0 : Int) ≤ 0; omega, by show (0 : Int) ≤ _; omega, by show (0 : Int) ≤ 0; omega, by show (0 : Int) ≤ _; omega, Nat.le_refl _, Nat.le_refl _⟩

set_option maxRecDepth 20000 in
set_option maxHeartbeats 4000000 in
theorem once_true (k0 b0 x0 t0 l0 n0 : Int) (sec rnd pub oec ond oub : ByteArray) (v : Value) (L : List StepDJ) (w : World) (hk : Int64 k0) (hb : Int64 b0) (hx : Int64 x0) (ht : Int64 t0) (hl0 : Int64 l0) (hn1 : -9223372036854775808 ≤ n0) (hn2 : n0 ≤ 9223372036854775807) (m1 : sec.size ≤ maxLen) (m2 : rnd.size ≤ maxLen) (m3 : pub.size ≤ maxLen) (m4 : oec.size ≤ maxLen) (m5 : ond.size ≤ maxLen) (m6 : oub.size ≤ maxLen) (hv : ScriptAtJ w v L) (hl : L.length ≤ 2199023255552) (hT : Tn w) :
    Calls Tryz.prog 5 #[.agg #[.int .i64 k0, .int .i64 b0, .int .i64 x0, .int .i64 t0, .int .i64 l0], .agg #[.string sec, .string rnd, .string pub], .agg #[.string oec, .string ond, .string oub], .int .i64 n0, v] w fun e w' => e = .returned (.bool true) ∧ Below w.heap.size w w' := by
  obtain ⟨k, b, x, e, f, t, l, R, ek, eb, ex, et, el⟩ := fit_set k0 b0 x0 t0 l0
  have HFIT := hide (fun V : World => fit_any k0 b0 x0 t0 l0 V hk hb hx ht hl0)
  rw [ek, eb, ex, et, el] at HFIT
  obtain ⟨g1, g2, g3, g4, g5, g6⟩ := pair_small R.pr
  have HSOW := hide (fun V : World => sown_any k x t l b sec rnd pub V (by omega) m1 m2 m3)
  have HSOW2 := hide (fun V : World => sown_any k x t l b oec ond oub V (by omega) m4 m5 m6)
  obtain ⟨sc, hsc, z1⟩ : ∃ sc, someB sec b = sc ∧ sc.size = b := ⟨_, rfl, someB_size _ _⟩
  obtain ⟨rn, hrn, z2⟩ : ∃ rn, someB rnd b = rn ∧ rn.size = b := ⟨_, rfl, someB_size _ _⟩
  obtain ⟨pu, hpu, z3⟩ : ∃ pu, someB pub b = pu ∧ pu.size = b := ⟨_, rfl, someB_size _ _⟩
  obtain ⟨oc, hoc, z4⟩ : ∃ oc, someB oec b = oc ∧ oc.size = b := ⟨_, rfl, someB_size _ _⟩
  obtain ⟨od, hod, z5⟩ : ∃ od, someB ond b = od ∧ od.size = b := ⟨_, rfl, someB_size _ _⟩
  obtain ⟨ou, hou, z6⟩ : ∃ ou, someB oub b = ou ∧ ou.size = b := ⟨_, rfl, someB_size _ _⟩
  rw [hsc, hrn, hpu] at HSOW
  rw [hoc, hod, hou] at HSOW2
  obtain ⟨va, vc, hvv⟩ := hv.len
  subst hvv
  have HV := hide hv
  have HPB := hide (fun V : World => pickN_any n0 7 V (by omega) (by omega) hn1 hn2)
  have pb := pickZ_bd n0 7 (by omega)
  obtain ⟨m0, hm0⟩ := Int.eq_ofNat_of_zero_le pb.1
  rw [hm0] at HPB pb
  obtain ⟨n, hn⟩ : ∃ n : Nat, 2 + m0 = n := ⟨_, rfl⟩
  have hwb : IntKind.i64.wrap (2 + (m0 : Int)) = (n : Int) := by rw [IntKind.wrap_i64] <;> omega
  have HNN := hide (show 2 ≤ n ∧ n ≤ 8 by omega)
  have HR := hide R
  have HZZ := hide (And.intro z1 (And.intro z2 (And.intro z3 (And.intro z4 (And.intro z5 z6)))))
  have HTW := hide hT
  obtain ⟨N, hN⟩ : ∃ N, L.length = N := ⟨_, rfl⟩
  rw [hN] at hl
  simp only [hN]
  have HN := hide hN
  have HNB := hide hl
  obtain ⟨W0, hW⟩ : ∃ W0, ((w.alloc (.cells #[.int .i64 k0, .int .i64 b0, .int .i64 x0, .int .i64 t0, .int .i64 l0] 26)).alloc (.cells #[.string sec, .string rnd, .string pub] 42)).alloc (.cells #[.string oec, .string ond, .string oub] 42) = W0 := ⟨_, rfl⟩
  have HB0 := hide (show Below w.heap.size w W0 by subst hW; exact (((Below.refl _ _).alloc (Nat.le_refl _) _).alloc (by simp) _).alloc (by simp <;> omega) _)
  have HC0 := hide (show Blk W0 w.heap.size [.int .i64 k0, .int .i64 b0, .int .i64 x0, .int .i64 t0, .int .i64 l0] 26 by rw [← hW]; exact ((Blk.new w _ _).alloc _).alloc _)
  have HE0 := hide (show Blk W0 (w.heap.size + 1) [.string sec, .string rnd, .string pub] 42 by rw [← hW]; exact (blk_new1 w _ _ _).alloc _)
  have HG0 := hide (show Blk W0 (w.heap.size + 2) [.string oec, .string ond, .string oub] 42 by rw [← hW]; exact blk_new2 w _ _ _ _)
  have HWE := hide hW
  have A1 : w.heap.size + 1 ≠ w.heap.size := by omega
  have A2 : w.heap.size + 2 ≠ w.heap.size := by omega
  have A3 : w.heap.size + 2 ≠ w.heap.size + 1 := by omega
  have HA := hide (And.intro A1 (And.intro A2 A3))
  clear hW R ek eb ex et el g1 g2 g3 g4 g5 g6 hsc hrn hpu hoc hod hou z1 z2 z3 z4 z5 z6 hv pb hm0 hn hk hb hx ht hl0 hn1 hn2 m1 m2 m3 m4 m5 m6 hT hN hl A1 A2 A3
  go_enter Tryz.func5, Tryz.ntmps5
  go_wp2_with fail
  rw [HWE.out]
  refine (HFIT.out _).mono ?_
  rintro e1 w1 ⟨rfl, hb1⟩
  have HC1 := hide (HC0.out.on hb1)
  have HE1 := hide (HE0.out.on hb1)
  have HG1 := hide (HG0.out.on hb1)
  have r0 : w1.cell? ⟨w.heap.size, 0, none⟩ = some (.int .i64 k0) := HC1.out.cell 0
  have f0 := HC1.out.free 0
  have r1 : w1.cell? ⟨w.heap.size, 1, none⟩ = some (.int .i64 b0) := HC1.out.cell 1
  have f1 := HC1.out.free 1
  have r2 : w1.cell? ⟨w.heap.size, 2, none⟩ = some (.int .i64 x0) := HC1.out.cell 2
  have f2 := HC1.out.free 2
  have r3 : w1.cell? ⟨w.heap.size, 3, none⟩ = some (.int .i64 t0) := HC1.out.cell 3
  have f3 := HC1.out.free 3
  have r4 : w1.cell? ⟨w.heap.size, 4, none⟩ = some (.int .i64 l0) := HC1.out.cell 4
  have f4 := HC1.out.free 4
  have d0 : w1.cell? ⟨w.heap.size + 1, 0, none⟩ = some (.string sec) := HE1.out.cell 0
  have d1 : w1.cell? ⟨w.heap.size + 1, 1, none⟩ = some (.string rnd) := HE1.out.cell 1
  have d2 : w1.cell? ⟨w.heap.size + 1, 2, none⟩ = some (.string pub) := HE1.out.cell 2
  have HCX := hide (((((HC1.out.set 0 (.int .i64 k)).set 1 (.int .i64 b)).set 2 (.int .i64 x)).set 3 (.int .i64 t)).set 4 (.int .i64 l))
  have HEX := hide (((((HE1.out.other (a := ⟨w.heap.size, 0, none⟩) (.int .i64 k) HA.out.1).other (a := ⟨w.heap.size, 1, none⟩) (.int .i64 b) HA.out.1).other (a := ⟨w.heap.size, 2, none⟩) (.int .i64 x) HA.out.1).other (a := ⟨w.heap.size, 3, none⟩) (.int .i64 t) HA.out.1).other (a := ⟨w.heap.size, 4, none⟩) (.int .i64 l) HA.out.1)
  have HGX := hide (((((HG1.out.other (a := ⟨w.heap.size, 0, none⟩) (.int .i64 k) HA.out.2.1).other (a := ⟨w.heap.size, 1, none⟩) (.int .i64 b) HA.out.2.1).other (a := ⟨w.heap.size, 2, none⟩) (.int .i64 x) HA.out.2.1).other (a := ⟨w.heap.size, 3, none⟩) (.int .i64 t) HA.out.2.1).other (a := ⟨w.heap.size, 4, none⟩) (.int .i64 l) HA.out.2.1)
  have HBX := hide (HB0.out.trans ((((((hb1.mono HB0.out.size).setCell (p := ⟨w.heap.size, 0, none⟩) (Nat.le_refl _) (.int .i64 k)).setCell (p := ⟨w.heap.size, 1, none⟩) (Nat.le_refl _) (.int .i64 b)).setCell (p := ⟨w.heap.size, 2, none⟩) (Nat.le_refl _) (.int .i64 x)).setCell (p := ⟨w.heap.size, 3, none⟩) (Nat.le_refl _) (.int .i64 t)).setCell (p := ⟨w.heap.size, 4, none⟩) (Nat.le_refl _) (.int .i64 l)))
  clear hb1
  go_wp2_with fail
  generalize (((((w1).setCell ⟨w.heap.size, 0, none⟩ (.int .i64 k)).setCell ⟨w.heap.size, 1, none⟩ (.int .i64 b)).setCell ⟨w.heap.size, 2, none⟩ (.int .i64 x)).setCell ⟨w.heap.size, 3, none⟩ (.int .i64 t)).setCell ⟨w.heap.size, 4, none⟩ (.int .i64 l) = W1 at HCX HEX HGX HBX ⊢
  clear r0 r1 r2 r3 r4 f0 f1 f2 f3 f4 d0 d1 d2
  simp only [List.set_cons_zero, List.set_cons_succ] at HCX
  refine (HSOW.out _).mono ?_
  rintro e1 w2 ⟨rfl, hb2⟩
  have HE2 := hide (HEX.out.on hb2)
  have HC2 := hide (HCX.out.on hb2)
  have HG2 := hide (HGX.out.on hb2)
  have r0 : w2.cell? ⟨w.heap.size + 1, 0, none⟩ = some (.string sec) := HE2.out.cell 0
  have f0 := HE2.out.free 0
  have r1 : w2.cell? ⟨w.heap.size + 1, 1, none⟩ = some (.string rnd) := HE2.out.cell 1
  have f1 := HE2.out.free 1
  have r2 : w2.cell? ⟨w.heap.size + 1, 2, none⟩ = some (.string pub) := HE2.out.cell 2
  have f2 := HE2.out.free 2
  have c0 : w2.cell? ⟨w.heap.size, 0, none⟩ = some (.int .i64 k) := HC2.out.cell 0
  have c1 : w2.cell? ⟨w.heap.size, 1, none⟩ = some (.int .i64 b) := HC2.out.cell 1
  have c2 : w2.cell? ⟨w.heap.size, 2, none⟩ = some (.int .i64 x) := HC2.out.cell 2
  have c3 : w2.cell? ⟨w.heap.size, 3, none⟩ = some (.int .i64 t) := HC2.out.cell 3
  have c4 : w2.cell? ⟨w.heap.size, 4, none⟩ = some (.int .i64 l) := HC2.out.cell 4
  have d0 : w2.cell? ⟨w.heap.size + 2, 0, none⟩ = some (.string oec) := HG2.out.cell 0
  have d1 : w2.cell? ⟨w.heap.size + 2, 1, none⟩ = some (.string ond) := HG2.out.cell 1
  have d2 : w2.cell? ⟨w.heap.size + 2, 2, none⟩ = some (.string oub) := HG2.out.cell 2
  have HEY := hide (((HE2.out.set 0 (.string sc)).set 1 (.string rn)).set 2 (.string pu))
  have HCY := hide (((HC2.out.other (a := ⟨w.heap.size + 1, 0, none⟩) (.string sc) HA.out.1.symm).other (a := ⟨w.heap.size + 1, 1, none⟩) (.string rn) HA.out.1.symm).other (a := ⟨w.heap.size + 1, 2, none⟩) (.string pu) HA.out.1.symm)
  have HGY := hide (((HG2.out.other (a := ⟨w.heap.size + 1, 0, none⟩) (.string sc) HA.out.2.2).other (a := ⟨w.heap.size + 1, 1, none⟩) (.string rn) HA.out.2.2).other (a := ⟨w.heap.size + 1, 2, none⟩) (.string pu) HA.out.2.2)
  have HBY := hide (HBX.out.trans ((((hb2.mono HBX.out.size).setCell (p := ⟨w.heap.size + 1, 0, none⟩) (Nat.le_succ _) (.string sc)).setCell (p := ⟨w.heap.size + 1, 1, none⟩) (Nat.le_succ _) (.string rn)).setCell (p := ⟨w.heap.size + 1, 2, none⟩) (Nat.le_succ _) (.string pu)))
  clear hb2
  go_wp2_with fail
  generalize (((w2).setCell ⟨w.heap.size + 1, 0, none⟩ (.string sc)).setCell ⟨w.heap.size + 1, 1, none⟩ (.string rn)).setCell ⟨w.heap.size + 1, 2, none⟩ (.string pu) = W2 at HCY HEY HGY HBY ⊢
  clear r0 r1 r2 f0 f1 f2 c0 c1 c2 c3 c4 d0 d1 d2
  simp only [List.set_cons_zero, List.set_cons_succ] at HEY
  refine (HSOW2.out _).mono ?_
  rintro e1 w3 ⟨rfl, hb3⟩
  have HE3 := hide (HEY.out.on hb3)
  have HC3 := hide (HCY.out.on hb3)
  have HG3 := hide (HGY.out.on hb3)
  have r0 : w3.cell? ⟨w.heap.size + 2, 0, none⟩ = some (.string oec) := HG3.out.cell 0
  have f0 := HG3.out.free 0
  have r1 : w3.cell? ⟨w.heap.size + 2, 1, none⟩ = some (.string ond) := HG3.out.cell 1
  have f1 := HG3.out.free 1
  have r2 : w3.cell? ⟨w.heap.size + 2, 2, none⟩ = some (.string oub) := HG3.out.cell 2
  have f2 := HG3.out.free 2
  have c0 : w3.cell? ⟨w.heap.size, 0, none⟩ = some (.int .i64 k) := HC3.out.cell 0
  have c1 : w3.cell? ⟨w.heap.size, 1, none⟩ = some (.int .i64 b) := HC3.out.cell 1
  have c2 : w3.cell? ⟨w.heap.size, 2, none⟩ = some (.int .i64 x) := HC3.out.cell 2
  have c3 : w3.cell? ⟨w.heap.size, 3, none⟩ = some (.int .i64 t) := HC3.out.cell 3
  have c4 : w3.cell? ⟨w.heap.size, 4, none⟩ = some (.int .i64 l) := HC3.out.cell 4
  have d0 : w3.cell? ⟨w.heap.size + 1, 0, none⟩ = some (.string sc) := HE3.out.cell 0
  have d1 : w3.cell? ⟨w.heap.size + 1, 1, none⟩ = some (.string rn) := HE3.out.cell 1
  have d2 : w3.cell? ⟨w.heap.size + 1, 2, none⟩ = some (.string pu) := HE3.out.cell 2
  have HGZ := hide (((HG3.out.set 0 (.string oc)).set 1 (.string od)).set 2 (.string ou))
  have HCZ := hide (((HC3.out.other (a := ⟨w.heap.size + 2, 0, none⟩) (.string oc) HA.out.2.1.symm).other (a := ⟨w.heap.size + 2, 1, none⟩) (.string od) HA.out.2.1.symm).other (a := ⟨w.heap.size + 2, 2, none⟩) (.string ou) HA.out.2.1.symm)
  have HEZ := hide (((HE3.out.other (a := ⟨w.heap.size + 2, 0, none⟩) (.string oc) HA.out.2.2.symm).other (a := ⟨w.heap.size + 2, 1, none⟩) (.string od) HA.out.2.2.symm).other (a := ⟨w.heap.size + 2, 2, none⟩) (.string ou) HA.out.2.2.symm)
  have HBZ := hide (HBY.out.trans ((((hb3.mono HBY.out.size).setCell (p := ⟨w.heap.size + 2, 0, none⟩) (by simp) (.string oc)).setCell (p := ⟨w.heap.size + 2, 1, none⟩) (by simp) (.string od)).setCell (p := ⟨w.heap.size + 2, 2, none⟩) (by simp) (.string ou)))
  clear hb3
  go_wp2_with fail
  generalize (((w3).setCell ⟨w.heap.size + 2, 0, none⟩ (.string oc)).setCell ⟨w.heap.size + 2, 1, none⟩ (.string od)).setCell ⟨w.heap.size + 2, 2, none⟩ (.string ou) = W3 at HCZ HEZ HGZ HBZ ⊢
  clear r0 r1 r2 f0 f1 f2 c0 c1 c2 c3 c4 d0 d1 d2
  simp only [List.set_cons_zero, List.set_cons_succ] at HGZ
  refine (first_true HR.out sc rn pu ⟨#[]⟩ HZZ.out.1 HZZ.out.2.1 HZZ.out.2.2.1 (by decide) W3 (HTW.out.on HBZ.out)).mono ?_
  rintro e1 w4 ⟨rfl, hb4⟩
  have HC4 := hide (HCZ.out.on hb4)
  have HE4 := hide (HEZ.out.on hb4)
  have HG4 := hide (HGZ.out.on hb4)
  have HB4 := hide (HBZ.out.trans (hb4.mono HBZ.out.size))
  clear hb4
  go_wp2_with fail
  refine (HPB.out _).mono ?_
  rintro e1 w5 ⟨rfl, hw5⟩
  subst w5
  have c0 : w4.cell? ⟨w.heap.size, 0, none⟩ = some (.int .i64 k) := HC4.out.cell 0
  have c1 : w4.cell? ⟨w.heap.size, 1, none⟩ = some (.int .i64 b) := HC4.out.cell 1
  have c2 : w4.cell? ⟨w.heap.size, 2, none⟩ = some (.int .i64 x) := HC4.out.cell 2
  have c3 : w4.cell? ⟨w.heap.size, 3, none⟩ = some (.int .i64 t) := HC4.out.cell 3
  have c4 : w4.cell? ⟨w.heap.size, 4, none⟩ = some (.int .i64 l) := HC4.out.cell 4
  have d0 : w4.cell? ⟨w.heap.size + 1, 0, none⟩ = some (.string sc) := HE4.out.cell 0
  have d1 : w4.cell? ⟨w.heap.size + 1, 1, none⟩ = some (.string rn) := HE4.out.cell 1
  have d2 : w4.cell? ⟨w.heap.size + 1, 2, none⟩ = some (.string pu) := HE4.out.cell 2
  have h0 : w4.cell? ⟨w.heap.size + 2, 0, none⟩ = some (.string oc) := HG4.out.cell 0
  have h1 : w4.cell? ⟨w.heap.size + 2, 1, none⟩ = some (.string od) := HG4.out.cell 1
  have h2 : w4.cell? ⟨w.heap.size + 2, 2, none⟩ = some (.string ou) := HG4.out.cell 2
  have HEN := hide (entered_on k b x t l sc rn pu oc od ou n w4 (by have := HNN.out; omega) HNN.out.2)
  go_wp2_with fail
  refine HEN.out.mono ?_
  rintro e1 w6 ⟨H, SD, D, F, rfl, p1, p2, p3, p4, p5, p6, p7, p8, p9⟩
  clear c0 c1 c2 c3 c4 d0 d1 d2 h0 h1 h2
  obtain ⟨P, hP⟩ : ∃ P : OP, P = ⟨k, b, x, e, f, t, l, sc, rn, pu, oc, od, ou, w4.heap.size, H, n, w4⟩ := ⟨_, rfl⟩
  have HKP := hide (show OPk P by
    subst hP
    exact ⟨HR.out, HZZ.out.1, HZZ.out.2.1, HZZ.out.2.2.1, HZZ.out.2.2.2.1, HZZ.out.2.2.2.2.1, HZZ.out.2.2.2.2.2, HTW.out.on HB4.out, (HTW.out.on HB4.out).pos, HNN.out.1, HNN.out.2, p7⟩)
  have HI0 := hide (show ∃ g, HI P 0 g w6 by
    have hk := HKP.out
    subst hP
    exact hi_new hk rfl p1 p2 p3 p4 p5 p6 p9)
  have HST := hide (fun (V : World) (j : Nat) (hj : j < N) (d : StepDJ) (hd : L[j]? = some d) (ok : StepOkJ w d) (ka : Option Addr) (kc : Nat) (hkv : d.kv = .slice ka d.K.length kc) (hg : ∃ g, HI P j g V) => (by
    obtain ⟨g, hg⟩ := hg
    have hk := HKP.out
    have hKO : KOk P P.Wd (.slice ka d.K.length kc) d.K := by
      rw [← hkv]
      subst hP
      refine ⟨?_, ok.kl, fun b o l c e h0 => Nat.lt_of_lt_of_le (ok.ko b o l c e h0) HB4.out.size⟩
      rcases ok.kb with ⟨e, e2⟩ | ⟨b, o, cap, e, hc, hcell⟩
      · exact .inl ⟨e, e2⟩
      · refine .inr ⟨b, o, cap, e, hc, fun i y hy => ?_⟩
        have hl : b < w.heap.size := ok.ko b o _ _ e (by have := (List.getElem?_eq_some_iff.1 hy).1; omega)
        exact (HB4.out.cell (p := ⟨b, o + i, none⟩) hl).trans (hcell i y hy)
    have := do_step hk hg (by have := HNB.out; omega) (by subst hP; exact Nat.le_refl _) d.kd d.a d.b d.t ka d.K.length kc d.K ok.kd1 ok.kd2 ok.a1 ok.a2 ok.b1 ok.b2 ok.ts hKO
    subst hP
    exact this : Calls Tryz.prog 19 #[.pointer (some ⟨H, 0, none⟩), .agg #[.int .i64 d.kd, .int .i64 d.a, .int .i64 d.b, .string d.t, .slice ka d.K.length kc], .int .i64 n] V fun e w' => e = .returned (.bool true) ∧ ∃ g', HI P (j + 1) g' w'))
  have HLW := hide (fun (V : World) (j : Nat) (hg : ∃ g, HI P j g V) => (by
    obtain ⟨g, hg⟩ := hg
    have hlow := hg.low
    subst hP
    exact HB4.out.trans (hlow.mono HB4.out.size) : Below w.heap.size w V))
  clear hP p1 p2 p3 p4 p5 p6 p7 p8 p9 hwb
  go_wp2_with fail
  go_loopw [13] (fun i wr => ∃ j : Nat, j ≤ N ∧ i = .int .i64 j ∧ Hid (∃ g, HI P j g wr)) (fun i _ => N - (intOf i).toNat)
  case atStart => exact ⟨0, Nat.zero_le _, rfl, HI0.out⟩
  case round =>
    obtain ⟨j, hj, rfl, hinv⟩ := hrel
    by_cases hlt : j < N
    · have HBW := hide (HLW.out wr j hinv.out)
      obtain ⟨dkd, da, db, dt, ka, kn, kc, sb, so, hvav, hcap, g0, g1, g2, g3, g4, HSP⟩ : ∃ (dkd da db : Int) (dt : ByteArray) (ka : Option Addr) (kn kc sb so : Nat), va = some ⟨sb, so, none⟩ ∧ N ≤ vc ∧ wr.cell? ⟨sb, so + j * 5, none⟩ = some (.int .i64 dkd) ∧ wr.cell? ⟨sb, so + j * 5 + 1, none⟩ = some (.int .i64 da) ∧ wr.cell? ⟨sb, so + j * 5 + 2, none⟩ = some (.int .i64 db) ∧ wr.cell? ⟨sb, so + j * 5 + 3, none⟩ = some (.string dt) ∧ wr.cell? ⟨sb, so + j * 5 + 4, none⟩ = some (.slice ka kn kc) ∧ Hid (Calls Tryz.prog 19 #[.pointer (some ⟨H, 0, none⟩), .agg #[.int .i64 dkd, .int .i64 da, .int .i64 db, .string dt, .slice ka kn kc], .int .i64 n] wr fun e w' => e = .returned (.bool true) ∧ ∃ g', HI P (j + 1) g' w') := by
        rcases HV.out with ⟨_, e0⟩ | ⟨sb, so, cap, e0, hcp, hsb, hall⟩
        · have := HN.out
          rw [e0] at this
          simp at this
          omega
        · obtain ⟨d, hd⟩ : ∃ d, L[j]? = some d := ⟨_, List.getElem?_eq_getElem (by rw [HN.out]; exact hlt)⟩
          obtain ⟨ok, c0, c1, c2, c3, c4⟩ := hall j d hd
          simp only [Value.slice.injEq] at e0
          have hc : ∀ o u, w.cell? ⟨sb, o, none⟩ = some u → wr.cell? ⟨sb, o, none⟩ = some u := fun o u h => (HBW.out.cell (p := ⟨sb, o, none⟩) hsb).trans h
          obtain ⟨ka, kc, hkv⟩ := ok.kb.len
          rw [hkv] at c4
          exact ⟨d.kd, d.a, d.b, d.t, ka, d.K.length, kc, sb, so, e0.1, by rw [← HN.out, e0.2.2]; exact hcp, hc _ _ c0, hc _ _ c1, hc _ _ c2, hc _ _ c3, hc _ _ c4, HST.out wr j hlt d hd ok ka kc hkv hinv.out⟩
      subst hvav
      have hms : (j : Int) < (N : Int) := by omega
      have hjb : (j : Int) < 2199023255552 := by have := HNB.out; omega
      clear hinv
      go_wp2_with fail
      refine HSP.out.mono ?_
      rintro e1 w7 ⟨rfl, hq7⟩
      have HQ7 := hide hq7
      clear hq7 g0 g1 g2 g3 g4
      go_wp2
      go_roundw
      case rel => exact ⟨j + 1, by omega, by go_num, HQ7.out⟩
      case measure => simp [intOf]; omega
    · have hms : ¬ (j : Int) < (N : Int) := by omega
      have HBW := hide (HLW.out wr j hinv.out)
      clear hinv
      go_wp2
      go_ret
      exact ⟨rfl, HBW.out⟩
end Go.Proofs.YtgaoeoijdpdjiabGreatDoor
