/-
  Reserve and Sign, over the hall's invariant.
-/
import Derived.Test.YtgaoeoijdpdjiabGreatDoorPart46
namespace Go.Proofs.YtgaoeoijdpdjiabGreatDoor
open Go.RowKit

section
variable {P : OP} {j : Nat} {g : GH} {w w' : World}
/-- A signer is over, or it is the last one. -/
theorem HI.which (h : HI P j g w) {i : Nat} {s : SgD} (hs : g.Ss[i]? = some s) : (∃ tm2, s.D < w.heap.size ∧ w.cell? ⟨s.D, 5, none⟩ = some (.int .i64 tm2) ∧ (s.ov = true ∨ s.tm ≠ tm2)) ∨ (s.D = g.D ∧ s.tm = g.st.term ∧ s.ov = false ∧ i + 1 = g.Ss.length ∧ Live P g.jid g.sq g.sb g.gone s) := by
  rcases h.dd i s hs with ⟨tm2, _, b, c, d⟩ | ⟨a, b⟩
  · exact .inl ⟨tm2, b, c, d⟩
  · by_cases ht : s.tm = g.st.term
    · cases ho : s.ov
      · obtain ⟨l1, l2⟩ := h.lv i s hs a ht ho
        exact .inr ⟨a, ht, rfl, l1, l2⟩
      · exact .inl ⟨g.st.term, by rw [a]; exact h.dsk.ltD, by rw [a]; exact h.dsk.term, .inl rfl⟩
    · exact .inl ⟨g.st.term, by rw [a]; exact h.dsk.ltD, by rw [a]; exact h.dsk.term, .inr ht⟩

/-- A live signer reserves: it is done, or the signer is over. -/
theorem resv_do (Kp : OPk P) (h : HI P j g w) {i G S : Nat} {tm : Int} {z1 z2 z3 : ByteArray} {bat nx q bd : Nat} (hs : g.Ss[i]? = some ⟨G, S, g.D, tm, z1, z2, z3, bat, nx, q, bd, false⟩) (hl : Live P g.jid g.sq g.sb g.gone ⟨G, S, g.D, tm, z1, z2, z3, bat, nx, q, bd, false⟩) (hj : j ≤ 2199023255552) (m : Nat) (h1 : 1 ≤ m) (h2 : m ≤ 64) (hbd : bd < P.tot) :
    (∃ (st2 : DSt) (nb : Nat), JI P.tot st2 g.jid (g.sq + 1) nb ∧ bd < nb ∧ nb ≤ P.tot ∧ Nr g.st st2 1 1 ∧ ∀ V, HI P j g V → Calls Tryz.prog 116 #[.pointer (some ⟨S, 0, none⟩), .int .i64 m] V fun e w' => e = .returned (.int .i64 0) ∧ SGL P.lo S g.D st2 (P.cells ⟨G, S, g.D, tm, z1, z2, z3, bat, nx, q + 1, nb, false⟩) g.F V w') ∨
    (∃ (st2 : DSt) (c : Int), c ≠ 0 ∧ JI P.tot st2 g.jid g.sq g.sb ∧ Nr g.st st2 1 1 ∧ ∀ V, HI P j g V → Calls Tryz.prog 116 #[.pointer (some ⟨S, 0, none⟩), .int .i64 m] V fun e w' => e = .returned (.int .i64 c) ∧ SGL P.lo S g.D st2 (P.cells ⟨G, S, g.D, tm, z1, z2, z3, bat, nx, q, bd, true⟩) g.F V w') := by
  have hz := (h.who i _ hs).1
  have hid8 := Kp.id8 hz
  have e1 : q = g.sq := hl.q
  have e2 : bd = g.sb := hl.bd
  have e3 : P.idZ z1 z3 = g.jid := hl.id
  have e4 := hl.one
  have h4 := Kp.tot4
  have hqb : q ≤ bd + 1 := by
    rcases h.ji.base with ⟨a, _⟩ | ⟨_, ⟨x, _, _, _, _, b, _⟩, _⟩
    · omega
    · omega
  have cn := h.cnt
  have t0 := cn.t0
  have t1 := cn.t1
  have y0 := cn.y0
  have y1 := cn.y1
  have w0 := cn.w0
  have w1 := cn.w1
  obtain ⟨nb, hnb⟩ : ∃ nb : Nat, nb = min (bd + m) P.tot := ⟨_, rfl⟩
  have hnbi : (if (P.tot : Int) < (bd : Int) + (m : Int) then (P.tot : Int) else (bd : Int) + (m : Int)) = (nb : Int) := by split <;> omega
  obtain ⟨q2, hq2⟩ : ∃ q2 : Nat, (q + 1) % 2 = q2 := ⟨_, rfl⟩
  have hq2i : Int.tmod ((q : Int) + 1) 2 = (q2 : Int) := by rw [Int.tmod_eq_emod_of_nonneg (by omega)]; omega
  have hw2 : IntKind.i64.wrap (q2 : Int) = (q2 : Int) := by rw [IntKind.wrap_i64] <;> omega
  have hwq : IntKind.i64.wrap ((q : Int) + 1) = (q : Int) + 1 := by rw [IntKind.wrap_i64] <;> omega
  have hwb : IntKind.i64.wrap ((bd : Int) + (m : Int)) = (bd : Int) + (m : Int) := by rw [IntKind.wrap_i64] <;> omega
  have hR : RecR ((q : Int) + 1) nb (P.idZ z1 z3) := ⟨by omega, by omega, by omega, by omega, hid8⟩
  have hsz := sealS_size ((q : Int) + 1) nb (P.idZ z1 z3) hid8
  have hlay : JI P.tot (wrSt g.st q2 (sealS ((q : Int) + 1) nb (P.idZ z1 z3))) g.jid g.sq g.sb := by
    have := h.ji.lay nb (by omega) (by omega) (by omega)
    rw [← e1, hq2, ← e3, e1] at this
    rw [e1]
    rw [← e3]
    exact this
  have nW := nr_write g.st q2 (sealS ((q : Int) + 1) nb (P.idZ z1 z3))
  have nWS := nW.trans (nr_sync _)
  have hys : (wrSt g.st q2 (sealS ((q : Int) + 1) nb (P.idZ z1 z3))).syncs = g.st.syncs := by have := nW.y1; have := nW.y2; omega
  have hSd : ∀ V, HI P j g V → Blk V S (P.cells ⟨G, S, g.D, tm, z1, z2, z3, bat, nx, q, bd, false⟩) 188 ∧ ¬ g.F S := fun V hV => by
    obtain ⟨_, p2, _, p4, _⟩ := hV.mem i _ hs
    exact ⟨p2, hV.nF (by show g.c S ≠ 3; have p4' : g.c S = 7 + i := p4; omega)⟩
  by_cases ha : wrAns g.st q2 (sealS ((q : Int) + 1) nb (P.idZ z1 z3)) = 0
  · by_cases hy : syAns (wrSt g.st q2 (sealS ((q : Int) + 1) nb (P.idZ z1 z3))) = 0
    · refine .inl ⟨_, nb, ?_, by omega, by omega, nWS.mono (by decide) (by decide), fun V hV => ?_⟩
      · have := h.ji.laid nb (by omega) (by omega) (by omega) (fun e => absurd e (by omega))
        rw [← e1, hq2, ← e3] at this
        rw [← e1, ← e3]
        exact this ha hy
      · obtain ⟨p1, p2⟩ := hSd V hV
        refine (reserve_yes P.lo S g.D g.st g.F tm P.k P.b P.x P.t P.l (P.rootZ z1 z3) z3 z1 z2 (P.tot : Int) bat nx q bd (P.idZ z1 z3) false m q2 nb V p1 hV.dsk p2 hV.big w0 (by omega) y0 (by omega) hR hq2i hw2 hwq hwb hnbi ha hys hy).mono ?_
        rintro e w' ⟨rfl, k1, k2⟩
        exact ⟨rfl, k1, k2⟩
    · refine .inr ⟨_, _, hy, hlay.sync, nWS.mono (by decide) (by decide), fun V hV => ?_⟩
      obtain ⟨p1, p2⟩ := hSd V hV
      refine (reserve_nosync P.lo S g.D g.st g.F tm P.k P.b P.x P.t P.l (P.rootZ z1 z3) z3 z1 z2 (P.tot : Int) bat nx q bd (P.idZ z1 z3) false m q2 nb _ V hy p1 hV.dsk p2 hV.big w0 (by omega) y0 (by omega) hR hq2i hw2 hwq hwb hnbi ha hys rfl).mono ?_
      rintro e w' ⟨rfl, k1, k2⟩
      exact ⟨rfl, k1, k2⟩
  · refine .inr ⟨_, _, ha, hlay, nW.mono (by decide) (by decide), fun V hV => ?_⟩
    obtain ⟨p1, p2⟩ := hSd V hV
    refine (reserve_nolay P.lo S g.D g.st g.F tm P.k P.b P.x P.t P.l (P.rootZ z1 z3) z3 z1 z2 (P.tot : Int) bat nx q bd (P.idZ z1 z3) false m q2 nb _ V ha p1 hV.dsk p2 hV.big w0 (by omega) hR hq2i hw2 hwq hwb hnbi rfl).mono ?_
    rintro e w' ⟨rfl, k1, k2⟩
    exact ⟨rfl, k1, k2⟩

theorem HI.len_pos (h : HI P j g w) (hp : 0 < g.Ss.length) : ∃ g1 cap, g.sv = .slice (some ⟨g1, 0, none⟩) g.Ss.length cap ∧ g.Ss.length ≤ cap ∧ g1 < w.heap.size ∧ ∀ (i : Nat) (s : SgD), g.Ss[i]? = some s → w.cell? ⟨g1, i, none⟩ = some (.pointer (some ⟨s.G, 0, none⟩)) := by
  have hr := h.rs
  rcases hr.2 with ⟨_, e⟩ | ⟨g1, cap, cur, hv, hb, hg, hnc, _, _, _⟩
  · omega
  · refine ⟨g1, cap, hv, hnc, (Array.getElem?_eq_some_iff.1 hg).1, fun i s hs => ?_⟩
    rw [hv] at hr
    have hil := (List.getElem?_eq_some_iff.1 hs).1
    rw [hr.cellAt i (by omega)]
    rw [ptrs, List.getElem?_map, hs]
    rfl

set_option maxHeartbeats 1000000 in
theorem do_reserve (Kp : OPk P) (h : HI P j g w) (hj : j ≤ 2199023255552) (kd a bb : Int) (tx : ByteArray) (ka : Option Addr) (kn kc : Nat) (bt : Nat) (hk1 : -9223372036854775808 ≤ kd) (hk2 : kd ≤ 9223372036854775807) (ha1 : -9223372036854775808 ≤ a) (ha2 : a ≤ 9223372036854775807) (hb1 : -9223372036854775808 ≤ bb) (hb2 : bb ≤ 9223372036854775807) (hbt : pickZ bb 64 = bt) (hbt2 : bt < 64) (hk : pickZ kd 9 = 3)
    (hpk : ∀ n : Nat, 1 ≤ n → ∃ p : Nat, pickZ a n = p ∧ p < n) :
    Calls Tryz.prog 19 #[.pointer (some ⟨P.H, 0, none⟩), .agg #[.int .i64 kd, .int .i64 a, .int .i64 bb, .string tx, .slice ka kn kc], .int .i64 P.n] w fun e w' => e = .returned (.bool true) ∧ ∃ g', HI P (j + 1) g' w' := by
  have cn := h.cnt
  have hlj := cn.a
  by_cases hp : 0 < g.Ss.length
  · obtain ⟨g1, cap, hsv, hcap, hgl, hcell⟩ := h.len_pos hp
    obtain ⟨i, hi, hi2⟩ := hpk g.Ss.length hp
    obtain ⟨s, hs⟩ : ∃ s, g.Ss[i]? = some s := ⟨_, List.getElem?_eq_getElem hi2⟩
    refine step_reserve P.H g.SD P.k P.b P.x P.t P.l P.s1 P.s2 P.s3 P.o1 P.o2 P.o3 g1 g.Ss.length cap s.G i g.bv g.gv kd a bb tx ka kn kc P.n bt _ w (by rw [← hsv]; exact h.hall) hk1 hk2 hb1 hb2 hbt hbt2 hk ha1 ha2 (by omega) hi hi2 hcap hgl (hcell i s hs) (fun V hbV => ?_)
    have hV := h.below hbV
    obtain ⟨m1, m2, m3, m4, m5⟩ := hV.mem i s hs
    have hwho := hV.who i s hs
    rcases hV.which hs with ⟨tm2, d1, d2, d3⟩ | ⟨d1, d2, d3, d4, d5⟩
    · refine (sgReserve_on s.G s.S _ 0 9 _ V m1 (sreserve_over s.S s.D tm2 s.tm P.k P.b P.x P.t P.l _ s.z3 s.z1 s.z2 _ s.bat s.nx s.q s.bd _ s.ov ((bt : Int) + 1) V m2 d1 d2 d3)).mono ?_
      rintro e w' ⟨rfl, hb⟩
      exact ⟨⟨_, _, rfl⟩, g, (hV.below hb).next⟩
    · obtain ⟨G, S, D, tm, z1, z2, z3, bat, nx, q, bd, ov⟩ := s
      dsimp only at d1 d2 d3 m1 m2 m3 m4 m5 hwho
      subst d1 d3
      have nS : ¬ g.F S := hV.nF (by omega)
      have hbm : bd ≤ P.tot := by
        rcases hV.ji.base with ⟨x1, x2⟩ | ⟨_, ⟨_, _, _, _, _, _, x3⟩, _⟩
        · have := d5.one; omega
        · have e : bd = g.sb := d5.bd; omega
      have hqm : q ≤ 5000 := by
        have e : q = g.sq := d5.q
        have e' : bd = g.sb := d5.bd
        have := Kp.tot4
        rcases hV.ji.base with ⟨x1, x2⟩ | ⟨_, ⟨_, _, _, _, _, x4, x3⟩, _⟩ <;> omega
      by_cases hsp : bd = P.tot
      · refine (sgReserve_on G S _ 0 10 _ V m1 (sreserve_spent P.lo S g.D g.st g.F tm P.k P.b P.x P.t P.l _ z3 z1 z2 _ bat nx q bd _ ((bt : Int) + 1) V m2 hV.dsk nS d2.symm (by omega) (by omega) (by omega))).mono ?_
        rintro e w' ⟨rfl, hb⟩
        exact ⟨⟨_, _, rfl⟩, g, (hV.below hb).next⟩
      · have hbtc : ((bt + 1 : Nat) : Int) = (bt : Int) + 1 := by omega
        rcases resv_do Kp hV hs d5 hj (bt + 1) (by omega) (by omega) (by omega) with ⟨st2, nb, k1, k2, k3, k4, k5⟩ | ⟨st2, c, k1, k2, k3, k4⟩
        · rw [hbtc] at k5
          refine (sgReserve_on G S _ nb 0 _ V m1 (sreserve_yes P.lo S g.D g.st g.F tm P.k P.b P.x P.t P.l _ z3 z1 z2 _ bat nx q bd _ ((bt : Int) + 1) nb st2 V m2 hV.dsk nS d2.symm (by omega) (by omega) (by omega) (by omega) (fun V2 hb2 => k5 V2 (hV.below hb2)))).mono ?_
          rintro e w' ⟨rfl, l1, F', l2, l3, l4⟩
          refine ⟨⟨_, _, rfl⟩, ?_⟩
          obtain ⟨c', hh⟩ := hV.change (s' := ⟨G, S, g.D, tm, z1, z2, z3, bat, nx, q + 1, nb, false⟩) hs rfl rfl rfl rfl hwho rfl d4 l1 l2 l3 l4 k1 (Nat.le_refl _) (by have := hV.gs; have e : bd = g.sb := d5.bd; omega) (k4.n.trans hV.stn) k4.t (fun _ => ⟨d5.id, by have e : q = g.sq := d5.q; show q + 1 = g.sq + 1; omega, rfl, d5.lo, by have e : nx ≤ g.sb := d5.hi; have e2 : bd = g.sb := d5.bd; show nx ≤ nb; omega, by omega⟩) (hV.cntN k4 (by decide) (by decide))
          exact ⟨_, hh⟩
        · rw [hbtc] at k4
          refine (sgReserve_on G S _ 0 c _ V m1 (sreserve_fail P.lo S g.D g.st g.F tm P.k P.b P.x P.t P.l _ z3 z1 z2 _ bat nx q bd _ ((bt : Int) + 1) c st2 k1 V m2 hV.dsk nS d2.symm (by omega) (by omega) (by omega) (by omega) (fun V2 hb2 => k4 V2 (hV.below hb2)))).mono ?_
          rintro e w' ⟨rfl, l1, F', l2, l3, l4⟩
          refine ⟨⟨_, _, rfl⟩, ?_⟩
          obtain ⟨c', hh⟩ := hV.change (s' := ⟨G, S, g.D, tm, z1, z2, z3, bat, nx, q, bd, true⟩) hs rfl rfl rfl rfl hwho rfl d4 l1 l2 l3 l4 k2 (Nat.le_refl _) hV.gs (k3.n.trans hV.stn) k3.t (fun e => by simp at e) (hV.cntN k3 (by decide) (by decide))
          exact ⟨_, hh⟩
  · have h0 : g.Ss.length = 0 := by omega
    obtain ⟨sa, sc, hsv⟩ := owns_len h.rs
    refine (step_none3 P.H g.SD P.k P.b P.x P.t P.l P.s1 P.s2 P.s3 P.o1 P.o2 P.o3 sa g.Ss.length sc g.bv g.gv kd a bb tx ka kn kc P.n bt w (by rw [← hsv]; exact h.hall) hk1 hk2 hb1 hb2 hbt hbt2 hk h0).mono ?_
    rintro e w' ⟨rfl, hb⟩
    exact ⟨rfl, g, (h.below hb).next⟩
end
end Go.Proofs.YtgaoeoijdpdjiabGreatDoor
