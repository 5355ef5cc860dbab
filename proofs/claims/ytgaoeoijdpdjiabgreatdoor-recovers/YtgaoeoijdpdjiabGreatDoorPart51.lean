/-
  A signer reserves, over the trail's invariant. The trail's step that reserves. The blocks of a disk are of its own types. Open and the moves of the disk, over the trail's invariant. The trail's step that signs.
-/
import Derived.Test.YtgaoeoijdpdjiabGreatDoorPart50
namespace Go.Proofs.YtgaoeoijdpdjiabGreatDoor
open Go.RowKit
section
variable {P : OP} {j j' TR : Nat} {g : GH} {bg : Value} {B : List Int} {su go : Nat} {w w' : World}
theorem HI.up (h : HI P j g w) (hj : j ≤ j') : HI P j' g w := ⟨h.hall, h.cH, h.disk, h.cSD, h.dsk, h.cF, h.rs, h.cs, h.rb, h.cb, h.rg, h.cg, h.mem, h.who, h.dd, h.lv, h.ji, h.gs, h.gl, h.low, h.big, h.stn, h.cnt.mono hj⟩
theorem RI.up (h : RI P j TR g bg B su go w) (hj : j ≤ j') : RI P j' TR g bg B su go w :=
  h.same hj (h.hi.up hj) (fun _ _ e => ⟨e, rfl⟩) ⟨rfl, rfl, rfl, rfl, rfl, rfl, fun _ _ _ h => h⟩
/-- A live signer reserves: it is done, or the signer is over; what is on the disk then. -/
theorem resv_do2 (Kp : OPk P) (h : HI P j g w) {i G S : Nat} {tm : Int} {z1 z2 z3 : ByteArray} {bat nx q bd : Nat} (hs : g.Ss[i]? = some ⟨G, S, g.D, tm, z1, z2, z3, bat, nx, q, bd, false⟩) (hl : Live P g.jid g.sq g.sb g.gone ⟨G, S, g.D, tm, z1, z2, z3, bat, nx, q, bd, false⟩) (hj : j ≤ 8796093022208) (m : Nat) (h1 : 1 ≤ m) (h2 : m ≤ 64) (hbd : bd < P.tot) :
    (∃ (st2 : DSt) (nb : Nat), nb = min (bd + m) P.tot ∧ (∀ s, s < 2 → ∀ x, Cand st2 s x → Cand g.st s x ∨ x = sealS ((q : Int) + 1) ((min (bd + m) P.tot : Nat) : Int) (P.idZ z1 z3)) ∧ JI P.tot st2 g.jid (g.sq + 1) nb ∧ bd < nb ∧ nb ≤ P.tot ∧ Nr g.st st2 1 1 ∧ ∀ V, HI P j g V → Calls Tryz.prog 116 #[.pointer (some ⟨S, 0, none⟩), .int .i64 m] V fun e w' => e = .returned (.int .i64 0) ∧ SGL P.lo S g.D st2 (P.cells ⟨G, S, g.D, tm, z1, z2, z3, bat, nx, q + 1, nb, false⟩) g.F V w') ∨
    (∃ (st2 : DSt) (c : Int), ¬ Quiet g.st ∧ (∀ s, s < 2 → ∀ x, Cand st2 s x → Cand g.st s x ∨ x = sealS ((q : Int) + 1) ((min (bd + m) P.tot : Nat) : Int) (P.idZ z1 z3)) ∧ c ≠ 0 ∧ JI P.tot st2 g.jid g.sq g.sb ∧ Nr g.st st2 1 1 ∧ ∀ V, HI P j g V → Calls Tryz.prog 116 #[.pointer (some ⟨S, 0, none⟩), .int .i64 m] V fun e w' => e = .returned (.int .i64 c) ∧ SGL P.lo S g.D st2 (P.cells ⟨G, S, g.D, tm, z1, z2, z3, bat, nx, q, bd, true⟩) g.F V w') := by
  have hz := (h.who i _ hs).1
  have hid8 := Kp.id8 hz
  have e1 : q = g.sq := hl.q
  have e2 : bd = g.sb := hl.bd
  have e3 : P.idZ z1 z3 = g.jid := hl.id
  have e4 := hl.one
  have h4 := Kp.tot4
  have hqb : q ≤ bd + 1 := by
    rcases h.ji.base with ⟨a, _⟩ | ⟨_, ⟨x, _, _, _, _, b, _⟩, _⟩
    · omega
    · omega
  have cn := h.cnt
  have t0 := cn.t0
  have t1 := cn.t1
  have y0 := cn.y0
  have y1 := cn.y1
  have w0 := cn.w0
  have w1 := cn.w1
  obtain ⟨nb, hnb⟩ : ∃ nb : Nat, nb = min (bd + m) P.tot := ⟨_, rfl⟩
  have hnbi : (if (P.tot : Int) < (bd : Int) + (m : Int) then (P.tot : Int) else (bd : Int) + (m : Int)) = (nb : Int) := by split <;> omega
  obtain ⟨q2, hq2⟩ : ∃ q2 : Nat, (q + 1) % 2 = q2 := ⟨_, rfl⟩
  have hq2i : Int.tmod ((q : Int) + 1) 2 = (q2 : Int) := by rw [Int.tmod_eq_emod_of_nonneg (by omega)]; omega
  have hw2 : IntKind.i64.wrap (q2 : Int) = (q2 : Int) := by rw [IntKind.wrap_i64] <;> omega
  have hwq : IntKind.i64.wrap ((q : Int) + 1) = (q : Int) + 1 := by rw [IntKind.wrap_i64] <;> omega
  have hwb : IntKind.i64.wrap ((bd : Int) + (m : Int)) = (bd : Int) + (m : Int) := by rw [IntKind.wrap_i64] <;> omega
  have hR : RecR ((q : Int) + 1) nb (P.idZ z1 z3) := ⟨by omega, by omega, by omega, by omega, hid8⟩
  have hsz := sealS_size ((q : Int) + 1) nb (P.idZ z1 z3) hid8
  have hlay : JI P.tot (wrSt g.st q2 (sealS ((q : Int) + 1) nb (P.idZ z1 z3))) g.jid g.sq g.sb := by
    have := h.ji.lay nb (by omega) (by omega) (by omega)
    rw [← e1, hq2, ← e3, e1] at this
    rw [e1]
    rw [← e3]
    exact this
  have nW := nr_write g.st q2 (sealS ((q : Int) + 1) nb (P.idZ z1 z3))
  have nWS := nW.trans (nr_sync _)
  have hys : (wrSt g.st q2 (sealS ((q : Int) + 1) nb (P.idZ z1 z3))).syncs = g.st.syncs := by have := nW.y1; have := nW.y2; omega
  have hSd : ∀ V, HI P j g V → Blk V S (P.cells ⟨G, S, g.D, tm, z1, z2, z3, bat, nx, q, bd, false⟩) 188 ∧ ¬ g.F S := fun V hV => by
    obtain ⟨_, p2, _, p4, _⟩ := hV.mem i _ hs
    exact ⟨p2, hV.nF (by show g.c S ≠ 3; have p4' : g.c S = 7 + i := p4; omega)⟩
  have hcd : ∀ {s x}, Cand (wrSt g.st q2 (sealS ((q : Int) + 1) nb (P.idZ z1 z3))) s x → Cand g.st s x ∨ x = sealS ((q : Int) + 1) ((min (bd + m) P.tot : Nat) : Int) (P.idZ z1 z3) := fun {s x} hx => by
    rw [← hnb]
    exact (cand_write _ _ hx).imp id (fun e => e.2)
  have hn2 : 2 ≤ g.st.n := h.ji.n2
  have hqa : Quiet g.st → wrAns g.st q2 (sealS ((q : Int) + 1) nb (P.idZ z1 z3)) = 0 ∧ (wrSt g.st q2 (sealS ((q : Int) + 1) nb (P.idZ z1 z3))).trouble = 0 := fun hQ => by
    have e1 : ¬ ¬ (0 ≤ (q2 : Int) ∧ (q2 : Int) < g.st.n) := fun e => e ⟨by omega, by omega⟩
    have e3 : ¬ (g.st.trouble = 1 ∨ g.st.pend.length = 16) := by rw [hQ.tr, hQ.pe]; decide
    unfold wrAns wrSt
    rw [if_neg e1, if_neg (fun e => e hsz), if_neg e3, if_neg e1, if_neg (fun e => e hsz), if_neg e3]
    exact ⟨rfl, by show tick g.st.trouble = 0; rw [hQ.tr]; rfl⟩
  have hqy : Quiet g.st → syAns (wrSt g.st q2 (sealS ((q : Int) + 1) nb (P.idZ z1 z3))) = 0 := fun hQ => by
    unfold syAns
    rw [(hqa hQ).2]
    rfl
  by_cases ha : wrAns g.st q2 (sealS ((q : Int) + 1) nb (P.idZ z1 z3)) = 0
  · by_cases hy : syAns (wrSt g.st q2 (sealS ((q : Int) + 1) nb (P.idZ z1 z3))) = 0
    · refine .inl ⟨_, nb, hnb, fun s _ x hx => hcd (cand_sync hx), ?_, by omega, by omega, nWS.mono (by decide) (by decide), fun V hV => ?_⟩
      · have := h.ji.laid nb (by omega) (by omega) (by omega) (fun e => absurd e (by omega))
        rw [← e1, hq2, ← e3] at this
        rw [← e1, ← e3]
        exact this ha hy
      · obtain ⟨p1, p2⟩ := hSd V hV
        refine (reserve_yes P.lo S g.D g.st g.F tm P.k P.b P.x P.t P.l (P.rootZ z1 z3) z3 z1 z2 (P.tot : Int) bat nx q bd (P.idZ z1 z3) false m q2 nb V p1 hV.dsk p2 hV.big w0 (by omega) y0 (by omega) hR hq2i hw2 hwq hwb hnbi ha hys hy).mono ?_
        rintro e w' ⟨rfl, k1, k2⟩
        exact ⟨rfl, k1, k2⟩
    · refine .inr ⟨_, _, fun hQ => hy (hqy hQ), fun s _ x hx => hcd (cand_sync hx), hy, hlay.sync, nWS.mono (by decide) (by decide), fun V hV => ?_⟩
      obtain ⟨p1, p2⟩ := hSd V hV
      refine (reserve_nosync P.lo S g.D g.st g.F tm P.k P.b P.x P.t P.l (P.rootZ z1 z3) z3 z1 z2 (P.tot : Int) bat nx q bd (P.idZ z1 z3) false m q2 nb _ V hy p1 hV.dsk p2 hV.big w0 (by omega) y0 (by omega) hR hq2i hw2 hwq hwb hnbi ha hys rfl).mono ?_
      rintro e w' ⟨rfl, k1, k2⟩
      exact ⟨rfl, k1, k2⟩
  · refine .inr ⟨_, _, fun hQ => ha (hqa hQ).1, fun s _ x hx => hcd hx, ha, hlay, nW.mono (by decide) (by decide), fun V hV => ?_⟩
    obtain ⟨p1, p2⟩ := hSd V hV
    refine (reserve_nolay P.lo S g.D g.st g.F tm P.k P.b P.x P.t P.l (P.rootZ z1 z3) z3 z1 z2 (P.tot : Int) bat nx q bd (P.idZ z1 z3) false m q2 nb _ V ha p1 hV.dsk p2 hV.big w0 (by omega) hR hq2i hw2 hwq hwb hnbi rfl).mono ?_
    rintro e w' ⟨rfl, k1, k2⟩
    exact ⟨rfl, k1, k2⟩
/-- The signer number i had a turn, and the disk. -/
theorem RI.change (h : RI P j TR g bg B su go w) {i : Nat} {s s' : SgD} (hs : g.Ss[i]? = some s) (eG : s'.G = s.G) (eS : s'.S = s.S) (eD : s'.D = s.D) (et : s'.tm = s.tm) (eb : s'.bat = s.bat) (ew : P.seed s'.z1 s'.z2 s'.z3 ∧ 1 ≤ s'.bat ∧ s'.bat ≤ 64) (hD : s.D = g.D) (hi : i + 1 = g.Ss.length)
    {st2 : DSt} {F' : Nat → Prop} {sq2 sb2 gone2 : Nat} (hB : Blk w' s.S (P.cells s') 188) (hd : DSk P.lo g.D st2 w' F') (hk : Kept (fun q => q = s.S ∨ g.F q) w w') (hf : ∀ q, F' q → g.F q ∨ w.heap.size ≤ q)
    (hJ : JI P.tot st2 g.jid sq2 sb2) (hg1 : g.gone ≤ gone2) (hg2 : gone2 ≤ sb2) (hn : st2.n = P.n) (ht : st2.term = g.st.term) (hl : s'.ov = false → Live P g.jid sq2 sb2 gone2 s') (hc : Cnt (j + 1) st2 g.Ss.length g.L.length) (hI : InB P.tot st2 g.jid B) :
    ∃ g', HI P (j + 1) g' w' ∧ Fr g g' w w' ∧ g'.c TR = 0 ∧ Blk w' TR (trC P.H bg su go) 58 ∧ w'.ownsRow P.lo 3 1 bg B.length (B.map (.int .i64)) ∧ (∀ q, bg.ownBlock = some q → g'.c q = 0) ∧ g'.ys = (g'.Ss.map fun s => .int .i64 s.bat) ∧ g'.jid = P.idZ P.s1 P.s3 ∧ InB P.tot g'.st g'.jid B ∧ g'.sb = sb2 ∧ g'.gone = gone2 ∧ g'.sq = sq2 ∧ g'.Ss = g.Ss.set i s' ∧ g'.D = g.D ∧ g'.st = st2 := by
  obtain ⟨c', hh, hc1⟩ := h.hi.change hs eG eS eD et ew hD hi hB hd hk hf hJ hg1 hg2 hn ht hl hc
  obtain ⟨_, _, _, m4, _⟩ := h.hi.mem i s hs
  have fr : Fr g { g with c := c', F := F', st := st2, sq := sq2, sb := sb2, gone := gone2, Ss := g.Ss.set i s' } w w' := Fr.of_kept hk (fun q e => by
    rcases e with rfl | e
    · rw [m4]; omega
    · rw [h.hi.cF q e]; decide) (fun q hq e => (hc1 q hq).trans e)
  obtain ⟨b1, b2⟩ := fr.blk h.tr h.ct
  obtain ⟨r1, r2⟩ := fr.row h.rb h.cb
  refine ⟨_, hh, fr, b2, b1, r1, r2, ?_, h.jd, hI, rfl, rfl, rfl, rfl, rfl, rfl⟩
  show g.ys = (g.Ss.set i s').map fun s => .int .i64 s.bat
  rw [List.map_set, h.ys, eb]
  refine (List.ext_getElem? (fun q => ?_)).symm
  rw [List.getElem?_set]
  split
  · rename_i e
    subst e
    have hil : i < g.Ss.length := by omega
    rw [if_pos (by simpa using hil), List.getElem?_map, hs]; rfl
  · rfl
end
end Go.Proofs.YtgaoeoijdpdjiabGreatDoor

namespace Go.Proofs.YtgaoeoijdpdjiabGreatDoor
open Go.RowKit
section
variable {P : OP} {j TR : Nat} {g : GH} {bg : Value} {B : List Int} {su go : Nat} {w w' : World}
theorem inb_laid {tot : Nat} {st st2 : DSt} {id : ByteArray} {q nb : Nat} (h : InB tot st id B) (h8 : id.size = 8) (h4 : tot ≤ 4096) (hq : q ≤ nb) (hb : nb ≤ tot) (hin : (nb : Int) ∈ B) (hc : ∀ s, s < 2 → ∀ x, Cand st2 s x → Cand st s x ∨ x = sealS ((q : Int) + 1) nb id) : InB tot st2 id B := fun s hs x hx q' b hj => by
  rcases hc s hs x hx with e | rfl
  · exact h s hs x e q' b hj
  · have hj1 : Jr tot id ((q + 1) % 2) (sealS ((q : Int) + 1) nb id) (q + 1) nb := jr_new (q + 1) nb (by omega) (by omega) hb
    have r1 := (jr_rec hj1 h8 h4).2
    have r2 := (jr_rec hj h8 h4).2
    rw [r1] at r2
    have e2 := congrArg Rec.b r2
    simp only at e2
    rw [← e2]; exact hin
theorem trC_inj {H : Nat} {b1 b2 : Value} {s1 s2 o1 o2 : Int} (h : Blk w TR (trC H b1 s1 o1) 58) (k : Blk w TR (trC H b2 s2 o2) 58) : b1 = b2 := by
  unfold Blk at h k
  rw [h] at k
  simp only [Option.some.injEq, Obj.cells.injEq, trC] at k
  have e := congrArg (fun a => a[1]?) k.1
  simpa using e
/-- The trail's own cells were written. -/
theorem RI.retr (h : RI P j TR g bg B su go w) {su2 go2 : Nat} (hb : Blk w' TR (trC P.H bg su2 go2) 58) (hk : Kept (fun q => q = TR) w w') (hsu : su2 ≤ g.sb) (hgo : go2 = g.gone) : RI P j TR { g with c := paint g.c w.heap.size (fun _ => 0) } bg B su2 go2 w' := by
  have hf := h.hi.foreign hk (fun q e => .inl (by rw [e]; exact h.ct)) (fun q e => by rw [e]; exact h.lT)
  have hne : bg.ownBlock ≠ some TR := owns_ne_blk h.rb h.tr (by decide)
  exact ⟨hf, hb, (paint_lt (c := g.c) (d := fun _ => 0) h.tr.lt).trans h.ct, owns_kept h.rb hk (fun q e e2 => hne (by rw [e, e2])), fun q e => (paint_lt (c := g.c) (d := fun _ => 0) (h.rb.lt q e).2).trans (h.cb q e), h.ys, h.jd, h.z0, h.inb, hsu, hgo, h.ne, h.bl, h.lT⟩
set_option maxHeartbeats 2000000 in
theorem rdo_reserve (Kp : OPk P) (h : RI P j TR g bg B su go w) (hj : j ≤ 8796093022200) (kd a bb : Int) (tx : ByteArray) (ka : Option Addr) (kn kc : Nat) (bt : Nat) (hk1 : -9223372036854775808 ≤ kd) (hk2 : kd ≤ 9223372036854775807) (ha1 : -9223372036854775808 ≤ a) (ha2 : a ≤ 9223372036854775807) (hb1 : -9223372036854775808 ≤ bb) (hb2 : bb ≤ 9223372036854775807) (hbt : pickZ bb 64 = bt) (hbt2 : bt < 64) (hk : pickZ kd 9 = 3)
    (hpk : ∀ n : Nat, 1 ≤ n → ∃ p : Nat, pickZ a n = p ∧ p < n) :
    Calls Tryz.prog 20 #[.pointer (some ⟨TR, 0, none⟩), .agg #[.int .i64 kd, .int .i64 a, .int .i64 bb, .string tx, .slice ka kn kc], .int .i64 P.n] w fun e w' => e = .returned (.bool true) ∧ ∃ g' bg' B' su' go', RI P (j + 2) TR g' bg' B' su' go' w' := by
  have cn := h.hi.cnt
  have hlj := cn.a
  have hbl := h.bl
  by_cases hp : 0 < g.Ss.length
  · obtain ⟨g1, cap, hsv, hcap, hgl, hcell⟩ := h.hi.len_pos hp
    obtain ⟨i, hi, hi2⟩ := hpk g.Ss.length hp
    obtain ⟨s, hs⟩ : ∃ s, g.Ss[i]? = some s := ⟨_, List.getElem?_eq_getElem hi2⟩
    refine tstep_reserve TR P.H g.SD P.k P.b P.x P.t P.l P.s1 P.s2 P.s3 P.o1 P.o2 P.o3 g1 g.Ss.length cap i g.bv g.gv bg su go kd a bb tx ka kn kc P.n bt _ w (by rw [← hsv]; exact h.hi.hall) h.tr hk1 hk2 hb1 hb2 hbt hbt2 hk ha1 ha2 (by omega) hi hi2 (fun V hbV => ?_)
    have hV := h.below hbV
    have hHV : Blk V P.H (hallC g.SD P.k P.b P.x P.t P.l P.s1 P.s2 P.s3 P.o1 P.o2 P.o3 (.slice (some ⟨g1, 0, none⟩) g.Ss.length cap) g.bv g.gv) 65 := by rw [← hsv]; exact hV.hi.hall
    have hcV : V.cell? ⟨g1, i, none⟩ = some (.pointer (some ⟨s.G, 0, none⟩)) := (hbV.cell (p := ⟨g1, i, none⟩) hgl).trans (hcell i s hs)
    obtain ⟨m1, m2, m3, m4, m5⟩ := hV.hi.mem i s hs
    have hwho := hV.hi.who i s hs
    have hbtc : ((bt + 1 : Nat) : Int) = (bt : Int) + 1 := by omega
    rcases hV.hi.which hs with ⟨tm2, d1, d2, d3⟩ | ⟨d1, d2, d3, d4, d5⟩
    · refine treserves_no TR P.H g.SD P.k P.b P.x P.t P.l P.s1 P.s2 P.s3 P.o1 P.o2 P.o3 g1 g.Ss.length cap i s.G g.bv g.gv bg su go ((bt : Int) + 1) 9 (fun V' => Below V.heap.size V V') _ V hHV hV.tr hi2 hcap hcV (by omega) (by decide) (will_over TR s.G s.nx s.bd s.q _ V (st_over hV.hi hs d1 d2 d3)) (fun V' hb => ?_)
      obtain ⟨n1, n2, _⟩ := (hV.hi.below hb).mem i s hs
      refine (sgReserve_on s.G s.S _ 0 9 _ V' n1 (sreserve_over s.S s.D tm2 s.tm P.k P.b P.x P.t P.l _ s.z3 s.z1 s.z2 _ s.bat s.nx s.q s.bd _ s.ov ((bt : Int) + 1) V' n2 (Nat.lt_of_lt_of_le d1 hb.size) ((hb.cell (p := ⟨s.D, 5, none⟩) d1).trans d2) d3)).mono ?_
      rintro e w' ⟨rfl, hb2⟩
      exact ⟨rfl, g, _, _, _, _, ((hV.below hb).below hb2).up (by omega)⟩
    · have hst := st_live hV.hi hs d1 d2 d3
      have h4 := Kp.tot4
      have hbm : s.bd ≤ P.tot ∧ s.q ≤ s.bd + 1 := by
        have e : s.bd = g.sb := d5.bd
        have e' : s.q = g.sq := d5.q
        rcases hV.hi.ji.base with ⟨x1, x2⟩ | ⟨_, ⟨_, _, _, _, _, x4, x3⟩, _⟩
        · have := d5.one; omega
        · omega
      by_cases hsp : s.bd = P.tot
      · refine treserves_no TR P.H g.SD P.k P.b P.x P.t P.l P.s1 P.s2 P.s3 P.o1 P.o2 P.o3 g1 g.Ss.length cap i s.G g.bv g.gv bg su go ((bt : Int) + 1) 10 (fun V' => Below V.heap.size V V') _ V hHV hV.tr hi2 hcap hcV (by omega) (by decide) ?_ (fun V' hb => ?_)
        · obtain ⟨ba, bc, hbg⟩ := owns_len hV.rb
          exact will_full TR P.H g.SD s.G P.k P.b P.x P.t P.l P.s1 P.s2 P.s3 P.o1 P.o2 P.o3 g.sv g.bv g.gv ba B.length bc su go s.nx s.bd s.q _ V hV.hi.hall (by rw [← hbg]; exact hV.tr) Kp.R.t2 Kp.R.l2 hst (by show (P.tot : Int) ≤ (s.bd : Int); omega)
        · have hV2 := hV.hi.below hb
          obtain ⟨n1, n2, _, n4, _⟩ := hV2.mem i s hs
          have n2' : Blk V' s.S (sgC g.D s.tm P.k P.b P.x P.t P.l (P.rootZ s.z1 s.z3) s.z3 s.z1 s.z2 (P.tot : Int) s.bat s.nx s.q s.bd (P.idZ s.z1 s.z3) false) 188 := by
            unfold OP.cells at n2
            rw [d3, d1] at n2
            exact n2
          refine (sgReserve_on s.G s.S _ 0 10 _ V' n1 (sreserve_spent P.lo s.S g.D g.st g.F s.tm P.k P.b P.x P.t P.l _ s.z3 s.z1 s.z2 _ s.bat s.nx s.q s.bd _ ((bt : Int) + 1) V' n2' hV2.dsk (hV2.nF (by rw [n4]; omega)) d2.symm (by omega) (by omega) (by omega))).mono ?_
          rintro e w' ⟨rfl, hb2⟩
          exact ⟨rfl, g, _, _, _, _, ((hV.below hb).below hb2).up (by omega)⟩
      · obtain ⟨G, S, D, tm, z1, z2, z3, bat, nx, q, bd, ov⟩ := s
        dsimp only at d1 d2 d3 hwho hsp hbm hcV m1 m2 m3 m4 m5
        subst d1 d3
        obtain ⟨g2, hg2⟩ : ∃ g2 : GH, g2 = { g with c := paint g.c V.heap.size (fun _ => 0) } := ⟨_, rfl⟩
        have hR0 : HI P (j + 1) g2 V := by rw [hg2]; exact (hV.hi.recolor (Below.refl _ _)).next
        have hs2 : g2.Ss[i]? = some ⟨G, S, g2.D, tm, z1, z2, z3, bat, nx, q, bd, false⟩ := by rw [hg2]; exact hs
        have hl2 : Live P g2.jid g2.sq g2.sb g2.gone ⟨G, S, g2.D, tm, z1, z2, z3, bat, nx, q, bd, false⟩ := by rw [hg2]; exact d5
        have hwl : Calls Tryz.prog 101 #[.pointer (some ⟨TR, 0, none⟩), .pointer (some ⟨G, 0, none⟩), .int .i64 ((bt : Int) + 1)] V fun e w' => e = .returned (.tuple #[]) ∧ ∃ bg', RI P (j + 1) TR g2 bg' (B ++ [((min (bd + (bt + 1)) P.tot : Nat) : Int)]) su go w' := by
          have := rwill Kp hV (by omega) hs rfl d2 rfl (bt + 1) (min (bd + (bt + 1)) P.tot) (by omega) (by show bd < P.tot; omega) rfl
          rw [hbtc, ← hg2] at this
          refine this.mono ?_
          rintro e w' ⟨rfl, _, hr⟩
          exact ⟨rfl, hr⟩
        have hgj : g2.jid = P.idZ z1 z3 := hl2.id.symm
        have hst2 : g2.st = g.st := by rw [hg2]
        have hid8 := Kp.id8 hwho.1
        rcases resv_do2 Kp hR0 hs2 hl2 (by omega) (bt + 1) (by omega) (by omega) (by omega) with ⟨st2, nb, k0, k0', k1, k2, k3, k4, k5⟩ | ⟨st2, c, _, k0', k1, k2, k3, k4⟩
        · rw [hbtc] at k5
          have hRR : ∀ V', (∃ bg', RI P (j + 1) TR g2 bg' (B ++ [((min (bd + (bt + 1)) P.tot : Nat) : Int)]) su go V') → Calls Tryz.prog 31 #[.pointer (some ⟨G, 0, none⟩), .int .i64 ((bt : Int) + 1)] V' fun e w' => e = .returned (.tuple #[.int .i64 (nb : Int), .int .i64 0]) ∧ ∃ g3 bg', g3.sb = nb ∧ RI P (j + 2) TR g3 bg' (B ++ [(nb : Int)]) su go w' := by
            rintro V' ⟨bg', hR⟩
            obtain ⟨n1, n2, _, n4, n5⟩ := hR.hi.mem i _ hs2
            have nS : ¬ g2.F S := hR.hi.nF (by have n4' : g2.c S = 7 + i := n4; omega)
            refine (sgReserve_on G S _ nb 0 _ V' n1 (sreserve_yes P.lo S g2.D g2.st g2.F tm P.k P.b P.x P.t P.l _ z3 z1 z2 _ bat nx q bd _ ((bt : Int) + 1) nb st2 V' n2 hR.hi.dsk nS (by rw [hst2]; exact d2.symm) (by omega) (by omega) (by omega) (by omega) (fun V2 hb2 => k5 V2 (hR.hi.below hb2)))).mono ?_
            rintro e w' ⟨rfl, l1, F', l2, l3, l4⟩
            rw [← k0] at hR
            have hI : InB P.tot st2 g2.jid (B ++ [(nb : Int)]) := by
              have hi0 := hR.inb
              rw [hgj] at hi0 ⊢
              rw [← k0] at k0'
              exact inb_laid hi0 hid8 h4 (by omega) (by omega) (List.mem_append_right _ (List.mem_singleton.2 rfl)) k0'
            have e1 : bd = g2.sb := hl2.bd
            have e2 : q = g2.sq := hl2.q
            have e3 : nx ≤ g2.sb := hl2.hi
            obtain ⟨g3, x1, x2, x3, x4, x5, x6, x7, x8, x9, x10, x11, x12, x13⟩ := hR.change (s' := ⟨G, S, g2.D, tm, z1, z2, z3, bat, nx, q + 1, nb, false⟩) hs2 rfl rfl rfl rfl rfl hwho rfl (by rw [hg2]; exact d4) l1 l2 l3 l4 k1 (Nat.le_refl _) (by have := hR.hi.gs; omega) (k4.n.trans hR.hi.stn) k4.t (fun _ => ⟨hl2.id, by show q + 1 = g2.sq + 1; omega, rfl, hl2.lo, by show nx ≤ nb; omega, by omega⟩) (hR.hi.cntN k4 (by decide) (by decide)) hI
            exact ⟨rfl, g3, bg', x10, ⟨x1, x4, x3, x5, x6, x7, x8, hR.z0, x9, by rw [x10]; have := hR.su; omega, by rw [x11]; exact hR.go, fun _ => by rw [x12]; omega, Nat.le_trans hR.bl (by omega), hR.lT⟩⟩
          have hQ2 : ∀ V', (∃ g3 bg', g3.sb = nb ∧ RI P (j + 2) TR g3 bg' (B ++ [(nb : Int)]) su go V') → ∃ (ba : Option Addr) (n bc : Nat) (B : List Int), Blk V' TR (trC P.H (.slice ba n bc) su go) 58 ∧ V'.ownsRow P.lo 3 1 (.slice ba n bc) n (B.map (.int .i64)) ∧ n ≤ 8796093022208 ∧ (nb : Int) ∈ B ∧ (Value.slice ba n bc).ownBlock ≠ some TR := by
            rintro V' ⟨g3, bg', _, hR⟩
            obtain ⟨ba, bc, hbg⟩ := owns_len hR.rb
            have e1 := hR.tr
            have e2 := hR.rb
            have e3 : bg'.ownBlock ≠ some TR := owns_ne_blk e2 e1 (by decide)
            have e4 := hR.bl
            rw [hbg] at e1 e2 e3
            exact ⟨ba, _, bc, _, e1, e2, by omega, List.mem_append_right _ (List.mem_singleton.2 rfl), e3⟩
          by_cases hup : su < nb
          · refine (treserves_up P.lo TR P.H g.SD P.k P.b P.x P.t P.l P.s1 P.s2 P.s3 P.o1 P.o2 P.o3 g1 g.Ss.length cap i G g.bv g.gv bg su go ((bt : Int) + 1) nb _ _ V hHV hV.tr hi2 hcap hcV (by omega) (by omega) hwl hRR hQ2).mono ?_
            rintro e w' ⟨rfl, V', bg2, ⟨g3, bg', hsb, hR⟩, y1, y2, y3⟩
            rw [trC_inj y1 hR.tr] at y2
            exact ⟨rfl, _, _, _, nb, go, hR.retr y2 y3 (by omega) hR.go⟩
          · refine (treserves_on P.lo TR P.H g.SD P.k P.b P.x P.t P.l P.s1 P.s2 P.s3 P.o1 P.o2 P.o3 g1 g.Ss.length cap i G g.bv g.gv bg su go ((bt : Int) + 1) nb _ _ V hHV hV.tr hi2 hcap hcV (by omega) (by omega) hwl hRR hQ2).mono ?_
            rintro e w' ⟨rfl, V', bg2, ⟨g3, bg', hsb, hR⟩, y1, y2, y3⟩
            rw [trC_inj y1 hR.tr] at y2
            exact ⟨rfl, _, _, _, su, go, hR.retr y2 y3 hR.su hR.go⟩
        · rw [hbtc] at k4
          refine treserves_no TR P.H g.SD P.k P.b P.x P.t P.l P.s1 P.s2 P.s3 P.o1 P.o2 P.o3 g1 g.Ss.length cap i G g.bv g.gv bg su go ((bt : Int) + 1) c (fun V' => ∃ bg', RI P (j + 1) TR g2 bg' (B ++ [((min (bd + (bt + 1)) P.tot : Nat) : Int)]) su go V') _ V hHV hV.tr hi2 hcap hcV (by omega) k1 hwl ?_
          rintro V' ⟨bg', hR⟩
          obtain ⟨n1, n2, _, n4, n5⟩ := hR.hi.mem i _ hs2
          have nS : ¬ g2.F S := hR.hi.nF (by have n4' : g2.c S = 7 + i := n4; omega)
          refine (sgReserve_on G S _ 0 c _ V' n1 (sreserve_fail P.lo S g2.D g2.st g2.F tm P.k P.b P.x P.t P.l _ z3 z1 z2 _ bat nx q bd _ ((bt : Int) + 1) c st2 k1 V' n2 hR.hi.dsk nS (by rw [hst2]; exact d2.symm) (by omega) (by omega) (by omega) (by omega) (fun V2 hb2 => k4 V2 (hR.hi.below hb2)))).mono ?_
          rintro e w' ⟨rfl, l1, F', l2, l3, l4⟩
          have hI : InB P.tot st2 g2.jid (B ++ [((min (bd + (bt + 1)) P.tot : Nat) : Int)]) := by
            have hi0 := hR.inb
            rw [hgj] at hi0 ⊢
            exact inb_laid hi0 hid8 h4 (by omega) (by omega) (List.mem_append_right _ (List.mem_singleton.2 rfl)) k0'
          obtain ⟨g3, x1, x2, x3, x4, x5, x6, x7, x8, x9, x10, x11, x12, x13⟩ := hR.change (s' := ⟨G, S, g2.D, tm, z1, z2, z3, bat, nx, q, bd, true⟩) hs2 rfl rfl rfl rfl rfl hwho rfl (by rw [hg2]; exact d4) l1 l2 l3 l4 k2 (Nat.le_refl _) hR.hi.gs (k3.n.trans hR.hi.stn) k3.t (fun e => by simp at e) (hR.hi.cntN k3 (by decide) (by decide)) hI
          refine ⟨rfl, g3, _, _, su, go, ⟨x1, x4, x3, x5, x6, x7, x8, hR.z0, x9, by rw [x10]; exact hR.su, by rw [x11]; exact hR.go, fun _ => by rw [x12]; exact hl2.one, Nat.le_trans hR.bl (by omega), hR.lT⟩⟩
  · have h0 : g.Ss.length = 0 := by omega
    obtain ⟨sa, sc, hsv⟩ := owns_len h.hi.rs
    refine (tstep_none3 TR P.H g.SD P.k P.b P.x P.t P.l P.s1 P.s2 P.s3 P.o1 P.o2 P.o3 sa g.Ss.length sc g.bv g.gv bg su go kd a bb tx ka kn kc P.n bt w (by rw [← hsv]; exact h.hi.hall) h.tr hk1 hk2 hb1 hb2 hbt hbt2 hk h0).mono ?_
    rintro e w' ⟨rfl, hb⟩
    exact ⟨rfl, g, _, _, _, _, (h.below hb).up (by omega)⟩
end
end Go.Proofs.YtgaoeoijdpdjiabGreatDoor

namespace Go.Proofs.YtgaoeoijdpdjiabGreatDoor
open Go.RowKit
theorem dsk_ne {lo D : Nat} {st : DSt} {w : World} {F : Nat → Prop} (h : DSk lo D st w F) {b : Nat} {vs : List Value} {T : TypeId} (hb : Blk w b vs T) (h1 : T ≠ 182) (h2 : T ≠ 239) (h3 : T ≠ 241) : ¬ F b := by
  obtain ⟨E, pv, hd, rfl⟩ := h
  rintro (rfl | rfl | e)
  · exact blk_neT hb (show Blk w b _ 182 from hd.disk) h1 rfl
  · exact blk_neT hb (show Blk w b _ 239 from hd.durable) h2 rfl
  · exact owns_ne_blk hd.pending hb (fun e2 => h3 e2.symm) e
end Go.Proofs.YtgaoeoijdpdjiabGreatDoor

namespace Go.Proofs.YtgaoeoijdpdjiabGreatDoor
open Go.RowKit
theorem syT_term (st : DSt) (t : Int) : sySt { st with term := t } = { sySt st with term := t } := by
  unfold sySt
  dsimp only
  split <;> rfl
theorem rdT_term (st : DSt) (i t : Int) : rdSt { st with term := t } i = { rdSt st i with term := t } := by
  unfold rdSt
  dsimp only
  split <;> rfl
theorem raT_term (st : DSt) (i t : Int) : rdAns { st with term := t } i = rdAns st i := rfl
theorem op_term (st : DSt) (t : Int) (id : ByteArray) (tt : Int) : opAns { st with term := t } id tt = opAns st id tt ∧ opT { st with term := t } id tt = opT st id tt := by
  have e0 : opR0 { st with term := t } = opR0 st := by unfold opR0; rw [syT_term, raT_term]
  have e1 : opR1 { st with term := t } = opR1 st := by unfold opR1; rw [syT_term, rdT_term, raT_term]
  have e2 : opT { st with term := t } id tt = opT st id tt := opT_same (by rw [e0]) (by rw [e1])
  refine ⟨?_, e2⟩
  unfold opAns
  rw [e0, e1, e2]
  rfl
theorem quiet_open {st : DSt} (h : Quiet st) (h2 : 2 ≤ st.n) (hl : st.dur.length = st.n) : Quiet (opSt st) := by
  obtain ⟨a, b, _, _, _, c, d, _⟩ := quiet_reads h h2 hl
  obtain ⟨e, _⟩ := quiet_sync h
  unfold opSt
  rw [if_neg (by rw [e]; decide), if_neg (by rw [a]; decide)]
  exact ⟨d, c⟩
theorem hall_inj {w : World} {H SD SD2 : Nat} {k b x t l : Int} {s1 s2 s3 o1 o2 o3 : ByteArray} {sv bv gv sv2 bv2 gv2 : Value} (h : Blk w H (hallC SD k b x t l s1 s2 s3 o1 o2 o3 sv bv gv) 65) (h2 : Blk w H (hallC SD2 k b x t l s1 s2 s3 o1 o2 o3 sv2 bv2 gv2) 65) : SD2 = SD ∧ sv2 = sv ∧ bv2 = bv ∧ gv2 = gv := by
  unfold Blk at h h2
  rw [h] at h2
  simp only [Option.some.injEq, Obj.cells.injEq, hallC] at h2
  have e := h2.1
  have e1 := congrArg (fun a => a[11]?) e
  have e2 := congrArg (fun a => a[12]?) e
  have e3 := congrArg (fun a => a[13]?) e
  have e4 := congrArg (fun a => a[14]?) e
  simp at e1 e2 e3 e4
  exact ⟨e1.symm, e2.symm, e3.symm, e4.symm⟩
theorem row_inj {w : World} {lo : Nat} {e : TypeId} {sz : Nat} {v : Value} {n : Nat} {xs ys : List Value} (h : w.ownsRow lo e sz v n xs) (k : w.ownsRow lo e sz v n ys) : ys = xs := by
  have l1 := h.1
  have l2 := k.1
  rcases h.2 with ⟨e1, e0⟩ | ⟨g, cap, cur, e1, _, hg, _, _, _, ht⟩
  · subst e0
    rw [Nat.zero_mul] at l1 l2
    rw [List.eq_nil_of_length_eq_zero l1, List.eq_nil_of_length_eq_zero l2]
  · rcases k.2 with ⟨e2, _⟩ | ⟨g', cap', cur', e2, _, hg', _, _, _, ht'⟩
    · rw [e1] at e2
      simp at e2
    · rw [e1] at e2
      simp only [Value.slice.injEq, Option.some.injEq, Addr.mk.injEq, and_true, true_and] at e2
      obtain ⟨rfl, _⟩ := e2
      rw [hg] at hg'
      simp only [Option.some.injEq, Obj.cells.injEq] at hg'
      rw [← ht, ← ht', hg'.1]
section
variable {P : OP} {j TR : Nat} {g : GH} {bg : Value} {B : List Int} {su go : Nat} {w w' : World}
/-- The disk is moved. -/
theorem rmoves (Kp : OPk P) (h : RI P j TR g bg B su go w) (hj : j ≤ 8796093022208) (hlo : P.lo ≤ P.Wd.heap.size) (ka : Option Addr) (kn kc : Nat) (K : List Bool) (hK : KOk P P.Wd (.slice ka kn kc) K) :
    Calls Tryz.prog 21 #[.pointer (some ⟨P.H, 0, none⟩), .slice ka kn kc, .int .i64 P.n] w fun e w' => e = .returned (.bool true) ∧ ∃ g', RI P (j + 1) TR g' bg B su go w' ∧ g'.Ss = g.Ss ∧ g'.st = mvSt g.st K ∧ g'.sq = g.sq ∧ Fr g g' w w' ∧ w'.cell? ⟨g.D, 5, none⟩ = some (.int .i64 (g.st.term + 1)) ∧ w.heap.size ≤ w'.heap.size := by
  have h2 := h.hi
  have cn := h2.cnt
  have t0 := cn.t0
  have t1 := cn.t1
  have hK2 := hK.on hlo h2.low
  rw [← h2.stn]
  refine (moves_on P.lo P.H g.SD g.D P.k P.b P.x P.t P.l P.s1 P.s2 P.s3 P.o1 P.o2 P.o3 g.sv g.bv g.gv g.st g.F ka kn kc K w h2.hall h2.disk h2.dsk h2.nH h2.nSD h2.big hK2.b hK2.l (h2.keepOk hK2) t0 (by omega)).mono ?_
  rintro e w' ⟨rfl, SD2, D2, F2, q1, q2, q3, q4, q5, q6, q7, q8⟩
  have hJ : JI P.tot (mvSt g.st K) g.jid g.sq g.sb := (h2.ji.crash K).same rfl rfl rfl
  suffices hcn : Cnt (j + 1) (mvSt g.st K) g.Ss.length g.L.length by
    obtain ⟨c', hh, hc2⟩ := h2.moved q1 q2 q3 q4 q5 q6 q7 q8 hJ h2.stn Kp.lH hcn
    have fr : Fr g { g with c := c', SD := SD2, D := D2, F := F2, st := mvSt g.st K } w w' := Fr.of_kept q7 (fun q e => by
      rcases e with rfl | e
      · rw [h2.cH]; decide
      · rw [h2.cF q e]; decide) (fun q hq e => (hc2 q hq (by rw [e]; decide)).trans e)
    exact ⟨rfl, _, h.same (Nat.le_succ j) hh fr ⟨rfl, rfl, rfl, rfl, rfl, rfl, fun _ _ _ h => cand_moved K h⟩, rfl, rfl, rfl, fr, q8, q7.size⟩
  have := cn.a; have := cn.b
  have e1 : g.st.n = P.n := h2.stn
  have := Kp.n8
  exact ⟨by show (0 : Int) ≤ (g.st.n : Int); omega, by show (g.st.n : Int) ≤ _; omega, by show (0 : Int) ≤ 1; omega, by show (1 : Int) ≤ _; omega, by show (0 : Int) ≤ 0; omega, by show (0 : Int) ≤ _; omega, by omega, by omega⟩
set_option maxHeartbeats 1000000 in
/-- Open: none came, or one. -/
theorem ropen (Kp : OPk P) (h : RI P j TR g bg B su go w) (hj : j ≤ 8796093022208) (bat : Nat) (hb0 : 1 ≤ bat) (hb64 : bat ≤ 64) (s' : DSt) (hs' : s' = { g.st with term := g.st.term + 1 }) :
    Calls Tryz.prog 55 #[.pointer (some ⟨g.SD, 0, none⟩), .agg #[.int .i64 P.k, .int .i64 P.b, .int .i64 P.x, .int .i64 P.t, .int .i64 P.l], .agg #[.string P.s1, .string P.s2, .string P.s3], .int .i64 bat] w fun e w' => ∃ r c, e = .returned (.tuple #[.pointer r, .int .i64 c]) ∧ Kept g.F w w' ∧
      ((opAns s' (P.idZ P.s1 P.s3) P.tot ≠ 0 ∧ c = opAns s' (P.idZ P.s1 P.s3) P.tot ∧ r = none ∧ ∃ g', RI P (j + 1) TR g' bg B su go w' ∧ g'.Ss = g.Ss ∧ g'.st = opSt s' ∧ g'.sq = g.sq ∧ Fr g g' w w') ∨
       (opAns s' (P.idZ P.s1 P.s3) P.tot = 0 ∧ c = 0 ∧ ∃ (g' : GH) (s : SgD), r = some ⟨s.G, 0, none⟩ ∧ RI P (j + 1) TR g' bg B su go w' ∧ Nw P j g' s w' ∧ s.bat = bat ∧ (s.nx : Int) = (opT s' (P.idZ P.s1 P.s3) P.tot).b ∧ s.bd = s.nx ∧ (s.q : Int) = (opT s' (P.idZ P.s1 P.s3) P.tot).q ∧ g'.Ss = g.Ss ∧ g'.st = opSt s' ∧ Fr g g' w w')) := by
  have hz : P.seed P.s1 P.s2 P.s3 := .inl ⟨rfl, rfl, rfl⟩
  have cn := h.hi.cnt
  have t0 := cn.t0
  have t1 := cn.t1
  have y0 := cn.y0
  have y1 := cn.y1
  obtain ⟨q1, q2, q3⟩ := Kp.sz hz
  obtain ⟨hrk, hb16⟩ := Kp.rk hz
  have hid8 := Kp.id8 hz
  have hsy : s'.syncs = g.st.syncs := by rw [hs']
  have htt : s'.term = g.st.term + 1 := by rw [hs']
  have hnn : s'.n = g.st.n := by rw [hs']
  have nO := nr_open s'
  have hj1 : JI P.tot s' g.jid g.sq g.sb := by rw [hs']; exact h.hi.ji.term _
  have hI1 : InB P.tot s' g.jid B := h.inb.mono (fun s _ x hx => by rw [hs'] at hx; exact cand_same (st := g.st) rfl rfl hx)
  have hI2 : InB P.tot (opSt s') g.jid B := hI1.mono (fun _ _ _ hx => cand_open hx)
  have hjd := h.jd
  refine (sopen_any g.SD g.D g.F (fun v c V1 V2 => ∃ F', DSk P.lo g.D (opSt s') V2 F' ∧ (∀ q, F' q → g.F q ∨ V1.heap.size ≤ q) ∧ ((opAns s' (P.idZ P.s1 P.s3) P.tot = 0 ∧ c = 0 ∧ ∃ S, v = some ⟨S, 0, none⟩ ∧ Blk V2 S (sgC g.D (g.st.term + 1) P.k P.b P.x P.t P.l (P.rootZ P.s1 P.s3) P.s3 P.s1 P.s2 (P.tot : Int) (bat : Int) (opT s' (P.idZ P.s1 P.s3) P.tot).b (opT s' (P.idZ P.s1 P.s3) P.tot).q (opT s' (P.idZ P.s1 P.s3) P.tot).b (opT s' (P.idZ P.s1 P.s3) P.tot).d false) 188 ∧ ¬ F' S ∧ V1.heap.size ≤ S) ∨ (opAns s' (P.idZ P.s1 P.s3) P.tot ≠ 0 ∧ c = opAns s' (P.idZ P.s1 P.s3) P.tot ∧ v = none))) P.k P.b P.x P.t P.l (bat : Int) P.s1 P.s2 P.s3 w h.hi.disk (fun i hi => (h.hi.dsk.lt i hi).2) ?_).mono ?_
  · intro V1 hb
    have h1 := h.hi.below hb
    refine (open_any P.lo g.D g.st g.F P.k P.b P.x P.t P.l (P.rootZ P.s1 P.s3) P.s3 P.s1 P.s2 (P.idZ P.s1 P.s3) (P.tot : Int) (bat : Int) _ _ _ _ _ V1 h1.dsk (by rw [h1.stn]; exact Kp.n2) (h1.T Kp) Kp.TB h1.big (by omega) (by omega) t0 (by omega) (fun V => measure_nat P.k P.b P.x P.e P.f P.t P.l Kp.R V) (fun V hT => ofY P.k P.b P.x P.e P.f P.t P.l Kp.R P.s1 P.s2 P.s3 q1 q2 q3 V hT) (fun V hT => keyId_any P.k P.b P.x P.t P.l (P.rootZ P.s1 P.s3) P.s3 V Kp.R.kk (by omega) (by omega) hT) s' hs' (by omega) (by omega)).mono ?_
    rintro e w' ⟨F', d1, d2, d3, ⟨d4, S, rfl, d5, d6, d7⟩ | ⟨d4, rfl⟩⟩
    · exact ⟨_, _, rfl, d2, F', d1, d3, .inl ⟨d4, rfl, S, rfl, d5, d6, d7⟩⟩
    · exact ⟨_, _, rfl, d2, F', d1, d3, .inr ⟨d4, rfl, rfl⟩⟩
  · rintro e w' ⟨v, c, r, V1, V2, rfl, hb, hkk, ⟨F', d1, d3, d4⟩, hG⟩
    have hcn := cntT h.hi hs' nO (by decide) (by decide)
    rcases d4 with ⟨d4, rfl, S, rfl, d5, d6, d7⟩ | ⟨d4, rfl, rfl⟩
    · obtain ⟨k1, k2, q, b, k3, k4, k5, k6, k7, k8, k9⟩ := hj1.opened d4
      have d5' : Blk V2 S (P.cells ⟨V2.heap.size, S, g.D, g.st.term + 1, P.s1, P.s2, P.s3, bat, b, q, b, false⟩) 188 := by
        rw [k2, k3, k4] at d5
        rw [← k1] at d5
        exact d5
      obtain ⟨m1, g', s, m2, m3, m4, m5, m6, m7, m8, m9, m10, m11, m12, m13⟩ := rbegun_some h bat q b hb0 hb64 hb hkk d1 d3 k6 k5 (nO.n.trans (hnn.trans h.hi.stn)) (nO.t.trans htt) hcn hI2 d5' d6 d7 rfl rfl k7 hG rfl
      exact ⟨_, _, rfl, m1, .inr ⟨d4, rfl, g', s, m2, m3, m4, m5, by rw [m6, k4], by rw [m6, m7], by rw [m8, k3], m9, m10, m13⟩⟩
    · obtain ⟨m1, m2, g', m3, m4, m5, m6, _, m8⟩ := rbegun_none h hb hkk d1 d3 hj1.begun (nO.n.trans (hnn.trans h.hi.stn)) (nO.t.trans htt) hcn hI2 hG d4
      exact ⟨_, _, rfl, m1, .inl ⟨d4, rfl, m2, g', m3, m4, m5, m6, m8⟩⟩
end
end Go.Proofs.YtgaoeoijdpdjiabGreatDoor

namespace Go.Proofs.YtgaoeoijdpdjiabGreatDoor
open Go.RowKit
section
variable {P : OP} {j TR : Nat} {g : GH} {bg : Value} {B : List Int} {su go : Nat} {w w' : World}
theorem paint_paint {c : Nat → Nat} {n m : Nat} (h : n ≤ m) : paint (paint c n fun _ => 0) m (fun _ => 0) = paint c n fun _ => 0 := by
  funext q
  unfold paint
  split
  · rfl
  · rw [if_neg (by omega)]
theorem RI.len_posb (h : RI P j TR g bg B su go w) (hp : 0 < g.Ss.length) : ∃ g2 cap, g.bv = .slice (some ⟨g2, 0, none⟩) g.Ss.length cap ∧ g.Ss.length ≤ cap ∧ g2 < w.heap.size ∧ ∀ (i : Nat) (s : SgD), g.Ss[i]? = some s → w.cell? ⟨g2, i, none⟩ = some (.int .i64 s.bat) := by
  have hr := h.hi.rb
  rcases hr.2 with ⟨_, e⟩ | ⟨g1, cap, cur, hv, hb, hg, hnc, _, _, _⟩
  · omega
  · refine ⟨g1, cap, hv, hnc, (Array.getElem?_eq_some_iff.1 hg).1, fun i s hs => ?_⟩
    rw [hv] at hr
    have hil := (List.getElem?_eq_some_iff.1 hs).1
    rw [hr.cellAt i (by omega), h.ys, List.getElem?_map, hs]
    rfl
/-- The trail's invariant, its own two numbers apart. -/
structure RJ (P : OP) (j TR : Nat) (g : GH) (bg : Value) (B : List Int) (su go : Nat) (w : World) : Prop where
  hi : HI P j g w
  tr : Blk w TR (trC P.H bg su go) 58
  ct : g.c TR = 0
  rb : w.ownsRow P.lo 3 1 bg B.length (B.map (.int .i64))
  cb : ∀ q, bg.ownBlock = some q → g.c q = 0
  ys : g.ys = g.Ss.map fun s => .int .i64 s.bat
  jd : g.jid = P.idZ P.s1 P.s3
  z0 : (0 : Int) ∈ B
  inb : InB P.tot g.st g.jid B
  ne : g.Ss ≠ [] → 1 ≤ g.sq
  bl : B.length ≤ 1 + j
  lT : P.lo ≤ TR
theorem RJ.retr (h : RJ P j TR g bg B su go w) {su2 go2 : Nat} (hb : Blk w' TR (trC P.H bg su2 go2) 58) (hk : Kept (fun q => q = TR) w w') (hsu : su2 ≤ g.sb) (hgo : go2 = g.gone) : RI P j TR { g with c := paint g.c w.heap.size (fun _ => 0) } bg B su2 go2 w' := by
  have hf := h.hi.foreign hk (fun q e => .inl (by rw [e]; exact h.ct)) (fun q e => by rw [e]; exact h.lT)
  have hne : bg.ownBlock ≠ some TR := owns_ne_blk h.rb h.tr (by decide)
  exact ⟨hf, hb, (paint_lt (c := g.c) (d := fun _ => 0) h.tr.lt).trans h.ct, owns_kept h.rb hk (fun q e e2 => hne (by rw [e, e2])), fun q e => (paint_lt (c := g.c) (d := fun _ => 0) (h.rb.lt q e).2).trans (h.cb q e), h.ys, h.jd, h.z0, h.inb, hsu, hgo, h.ne, h.bl, h.lT⟩
/-- A signature came out: what the trail is then. -/
def RQ (P : OP) (j TR : Nat) (B : List Int) (su go nb nx i : Nat) (s : SgD) (w : World) : Prop := ∃ g bg, g.sb = nb ∧ g.gone = nx + 1 ∧ g.Ss[i]? = some s ∧ s.D = g.D ∧ s.tm = g.st.term ∧ RJ P j TR g bg B su go w
theorem RQ.blk {nb nx i : Nat} {s : SgD} (h : RQ P j TR B su go nb nx i s w) : ∃ bg, Blk w TR (trC P.H bg su go) 58 := by
  obtain ⟨g, bg, _, _, _, _, _, h⟩ := h
  exact ⟨bg, h.tr⟩
theorem RQ.state {nb nx i : Nat} {s : SgD} (h : RQ P j TR B su go nb nx i s w) (ho : s.ov = false) (hb : Below w.heap.size w w') : Calls Tryz.prog 30 #[.pointer (some ⟨s.G, 0, none⟩)] w' fun e w2 => e = .returned (.agg #[.int .i64 s.nx, .int .i64 s.bd, .int .i64 s.q, .bool false]) ∧ Below w'.heap.size w' w2 := by
  obtain ⟨g, bg, _, _, h3, h4, h5, h⟩ := h
  exact st_live (h.hi.below hb) h3 h4 h5 ho
theorem RQ.done {nb nx i : Nat} {s : SgD} (h : RQ P j TR B su go nb nx i s w) {bg : Value} {su2 : Nat} (h1 : Blk w TR (trC P.H bg su go) 58) (h2 : Blk w' TR (trC P.H bg su2 ((nx : Int) + 1)) 58) (hk : Kept (fun q => q = TR) w w') (hs : su2 ≤ nb) : ∃ g' bg' B' su' go', RI P j TR g' bg' B' su' go' w' := by
  obtain ⟨g, bg2, e1, e2, _, _, _, h⟩ := h
  rw [trC_inj h1 h.tr] at h2
  have e : (nx : Int) + 1 = ((nx + 1 : Nat) : Int) := by omega
  rw [e] at h2
  exact ⟨_, _, _, su2, nx + 1, h.retr h2 hk (by omega) e2.symm⟩
set_option maxHeartbeats 2000000 in
theorem rdo_sign (Kp : OPk P) (h : RI P j TR g bg B su go w) (hj : j ≤ 8796093022200) (kd a bb : Int) (tx : ByteArray) (ka : Option Addr) (kn kc : Nat) (bt : Nat) (hk1 : -9223372036854775808 ≤ kd) (hk2 : kd ≤ 9223372036854775807) (ha1 : -9223372036854775808 ≤ a) (ha2 : a ≤ 9223372036854775807) (hb1 : -9223372036854775808 ≤ bb) (hb2 : bb ≤ 9223372036854775807) (hbt : pickZ bb 64 = bt) (hbt2 : bt < 64) (hk : pickZ kd 9 = 2)
    (hpk : ∀ n : Nat, 1 ≤ n → ∃ p : Nat, pickZ a n = p ∧ p < n) :
    Calls Tryz.prog 20 #[.pointer (some ⟨TR, 0, none⟩), .agg #[.int .i64 kd, .int .i64 a, .int .i64 bb, .string tx, .slice ka kn kc], .int .i64 P.n] w fun e w' => e = .returned (.bool true) ∧ ∃ g' bg' B' su' go', RI P (j + 2) TR g' bg' B' su' go' w' := by
  have cn := h.hi.cnt
  have hlj := cn.a
  have hbl := h.bl
  by_cases hp : 0 < g.Ss.length
  · obtain ⟨g1, cap, hsv, hcap, hgl, hcell⟩ := h.hi.len_pos hp
    obtain ⟨gb, capb, hbv, hcapb, hglb, hcellb⟩ := h.len_posb hp
    obtain ⟨i, hi, hi2⟩ := hpk g.Ss.length hp
    obtain ⟨s, hs⟩ : ∃ s, g.Ss[i]? = some s := ⟨_, List.getElem?_eq_getElem hi2⟩
    refine tstep_sign TR P.H g.SD P.k P.b P.x P.t P.l P.s1 P.s2 P.s3 P.o1 P.o2 P.o3 g1 g.Ss.length cap i g.bv g.gv bg su go kd a bb tx ka kn kc P.n bt _ w (by rw [← hsv]; exact h.hi.hall) h.tr hk1 hk2 hb1 hb2 hbt hbt2 hk ha1 ha2 (by omega) hi hi2 (fun V hbV => ?_)
    have hV := h.below hbV
    have hms := upS_size tx 200
    generalize upS tx 200 = msg at hms ⊢
    have hHV : Blk V P.H (hallC g.SD P.k P.b P.x P.t P.l P.s1 P.s2 P.s3 P.o1 P.o2 P.o3 (.slice (some ⟨g1, 0, none⟩) g.Ss.length cap) (.slice (some ⟨gb, 0, none⟩) g.Ss.length capb) g.gv) 65 := by rw [← hsv, ← hbv]; exact hV.hi.hall
    have hcV : V.cell? ⟨g1, i, none⟩ = some (.pointer (some ⟨s.G, 0, none⟩)) := (hbV.cell (p := ⟨g1, i, none⟩) hgl).trans (hcell i s hs)
    have hcB : V.cell? ⟨gb, i, none⟩ = some (.int .i64 s.bat) := (hbV.cell (p := ⟨gb, i, none⟩) hglb).trans (hcellb i s hs)
    have hgbV : gb < V.heap.size := Nat.lt_of_lt_of_le hglb hbV.size
    obtain ⟨m1, m2, m3, m4, m5⟩ := hV.hi.mem i s hs
    have hwho := hV.hi.who i s hs
    rcases hV.hi.which hs with ⟨tm2, d1, d2, d3⟩ | ⟨d1, d2, d3, d4, d5⟩
    · have hso := st_over hV.hi hs d1 d2 d3
      have hSg : ∀ V' : World, Below V.heap.size V V' → Calls Tryz.prog 52 #[.pointer (some ⟨s.G, 0, none⟩), .string msg] V' fun e w' => e = .returned (.tuple #[.string ⟨#[]⟩, .int .i64 9]) ∧ Kept (fun _ => False) V' w' ∧ ∃ g' bg' B' su' go', RI P (j + 2) TR g' bg' B' su' go' w' := by
        intro V' hb
        obtain ⟨n1, n2, _⟩ := (hV.hi.below hb).mem i s hs
        refine (sgSign_on s.G s.S msg _ 9 _ V' n1 (ssign_over s.S s.D tm2 s.tm P.k P.b P.x P.t P.l _ s.z3 s.z1 s.z2 _ s.bat s.nx s.q s.bd _ s.ov msg V' n2 (Nat.lt_of_lt_of_le d1 hb.size) ((hb.cell (p := ⟨s.D, 5, none⟩) d1).trans d2) d3)).mono ?_
        rintro e w' ⟨rfl, hb2⟩
        exact ⟨rfl, Kept.of_below hb2, g, _, _, _, _, ((hV.below hb).below hb2).up (by omega)⟩
      by_cases hnb : (s.nx : Int) = s.bd
      · refine tsignsW_no TR P.H g.SD P.k P.b P.x P.t P.l P.s1 P.s2 P.s3 P.o1 P.o2 P.o3 g1 g.Ss.length cap gb capb i s.G g.gv bg su go s.bat s.nx s.bd s.q true msg 9 (fun _ => False) (fun V' => Below V.heap.size V V') _ V hHV hV.tr hi2 hcap hcapb hcV hgbV hcB (by omega) (fun _ e => e.elim) hnb (by decide) hso (fun V' hb => ?_) hSg
        refine (will_over TR s.G s.nx s.bd s.q _ V' (st_over (hV.hi.below hb) hs (Nat.lt_of_lt_of_le d1 hb.size) ((hb.cell (p := ⟨s.D, 5, none⟩) d1).trans d2) d3)).mono ?_
        rintro e w' ⟨rfl, hb2⟩
        exact ⟨rfl, Kept.of_below hb2, hb.trans (hb2.mono hb.size)⟩
      · exact tsigns_no TR P.H g.SD P.k P.b P.x P.t P.l P.s1 P.s2 P.s3 P.o1 P.o2 P.o3 g1 g.Ss.length cap gb capb i s.G g.gv bg su go s.bat s.nx s.bd s.q true msg 9 (fun _ => False) (fun V' => Below V.heap.size V V') _ V hHV hV.tr hi2 hcap hcapb hcV hgbV hcB (by omega) (fun _ e => e.elim) hnb (by decide) hso (fun _ hb => hb) hSg
    · have hst := st_live hV.hi hs d1 d2 d3
      obtain ⟨G, S, D, tm, z1, z2, z3, bat, nx, q, bd, ov⟩ := s
      dsimp only at d1 d2 d3 hwho hcV hcB m1 m2 m3 m4 m5 hst
      subst d1 d3
      have e1 : q = g.sq := d5.q
      have e2 : bd = g.sb := d5.bd
      have e3 : nx ≤ g.sb := d5.hi
      have e4 : g.gone ≤ nx := d5.lo
      have hgo := hV.go
      have hsu := hV.su
      have h4 := Kp.tot4
      have hone := d5.one
      have hbm : bd ≤ P.tot ∧ q ≤ bd + 1 := by
        rcases hV.hi.ji.base with ⟨x1, x2⟩ | ⟨_, ⟨_, _, _, _, _, x4, x3⟩, _⟩
        · omega
        · omega
      obtain ⟨q1, q3, q4⟩ := Kp.sz hwho.1
      have nS : ¬ g.F S := hV.hi.nF (by omega)
      by_cases hsp : nx = P.tot
      · have hnb : nx = bd := by omega
        refine tsignsW_no TR P.H g.SD P.k P.b P.x P.t P.l P.s1 P.s2 P.s3 P.o1 P.o2 P.o3 g1 g.Ss.length cap gb capb i G g.gv bg su go bat nx bd q false msg 10 (fun _ => False) (fun V' => Below V.heap.size V V') _ V hHV hV.tr hi2 hcap hcapb hcV hgbV hcB (by omega) (fun _ e => e.elim) (by omega) (by decide) hst (fun V' hb => ?_) (fun V' hb => ?_)
        · have hV2 := hV.below hb
          obtain ⟨ba, bc, hbg⟩ := owns_len hV2.rb
          refine (will_full TR P.H g.SD G P.k P.b P.x P.t P.l P.s1 P.s2 P.s3 P.o1 P.o2 P.o3 g.sv g.bv g.gv ba B.length bc su go nx bd q _ V' hV2.hi.hall (by rw [← hbg]; exact hV2.tr) Kp.R.t2 Kp.R.l2 (st_live hV2.hi hs rfl d2 rfl) (by show (P.tot : Int) ≤ (bd : Int); omega)).mono ?_
          rintro e w' ⟨rfl, hb2⟩
          exact ⟨rfl, Kept.of_below hb2, hb.trans (hb2.mono hb.size)⟩
        · have hV2 := hV.below hb
          obtain ⟨n1, n2, _⟩ := hV2.hi.mem i _ hs
          refine (sgSign_on G S msg _ 10 _ V' n1 (ssign_spent P.lo S g.D g.st g.F tm P.k P.b P.x P.t P.l _ z3 z1 z2 _ bat nx q bd _ msg V' n2 hV2.hi.dsk nS d2.symm hms (by omega))).mono ?_
          rintro e w' ⟨rfl, hb2⟩
          exact ⟨rfl, Kept.of_below hb2, g, _, _, _, _, (hV2.below hb2).up (by omega)⟩
      · have hnx : nx < P.tot := by omega
        have hSI : ∀ V : World, Tn V → Calls Tryz.prog 171 #[.agg #[.int .i64 P.k, .int .i64 P.b, .int .i64 P.x, .int .i64 P.t, .int .i64 P.l, .string (P.rootZ z1 z3), .string z3], .agg #[.string z1, .string z2, .string z3], .int .i64 nx, .string msg] V fun e w' => e = .returned (.string (sigS P.k P.b P.x P.e P.f P.t P.l z1 z2 z3 msg nx)) ∧ Below V.heap.size V w' := fun V hT => signY P.k P.b P.x P.e P.f P.t P.l Kp.R z1 z2 z3 msg nx q1 q3 q4 hms hnx V hT
        have hv : IntKind.i64.wrap ((nx : Int) + 1) = (nx : Int) + 1 := by rw [IntKind.wrap_i64] <;> omega
        obtain ⟨hz4, hval⟩ := sig_head P.k P.b P.x P.e P.f P.t P.l z1 z2 z3 msg nx (by omega)
        by_cases hnb : nx = bd
        · obtain ⟨g2, hg2⟩ : ∃ g2 : GH, g2 = { g with c := paint g.c V.heap.size (fun _ => 0) } := ⟨_, rfl⟩
          have hR0 : HI P (j + 1) g2 V := by rw [hg2]; exact (hV.hi.recolor (Below.refl _ _)).next
          have hs2 : g2.Ss[i]? = some ⟨G, S, g2.D, tm, z1, z2, z3, bat, nx, q, bd, false⟩ := by rw [hg2]; exact hs
          have hl2 : Live P g2.jid g2.sq g2.sb g2.gone ⟨G, S, g2.D, tm, z1, z2, z3, bat, nx, q, bd, false⟩ := by rw [hg2]; exact d5
          have hgj : g2.jid = P.idZ z1 z3 := hl2.id.symm
          have hst2 : g2.st = g.st := by rw [hg2]
          have hF2 : g2.F = g.F := by rw [hg2]
          have hd2 : g2.st.term = tm := by rw [hst2]; exact d2.symm
          have hgone : g2.gone ≤ nx := hl2.lo
          have hsb2 : bd = g2.sb := hl2.bd
          have hsq2 : q = g2.sq := hl2.q
          have hid8 := Kp.id8 hwho.1
          have hX : ∀ p, (p = TR ∨ bg.ownBlock = some p ∨ p = S ∨ g.F p) → p < V.heap.size := by
            rintro p (rfl | e | rfl | e)
            · exact hV.tr.lt
            · exact (hV.rb.lt p e).2
            · exact m2.lt
            · exact (hV.hi.dsk.lt p e).2
          have hwl : ∀ V' : World, Below V.heap.size V V' → Calls Tryz.prog 101 #[.pointer (some ⟨TR, 0, none⟩), .pointer (some ⟨G, 0, none⟩), .int .i64 bat] V' fun e w' => e = .returned (.tuple #[]) ∧ Kept (fun p => p = TR ∨ bg.ownBlock = some p ∨ p = S ∨ g.F p) V' w' ∧ ∃ bg', RI P (j + 1) TR g2 bg' (B ++ [((min (bd + bat) P.tot : Nat) : Int)]) su go w' := by
            intro V' hb
            have hV2 := hV.recolor hb
            rw [← hg2] at hV2
            have := rwill Kp hV2 (by omega) hs2 rfl hd2.symm rfl bat (min (bd + bat) P.tot) (by omega) (by show bd < P.tot; omega) rfl
            have hpp : ({ g2 with c := paint g2.c V'.heap.size (fun _ => 0) } : GH) = g2 := by
              rw [hg2]
              dsimp only
              rw [paint_paint hb.size]
            rw [hpp] at this
            refine this.mono ?_
            rintro e w' ⟨rfl, hk, hr⟩
            exact ⟨rfl, hk.mono (fun p _ e => e.imp id .inl), hr⟩
          rcases resv_do2 Kp hR0 hs2 hl2 (by omega) bat (by omega) (by omega) (by omega) with ⟨st2, nb, k0, k0', k1, k2, k3, k4, k5⟩ | ⟨st2, c, _, k0', k1, k2, k3, k4⟩
          · have hRR : ∀ V', (∃ bg', RI P (j + 1) TR g2 bg' (B ++ [((min (bd + bat) P.tot : Nat) : Int)]) su go V') → Calls Tryz.prog 52 #[.pointer (some ⟨G, 0, none⟩), .string msg] V' fun e w' => e = .returned (.tuple #[.string (sigS P.k P.b P.x P.e P.f P.t P.l z1 z2 z3 msg nx), .int .i64 0]) ∧ Kept (fun p => p = TR ∨ bg.ownBlock = some p ∨ p = S ∨ g.F p) V' w' ∧ RQ P (j + 2) TR (B ++ [(nb : Int)]) su go nb nx i ⟨G, S, g2.D, tm, z1, z2, z3, bat, nx + 1, q + 1, nb, false⟩ w' := by
              rintro V' ⟨bg', hR⟩
              obtain ⟨n1, n2, _, n4, n5⟩ := hR.hi.mem i _ hs2
              have nS2 : ¬ g2.F S := hR.hi.nF (by have n4' : g2.c S = 7 + i := n4; omega)
              refine (sgSign_on G S msg _ 0 _ V' n1 (ssign_res P.lo S g2.D g2.st g2.F tm P.k P.b P.x P.t P.l (P.rootZ z1 z3) z3 z1 z2 _ bat nx q bd _ msg _ nb st2 V' n2 hR.hi.dsk nS2 hd2 (by omega) (by omega) (by omega) hv (hR.hi.T Kp) Kp.TB n5 hR.hi.big hms hSI (fun V2 hb2 => k5 V2 (hR.hi.below hb2)))).mono ?_
              rintro e w' ⟨rfl, l1, F', l2, l3, l4⟩
              rw [← k0] at hR
              have hI : InB P.tot st2 g2.jid (B ++ [(nb : Int)]) := by
                have hi0 := hR.inb
                rw [hgj] at hi0 ⊢
                rw [← k0] at k0'
                exact inb_laid hi0 hid8 h4 (by omega) (by omega) (List.mem_append_right _ (List.mem_singleton.2 rfl)) k0'
              obtain ⟨g3, x1, x2, x3, x4, x5, x6, x7, x8, x9, x10, x11, x12, x13, x14, x15⟩ := hR.change (s' := ⟨G, S, g2.D, tm, z1, z2, z3, bat, nx + 1, q + 1, nb, false⟩) (gone2 := nx + 1) hs2 rfl rfl rfl rfl rfl hwho rfl (by rw [hg2]; exact d4) l1 l2 l3 l4 k1 (by omega) (by omega) (k4.n.trans hR.hi.stn) k4.t (fun _ => ⟨hl2.id, by show q + 1 = g2.sq + 1; omega, rfl, Nat.le_refl _, by show nx + 1 ≤ nb; omega, by omega⟩) (hR.hi.cntN k4 (by decide) (by decide)) hI
              refine ⟨rfl, l3.mono (fun p _ e => .inr (.inr (by rw [← hF2]; exact e))), g3, bg', x10, x11, ?_, x14.symm, ?_, ⟨x1, x4, x3, x5, x6, x7, x8, hR.z0, x9, fun _ => by rw [x12]; omega, Nat.le_trans hR.bl (by omega), hR.lT⟩⟩
              · rw [x13]
                exact List.getElem?_set_self (List.getElem?_eq_some_iff.1 hs2).1
              · rw [x15, k4.t]; exact hd2.symm
            by_cases hup : su < nb
            · refine (tsignsW_up TR P.H g.SD P.k P.b P.x P.t P.l P.s1 P.s2 P.s3 P.o1 P.o2 P.o3 g1 g.Ss.length cap gb capb i G g.gv bg su go bat nx bd q false msg _ nx nb ((q : Int) + 1) _ _ _ V hHV hV.tr hi2 hcap hcapb hcV hgbV hcB (by omega) hX (by omega) hz4 hval (by omega) rfl (by omega) (by omega) (by omega) hst hwl hRR (fun V' hQ => hQ.blk) (fun V' V2 hQ hb => ?_)).mono ?_
              · exact hQ.state rfl hb
              · rintro e w' ⟨rfl, V', bg2, hQ, y1, y2, y3⟩
                exact ⟨rfl, hQ.done y1 y2 y3 (Nat.le_refl _)⟩
            · refine (tsignsW_on TR P.H g.SD P.k P.b P.x P.t P.l P.s1 P.s2 P.s3 P.o1 P.o2 P.o3 g1 g.Ss.length cap gb capb i G g.gv bg su go bat nx bd q false msg _ nx nb ((q : Int) + 1) _ _ _ V hHV hV.tr hi2 hcap hcapb hcV hgbV hcB (by omega) hX (by omega) hz4 hval (by omega) rfl (by omega) (by omega) (by omega) hst hwl hRR (fun V' hQ => hQ.blk) (fun V' V2 hQ hb => ?_)).mono ?_
              · exact hQ.state rfl hb
              · rintro e w' ⟨rfl, V', bg2, hQ, y1, y2, y3⟩
                exact ⟨rfl, hQ.done y1 y2 y3 (by omega)⟩
          · refine tsignsW_no TR P.H g.SD P.k P.b P.x P.t P.l P.s1 P.s2 P.s3 P.o1 P.o2 P.o3 g1 g.Ss.length cap gb capb i G g.gv bg su go bat nx bd q false msg c _ _ _ V hHV hV.tr hi2 hcap hcapb hcV hgbV hcB (by omega) hX (by omega) k1 hst hwl ?_
            rintro V' ⟨bg', hR⟩
            obtain ⟨n1, n2, _, n4, n5⟩ := hR.hi.mem i _ hs2
            have nS2 : ¬ g2.F S := hR.hi.nF (by have n4' : g2.c S = 7 + i := n4; omega)
            refine (sgSign_on G S msg _ c _ V' n1 (ssign_fail P.lo S g2.D g2.st g2.F tm P.k P.b P.x P.t P.l _ z3 z1 z2 _ bat nx q bd _ msg c st2 k1 V' n2 hR.hi.dsk nS2 hd2 (by omega) (by omega) (by omega) hms (fun V2 hb2 => k4 V2 (hR.hi.below hb2)))).mono ?_
            rintro e w' ⟨rfl, l1, F', l2, l3, l4⟩
            have hI : InB P.tot st2 g2.jid (B ++ [((min (bd + bat) P.tot : Nat) : Int)]) := by
              have hi0 := hR.inb
              rw [hgj] at hi0 ⊢
              exact inb_laid hi0 hid8 h4 (by omega) (by omega) (List.mem_append_right _ (List.mem_singleton.2 rfl)) k0'
            obtain ⟨g3, x1, x2, x3, x4, x5, x6, x7, x8, x9, x10, x11, x12, x13⟩ := hR.change (s' := ⟨G, S, g2.D, tm, z1, z2, z3, bat, nx, q, bd, true⟩) hs2 rfl rfl rfl rfl rfl hwho rfl (by rw [hg2]; exact d4) l1 l2 l3 l4 k2 (Nat.le_refl _) hR.hi.gs (k3.n.trans hR.hi.stn) k3.t (fun e => by simp at e) (hR.hi.cntN k3 (by decide) (by decide)) hI
            exact ⟨rfl, l3.mono (fun p _ e => .inr (.inr (by rw [← hF2]; exact e))), g3, _, _, su, go, ⟨x1, x4, x3, x5, x6, x7, x8, hR.z0, x9, by rw [x10]; exact hR.su, by rw [x11]; exact hR.go, fun _ => by rw [x12]; exact hl2.one, Nat.le_trans hR.bl (by omega), hR.lT⟩⟩
        · have hX : ∀ p, (p = S ∨ g.F p) → p < V.heap.size := by
            rintro p (rfl | e)
            · exact m2.lt
            · exact (hV.hi.dsk.lt p e).2
          have hRR : ∀ V' : World, Below V.heap.size V V' → Calls Tryz.prog 52 #[.pointer (some ⟨G, 0, none⟩), .string msg] V' fun e w' => e = .returned (.tuple #[.string (sigS P.k P.b P.x P.e P.f P.t P.l z1 z2 z3 msg nx), .int .i64 0]) ∧ Kept (fun p => p = S ∨ g.F p) V' w' ∧ RQ P (j + 2) TR B su go bd nx i ⟨G, S, g.D, tm, z1, z2, z3, bat, nx + 1, q, bd, false⟩ w' := by
            intro V' hb
            have hR := hV.below hb
            obtain ⟨n1, n2, _, n4, n5⟩ := hR.hi.mem i _ hs
            refine (sgSign_on G S msg _ 0 _ V' n1 (ssign_more P.lo S g.D g.st g.F tm P.k P.b P.x P.t P.l (P.rootZ z1 z3) z3 z1 z2 _ bat nx q bd _ msg _ V' n2 hR.hi.dsk nS d2.symm (by omega) (by omega) hv (hR.hi.T Kp) Kp.TB n5 hR.hi.big hms hSI)).mono ?_
            rintro e w' ⟨rfl, l1, F', l2, l3, l4⟩
            have hji : JI P.tot g.st g.jid g.sq bd := by rw [e2]; exact hR.hi.ji
            obtain ⟨g3, x1, x2, x3, x4, x5, x6, x7, x8, x9, x10, x11, x12, x13, x14, x15⟩ := hR.change (s' := ⟨G, S, g.D, tm, z1, z2, z3, bat, nx + 1, q, bd, false⟩) (gone2 := nx + 1) hs rfl rfl rfl rfl rfl hwho rfl d4 l1 l2 l3 l4 hji (by omega) (by omega) hR.hi.stn rfl (fun _ => ⟨d5.id, e1, rfl, Nat.le_refl _, by show nx + 1 ≤ bd; omega, hone⟩) (hR.hi.cntN (Nr.refl _) (by decide) (by decide)) hR.inb
            refine ⟨rfl, l3, g3, bg, x10, x11, ?_, x14.symm, ?_, ⟨x1.next, x4, x3, x5, x6, x7, x8, hR.z0, x9, fun _ => by rw [x12]; exact hone, Nat.le_trans hR.bl (by omega), hR.lT⟩⟩
            · rw [x13]
              exact List.getElem?_set_self hi2
            · rw [x15]; exact d2
          by_cases hup : su < bd
          · refine (tsigns_up TR P.H g.SD P.k P.b P.x P.t P.l P.s1 P.s2 P.s3 P.o1 P.o2 P.o3 g1 g.Ss.length cap gb capb i G g.gv bg su go bat nx bd q false msg _ nx bd q _ (fun V' => Below V.heap.size V V') _ V hHV hV.tr hi2 hcap hcapb hcV hgbV hcB (by omega) hX (by omega) hz4 hval (by omega) rfl (by omega) (by omega) (by omega) hst (fun _ hb => hb) hRR (fun V' hQ => hQ.blk) (fun V' V2 hQ hb => ?_)).mono ?_
            · exact hQ.state rfl hb
            · rintro e w' ⟨rfl, V', bg2, hQ, y1, y2, y3⟩
              exact ⟨rfl, hQ.done y1 y2 y3 (Nat.le_refl _)⟩
          · refine (tsigns_on TR P.H g.SD P.k P.b P.x P.t P.l P.s1 P.s2 P.s3 P.o1 P.o2 P.o3 g1 g.Ss.length cap gb capb i G g.gv bg su go bat nx bd q false msg _ nx bd q _ (fun V' => Below V.heap.size V V') _ V hHV hV.tr hi2 hcap hcapb hcV hgbV hcB (by omega) hX (by omega) hz4 hval (by omega) rfl (by omega) (by omega) (by omega) hst (fun _ hb => hb) hRR (fun V' hQ => hQ.blk) (fun V' V2 hQ hb => ?_)).mono ?_
            · exact hQ.state rfl hb
            · rintro e w' ⟨rfl, V', bg2, hQ, y1, y2, y3⟩
              exact ⟨rfl, hQ.done y1 y2 y3 (by omega)⟩
  · have h0 : g.Ss.length = 0 := by omega
    obtain ⟨sa, sc, hsv⟩ := owns_len h.hi.rs
    refine (tstep_none2 TR P.H g.SD P.k P.b P.x P.t P.l P.s1 P.s2 P.s3 P.o1 P.o2 P.o3 sa g.Ss.length sc g.bv g.gv bg su go kd a bb tx ka kn kc P.n bt w (by rw [← hsv]; exact h.hi.hall) h.tr hk1 hk2 hb1 hb2 hbt hbt2 hk h0).mono ?_
    rintro e w' ⟨rfl, hb⟩
    exact ⟨rfl, g, _, _, _, _, (h.below hb).up (by omega)⟩
end
end Go.Proofs.YtgaoeoijdpdjiabGreatDoor
