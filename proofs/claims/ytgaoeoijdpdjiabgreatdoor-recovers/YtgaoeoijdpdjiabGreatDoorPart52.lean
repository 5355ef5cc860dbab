/-
  The trail's opened; any step of the trail. How the trail begins, and how it ends. The trail's last steps. The statement Recovers answers true.
-/
import Derived.Test.YtgaoeoijdpdjiabGreatDoorPart51
import Derived.Test.YtgaoeoijdpdjiabGreatDoorPart49
import Derived.Test.YtgaoeoijdpdjiabGreatDoorPart6
import Derived.Test.YtgaoeoijdpdjiabGreatDoorPart28
import Derived.Test.YtgaoeoijdpdjiabGreatDoorPart38
namespace Go.Proofs.YtgaoeoijdpdjiabGreatDoor
open Go.RowKit
section
variable {P : OP} {j TR : Nat} {g : GH} {bg : Value} {B : List Int} {su go : Nat} {w w' : World}
/-- One was opened, and is in no list yet. -/
def OQ1 (P : OP) (j TR : Nat) (bg : Value) (B : List Int) (su go n0 bat nx q L : Nat) (st2 : DSt) (G : Nat) (V : World) : Prop := ∃ (g : GH) (s : SgD), s.G = G ∧ RI P (j + 1) TR g bg B su go V ∧ Nw P j g s V ∧ s.bat = bat ∧ s.nx = nx ∧ s.bd = nx ∧ s.q = q ∧ g.Ss.length = L ∧ g.st = st2 ∧ g.c n0 = 0 ∧ n0 < V.heap.size
/-- It is in the lists. -/
def OQ2 (P : OP) (j TR : Nat) (bg : Value) (B : List Int) (su go n0 nx q L : Nat) (st2 : DSt) (G : Nat) (V : World) : Prop := ∃ (g : GH) (s : SgD), s.G = G ∧ RI P j TR g bg B su go V ∧ g.Ss[L]? = some s ∧ g.Ss.length = L + 1 ∧ s.D = g.D ∧ s.tm = g.st.term ∧ s.ov = false ∧ s.nx = nx ∧ s.bd = nx ∧ s.q = q ∧ g.st = st2 ∧ g.c n0 = 0
/-- Its disk is left behind. -/
def OQ3 (P : OP) (j TR : Nat) (bg : Value) (B : List Int) (su go nx q L : Nat) (st2 : DSt) (G : Nat) (V : World) : Prop := ∃ (g : GH) (s : SgD) (tm2 : Int), s.G = G ∧ RI P j TR g bg B su go V ∧ g.Ss[L]? = some s ∧ g.Ss.length = L + 1 ∧ s.D < V.heap.size ∧ V.cell? ⟨s.D, 5, none⟩ = some (.int .i64 tm2) ∧ s.tm ≠ tm2 ∧ s.nx = nx ∧ s.bd = nx ∧ s.q = q ∧ g.st = st2
theorem st_new (h : HI P j g w) {s : SgD} {j2 : Nat} (hs : Nw P j2 g s w) :
    Calls Tryz.prog 30 #[.pointer (some ⟨s.G, 0, none⟩)] w fun e w' => e = .returned (.agg #[.int .i64 s.nx, .int .i64 s.bd, .int .i64 s.q, .bool false]) ∧ Below w.heap.size w w' := by
  have m2' : Blk w s.S (sgC s.D s.tm P.k P.b P.x P.t P.l (P.rootZ s.z1 s.z3) s.z3 s.z1 s.z2 (P.tot : Int) s.bat s.nx s.q s.bd (P.idZ s.z1 s.z3) false) 188 := by
    have := hs.S
    unfold OP.cells at this
    rw [hs.ov] at this
    exact this
  have hD : s.D < w.heap.size := by rw [hs.D]; exact h.dsk.ltD
  have h5 : w.cell? ⟨s.D, 5, none⟩ = some (.int .i64 s.tm) := by rw [hs.D, hs.tm]; exact h.dsk.term
  exact sgState_on s.G s.S s.nx s.bd s.q w hs.G (fun V hb => state_on s.S s.D s.tm P.k P.b P.x P.t P.l (P.rootZ s.z1 s.z3) s.z3 s.z1 s.z2 _ s.bat s.nx s.q s.bd (P.idZ s.z1 s.z3) V (m2'.on hb) (Nat.lt_of_lt_of_le hD hb.size) ((hb.cell (p := ⟨s.D, 5, none⟩) hD).trans h5))
set_option maxHeartbeats 2000000 in
theorem ropened (Kp : OPk P) (h : RI P j TR g bg B su go w) (hj : j ≤ 8796093022200) (hlo : P.lo ≤ P.Wd.heap.size) (kd a bb : Int) (tx : ByteArray) (ka : Option Addr) (kn kc : Nat) (K : List Bool) (hK : KOk P P.Wd (.slice ka kn kc) K) (bat : Nat) (hb0 : 1 ≤ bat) (hb64 : bat ≤ 64) (s' : DSt) (hs' : s' = { g.st with term := g.st.term + 1 }) :
    Calls Tryz.prog 22 #[.pointer (some ⟨TR, 0, none⟩), .agg #[.int .i64 kd, .int .i64 a, .int .i64 bb, .string tx, .slice ka kn kc], .int .i64 bat, .int .i64 P.n] w fun e w' => e = .returned (.bool true) ∧ ∃ g', RI P (j + 3) TR g' bg B su go w' ∧
      ((opAns s' (P.idZ P.s1 P.s3) P.tot ≠ 0 ∧ g'.Ss = g.Ss ∧ g'.st = opSt s') ∨ (opAns s' (P.idZ P.s1 P.s3) P.tot = 0 ∧ ∃ s, g'.Ss[g.Ss.length + 1]? = some s ∧ g'.Ss.length = g.Ss.length + 2 ∧ s.D = g'.D ∧ s.tm = g'.st.term ∧ s.ov = false ∧ g'.st = opSt { mvSt (opSt s') K with term := 1 })) := by
  have hbl := h.bl
  have nT : ¬ g.F TR := h.hi.nF (by rw [h.ct]; decide)
  have hXl : ∀ i, g.F i → i < w.heap.size := fun i hi => (h.hi.dsk.lt i hi).2
  by_cases ha : opAns s' (P.idZ P.s1 P.s3) P.tot = 0
  · have hj1 : JI P.tot s' g.jid g.sq g.sb := by rw [hs']; exact h.hi.ji.term _
    have hI1 : InB P.tot s' g.jid B := h.inb.mono (fun s _ x hx => by rw [hs'] at hx; exact cand_same (st := g.st) rfl rfl hx)
    obtain ⟨k1, k2, q, b, k3, k4, k5, _⟩ := hj1.opened ha
    obtain ⟨q', b', _, e2, hin⟩ := hj1.openedB hI1 ha
    have eb : b' = b := by rw [k4] at e2; omega
    subst eb
    obtain ⟨oa1, oa2⟩ := open_again hj1.n2 hj1.len K ha
    obtain ⟨ot1, ot2⟩ := op_term (mvSt (opSt s') K) 1 (P.idZ P.s1 P.s3) P.tot
    have hsu := h.su
    have hgo := h.go
    have hgs := h.hi.gs
    obtain ⟨ba, bc, hbg⟩ := owns_len h.rb
    subst hbg
    refine (opened_some P.lo TR P.H g.SD P.k P.b P.x P.t P.l P.s1 P.s2 P.s3 P.o1 P.o2 P.o3 g.sv g.bv g.gv ba B.length bc B su go kd a bb tx ka kn kc bat P.n b' q g.F (OQ1 P j TR (.slice ba B.length bc) B su go w.heap.size bat b' q g.Ss.length (opSt s')) (OQ2 P (j + 1) TR (.slice ba B.length bc) B su go w.heap.size b' q g.Ss.length (opSt s')) (OQ3 P (j + 2) TR (.slice ba B.length bc) B su go b' q g.Ss.length (mvSt (opSt s') K)) (OQ1 P (j + 2) TR (.slice ba B.length bc) B su go TR bat b' q (g.Ss.length + 1) (opSt { mvSt (opSt s') K with term := 1 })) w h.hi.hall h.tr nT h.hi.nH hXl (by omega) hin (by omega) (by omega) ?_ ?_ ?_ ?_ ?_ ?_ ?_ ?_ ?_).mono ?_
    · intro V hb hlt
      have hV := h.recolor hb
      refine (ropen Kp hV (by omega) bat hb0 hb64 s' hs').mono ?_
      rintro e w' ⟨r, c, rfl, hk, ⟨ha2, _⟩ | ⟨_, rfl, g', s, rfl, m1, m2, m3, m4, m5, m6, m7, m8, m9⟩⟩
      · exact absurd ha ha2
      · rw [k4] at m4
        rw [k3] at m6
        have e4 : s.nx = b' := by omega
        exact ⟨s.G, rfl, hk, g', s, rfl, m1, m2, m3, e4, m5.trans e4, by omega, by rw [m7], m8, (m9 w.heap.size hlt (paint_ge (c := g.c) (d := fun _ => 0) (Nat.le_refl _))).1, Nat.lt_of_lt_of_le hlt hk.size⟩
    · rintro G1 V ⟨g1, s, rfl, hR, hN, e1, e3, e4, e5, e6, e7, e8, e9⟩
      subst e1
      refine (rcame_some Kp (by omega) hR hN (Nat.le_refl _)).mono ?_
      rintro e w' ⟨rfl, g', m1, m2, m3, m4, m5, m6, m7, m8, m9⟩
      refine ⟨rfl, fun vs T hb => (m8.blk hb e8).1, m9, g', s, rfl, m1, ?_, ?_, hN.D.trans m4.symm, hN.tm.trans (by rw [m3]), hN.ov, e3, e4, e5, m3.trans e7, (m8 _ e9 e8).1⟩
      · rw [m2, ← e6, List.getElem?_append_right (Nat.le_refl _), Nat.sub_self]
        rfl
      · rw [m2, List.length_append, e6]
        rfl
    · rintro G1 V ⟨g2, s, rfl, hR, _⟩
      exact ⟨hR.tr, hR.rb⟩
    · rintro G1 V ⟨g2, s, rfl, hR, x1, x2, x3, x4, x5, x6, x7, x8, x9, x10⟩
      have := st_live hR.hi x1 x3 x4 x5
      rw [x6, x7, x8] at this
      exact this
    · rintro G1 V2 V ⟨g2, s, rfl, hR, x1, x2, x3, x4, x5, x6, x7, x8, x9, x10⟩ hb
      have hV := hR.recolor hb
      refine (rmoves Kp hV (by omega) hlo ka kn kc K hK).mono ?_
      rintro e w' ⟨rfl, g', m1, m2, m3, m4, m5, m6, m7⟩
      refine ⟨rfl, fun i vs T hi hB => (m5.blk hB ?_).1, g', s, g2.st.term + 1, rfl, m1, by rw [m2]; exact x1, by rw [m2]; exact x2, ?_, by rw [x3]; exact m6, by omega, x6, x7, x8, by rw [m3, ← x9]⟩
      · by_cases hl : i < V2.heap.size
        · refine (paint_lt (c := g2.c) (d := fun _ => 0) hl).trans ?_
          rcases hi with hi | rfl
          · omega
          · exact x10
        · exact paint_ge (c := g2.c) (d := fun _ => 0) (by omega)
      · rw [x3]
        exact Nat.lt_of_lt_of_le (Nat.lt_of_lt_of_le hR.hi.dsk.ltD hb.size) m7
    · rintro G1 V V2 ⟨g3, s, tm2, rfl, hR, x1, x2, x3, x4, x5, x6, x7, x8, x9⟩ hb
      have := st_over (hR.hi.below hb) x1 (Nat.lt_of_lt_of_le x3 hb.size) ((hb.cell (p := ⟨s.D, 5, none⟩) x3).trans x4) (.inr x5)
      rw [x6, x7, x8] at this
      exact this
    · rintro G1 V ⟨g3, s, tm2, rfl, hR, x1, x2, x3, x4, x5, x6, x7, x8, x9⟩
      refine ⟨g3.SD, g3.sv, g3.bv, g3.gv, hR.tr, hR.hi.hall, fun V2 hb => ?_⟩
      have hV := hR.recolor hb
      refine (ropen Kp hV (by omega) bat hb0 hb64 { mvSt (opSt s') K with term := 1 } (by show _ = ({ g3.st with term := g3.st.term + 1 } : DSt); rw [x9]; rfl)).mono ?_
      rintro e w' ⟨r, c, rfl, hk, ⟨ha2, _⟩ | ⟨_, rfl, g', s4, rfl, m1, m2, m3, m4, m5, m6, m7, m8, m9⟩⟩
      · exact absurd (ot1.trans oa1) ha2
      · rw [ot2, oa2, k4] at m4
        rw [ot2, oa2, k3] at m6
        have e4 : s4.nx = b' := by omega
        refine ⟨s4.G, rfl, fun i vs T hi hB => (m9.blk hB (paint_ge (c := g3.c) (d := fun _ => 0) hi)).1, fun i vs T hi hB hT => ?_, m1.tr, blk_kept hV.hi.hall hk hV.hi.nH, g', s4, rfl, m1, m2, m3, e4, m5.trans e4, by omega, by rw [m7]; exact x2, m8, m1.ct, m1.tr.lt⟩
        subst hT
        exact blk_kept (hB.on hb) hk (dsk_ne hR.hi.dsk hB (by decide) (by decide) (by decide))
    · rintro G2 V ⟨g4, s, rfl, hR, hN, e1, e3, e4, e5, _⟩
      have := st_new hR.hi hN
      rw [e3, e4, e5] at this
      exact this
    · rintro G2 V ⟨g4, s, rfl, hR, hN, _⟩
      obtain ⟨sa, sc, hsv⟩ := owns_len hR.hi.rs
      obtain ⟨ba2, bc2, hbv⟩ := owns_len hR.hi.rb
      have hle := hN.len
      exact ⟨g4.SD, sa, g4.Ss.length, sc, ba2, bc2, g4.gv, ptrs g4.Ss, g4.ys, by rw [← hsv, ← hbv]; exact hR.hi.hall, by rw [← hsv]; exact hR.hi.rs, by rw [← hbv]; exact hR.hi.rb, by omega, hR.hi.big, hR.tr⟩
    · rintro e w' ⟨rfl, G2, V, SD2, sa, n1, sc, ba2, bc2, gv2, xs, ys, ⟨g4, s, rfl, hR, hN, e1, e3, e4, e5, e6, e7, e8, e9⟩, y1, y2, y3, g1, c1, g2, c2, z1, z2, z3, z4, z5, z6, z7⟩
      obtain ⟨f1, f2, f3, f4⟩ := hall_inj hR.hi.hall y1
      have hn : n1 = g4.Ss.length := by
        obtain ⟨a, c, e⟩ := owns_len hR.hi.rs
        rw [e] at f2
        simp only [Value.slice.injEq] at f2
        exact f2.2.1
      subst hn f1 f4
      rw [f2] at y2 z4 z5
      rw [f3] at y3 z4 z6
      rw [row_inj hR.hi.rs y2] at z2
      rw [row_inj hR.hi.rb y3, ← e1] at z3
      obtain ⟨g', m1, m2, m3, m4, _⟩ := rcome Kp hR hN (Nat.le_refl _) z1 z2 z3 z4 z5 z6 z7
      refine ⟨rfl, g', m1, .inr ⟨ha, s, ?_, ?_, hN.D.trans m4.symm, hN.tm.trans (by rw [m3]), hN.ov, m3.trans e7⟩⟩
      · rw [m2, ← e6, List.getElem?_append_right (Nat.le_refl _), Nat.sub_self]
        rfl
      · rw [m2, List.length_append, e6]
        rfl
  · refine opened_none TR P.H g.SD P.k P.b P.x P.t P.l P.s1 P.s2 P.s3 P.o1 P.o2 P.o3 g.sv g.bv g.gv bg su go kd a bb tx ka kn kc bat P.n _ g.F _ w h.hi.hall h.tr nT h.hi.nH hXl ha (fun V hb => ?_)
    refine (ropen Kp (h.below hb) (by omega) bat hb0 hb64 s' hs').mono ?_
    rintro e w' ⟨r, c, rfl, hk, ⟨_, rfl, rfl, g', m1, m2, m3, _⟩ | ⟨ha2, _⟩⟩
    · exact ⟨rfl, hk, g', m1.up (by omega), .inl ⟨ha, m2, m3⟩⟩
    · exact absurd ha2 ha
/-- Any step. -/
theorem rdo_step (Kp : OPk P) (h : RI P j TR g bg B su go w) (hj : j ≤ 8796093022200) (hlo : P.lo ≤ P.Wd.heap.size) (kd a bb : Int) (tx : ByteArray) (ka : Option Addr) (kn kc : Nat) (K : List Bool) (hk1 : -9223372036854775808 ≤ kd) (hk2 : kd ≤ 9223372036854775807) (ha1 : -9223372036854775808 ≤ a) (ha2 : a ≤ 9223372036854775807) (hb1 : -9223372036854775808 ≤ bb) (hb2 : bb ≤ 9223372036854775807) (hts : tx.size ≤ maxLen) (hK : KOk P P.Wd (.slice ka kn kc) K) :
    Calls Tryz.prog 20 #[.pointer (some ⟨TR, 0, none⟩), .agg #[.int .i64 kd, .int .i64 a, .int .i64 bb, .string tx, .slice ka kn kc], .int .i64 P.n] w fun e w' => e = .returned (.bool true) ∧ ∃ g' bg' B' su' go', RI P (j + 3) TR g' bg' B' su' go' w' := by
  have hp9 := pickZ_bd kd 9 (by decide)
  have hp64 := pickZ_bd bb 64 (by decide)
  have hp8 := pickZ_bd bb 8 (by decide)
  have hpk : ∀ n : Nat, 1 ≤ n → ∃ p : Nat, pickZ a n = p ∧ p < n := fun n hn => by
    have := pickZ_bd a n (by omega)
    exact ⟨(pickZ a n).toNat, by omega, by omega⟩
  obtain ⟨bt, hbt⟩ : ∃ bt : Nat, pickZ bb 64 = bt := ⟨(pickZ bb 64).toNat, by omega⟩
  obtain ⟨c, hc⟩ : ∃ c : Nat, pickZ kd 9 = c := ⟨(pickZ kd 9).toNat, by omega⟩
  have up : ∀ {j2 : Nat} {w' : World}, j2 ≤ j + 3 → (∃ g' bg' B' su' go', RI P j2 TR g' bg' B' su' go' w') → ∃ g' bg' B' su' go', RI P (j + 3) TR g' bg' B' su' go' w' := by
    rintro j2 w' hle ⟨g', bg', B', su', go', hh⟩
    exact ⟨g', bg', B', su', go', hh.up hle⟩
  by_cases h3 : 3 < c
  · exact (rdo_disk Kp h (by omega) hlo kd a bb tx ka kn kc K bt c hk1 hk2 ha1 ha2 hb1 hb2 hts hK hbt (by omega) hc h3 (by omega) hpk hp8).mono fun _ _ h => ⟨h.1, up (by omega) h.2⟩
  · match c, h3, hc with
    | 0, _, hc => exact (rdo_make Kp h (by omega) kd a bb tx ka kn kc bt hk1 hk2 hb1 hb2 hbt (by omega) hc).mono fun _ _ h => ⟨h.1, up (by omega) h.2⟩
    | 1, _, hc =>
      refine tstep_open TR P.H g.SD P.k P.b P.x P.t P.l P.s1 P.s2 P.s3 P.o1 P.o2 P.o3 g.sv g.bv g.gv bg su go kd a bb tx ka kn kc P.n bt _ w h.hi.hall h.tr hk1 hk2 hb1 hb2 hbt (by omega) hc (fun V hb => ?_)
      have e : (bt : Int) + 1 = ((bt + 1 : Nat) : Int) := by omega
      rw [e]
      refine (ropened Kp (h.below hb) hj hlo kd a bb tx ka kn kc K hK (bt + 1) (by omega) (by omega) _ rfl).mono ?_
      rintro e w' ⟨rfl, g', m1, _⟩
      exact ⟨rfl, g', _, _, _, _, m1⟩
    | 2, _, hc => exact (rdo_sign Kp h hj kd a bb tx ka kn kc bt hk1 hk2 ha1 ha2 hb1 hb2 hbt (by omega) hc hpk).mono fun _ _ h => ⟨h.1, up (by omega) h.2⟩
    | 3, _, hc => exact (rdo_reserve Kp h hj kd a bb tx ka kn kc bt hk1 hk2 ha1 ha2 hb1 hb2 hbt (by omega) hc hpk).mono fun _ _ h => ⟨h.1, up (by omega) h.2⟩
    | c + 4, h3, _ => exact absurd (by omega) h3
end
end Go.Proofs.YtgaoeoijdpdjiabGreatDoor

namespace Go.Proofs.YtgaoeoijdpdjiabGreatDoor
open Go.RowKit
theorem quiet_again {st : DSt} (h : Quiet st) (h2 : 2 ≤ st.n) (hl : st.dur.length = st.n) (id : ByteArray) (tt : Int) : opAns (opSt st) id tt = opAns st id tt := by
  have hq := quiet_open h h2 hl
  obtain ⟨a, b, c, d, e, f, g, i⟩ := quiet_reads h h2 hl
  have hs : opSt st = opS st 3 := by
    unfold opSt
    rw [if_neg (by rw [(quiet_sync h).1]; decide), if_neg (by rw [a]; decide)]
  rw [hs] at hq ⊢
  have l2 : (opS st 3).dur.length = (opS st 3).n := by rw [e, i, hl]
  obtain ⟨_, _, c2, d2, _⟩ := quiet_reads hq (by rw [i]; exact h2) l2
  rw [e] at c2 d2
  rw [quiet_ans hq (by rw [i]; exact h2) l2, quiet_ans h h2 hl, opT_same (st := st) (by rw [c] at c2; exact (Option.some.inj c2).symm) (by rw [d] at d2; exact (Option.some.inj d2).symm)]
theorem quiet_make {st : DSt} {id : ByteArray} (h : Quiet st) (h2 : 2 ≤ st.n) (hl : st.dur.length = st.n) (h8 : id.size = 8) (ha : mkAns st id = 0) : Quiet (mkSt st id) := by
  obtain ⟨a, b, _, _, _, f, g, i⟩ := quiet_reads h h2 hl
  have hy := (quiet_sync h).1
  have hsz := sealS_size 1 0 id h8
  have e1 : ¬ ¬ (0 ≤ (1 : Int) ∧ (1 : Int) < (opS st 3).n) := fun e => e ⟨by omega, by omega⟩
  have e3 : ¬ ((opS st 3).trouble = 1 ∨ (opS st 3).pend.length = 16) := by rw [g, f]; decide
  have hw : wrAns (opS st 3) 1 (sealS 1 0 id) = 0 ∧ (mkT st id).trouble = 0 := by
    unfold mkT wrAns wrSt
    rw [if_neg e1, if_neg (fun e => e hsz), if_neg e3, if_neg e1, if_neg (fun e => e hsz), if_neg e3]
    exact ⟨rfl, by show tick (opS st 3).trouble = 0; rw [g]; rfl⟩
  have hL : opL st 3 = [] := by
    cases hL : opL st 3 with
    | nil => rfl
    | cons r L =>
      unfold mkAns at ha
      rw [if_neg (by rw [hy]; decide), if_neg (by rw [a]; decide), if_neg (by rw [b]; decide), hL, if_pos (by simp)] at ha
      exact absurd ha (by decide)
  unfold mkSt
  rw [if_neg (by rw [hy]; decide), if_neg (by rw [a]; decide), if_neg (by rw [b]; decide), hL, if_neg (by simp), if_neg (by rw [hw.1]; decide)]
  unfold sySt
  rw [if_neg (by rw [hw.2]; decide)]
  exact ⟨by show tick (mkT st id).trouble = 0; rw [hw.2]; rfl, rfl⟩
theorem sig_more {k : Int} {b x e f t l : Nat} (R : RSet k b x e f t l) (sec rnd pub msg : ByteArray) (idx : Nat) (hr : rnd.size = b) : 4 < (sigS k b x e f t l sec rnd pub msg idx).size := by
  obtain ⟨g1, g2, _⟩ := pair_small R.pr
  have := rvS_size k b rnd idx R.kk g1 g2 (by omega)
  unfold sigS
  rw [ByteArray.size_append, ByteArray.size_append, numB_size, this]
  omega
section
variable {P : OP} {j TR : Nat} {g : GH} {bg : Value} {B : List Int} {su go : Nat} {w w' : World}
/-- The trail at the start. -/
theorem ri_new (Kp : OPk P) (h : HI P 0 g w) (h1 : g.Ss = []) (h2 : g.ys = []) (h3 : g.jid = P.idZ P.s1 P.s3) (h4 : g.gone = 0) (h5 : g.st = newD P.n) {A : Nat} (hb : Below w.heap.size w w') (hA : w.heap.size ≤ A) (hTR : w.heap.size ≤ TR) (hR : w'.heap[A]? = some (.cells #[.int .i64 0] 3 (0, 0))) (hT : Blk w' TR (trC P.H (.slice (some ⟨A, 0, none⟩) 1 1) 0 0) 58) :
    ∃ g', RI P 0 TR g' (.slice (some ⟨A, 0, none⟩) 1 1) [0] 0 0 w' := by
  refine ⟨_, h.recolor hb, hT, paint_ge (c := g.c) (d := fun _ => 0) hTR, ⟨rfl, .inr ⟨A, 1, #[.int .i64 0], rfl, Nat.le_trans h.big hA, hR, Nat.le_refl _, by decide, rfl, rfl⟩⟩, fun q e => ?_, ?_, h3, List.mem_singleton.2 rfl, ?_, Nat.zero_le _, h4.symm, fun e => absurd h1 e, Nat.le_refl _, Nat.le_trans h.big hTR⟩
  · have e' : A = q := by simpa [Value.ownBlock] using e
    subst e'
    exact paint_ge (c := g.c) (d := fun _ => 0) hA
  · show g.ys = g.Ss.map _
    rw [h1, h2]
    rfl
  · show InB P.tot g.st g.jid [0]
    rw [h5]
    intro s hs x hx q b hj
    have h8 := Kp.id8 (.inl ⟨rfl, rfl, rfl⟩ : P.seed P.s1 P.s2 P.s3)
    rw [h3] at hj
    have r1 := (jr_rec hj h8 Kp.tot4).1
    rcases hx with hc | hc
    · have : x = zeroS := List.eq_of_mem_replicate (List.mem_of_getElem? hc)
      rw [this, zero_norec] at r1
      exact absurd r1 (by decide)
    · simp [newD] at hc
set_option maxHeartbeats 1000000 in
/-- A live signer signs at the end, or all is spent. -/
theorem rends (Kp : OPk P) (h : RI P j TR g bg B su go w) (hj : j ≤ 8796093022200) (hlo : P.lo ≤ P.Wd.heap.size) (hq : Quiet g.st) {i : Nat} {s : SgD} (hs : g.Ss[i]? = some s) (d1 : s.D = g.D) (d2 : s.tm = g.st.term) (d3 : s.ov = false) :
    Calls Tryz.prog 25 #[.pointer (some ⟨TR, 0, none⟩), .pointer (some ⟨s.G, 0, none⟩)] w fun e w' => e = .returned (.bool true) ∧ Below P.lo P.Wd w' := by
  obtain ⟨d4, d5⟩ := h.hi.lv i s hs d1 d2 d3
  have hst := st_live h.hi hs d1 d2 d3
  have hwho := h.hi.who i s hs
  obtain ⟨m1, m2, m3, m4, m5⟩ := h.hi.mem i s hs
  obtain ⟨G, S, D, tm, z1, z2, z3, bat, nx, q, bd, ov⟩ := s
  dsimp only at d1 d2 d3 hwho m1 m2 m3 m4 m5 hst
  subst d1 d3
  have e1 : q = g.sq := d5.q
  have e2 : bd = g.sb := d5.bd
  have e3 : nx ≤ g.sb := d5.hi
  have e4 : g.gone ≤ nx := d5.lo
  have hgo := h.go
  have h4 := Kp.tot4
  have hone := d5.one
  have hbm : bd ≤ P.tot ∧ q ≤ bd + 1 := by
    rcases h.hi.ji.base with ⟨x1, x2⟩ | ⟨_, ⟨_, _, _, _, _, x4, x3⟩, _⟩
    · omega
    · omega
  obtain ⟨q1, q3, q4⟩ := Kp.sz hwho.1
  have nS : ¬ g.F S := h.hi.nF (by omega)
  have cS : g.c S ≠ 0 := by omega
  have hX : ∀ p, (p = S ∨ g.F p) → p < w.heap.size := by
    rintro p (rfl | e)
    · exact m2.lt
    · exact (h.hi.dsk.lt p e).2
  have nT : ¬ (TR = S ∨ g.F TR) := by
    rintro (e | e)
    · rw [← e] at cS; exact cS h.ct
    · exact h.hi.nF (by rw [h.ct]; decide) e
  have nH : ¬ (P.H = S ∨ g.F P.H) := by
    rintro (e | e)
    · rw [← e, h.hi.cH] at m4; omega
    · exact h.hi.nH e
  have hlw : ∀ {V V' : World}, Below w.heap.size w V → Kept (fun p => p = S ∨ g.F p) V V' → Below P.lo P.Wd V' := fun {V V'} hb hk => (h.below hb).hi.low.trans (hk.below (fun p e => by
    rcases e with rfl | e
    · exact m5
    · exact (h.hi.dsk.lt p e).1) (h.below hb).hi.big)
  by_cases hsp : nx = P.tot
  · refine (ends_spent TR P.H g.SD G P.k P.b P.x P.t P.l P.s1 P.s2 P.s3 P.o1 P.o2 P.o3 g.sv g.bv g.gv bg su go nx bd q (fun p => p = S ∨ g.F p) (fun V => Below P.lo P.Wd V) w h.hi.hall h.tr Kp.R.t2 Kp.R.l2 (by omega) nT nH hX (by show (nx : Int) = (P.tot : Int); omega) hst (fun V hb => ?_)).mono ?_
    · have hV2 := h.below hb
      obtain ⟨n1, n2, _⟩ := hV2.hi.mem i _ hs
      refine (sgSign_on G S ⟨#[]⟩ _ 10 _ V n1 (ssign_spent P.lo S g.D g.st g.F tm P.k P.b P.x P.t P.l _ z3 z1 z2 _ bat nx q bd _ ⟨#[]⟩ V n2 hV2.hi.dsk nS d2.symm (by decide) (by omega))).mono ?_
      rintro e w' ⟨rfl, hb2⟩
      exact ⟨rfl, Kept.of_below hb2, hlw hb (Kept.of_below hb2)⟩
    · rintro e w' ⟨rfl, V, hV, hb⟩
      exact ⟨rfl, hV.trans (hb.mono (Nat.le_trans hlo hV.size))⟩
  · have hnx : nx < P.tot := by omega
    have hSI : ∀ V : World, Tn V → Calls Tryz.prog 171 #[.agg #[.int .i64 P.k, .int .i64 P.b, .int .i64 P.x, .int .i64 P.t, .int .i64 P.l, .string (P.rootZ z1 z3), .string z3], .agg #[.string z1, .string z2, .string z3], .int .i64 nx, .string ⟨#[]⟩] V fun e w' => e = .returned (.string (sigS P.k P.b P.x P.e P.f P.t P.l z1 z2 z3 ⟨#[]⟩ nx)) ∧ Below V.heap.size V w' := fun V hT => signY P.k P.b P.x P.e P.f P.t P.l Kp.R z1 z2 z3 ⟨#[]⟩ nx q1 q3 q4 (by decide) hnx V hT
    have hv : IntKind.i64.wrap ((nx : Int) + 1) = (nx : Int) + 1 := by rw [IntKind.wrap_i64] <;> omega
    obtain ⟨_, hval⟩ := sig_head P.k P.b P.x P.e P.f P.t P.l z1 z2 z3 ⟨#[]⟩ nx (by omega)
    refine (ends_sign TR P.H g.SD G P.k P.b P.x P.t P.l P.s1 P.s2 P.s3 P.o1 P.o2 P.o3 g.sv g.bv g.gv bg su go nx bd q _ (fun p => p = S ∨ g.F p) (fun V => Below P.lo P.Wd V) w h.hi.hall h.tr Kp.R.t2 Kp.R.l2 (by omega) nT nH hX (by show (nx : Int) ≠ (P.tot : Int); omega) nx rfl (sig_more Kp.R z1 z2 z3 ⟨#[]⟩ nx q3) hval hst (fun V hb => ?_)).mono ?_
    · have hV2 := h.below hb
      obtain ⟨n1, n2, _⟩ := hV2.hi.mem i _ hs
      by_cases hnb : nx = bd
      · rcases resv_do2 Kp hV2.hi hs d5 (by omega) bat (by omega) (by omega) (by omega) with ⟨st2, nb, _, _, _, k2, k3, k4, k5⟩ | ⟨st2, c, k0, _⟩
        · refine (sgSign_on G S ⟨#[]⟩ _ 0 _ V n1 (ssign_res P.lo S g.D g.st g.F tm P.k P.b P.x P.t P.l (P.rootZ z1 z3) z3 z1 z2 _ bat nx q bd _ ⟨#[]⟩ _ nb st2 V n2 hV2.hi.dsk nS d2.symm (by omega) (by omega) (by omega) hv (hV2.hi.T Kp) Kp.TB m5 hV2.hi.big (by decide) hSI (fun V2 hb2 => k5 V2 (hV2.hi.below hb2)))).mono ?_
          rintro e w' ⟨rfl, l1, F', l2, l3, l4⟩
          exact ⟨rfl, l3, hlw hb l3⟩
        · exact absurd hq k0
      · refine (sgSign_on G S ⟨#[]⟩ _ 0 _ V n1 (ssign_more P.lo S g.D g.st g.F tm P.k P.b P.x P.t P.l (P.rootZ z1 z3) z3 z1 z2 _ bat nx q bd _ ⟨#[]⟩ _ V n2 hV2.hi.dsk nS d2.symm (by omega) (by omega) hv (hV2.hi.T Kp) Kp.TB m5 hV2.hi.big (by decide) hSI)).mono ?_
        rintro e w' ⟨rfl, l1, F', l2, l3, l4⟩
        exact ⟨rfl, l3, hlw hb l3⟩
    · rintro e w' ⟨rfl, V, hV, hb⟩
      exact ⟨rfl, hV.trans (hb.mono (Nat.le_trans hlo hV.size))⟩
end
end Go.Proofs.YtgaoeoijdpdjiabGreatDoor

namespace Go.Proofs.YtgaoeoijdpdjiabGreatDoor
open Go.RowKit
section
variable {P : OP} {j TR : Nat} {w w' : World}
/-- Nothing fails any more. -/
def RA (P : OP) (j TR : Nat) (V : World) : Prop := ∃ g bg B su go, RI P j TR g bg B su go V ∧ Quiet g.st
/-- The key was never made. -/
def RB0 (P : OP) (j TR : Nat) (V : World) : Prop := ∃ g bg B su go, RI P j TR g bg B su go V ∧ Quiet g.st ∧ g.Ss = [] ∧ opAns g.st (P.idZ P.s1 P.s3) P.tot ≠ 0
/-- The signer number i is the last one, and lives. -/
def RB1 (P : OP) (j TR i : Nat) (V : World) : Prop := ∃ g bg B su go s, RI P j TR g bg B su go V ∧ Quiet g.st ∧ g.Ss[i]? = some s ∧ g.Ss.length = i + 1 ∧ s.D = g.D ∧ s.tm = g.st.term ∧ s.ov = false
def RC (P : OP) (j TR G : Nat) (V : World) : Prop := ∃ g bg B su go s, s.G = G ∧ RI P (j + 1) TR g bg B su go V ∧ Nw P j g s V ∧ s.bat = 3 ∧ Quiet g.st ∧ g.Ss = []
theorem nil_keep : KOk P P.Wd (.slice none 0 0) [] := ⟨.inl ⟨⟨none, 0, rfl⟩, rfl⟩, by decide, fun b o l c e => by simp at e⟩
theorem r_moves (Kp : OPk P) (hj : j ≤ 8796093022200) (hlo : P.lo ≤ P.Wd.heap.size) (h : ∃ g bg B su go, RI P j TR g bg B su go w) :
    Calls Tryz.prog 21 #[.pointer (some ⟨P.H, 0, none⟩), .slice none 0 0, .int .i64 P.n] w fun e w' => e = .returned (.bool true) ∧ RA P (j + 1) TR w' := by
  obtain ⟨g, bg, B, su, go, h⟩ := h
  refine (rmoves Kp h (by omega) hlo none 0 0 [] nil_keep).mono ?_
  rintro e w' ⟨rfl, g', m1, _, m3, _⟩
  exact ⟨rfl, g', _, _, _, _, m1, by rw [m3]; exact quiet_moved _⟩
theorem quiet_term {st : DSt} (h : Quiet st) (t : Int) : Quiet { st with term := t } := ⟨h.tr, h.pe⟩
theorem r_opened (Kp : OPk P) (hj : j ≤ 8796093022200) (hlo : P.lo ≤ P.Wd.heap.size) (h : RA P j TR w) :
    Calls Tryz.prog 22 #[.pointer (some ⟨TR, 0, none⟩), .agg #[.int .i64 0, .int .i64 0, .int .i64 0, .string ⟨#[]⟩, .slice none 0 0], .int .i64 3, .int .i64 P.n] w fun e w' => e = .returned (.bool true) ∧ (RB0 P (j + 3) TR w' ∨ ∃ i, RB1 P (j + 3) TR i w') := by
  obtain ⟨g, bg, B, su, go, h, hq⟩ := h
  have hj1 : JI P.tot { g.st with term := g.st.term + 1 } g.jid g.sq g.sb := h.hi.ji.term _
  have hq1 := quiet_term hq (g.st.term + 1)
  refine (ropened Kp h hj hlo 0 0 0 ⟨#[]⟩ none 0 0 [] nil_keep 3 (by decide) (by decide) _ rfl).mono ?_
  rintro e w' ⟨rfl, g', m1, ⟨a1, a2, a3⟩ | ⟨a1, s, a2, a3, a4, a5, a6, a7⟩⟩
  · refine ⟨rfl, .inl ⟨g', _, _, _, _, m1, ?_, ?_, ?_⟩⟩
    · rw [a3]; exact quiet_open hq1 hj1.n2 hj1.len
    · rw [a2]
      refine Classical.byContradiction fun hne => a1 ?_
      have h1 := h.ne hne
      rw [h.jd] at hj1
      exact quiet_opens hj1 hq1 h1
    · rw [a3, quiet_again hq1 hj1.n2 hj1.len]
      exact a1
  · refine ⟨rfl, .inr ⟨g.Ss.length + 1, g', _, _, _, _, s, m1, ?_, a2, a3, a4, a5, a6⟩⟩
    rw [a7]
    have hj2 := hj1.begun.crash []
    exact quiet_open (quiet_term (quiet_moved []) 1) hj2.n2 hj2.len
theorem r_made (Kp : OPk P) (hj : j ≤ 8796093022200) (h : RB0 P j TR w) : ∃ SD sa sc bv gv X, Blk w P.H (P.hall SD (.slice sa 0 sc) bv gv) 65 ∧ ¬ X P.H ∧ (∀ q, X q → P.lo ≤ q) ∧ Below P.lo P.Wd w ∧ P.lo ≤ w.heap.size ∧ ∀ V, Below w.heap.size w V →
    Calls Tryz.prog 23 #[.pointer (some ⟨SD, 0, none⟩), .agg #[.int .i64 P.k, .int .i64 P.b, .int .i64 P.x, .int .i64 P.t, .int .i64 P.l], .agg #[.string P.s1, .string P.s2, .string P.s3], .int .i64 3] V fun e w' => ∃ G, e = .returned (.tuple #[.pointer (some ⟨G, 0, none⟩), .int .i64 0]) ∧ Kept X V w' ∧ RC P j TR G w' := by
  obtain ⟨g, bg, B, su, go, h, hq, h0, ha⟩ := h
  obtain ⟨sa, sc, hsv⟩ := owns_len h.hi.rs
  have hl : g.Ss.length = 0 := by rw [h0]; rfl
  rw [hl] at hsv
  refine ⟨g.SD, sa, sc, g.bv, g.gv, g.F, by rw [← hsv]; exact h.hi.hall, h.hi.nH, fun q e => (h.hi.dsk.lt q e).1, h.hi.low, h.hi.big, fun V hb => ?_⟩
  have hV := h.below hb
  have hj1 : JI P.tot { g.st with term := g.st.term + 1 } g.jid g.sq g.sb := h.hi.ji.term _
  have hq1 := quiet_term hq (g.st.term + 1)
  have hmk : mkAns { g.st with term := g.st.term + 1 } (P.idZ P.s1 P.s3) = 0 := by
    have hj2 := hj1
    rw [h.jd] at hj2
    exact quiet_makes hj2 hq1 (by rw [(op_term g.st _ _ _).1]; exact ha)
  refine (rmake Kp hV (by omega) 3 (by decide) (by decide) _ rfl).mono ?_
  rintro e w' ⟨r, c, rfl, hk, ⟨d4, _⟩ | ⟨d4, rfl, g', s, rfl, m1, m2, m3, m4, m5⟩⟩
  · exact absurd hmk d4
  · exact ⟨s.G, rfl, hk, g', _, _, _, _, s, rfl, m1, m2, m3, by rw [m5]; exact quiet_make hq1 hj1.n2 hj1.len (Kp.id8 (.inl ⟨rfl, rfl, rfl⟩)) hmk, by rw [m4]; exact h0⟩
theorem r_came (Kp : OPk P) (hj : j ≤ 8796093022200) {G : Nat} (h : RC P j TR G w) :
    Calls Tryz.prog 24 #[.pointer (some ⟨P.H, 0, none⟩), .pointer (some ⟨G, 0, none⟩), .int .i64 0, .int .i64 3] w fun e w' => e = .returned (.bool true) ∧ RB1 P (j + 1) TR 0 w' := by
  obtain ⟨g, bg, B, su, go, s, rfl, h, hN, hb, hq, h0⟩ := h
  have e : (3 : Int) = (s.bat : Int) := by rw [hb]; rfl
  rw [e]
  refine (rcame_some Kp (by omega) h hN (Nat.le_refl _)).mono ?_
  rintro e w' ⟨rfl, g', m1, m2, m3, m4, _⟩
  refine ⟨rfl, g', _, _, _, _, s, m1, by rw [m3]; exact hq, ?_, ?_, hN.D.trans m4.symm, hN.tm.trans (by rw [m3]), hN.ov⟩
  · rw [m2, h0]; rfl
  · rw [m2, h0]; rfl
theorem r_ends (Kp : OPk P) (hj : j ≤ 8796093022200) (hlo : P.lo ≤ P.Wd.heap.size) {i : Nat} (h : RB1 P j TR i w) : ∃ g1 cap G, w.cell? ⟨P.H, 12, none⟩ = some (.slice (some ⟨g1, 0, none⟩) (i + 1) cap) ∧ i + 1 ≤ cap ∧ w.cell? ⟨g1, i, none⟩ = some (.pointer (some ⟨G, 0, none⟩)) ∧ i + 1 ≤ 8796093022208 ∧
    Calls Tryz.prog 25 #[.pointer (some ⟨TR, 0, none⟩), .pointer (some ⟨G, 0, none⟩)] w fun e w' => e = .returned (.bool true) ∧ Below P.lo P.Wd w' := by
  obtain ⟨g, bg, B, su, go, s, h, hq, hs, hl, d1, d2, d3⟩ := h
  obtain ⟨g1, cap, hsv, hcap, hgl, hcell⟩ := h.hi.len_pos (by omega)
  have hH := h.hi.hall
  have ha := h.hi.cnt.a
  rw [hsv, hl] at hH
  exact ⟨g1, cap, s.G, hH.cell 12, by omega, hcell i s hs, by omega, rends Kp h hj hlo hq hs d1 d2 d3⟩
end
end Go.Proofs.YtgaoeoijdpdjiabGreatDoor

namespace Go.Proofs.YtgaoeoijdpdjiabGreatDoor
open Go.RowKit
set_option maxRecDepth 20000 in
set_option maxHeartbeats 8000000 in
theorem recovers_true (k0 b0 x0 t0 l0 n0 : Int) (sec rnd pub : ByteArray) (v : Value) (L : List StepDJ) (w : World) (hk : Int64 k0) (hb : Int64 b0) (hx : Int64 x0) (ht : Int64 t0) (hl0 : Int64 l0) (hn1 : -9223372036854775808 ≤ n0) (hn2 : n0 ≤ 9223372036854775807) (m1 : sec.size ≤ maxLen) (m2 : rnd.size ≤ maxLen) (m3 : pub.size ≤ maxLen) (hv : ScriptAtJ w v L) (hl : L.length ≤ 2199023255552) (hT : Tn w) :
    Calls Tryz.prog 6 #[.agg #[.int .i64 k0, .int .i64 b0, .int .i64 x0, .int .i64 t0, .int .i64 l0], .agg #[.string sec, .string rnd, .string pub], .int .i64 n0, v] w fun e w' => e = .returned (.bool true) ∧ Below w.heap.size w w' := by
  obtain ⟨k, b, x, e, f, t, l, R, ek, eb, ex, et, el⟩ := fit_set k0 b0 x0 t0 l0
  have HFIT := hide (fun V : World => fit_any k0 b0 x0 t0 l0 V hk hb hx ht hl0)
  rw [ek, eb, ex, et, el] at HFIT
  obtain ⟨g1, g2, g3, g4, g5, g6⟩ := pair_small R.pr
  have HSOW := hide (fun V : World => sown_any k x t l b sec rnd pub V (by omega) m1 m2 m3)
  obtain ⟨sc, hsc, z1⟩ : ∃ sc, someB sec b = sc ∧ sc.size = b := ⟨_, rfl, someB_size _ _⟩
  obtain ⟨rn, hrn, z2⟩ : ∃ rn, someB rnd b = rn ∧ rn.size = b := ⟨_, rfl, someB_size _ _⟩
  obtain ⟨pu, hpu, z3⟩ : ∃ pu, someB pub b = pu ∧ pu.size = b := ⟨_, rfl, someB_size _ _⟩
  rw [hsc, hrn, hpu] at HSOW
  obtain ⟨va, vc, hvv⟩ := hv.len
  subst hvv
  have HV := hide hv
  have HPB := hide (fun V : World => pickN_any n0 7 V (by omega) (by omega) hn1 hn2)
  have pb := pickZ_bd n0 7 (by omega)
  obtain ⟨m0, hm0⟩ := Int.eq_ofNat_of_zero_le pb.1
  rw [hm0] at HPB pb
  obtain ⟨n, hn⟩ : ∃ n : Nat, 2 + m0 = n := ⟨_, rfl⟩
  have hwb : IntKind.i64.wrap (2 + (m0 : Int)) = (n : Int) := by rw [IntKind.wrap_i64] <;> omega
  have HNN := hide (show 2 ≤ n ∧ n ≤ 8 by omega)
  have HR := hide R
  have HZZ := hide (And.intro z1 (And.intro z2 z3))
  have HTW := hide hT
  obtain ⟨N, hN⟩ : ∃ N, L.length = N := ⟨_, rfl⟩
  rw [hN] at hl
  simp only [hN]
  have HN := hide hN
  have HNB := hide hl
  obtain ⟨W0, hW⟩ : ∃ W0, (w.alloc (.cells #[.int .i64 k0, .int .i64 b0, .int .i64 x0, .int .i64 t0, .int .i64 l0] 26)).alloc (.cells #[.string sec, .string rnd, .string pub] 42) = W0 := ⟨_, rfl⟩
  have HB0 := hide (show Below w.heap.size w W0 by subst hW; exact ((Below.refl _ _).alloc (Nat.le_refl _) _).alloc (by simp) _)
  have HC0 := hide (show Blk W0 w.heap.size [.int .i64 k0, .int .i64 b0, .int .i64 x0, .int .i64 t0, .int .i64 l0] 26 by rw [← hW]; exact (Blk.new w _ _).alloc _)
  have HE0 := hide (show Blk W0 (w.heap.size + 1) [.string sec, .string rnd, .string pub] 42 by rw [← hW]; exact blk_new1 w _ _ _)
  have HWE := hide hW
  have HA := hide (show w.heap.size + 1 ≠ w.heap.size by omega)
  clear hW R ek eb ex et el g1 g2 g3 g4 g5 g6 hsc hrn hpu z1 z2 z3 hv pb hm0 hn hk hb hx ht hl0 hn1 hn2 m1 m2 m3 hT hN hl
  go_enter Tryz.func6, Tryz.ntmps6
  go_wp2_with fail
  rw [HWE.out]
  refine (HFIT.out _).mono ?_
  rintro e1 w1 ⟨rfl, hb1⟩
  have HC1 := hide (HC0.out.on hb1)
  have HE1 := hide (HE0.out.on hb1)
  have r0 : w1.cell? ⟨w.heap.size, 0, none⟩ = some (.int .i64 k0) := HC1.out.cell 0
  have f0 := HC1.out.free 0
  have r1 : w1.cell? ⟨w.heap.size, 1, none⟩ = some (.int .i64 b0) := HC1.out.cell 1
  have f1 := HC1.out.free 1
  have r2 : w1.cell? ⟨w.heap.size, 2, none⟩ = some (.int .i64 x0) := HC1.out.cell 2
  have f2 := HC1.out.free 2
  have r3 : w1.cell? ⟨w.heap.size, 3, none⟩ = some (.int .i64 t0) := HC1.out.cell 3
  have f3 := HC1.out.free 3
  have r4 : w1.cell? ⟨w.heap.size, 4, none⟩ = some (.int .i64 l0) := HC1.out.cell 4
  have f4 := HC1.out.free 4
  have d0 : w1.cell? ⟨w.heap.size + 1, 0, none⟩ = some (.string sec) := HE1.out.cell 0
  have d1 : w1.cell? ⟨w.heap.size + 1, 1, none⟩ = some (.string rnd) := HE1.out.cell 1
  have d2 : w1.cell? ⟨w.heap.size + 1, 2, none⟩ = some (.string pub) := HE1.out.cell 2
  have HCX := hide (((((HC1.out.set 0 (.int .i64 k)).set 1 (.int .i64 b)).set 2 (.int .i64 x)).set 3 (.int .i64 t)).set 4 (.int .i64 l))
  have HEX := hide (((((HE1.out.other (a := ⟨w.heap.size, 0, none⟩) (.int .i64 k) HA.out).other (a := ⟨w.heap.size, 1, none⟩) (.int .i64 b) HA.out).other (a := ⟨w.heap.size, 2, none⟩) (.int .i64 x) HA.out).other (a := ⟨w.heap.size, 3, none⟩) (.int .i64 t) HA.out).other (a := ⟨w.heap.size, 4, none⟩) (.int .i64 l) HA.out)
  have HBX := hide (HB0.out.trans ((((((hb1.mono HB0.out.size).setCell (p := ⟨w.heap.size, 0, none⟩) (Nat.le_refl _) (.int .i64 k)).setCell (p := ⟨w.heap.size, 1, none⟩) (Nat.le_refl _) (.int .i64 b)).setCell (p := ⟨w.heap.size, 2, none⟩) (Nat.le_refl _) (.int .i64 x)).setCell (p := ⟨w.heap.size, 3, none⟩) (Nat.le_refl _) (.int .i64 t)).setCell (p := ⟨w.heap.size, 4, none⟩) (Nat.le_refl _) (.int .i64 l)))
  clear hb1
  go_wp2_with fail
  generalize ((((w1.setCell ⟨w.heap.size, 0, none⟩ (.int .i64 k)).setCell ⟨w.heap.size, 1, none⟩ (.int .i64 b)).setCell ⟨w.heap.size, 2, none⟩ (.int .i64 x)).setCell ⟨w.heap.size, 3, none⟩ (.int .i64 t)).setCell ⟨w.heap.size, 4, none⟩ (.int .i64 l) = W1 at HCX HEX HBX ⊢
  clear r0 r1 r2 r3 r4 f0 f1 f2 f3 f4 d0 d1 d2
  simp only [List.set_cons_zero, List.set_cons_succ] at HCX
  refine (HSOW.out _).mono ?_
  rintro e1 w2 ⟨rfl, hb2⟩
  have HE2 := hide (HEX.out.on hb2)
  have HC2 := hide (HCX.out.on hb2)
  have r0 : w2.cell? ⟨w.heap.size + 1, 0, none⟩ = some (.string sec) := HE2.out.cell 0
  have f0 := HE2.out.free 0
  have r1 : w2.cell? ⟨w.heap.size + 1, 1, none⟩ = some (.string rnd) := HE2.out.cell 1
  have f1 := HE2.out.free 1
  have r2 : w2.cell? ⟨w.heap.size + 1, 2, none⟩ = some (.string pub) := HE2.out.cell 2
  have f2 := HE2.out.free 2
  have c0 : w2.cell? ⟨w.heap.size, 0, none⟩ = some (.int .i64 k) := HC2.out.cell 0
  have c1 : w2.cell? ⟨w.heap.size, 1, none⟩ = some (.int .i64 b) := HC2.out.cell 1
  have c2 : w2.cell? ⟨w.heap.size, 2, none⟩ = some (.int .i64 x) := HC2.out.cell 2
  have c3 : w2.cell? ⟨w.heap.size, 3, none⟩ = some (.int .i64 t) := HC2.out.cell 3
  have c4 : w2.cell? ⟨w.heap.size, 4, none⟩ = some (.int .i64 l) := HC2.out.cell 4
  have HEY := hide (((HE2.out.set 0 (.string sc)).set 1 (.string rn)).set 2 (.string pu))
  have HCY := hide (((HC2.out.other (a := ⟨w.heap.size + 1, 0, none⟩) (.string sc) HA.out.symm).other (a := ⟨w.heap.size + 1, 1, none⟩) (.string rn) HA.out.symm).other (a := ⟨w.heap.size + 1, 2, none⟩) (.string pu) HA.out.symm)
  have HBY := hide (HBX.out.trans ((((hb2.mono HBX.out.size).setCell (p := ⟨w.heap.size + 1, 0, none⟩) (Nat.le_succ _) (.string sc)).setCell (p := ⟨w.heap.size + 1, 1, none⟩) (Nat.le_succ _) (.string rn)).setCell (p := ⟨w.heap.size + 1, 2, none⟩) (Nat.le_succ _) (.string pu)))
  clear hb2
  go_wp2_with fail
  generalize ((w2.setCell ⟨w.heap.size + 1, 0, none⟩ (.string sc)).setCell ⟨w.heap.size + 1, 1, none⟩ (.string rn)).setCell ⟨w.heap.size + 1, 2, none⟩ (.string pu) = W2 at HCY HEY HBY ⊢
  clear r0 r1 r2 f0 f1 f2 c0 c1 c2 c3 c4
  simp only [List.set_cons_zero, List.set_cons_succ] at HEY
  refine (HPB.out _).mono ?_
  rintro e1 w5 ⟨rfl, hw5⟩
  subst w5
  have c0 : W2.cell? ⟨w.heap.size, 0, none⟩ = some (.int .i64 k) := HCY.out.cell 0
  have c1 : W2.cell? ⟨w.heap.size, 1, none⟩ = some (.int .i64 b) := HCY.out.cell 1
  have c2 : W2.cell? ⟨w.heap.size, 2, none⟩ = some (.int .i64 x) := HCY.out.cell 2
  have c3 : W2.cell? ⟨w.heap.size, 3, none⟩ = some (.int .i64 t) := HCY.out.cell 3
  have c4 : W2.cell? ⟨w.heap.size, 4, none⟩ = some (.int .i64 l) := HCY.out.cell 4
  have d0 : W2.cell? ⟨w.heap.size + 1, 0, none⟩ = some (.string sc) := HEY.out.cell 0
  have d1 : W2.cell? ⟨w.heap.size + 1, 1, none⟩ = some (.string rn) := HEY.out.cell 1
  have d2 : W2.cell? ⟨w.heap.size + 1, 2, none⟩ = some (.string pu) := HEY.out.cell 2
  have HEN := hide (entered_on k b x t l sc rn pu sc rn pu n W2 (by have := HNN.out; omega) HNN.out.2)
  go_wp2_with fail
  refine HEN.out.mono ?_
  rintro e1 w6 ⟨H, SD, D, F, rfl, p1, p2, p3, p4, p5, p6, p7, p8, p9⟩
  clear c0 c1 c2 c3 c4 d0 d1 d2
  obtain ⟨P, hP⟩ : ∃ P : OP, P = ⟨k, b, x, e, f, t, l, sc, rn, pu, sc, rn, pu, W2.heap.size, H, n, W2⟩ := ⟨_, rfl⟩
  have HKP := hide (show OPk P by
    subst hP
    exact ⟨HR.out, HZZ.out.1, HZZ.out.2.1, HZZ.out.2.2, HZZ.out.1, HZZ.out.2.1, HZZ.out.2.2, HTW.out.on HBY.out, (HTW.out.on HBY.out).pos, HNN.out.1, HNN.out.2, p7⟩)
  obtain ⟨W7, hW7⟩ : ∃ W7, (w6.alloc (.cells #[.int .i64 0] 3)).alloc (.cells #[.pointer (some ⟨H, 0, none⟩), .slice (some ⟨w6.heap.size, 0, none⟩) 1 1, .int .i64 0, .int .i64 0] 58) = W7 := ⟨_, rfl⟩
  obtain ⟨TR, hTR⟩ : ∃ TR, w6.heap.size + 1 = TR := ⟨_, rfl⟩
  have HI0 := hide (show ∃ g bg B su go, RI P 0 TR g bg B su go W7 by
    have hk := HKP.out
    subst hP
    obtain ⟨g, h, h1, h2, h3, h4, h5⟩ := hi_new hk rfl p1 p2 p3 p4 p5 p6 p9
    obtain ⟨g', hr⟩ := ri_new (TR := TR) (A := w6.heap.size) (w' := W7) hk h h1 h2 h3 h4 h5 (by rw [← hW7]; exact ((Below.refl _ _).alloc (Nat.le_refl _) _).alloc (by simp) _) (Nat.le_refl _) (by omega) (by rw [← hW7]; exact (Blk.new w6 [.int .i64 0] 3).alloc _) (by rw [← hW7, ← hTR]; exact blk_new1 w6 _ _ _)
    exact ⟨g', _, _, _, _, hr⟩)
  have HST := hide (fun (V : World) (j : Nat) (hj : j < N) (d : StepDJ) (hd : L[j]? = some d) (ok : StepOkJ w d) (ka : Option Addr) (kc : Nat) (hkv : d.kv = .slice ka d.K.length kc) (hg : ∃ g bg B su go, RI P (3 * j) TR g bg B su go V) => (by
    obtain ⟨g, bg, B, su, go, hg⟩ := hg
    have hk := HKP.out
    have hKO : KOk P P.Wd (.slice ka d.K.length kc) d.K := by
      rw [← hkv]
      subst hP
      refine ⟨?_, ok.kl, fun b o l c e h0 => Nat.lt_of_lt_of_le (ok.ko b o l c e h0) HBY.out.size⟩
      rcases ok.kb with ⟨e, e2⟩ | ⟨b, o, cap, e, hc, hcell⟩
      · exact .inl ⟨e, e2⟩
      · refine .inr ⟨b, o, cap, e, hc, fun i y hy => ?_⟩
        have hl : b < w.heap.size := ok.ko b o _ _ e (by have := (List.getElem?_eq_some_iff.1 hy).1; omega)
        exact (HBY.out.cell (p := ⟨b, o + i, none⟩) hl).trans (hcell i y hy)
    have := rdo_step hk hg (by have := HNB.out; omega) (by subst hP; exact Nat.le_refl _) d.kd d.a d.b d.t ka d.K.length kc d.K ok.kd1 ok.kd2 ok.a1 ok.a2 ok.b1 ok.b2 ok.ts hKO
    subst hP
    exact this : Calls Tryz.prog 20 #[.pointer (some ⟨TR, 0, none⟩), .agg #[.int .i64 d.kd, .int .i64 d.a, .int .i64 d.b, .string d.t, .slice ka d.K.length kc], .int .i64 n] V fun e w' => e = .returned (.bool true) ∧ ∃ g bg B su go, RI P (3 * (j + 1)) TR g bg B su go w'))
  have HLW := hide (fun (V : World) (j : Nat) (hg : ∃ g bg B su go, RI P (3 * j) TR g bg B su go V) => (by
    obtain ⟨g, bg, B, su, go, hg⟩ := hg
    have hlow := hg.hi.low
    subst hP
    exact HBY.out.trans (hlow.mono HBY.out.size) : Below w.heap.size w V))
  have HMV := hide (fun (V : World) (hg : ∃ g bg B su go, RI P (3 * N) TR g bg B su go V) => (by
    have := r_moves HKP.out (by have := HNB.out; omega) (by subst hP; exact Nat.le_refl _) hg
    subst hP
    exact this : Calls Tryz.prog 21 #[.pointer (some ⟨H, 0, none⟩), .slice none 0 0, .int .i64 n] V fun e w' => e = .returned (.bool true) ∧ RA P (3 * N + 1) TR w'))
  have HOD := hide (fun (V : World) (hg : RA P (3 * N + 1) TR V) => (by
    have := r_opened HKP.out (by have := HNB.out; omega) (by subst hP; exact Nat.le_refl _) hg
    subst hP
    exact this : Calls Tryz.prog 22 #[.pointer (some ⟨TR, 0, none⟩), .agg #[.int .i64 0, .int .i64 0, .int .i64 0, .string ⟨#[]⟩, .slice none 0 0], .int .i64 3, .int .i64 n] V fun e w' => e = .returned (.bool true) ∧ (RB0 P (3 * N + 4) TR w' ∨ ∃ i, RB1 P (3 * N + 4) TR i w')))
  have HMK := hide (fun (V : World) (hg : RB0 P (3 * N + 4) TR V) => (by
    have := r_made HKP.out (by have := HNB.out; omega) hg
    subst hP
    obtain ⟨SD, sa, sc2, bv, gv, X, y1, y2, y3, y4, y5, y6⟩ := this
    exact ⟨SD, sa, sc2, bv, gv, X, y1, y2, fun q e e2 => absurd e2 (Nat.not_lt.2 (y3 q e)), HCY.out.on y4, HEY.out.on y4, y6⟩ : ∃ SD sa sc2 bv gv, ∃ X : Nat → Prop, Blk V H (hallC SD k b x t l sc rn pu sc rn pu (.slice sa 0 sc2) bv gv) 65 ∧ ¬ X H ∧ (∀ q, X q → ¬ q < W2.heap.size) ∧ Blk V w.heap.size [.int .i64 k, .int .i64 b, .int .i64 x, .int .i64 t, .int .i64 l] 26 ∧ Blk V (w.heap.size + 1) [.string sc, .string rn, .string pu] 42 ∧ ∀ V2, Below V.heap.size V V2 → Calls Tryz.prog 23 #[.pointer (some ⟨SD, 0, none⟩), .agg #[.int .i64 k, .int .i64 b, .int .i64 x, .int .i64 t, .int .i64 l], .agg #[.string sc, .string rn, .string pu], .int .i64 3] V2 fun e w' => ∃ G, e = .returned (.tuple #[.pointer (some ⟨G, 0, none⟩), .int .i64 0]) ∧ Kept X V2 w' ∧ RC P (3 * N + 4) TR G w'))
  have HCM := hide (fun (V : World) (G : Nat) (hg : RC P (3 * N + 4) TR G V) => (by
    have := r_came HKP.out (by have := HNB.out; omega) hg
    subst hP
    exact this : Calls Tryz.prog 24 #[.pointer (some ⟨H, 0, none⟩), .pointer (some ⟨G, 0, none⟩), .int .i64 0, .int .i64 3] V fun e w' => e = .returned (.bool true) ∧ RB1 P (3 * N + 5) TR 0 w'))
  have HEE := hide (fun (V : World) (i j : Nat) (hj : j ≤ 3 * N + 5) (hg : RB1 P j TR i V) => (by
    obtain ⟨g1, cap, G, y1, y2, y3, y4, y5⟩ := r_ends HKP.out (by have := HNB.out; omega) (by subst hP; exact Nat.le_refl _) hg
    subst hP
    exact ⟨g1, cap, G, y1, y2, y3, y4, hide (y5.mono fun e w' h => ⟨h.1, HBY.out.trans (h.2.mono HBY.out.size)⟩)⟩ : ∃ g1 cap G, V.cell? ⟨H, 12, none⟩ = some (.slice (some ⟨g1, 0, none⟩) (i + 1) cap) ∧ i + 1 ≤ cap ∧ V.cell? ⟨g1, i, none⟩ = some (.pointer (some ⟨G, 0, none⟩)) ∧ i + 1 ≤ 8796093022208 ∧ Hid (Calls Tryz.prog 25 #[.pointer (some ⟨TR, 0, none⟩), .pointer (some ⟨G, 0, none⟩)] V fun e w' => e = .returned (.bool true) ∧ Below w.heap.size w w')))
  have HW7 := hide hW7
  have HTR := hide hTR
  have HBW2 := hide (show w.heap.size + 1 < W2.heap.size from HEY.out.lt)
  clear hP p1 p2 p3 p4 p5 p6 p7 p8 p9 hwb hW7 hTR
  go_wp2_with fail
  rw [HW7.out, HTR.out]
  go_loopw [11] (fun i wr => ∃ j : Nat, j ≤ N ∧ i = .int .i64 j ∧ Hid (∃ g bg B su go, RI P (3 * j) TR g bg B su go wr)) (fun i _ => N - (intOf i).toNat)
  case atStart => exact ⟨0, Nat.zero_le _, rfl, HI0.out⟩
  case round =>
    obtain ⟨j, hj, rfl, hinv⟩ := hrel
    by_cases hlt : j < N
    · have HBW := hide (HLW.out wr j hinv.out)
      obtain ⟨dkd, da, db, dt, ka, kn, kc, sb, so, hvav, hcap, g0, g1, g2, g3, g4, HSP⟩ : ∃ (dkd da db : Int) (dt : ByteArray) (ka : Option Addr) (kn kc sb so : Nat), va = some ⟨sb, so, none⟩ ∧ N ≤ vc ∧ wr.cell? ⟨sb, so + j * 5, none⟩ = some (.int .i64 dkd) ∧ wr.cell? ⟨sb, so + j * 5 + 1, none⟩ = some (.int .i64 da) ∧ wr.cell? ⟨sb, so + j * 5 + 2, none⟩ = some (.int .i64 db) ∧ wr.cell? ⟨sb, so + j * 5 + 3, none⟩ = some (.string dt) ∧ wr.cell? ⟨sb, so + j * 5 + 4, none⟩ = some (.slice ka kn kc) ∧ Hid (Calls Tryz.prog 20 #[.pointer (some ⟨TR, 0, none⟩), .agg #[.int .i64 dkd, .int .i64 da, .int .i64 db, .string dt, .slice ka kn kc], .int .i64 n] wr fun e w' => e = .returned (.bool true) ∧ ∃ g bg B su go, RI P (3 * (j + 1)) TR g bg B su go w') := by
        rcases HV.out with ⟨_, e0⟩ | ⟨sb, so, cap, e0, hcp, hsb, hall⟩
        · have := HN.out
          rw [e0] at this
          simp at this
          omega
        · obtain ⟨d, hd⟩ : ∃ d, L[j]? = some d := ⟨_, List.getElem?_eq_getElem (by rw [HN.out]; exact hlt)⟩
          obtain ⟨ok, c0, c1, c2, c3, c4⟩ := hall j d hd
          simp only [Value.slice.injEq] at e0
          have hc : ∀ o u, w.cell? ⟨sb, o, none⟩ = some u → wr.cell? ⟨sb, o, none⟩ = some u := fun o u h => (HBW.out.cell (p := ⟨sb, o, none⟩) hsb).trans h
          obtain ⟨ka, kc, hkv⟩ := ok.kb.len
          rw [hkv] at c4
          exact ⟨d.kd, d.a, d.b, d.t, ka, d.K.length, kc, sb, so, e0.1, by rw [← HN.out, e0.2.2]; exact hcp, hc _ _ c0, hc _ _ c1, hc _ _ c2, hc _ _ c3, hc _ _ c4, HST.out wr j hlt d hd ok ka kc hkv hinv.out⟩
      subst hvav
      have hms : (j : Int) < (N : Int) := by omega
      have hjb : (j : Int) < 2199023255552 := by have := HNB.out; omega
      clear hinv
      go_wp2_with fail
      refine HSP.out.mono ?_
      rintro e1 w7 ⟨rfl, hq7⟩
      have HQ7 := hide hq7
      clear hq7 g0 g1 g2 g3 g4
      go_wp2
      go_roundw
      case rel => exact ⟨j + 1, by omega, by go_num, HQ7.out⟩
      case measure => simp [intOf]; omega
    · have hms : ¬ (j : Int) < (N : Int) := by omega
      have hjN : j = N := by omega
      subst hjN
      have HMVX := hide (HMV.out _ hinv.out)
      clear hinv
      go_wp2_with fail
      refine HMVX.out.mono ?_
      rintro e1 w8 ⟨rfl, hq8⟩
      have HODX := hide (HOD.out _ hq8)
      clear hq8
      go_wp2_with fail
      refine HODX.out.mono ?_
      rintro e1 w9 ⟨rfl, hq9⟩
      rcases hq9 with hq9 | ⟨i, hq9⟩
      · obtain ⟨SD3, sa, sc3, bv, gv, X, y1, y2, y3, y4, y5, y6⟩ := HMK.out _ hq9
        have HH9 := hide y1
        have HXH := hide (And.intro y2 y3)
        have HC9 := hide y4
        have HE9 := hide y5
        have HM9 := hide y6
        have s12 : w9.cell? ⟨H, 12, none⟩ = some (.slice sa 0 sc3) := HH9.out.cell 12
        clear hq9 y1 y2 y3 y4 y5 y6 hms hj
        go_wp2_with fail
        have HS := hide (fun (V : World) (h : Blk V H (hallC SD3 k b x t l sc rn pu sc rn pu (.slice sa 0 sc3) bv gv) 65 ∧ Blk V w.heap.size [.int .i64 k, .int .i64 b, .int .i64 x, .int .i64 t, .int .i64 l] 26 ∧ Blk V (w.heap.size + 1) [.string sc, .string rn, .string pu] 42) => (by
          obtain ⟨q1, q2, q3⟩ := h
          exact ⟨q1.cell 11, q2.cell 0, q2.cell 1, q2.cell 2, q2.cell 3, q2.cell 4, q3.cell 0, q3.cell 1, q3.cell 2⟩ : V.cell? ⟨H, 11, none⟩ = some (.pointer (some ⟨SD3, 0, none⟩)) ∧ V.cell? ⟨w.heap.size, 0, none⟩ = some (.int .i64 k) ∧ V.cell? ⟨w.heap.size, 1, none⟩ = some (.int .i64 b) ∧ V.cell? ⟨w.heap.size, 2, none⟩ = some (.int .i64 x) ∧ V.cell? ⟨w.heap.size, 3, none⟩ = some (.int .i64 t) ∧ V.cell? ⟨w.heap.size, 4, none⟩ = some (.int .i64 l) ∧ V.cell? ⟨w.heap.size + 1, 0, none⟩ = some (.string sc) ∧ V.cell? ⟨w.heap.size + 1, 1, none⟩ = some (.string rn) ∧ V.cell? ⟨w.heap.size + 1, 2, none⟩ = some (.string pu)))
        refine wp_region_held_drew (S := fun V => V.cell? ⟨H, 11, none⟩ = some (.pointer (some ⟨SD3, 0, none⟩)) ∧ V.cell? ⟨w.heap.size, 0, none⟩ = some (.int .i64 k) ∧ V.cell? ⟨w.heap.size, 1, none⟩ = some (.int .i64 b) ∧ V.cell? ⟨w.heap.size, 2, none⟩ = some (.int .i64 x) ∧ V.cell? ⟨w.heap.size, 3, none⟩ = some (.int .i64 t) ∧ V.cell? ⟨w.heap.size, 4, none⟩ = some (.int .i64 l) ∧ V.cell? ⟨w.heap.size + 1, 0, none⟩ = some (.string sc) ∧ V.cell? ⟨w.heap.size + 1, 1, none⟩ = some (.string rn) ∧ V.cell? ⟨w.heap.size + 1, 2, none⟩ = some (.string pu)) (by kernel_rfl) (HS.out _ (⟨HH9.out, HC9.out, HE9.out⟩)) (fun hHeld => ?_)
        refine tk 0 hHeld (h := ?_)
        refine tk 1 hHeld (h := ?_)
        refine tk 2 hHeld (h := ?_)
        refine tk 3 hHeld (h := ?_)
        refine tk 4 hHeld (h := ?_)
        refine tk 5 hHeld (h := ?_)
        refine wpAnyH_ready (rs := [6]) (by kernel_rfl) (by simp) ?_
        refine AllReadyH.cons (o := ?om6) ?hom6 (fun K hK => ?hsm6) AllReadyH.nil
        case hom6 => (simp only [List.getElem?_toArray, List.getElem?_cons_succ, List.getElem?_cons_zero]; rfl)
        go_simp
        go_at_call 23
        refine (HM9.out _ ((Below.refl w9.heap.size w9).drew)).mono ?_
        rintro e1 w10 ⟨G, rfl, hk10, hq10⟩
        have HQ10 := hide hq10
        have HH10 := hide (blkK (w := w9.drew) HH9.out hk10 HXH.out.1)
        have HC10 := hide (blkK (w := w9.drew) HC9.out hk10 (fun e => HXH.out.2 _ e (by have := HBW2.out; omega)))
        have HE10 := hide (blkK (w := w9.drew) HE9.out hk10 (fun e => HXH.out.2 _ e HBW2.out))
        clear hk10 hq10
        try go_wp2_with fail
        refine hK.out _ _ (HS.out _ (⟨HH10.out, HC10.out, HE10.out⟩)) (fun hHeld => ?_)
        clear hK K
        try simp only [Act.put, List.setIfInBounds_toArray, List.set_cons_zero, List.set_cons_succ]
        refine tk 7 hHeld (h := ?_)
        refine tk 8 hHeld (h := ?_)
        refine tk 9 hHeld (h := ?_)
        refine tk 10 hHeld (h := ?_)
        refine tk 11 hHeld (h := ?_)
        refine wpAnyH_done (by kernel_rfl) ?_ _
        clear s12 HS hHeld
        have HCMX := hide (HCM.out _ _ HQ10.out)
        go_wp2_with fail
        refine HCMX.out.mono ?_
        rintro e1 w11 ⟨rfl, hq11⟩
        obtain ⟨g1, cap, G2, y1, y2, y3, y4, HEN2⟩ := HEE.out _ _ _ (Nat.le_refl _) hq11
        clear hq11
        go_wp2_with fail
        refine HEN2.out.mono ?_
        rintro e1 w12 ⟨rfl, hb12⟩
        go_wp2
        go_ret
        exact ⟨rfl, hb12⟩
      · obtain ⟨g1, cap, G2, y1, y2, y3, y4, HEN2⟩ := HEE.out _ _ _ (by omega) hq9
        have hi1 : IntKind.i64.wrap (((i + 1 : Nat) : Int) - 1) = (i : Int) := by rw [IntKind.wrap_i64] <;> omega
        have hi2 : decide ((i : Int) < 0) = false := decide_eq_false (by omega)
        have hi3 : ¬ (i : Int) < 0 := by omega
        have hi4 : IntKind.i64.wrap ((i : Int) + 1 - 1) = (i : Int) := by rw [IntKind.wrap_i64] <;> omega
        have hi5 : wrap64 (i : Int) = (i : Int) := IntWalk.wrap64_in _ ⟨by omega, by omega⟩
        have HY4 := hide y4
        clear hq9 hms hj y4
        go_wp2_with fail
        refine HEN2.out.mono ?_
        rintro e1 w12 ⟨rfl, hb12⟩
        go_wp2
        go_ret
        exact ⟨rfl, hb12⟩
end Go.Proofs.YtgaoeoijdpdjiabGreatDoor
