/-
  Make and Open, over the hall's invariant.
-/
import Derived.Test.YtgaoeoijdpdjiabGreatDoorPart45
namespace Go.Proofs.YtgaoeoijdpdjiabGreatDoor
open Go.RowKit

/-- What stands between a signer's coming out and its being put into the lists. -/
def CameQ (P : OP) (j : Nat) (r : Option Addr) (c : Int) (V : World) : Prop :=
  (c ≠ 0 ∧ r = none ∧ ∃ g', HI P (j + 1) g' V) ∨
  (c = 0 ∧ ∃ (g' : GH) (s : SgD), HI P (j + 1) g' V ∧ r = some ⟨s.G, 0, none⟩ ∧ Blk V s.G [.pointer (some ⟨s.S, 0, none⟩)] 142 ∧ Blk V s.S (P.cells s) 188 ∧ g'.c s.G = 2 ∧ g'.c s.S = 7 + g'.Ss.length ∧ P.lo ≤ s.S ∧ (P.seed s.z1 s.z2 s.z3 ∧ 1 ≤ s.bat ∧ s.bat ≤ 64) ∧ s.D = g'.D ∧ s.tm = g'.st.term ∧ Live P g'.jid g'.sq g'.sb g'.gone s ∧ (∀ (i : Nat) (s' : SgD), g'.Ss[i]? = some s' → s'.D = g'.D → s'.tm < g'.st.term) ∧ g'.Ss.length ≤ j)

section
variable {P : OP} {j : Nat} {g : GH} {w w' : World}
theorem came_do (Kp : OPk P) (hj : j ≤ 2199023255552) (bt : Nat) (V : World) (r : Option Addr) (c : Int) (h : CameQ P j r c V) :
    Calls Tryz.prog 24 #[.pointer (some ⟨P.H, 0, none⟩), .pointer r, .int .i64 c, .int .i64 ((bt : Int) + 1)] V fun e w' => e = .returned (.bool true) ∧ ∃ g', HI P (j + 1) g' w' := by
  rcases h with ⟨hc, rfl, g', hh⟩ | ⟨rfl, g', s, hh, rfl, mG, mS, cG, cS, lS, ew, hD, htm, hlv, hno, hlen⟩
  · refine (came_none P.H c _ hc V).mono ?_
    rintro e w' ⟨rfl, rfl⟩
    exact ⟨rfl, g', hh⟩
  · obtain ⟨sa, sc, hsv⟩ := owns_len hh.rs
    obtain ⟨ba, bc, hbv⟩ := owns_len hh.rb
    have e1 := hh.hall
    have e2 := hh.rs
    have e3 := hh.rb
    have e4 : ∀ q, g'.sv.ownBlock = some q → g'.c q = 4 := hh.cs
    have e5 : ∀ q, g'.bv.ownBlock = some q → g'.c q = 5 := hh.cb
    have hcH := hh.cH
    refine (came_some P.lo P.H g'.SD P.k P.b P.x P.t P.l P.s1 P.s2 P.s3 P.o1 P.o2 P.o3 sa ba g'.Ss.length sc bc g'.gv (ptrs g'.Ss) g'.ys s.G ((bt : Int) + 1) V (by rw [← hsv, ← hbv]; exact e1) hh.big (by omega) (by rw [← hsv]; exact e2) (by rw [← hbv]; exact e3) ?_ ?_ ?_).mono ?_
    · rw [← hsv]
      intro e
      have := e4 _ e
      omega
    · rw [← hbv]
      intro e
      have := e5 _ e
      omega
    · rw [← hsv, ← hbv]
      intro q a b
      have := e4 _ a
      have := e5 _ b
      omega
    · rintro e w' ⟨rfl, g1, c1, g2, c2, q1, q2, q3, q4, q5, q6, q7⟩
      rw [← hsv, ← hbv] at q4
      rw [← hsv] at q5
      rw [← hbv] at q6
      have cn := hh.cnt
      exact ⟨rfl, hh.come mG mS cG cS lS ew hD htm hlv hno q1 q2 q3 q4 q5 q6 q7 Kp.lH ⟨cn.w0, cn.w1, cn.y0, cn.y1, cn.t0, cn.t1, by omega, cn.b⟩⟩

/-- The steps by which a signer begins were done: none came. -/
theorem begun_none (h : HI P j g w) {V1 V2 : World} {st2 : DSt} {F' : Nat → Prop} {jid2 : ByteArray} {sq2 sb2 : Nat} {r : Option Addr} {c : Int} (hb1 : Below w.heap.size w V1) (hk : Kept g.F V1 V2) (hd : DSk P.lo g.D st2 V2 F') (hf : ∀ q, F' q → g.F q ∨ V1.heap.size ≤ q) (hJ : JI P.tot st2 jid2 sq2 sb2) (hg : g.gone ≤ sb2) (hn : st2.n = P.n) (ht : st2.term = g.st.term + 1) (hc : Cnt (j + 1) st2 g.Ss.length g.L.length) (hG : Given none c r V2 w') (hc0 : c ≠ 0) :
    Kept g.F w w' ∧ CameQ P j r c w' := by
  obtain ⟨_, g2, g3⟩ := hG
  have hk2 : Kept g.F w w' := ((Kept.of_below (F := g.F) hb1).trans hk (fun i hi => .inl hi)).after g3
  refine ⟨hk2, .inl ⟨hc0, g2 hc0, h.turn ⟨F', hd.below g3, hk2, fun q hq => ?_⟩ hJ hg hn (.inl (by omega)) hc⟩⟩
  rcases hf q hq with e | e
  · exact .inl e
  · exact .inr (Nat.le_trans hb1.size e)

/-- The steps by which a signer begins were done: one came. -/
theorem begun_some (h : HI P j g w) {V1 V2 : World} {st2 : DSt} {F' : Nat → Prop} {jid2 : ByteArray} {sq2 sb2 S : Nat} {r : Option Addr} {c : Int} (z1 z2 z3 : ByteArray) (bat q b : Nat) (hz : P.seed z1 z2 z3) (hb0 : 1 ≤ bat) (hb64 : bat ≤ 64) (hb1 : Below w.heap.size w V1) (hk : Kept g.F V1 V2) (hd : DSk P.lo g.D st2 V2 F') (hf : ∀ q, F' q → g.F q ∨ V1.heap.size ≤ q) (hJ : JI P.tot st2 jid2 sq2 sb2) (hg : g.gone ≤ sb2) (hn : st2.n = P.n) (ht : st2.term = g.st.term + 1) (hc : Cnt (j + 1) st2 g.Ss.length g.L.length)
    (hS : Blk V2 S (P.cells ⟨V2.heap.size, S, g.D, g.st.term + 1, z1, z2, z3, bat, b, q, b, false⟩) 188) (nS : ¬ F' S) (lS : V1.heap.size ≤ S) (hid : P.idZ z1 z3 = jid2) (hq : q = sq2) (hbb : b = sb2) (hone : 1 ≤ sq2) (hG : Given (some ⟨S, 0, none⟩) c r V2 w') (hc0 : c = 0) :
    Kept g.F w w' ∧ CameQ P j r c w' := by
  obtain ⟨g1, _, g3⟩ := hG
  obtain ⟨hr, hG2⟩ := g1 hc0
  have hk2 : Kept g.F w w' := ((Kept.of_below (F := g.F) hb1).trans hk (fun i hi => .inl hi)).after g3
  have hsl := hS.lt
  have z12 := hk.size
  have z01 := hb1.size
  obtain ⟨c', hh, hc1, hc2⟩ := h.turnD (fun i => if i = V2.heap.size then 2 else if i = S then 7 + g.Ss.length else 3) (hd.below g3) hk2 (fun q hq => by
      rcases hf q hq with e | e
      · exact .inl e
      · exact .inr (Nat.le_trans hb1.size e)) (fun i hi _ => by
      have := (hd.lt i hi).2
      rw [if_neg (by omega), if_neg (fun e => nS (by rw [← e]; exact hi))]) hJ hg hn (.inl (by omega)) hc
  refine ⟨hk2, .inr ⟨hc0, _, ⟨V2.heap.size, S, g.D, g.st.term + 1, z1, z2, z3, bat, b, q, b, false⟩, hh, hr, hG2, hS.on g3, ?_, ?_, ?_, ⟨hz, hb0, hb64⟩, rfl, ht.symm, ⟨hid, hq, hbb, by rw [hbb]; exact hg, by rw [hbb]; exact Nat.le_refl _, hone⟩, ?_, h.cnt.a⟩⟩
  · exact (hc2 _ (by show w.heap.size ≤ V2.heap.size; omega)).trans (if_pos rfl)
  · exact (hc2 S (by omega)).trans ((if_neg (by omega)).trans (if_pos rfl))
  · have := h.big
    show P.lo ≤ S
    omega
  · intro i s' hs hD
    show s'.tm < st2.term
    rcases h.dd i s' hs with ⟨tm2, a, _⟩ | ⟨_, b⟩
    · have hD' : s'.D = g.D := hD
      rw [hD', h.cF g.D h.dsk.self] at a
      exact absurd a (by decide)
    · omega

theorem cntT (h : HI P j g w) {s' st2 : DSt} {a b : Nat} (hs : s' = { g.st with term := g.st.term + 1 }) (hr : Nr s' st2 a b) (ha : a ≤ 2) (hb : b ≤ 2) : Cnt (j + 1) st2 g.Ss.length g.L.length := by
  subst hs
  have c := h.cnt
  have := c.w0; have := c.w1; have := c.y0; have := c.y1; have := c.t0; have := c.t1; have := c.a; have := c.b
  have k1 : g.st.writes ≤ st2.writes := hr.w1
  have k2 : st2.writes ≤ g.st.writes + a := hr.w2
  have k3 : g.st.syncs ≤ st2.syncs := hr.y1
  have k4 : st2.syncs ≤ g.st.syncs + b := hr.y2
  have k5 : st2.term = g.st.term + 1 := hr.t
  exact ⟨by omega, by omega, by omega, by omega, by omega, by omega, by omega, by omega⟩

set_option maxHeartbeats 1000000 in
theorem do_make (Kp : OPk P) (h : HI P j g w) (hj : j ≤ 2199023255552) (kd a bb : Int) (tx : ByteArray) (ka : Option Addr) (kn kc : Nat) (bt : Nat) (hk1 : -9223372036854775808 ≤ kd) (hk2 : kd ≤ 9223372036854775807) (ha1 : -9223372036854775808 ≤ a) (ha2 : a ≤ 9223372036854775807) (hb1 : -9223372036854775808 ≤ bb) (hb2 : bb ≤ 9223372036854775807) (hbt : pickZ bb 64 = bt) (hbt2 : bt < 64) (hk : pickZ kd 9 = 0) :
    Calls Tryz.prog 19 #[.pointer (some ⟨P.H, 0, none⟩), .agg #[.int .i64 kd, .int .i64 a, .int .i64 bb, .string tx, .slice ka kn kc], .int .i64 P.n] w fun e w' => e = .returned (.bool true) ∧ ∃ g', HI P (j + 1) g' w' := by
  refine step_make P.H g.SD P.k P.b P.x P.t P.l P.s1 P.s2 P.s3 P.o1 P.o2 P.o3 g.sv g.bv g.gv kd a bb tx ka kn kc P.n bt g.F (CameQ P j) _ w h.hall hk1 hk2 hb1 hb2 hbt hbt2 hk ha1 ha2 h.nH (fun i hi => (h.dsk.lt i hi).2) (fun V z1 z2 z3 hbV hz => ?_) (fun V r c hq => came_do Kp hj bt V r c hq)
  have hV := h.below hbV
  have cn := h.cnt
  have t0 := cn.t0
  have t1 := cn.t1
  have y0 := cn.y0
  have y1 := cn.y1
  have w0 := cn.w0
  have w1 := cn.w1
  obtain ⟨q1, q2, q3⟩ := Kp.sz hz
  obtain ⟨hrk, hb16⟩ := Kp.rk hz
  have hid8 := Kp.id8 hz
  obtain ⟨s', hs'⟩ : ∃ s' : DSt, s' = { g.st with term := g.st.term + 1 } := ⟨_, rfl⟩
  have hsy : s'.syncs = g.st.syncs := by rw [hs']
  have hwy : s'.writes = g.st.writes := by rw [hs']
  have htt : s'.term = g.st.term + 1 := by rw [hs']
  have hnn : s'.n = g.st.n := by rw [hs']
  have n3 := nr_ops s' 3
  have nT := nr_mkT s' (P.idZ z1 z3)
  have nM := nr_make s' (P.idZ z1 z3)
  have o1 := n3.w1; have o2 := n3.w2; have o3 := nT.y1; have o4 := nT.y2
  refine (smake_any g.SD g.D g.F (fun v c V1 V2 => ∃ F', DSk P.lo g.D (mkSt s' (P.idZ z1 z3)) V2 F' ∧ (∀ q, F' q → g.F q ∨ V1.heap.size ≤ q) ∧ ((mkAns s' (P.idZ z1 z3) = 0 ∧ c = 0 ∧ ∃ S, v = some ⟨S, 0, none⟩ ∧ Blk V2 S (P.cells ⟨V2.heap.size, S, g.D, g.st.term + 1, z1, z2, z3, bt + 1, 0, 1, 0, false⟩) 188 ∧ ¬ F' S ∧ V1.heap.size ≤ S) ∨ (mkAns s' (P.idZ z1 z3) ≠ 0 ∧ c = mkAns s' (P.idZ z1 z3) ∧ v = none))) P.k P.b P.x P.t P.l ((bt : Int) + 1) z1 z2 z3 V hV.disk (fun i hi => (hV.dsk.lt i hi).2) ?_).mono ?_
  · intro V1 hb
    have h1 := hV.below hb
    refine (make_any P.lo g.D g.st g.F P.k P.b P.x P.t P.l (P.rootZ z1 z3) z3 z1 z2 (P.idZ z1 z3) (P.tot : Int) ((bt : Int) + 1) _ _ _ _ _ V1 h1.dsk (by rw [h1.stn]; exact Kp.n2) (h1.T Kp) Kp.TB h1.big (by omega) (by omega) t0 (by omega) (fun V => measure_nat P.k P.b P.x P.e P.f P.t P.l Kp.R V) (fun V hT => ofY P.k P.b P.x P.e P.f P.t P.l Kp.R z1 z2 z3 q1 q2 q3 V hT) (fun V hT => keyId_any P.k P.b P.x P.t P.l (P.rootZ z1 z3) z3 V Kp.R.kk (by omega) (by omega) hT) s' hs' (by omega) (by omega) hid8 (by omega) (by omega) (by omega) (by omega)).mono ?_
    rintro e w' ⟨F', d1, d2, d3, ⟨d4, S, rfl, d5, d6, d7⟩ | ⟨d4, rfl⟩⟩
    · exact ⟨_, _, rfl, d2, F', d1, d3, .inl ⟨d4, rfl, S, rfl, d5, d6, d7⟩⟩
    · exact ⟨_, _, rfl, d2, F', d1, d3, .inr ⟨d4, rfl, rfl⟩⟩
  · rintro e w' ⟨v, c, r, V1, V2, rfl, hb, hkk, ⟨F', d1, d3, d4⟩, hG⟩
    have hj1 : JI P.tot s' g.jid g.sq g.sb := by rw [hs']; exact hV.ji.term _
    have hcn := cntT hV hs' nM (by decide) (by decide)
    rcases d4 with ⟨d4, rfl, S, rfl, d5, d6, d7⟩ | ⟨d4, rfl, rfl⟩
    · rcases hj1.made hid8 with ⟨_, k2, k3⟩ | ⟨k1, _⟩
      · obtain ⟨m1, m2⟩ := begun_some hV z1 z2 z3 (bt + 1) 1 0 hz (by omega) (by omega) hb hkk d1 d3 k3 (by have := hV.gs; omega) (nM.n.trans (hnn.trans hV.stn)) (nM.t.trans htt) hcn d5 d6 d7 rfl rfl rfl (by decide) hG rfl
        exact ⟨_, _, rfl, m1, m2⟩
      · exact absurd d4 k1
    · rcases hj1.made hid8 with ⟨k1, _⟩ | ⟨_, id', k3⟩
      · exact absurd k1 d4
      · obtain ⟨m1, m2⟩ := begun_none hV hb hkk d1 d3 k3 hV.gs (nM.n.trans (hnn.trans hV.stn)) (nM.t.trans htt) hcn hG d4
        exact ⟨_, _, rfl, m1, m2⟩

set_option maxHeartbeats 1000000 in
theorem do_open (Kp : OPk P) (h : HI P j g w) (hj : j ≤ 2199023255552) (kd a bb : Int) (tx : ByteArray) (ka : Option Addr) (kn kc : Nat) (bt : Nat) (hk1 : -9223372036854775808 ≤ kd) (hk2 : kd ≤ 9223372036854775807) (ha1 : -9223372036854775808 ≤ a) (ha2 : a ≤ 9223372036854775807) (hb1 : -9223372036854775808 ≤ bb) (hb2 : bb ≤ 9223372036854775807) (hbt : pickZ bb 64 = bt) (hbt2 : bt < 64) (hk : pickZ kd 9 = 1) :
    Calls Tryz.prog 19 #[.pointer (some ⟨P.H, 0, none⟩), .agg #[.int .i64 kd, .int .i64 a, .int .i64 bb, .string tx, .slice ka kn kc], .int .i64 P.n] w fun e w' => e = .returned (.bool true) ∧ ∃ g', HI P (j + 1) g' w' := by
  refine step_open P.H g.SD P.k P.b P.x P.t P.l P.s1 P.s2 P.s3 P.o1 P.o2 P.o3 g.sv g.bv g.gv kd a bb tx ka kn kc P.n bt g.F (CameQ P j) _ w h.hall hk1 hk2 hb1 hb2 hbt hbt2 hk ha1 ha2 h.nH (fun i hi => (h.dsk.lt i hi).2) (fun V z1 z2 z3 hbV hz => ?_) (fun V r c hq => came_do Kp hj bt V r c hq)
  have hV := h.below hbV
  have cn := h.cnt
  have t0 := cn.t0
  have t1 := cn.t1
  have y0 := cn.y0
  have y1 := cn.y1
  obtain ⟨q1, q2, q3⟩ := Kp.sz hz
  obtain ⟨hrk, hb16⟩ := Kp.rk hz
  have hid8 := Kp.id8 hz
  obtain ⟨s', hs'⟩ : ∃ s' : DSt, s' = { g.st with term := g.st.term + 1 } := ⟨_, rfl⟩
  have hsy : s'.syncs = g.st.syncs := by rw [hs']
  have htt : s'.term = g.st.term + 1 := by rw [hs']
  have hnn : s'.n = g.st.n := by rw [hs']
  have nO := nr_open s'
  have hj1 : JI P.tot s' g.jid g.sq g.sb := by rw [hs']; exact hV.ji.term _
  refine (sopen_any g.SD g.D g.F (fun v c V1 V2 => ∃ F', DSk P.lo g.D (opSt s') V2 F' ∧ (∀ q, F' q → g.F q ∨ V1.heap.size ≤ q) ∧ ((opAns s' (P.idZ z1 z3) P.tot = 0 ∧ c = 0 ∧ ∃ S, v = some ⟨S, 0, none⟩ ∧ Blk V2 S (sgC g.D (g.st.term + 1) P.k P.b P.x P.t P.l (P.rootZ z1 z3) z3 z1 z2 (P.tot : Int) ((bt : Int) + 1) (opT s' (P.idZ z1 z3) P.tot).b (opT s' (P.idZ z1 z3) P.tot).q (opT s' (P.idZ z1 z3) P.tot).b (opT s' (P.idZ z1 z3) P.tot).d false) 188 ∧ ¬ F' S ∧ V1.heap.size ≤ S) ∨ (opAns s' (P.idZ z1 z3) P.tot ≠ 0 ∧ c = opAns s' (P.idZ z1 z3) P.tot ∧ v = none))) P.k P.b P.x P.t P.l ((bt : Int) + 1) z1 z2 z3 V hV.disk (fun i hi => (hV.dsk.lt i hi).2) ?_).mono ?_
  · intro V1 hb
    have h1 := hV.below hb
    refine (open_any P.lo g.D g.st g.F P.k P.b P.x P.t P.l (P.rootZ z1 z3) z3 z1 z2 (P.idZ z1 z3) (P.tot : Int) ((bt : Int) + 1) _ _ _ _ _ V1 h1.dsk (by rw [h1.stn]; exact Kp.n2) (h1.T Kp) Kp.TB h1.big (by omega) (by omega) t0 (by omega) (fun V => measure_nat P.k P.b P.x P.e P.f P.t P.l Kp.R V) (fun V hT => ofY P.k P.b P.x P.e P.f P.t P.l Kp.R z1 z2 z3 q1 q2 q3 V hT) (fun V hT => keyId_any P.k P.b P.x P.t P.l (P.rootZ z1 z3) z3 V Kp.R.kk (by omega) (by omega) hT) s' hs' (by omega) (by omega)).mono ?_
    rintro e w' ⟨F', d1, d2, d3, ⟨d4, S, rfl, d5, d6, d7⟩ | ⟨d4, rfl⟩⟩
    · exact ⟨_, _, rfl, d2, F', d1, d3, .inl ⟨d4, rfl, S, rfl, d5, d6, d7⟩⟩
    · exact ⟨_, _, rfl, d2, F', d1, d3, .inr ⟨d4, rfl, rfl⟩⟩
  · rintro e w' ⟨v, c, r, V1, V2, rfl, hb, hkk, ⟨F', d1, d3, d4⟩, hG⟩
    have hcn := cntT hV hs' nO (by decide) (by decide)
    rcases d4 with ⟨d4, rfl, S, rfl, d5, d6, d7⟩ | ⟨d4, rfl, rfl⟩
    · obtain ⟨k1, k2, q, b, k3, k4, k5, k6, k7, k8, k9⟩ := hj1.opened d4
      rw [k2, k3, k4] at d5
      have d5' : Blk V2 S (P.cells ⟨V2.heap.size, S, g.D, g.st.term + 1, z1, z2, z3, bt + 1, b, q, b, false⟩) 188 := by
        rw [← k1] at d5
        exact d5
      obtain ⟨m1, m2⟩ := begun_some hV z1 z2 z3 (bt + 1) q b hz (by omega) (by omega) hb hkk d1 d3 k6 (Nat.le_trans hV.gs k5) (nO.n.trans (hnn.trans hV.stn)) (nO.t.trans htt) hcn d5' d6 d7 k1 rfl rfl k7 hG rfl
      exact ⟨_, _, rfl, m1, m2⟩
    · obtain ⟨m1, m2⟩ := begun_none hV hb hkk d1 d3 hj1.begun hV.gs (nO.n.trans (hnn.trans hV.stn)) (nO.t.trans htt) hcn hG d4
      exact ⟨_, _, rfl, m1, m2⟩
end
end Go.Proofs.YtgaoeoijdpdjiabGreatDoor
