/-
  What holds of the hall between two steps. The hall, when a signer signs, comes, gives away; when the disk moves. The steps of the disk, over the hall's invariant. A trail's step. The hall at the start.
-/
import Derived.Test.YtgaoeoijdpdjiabGreatDoorPart6
import Derived.Test.YtgaoeoijdpdjiabGreatDoorPart46
import Derived.Test.YtgaoeoijdpdjiabGreatDoorPart44
import Derived.Test.YtgaoeoijdpdjiabGreatDoorPart43
import Derived.Test.YtgaoeoijdpdjiabGreatDoorPart40
import Derived.Test.YtgaoeoijdpdjiabGreatDoorPart48
namespace Go.Proofs.YtgaoeoijdpdjiabGreatDoor
open Go.RowKit
/-- What is given once and for all: the set, the two seeds, the hall's place, the world at the start. -/
structure OP where
  k : Int
  b : Nat
  x : Nat
  e : Nat
  f : Nat
  t : Nat
  l : Nat
  s1 : ByteArray
  s2 : ByteArray
  s3 : ByteArray
  o1 : ByteArray
  o2 : ByteArray
  o3 : ByteArray
  lo : Nat
  H : Nat
  n : Nat
  Wd : World
structure OPk (P : OP) : Prop where
  R : RSet P.k P.b P.x P.e P.f P.t P.l
  s1 : P.s1.size = P.b
  s2 : P.s2.size = P.b
  s3 : P.s3.size = P.b
  o1 : P.o1.size = P.b
  o2 : P.o2.size = P.b
  o3 : P.o3.size = P.b
  T : Tn P.Wd
  TB : 1 < P.lo
  n2 : 2 ≤ P.n
  n8 : P.n ≤ 8
  lH : P.lo ≤ P.H
/-- A signer that came out. -/
structure SgD where
  G : Nat
  S : Nat
  D : Nat
  tm : Int
  z1 : ByteArray
  z2 : ByteArray
  z3 : ByteArray
  bat : Nat
  nx : Nat
  q : Nat
  bd : Nat
  ov : Bool
def OP.tot (P : OP) : Nat := 2 ^ (P.t * P.l)
def OP.rootZ (P : OP) (z1 z3 : ByteArray) : ByteArray := rootK P.k P.b P.x P.t (P.b * P.e + P.f) P.l z1 z3
def OP.idZ (P : OP) (z1 z3 : ByteArray) : ByteArray := idS P.k P.b P.x P.t P.l (P.rootZ z1 z3) z3
def OP.cells (P : OP) (s : SgD) : List Value := sgC s.D s.tm P.k P.b P.x P.t P.l (P.rootZ s.z1 s.z3) s.z3 s.z1 s.z2 (P.tot : Int) s.bat s.nx s.q s.bd (P.idZ s.z1 s.z3) s.ov
def OP.hall (P : OP) (SD : Nat) (sv bv gv : Value) : List Value := hallC SD P.k P.b P.x P.t P.l P.s1 P.s2 P.s3 P.o1 P.o2 P.o3 sv bv gv
def OP.seed (P : OP) (z1 z2 z3 : ByteArray) : Prop := z1 = P.s1 ∧ z2 = P.s2 ∧ z3 = P.s3 ∨ z1 = P.o1 ∧ z2 = P.o2 ∧ z3 = P.o3
def ptrs (Ss : List SgD) : List Value := Ss.map fun s => .pointer (some ⟨s.G, 0, none⟩)
theorem OPk.sz {P : OP} (K : OPk P) {z1 z2 z3 : ByteArray} (h : P.seed z1 z2 z3) : z1.size = P.b ∧ z2.size = P.b ∧ z3.size = P.b := by
  rcases h with ⟨rfl, rfl, rfl⟩ | ⟨rfl, rfl, rfl⟩
  · exact ⟨K.s1, K.s2, K.s3⟩
  · exact ⟨K.o1, K.o2, K.o3⟩
theorem OPk.tot4 {P : OP} (K : OPk P) : P.tot ≤ 4096 := total_most K.R
theorem OPk.rk {P : OP} (K : OPk P) {z1 z2 z3 : ByteArray} (h : P.seed z1 z2 z3) : (P.rootZ z1 z3).size = P.b ∧ P.b ≤ 16 := by
  obtain ⟨a, _, c⟩ := K.sz h
  obtain ⟨g1, g2, g3, g4, g5, g6⟩ := pair_small K.R.pr
  exact ⟨rootK_size P.k P.b P.x P.t (P.b * P.e + P.f) P.l z1 z3 K.R.kk g1 g2 (by omega) (by omega) g3, g2⟩
theorem OPk.id8 {P : OP} (K : OPk P) {z1 z2 z3 : ByteArray} (h : P.seed z1 z2 z3) : (P.idZ z1 z3).size = 8 := by
  obtain ⟨a, b⟩ := K.rk h
  obtain ⟨_, _, c⟩ := K.sz h
  exact idS_size P.k P.b P.x P.t P.l _ z3 K.R.kk (by omega) (by omega)
/-- What there is at one time. The colours say which block is whose: 1 the hall, 2 what stays as it is, 3 the disk, 4 5 6 the lists, 7 + i the signer number i. -/
structure GH where
  c : Nat → Nat
  SD : Nat
  D : Nat
  st : DSt
  F : Nat → Prop
  jid : ByteArray
  sq : Nat
  sb : Nat
  gone : Nat
  Ss : List SgD
  L : List (ByteArray × Int)
  sv : Value
  bv : Value
  gv : Value
  ys : List Value
structure Live (P : OP) (jid : ByteArray) (sq sb gone : Nat) (s : SgD) : Prop where
  id : P.idZ s.z1 s.z3 = jid
  q : s.q = sq
  bd : s.bd = sb
  lo : gone ≤ s.nx
  hi : s.nx ≤ sb
  one : 1 ≤ sq
structure Cnt (j : Nat) (st : DSt) (a b : Nat) : Prop where
  w0 : 0 ≤ st.writes
  w1 : st.writes ≤ 8 + 2 * j
  y0 : 0 ≤ st.syncs
  y1 : st.syncs ≤ 8 + 2 * j
  t0 : 0 ≤ st.term
  t1 : st.term ≤ 8 + 2 * j
  a : a ≤ j
  b : b ≤ j
structure HI (P : OP) (j : Nat) (g : GH) (w : World) : Prop where
  hall : Blk w P.H (P.hall g.SD g.sv g.bv g.gv) 65
  cH : g.c P.H = 1
  disk : Blk w g.SD [.pointer (some ⟨g.D, 0, none⟩)] 135
  cSD : g.c g.SD = 2
  dsk : DSk P.lo g.D g.st w g.F
  cF : ∀ q, g.F q → g.c q = 3
  rs : w.ownsRow P.lo 67 1 g.sv g.Ss.length (ptrs g.Ss)
  cs : ∀ q, g.sv.ownBlock = some q → g.c q = 4
  rb : w.ownsRow P.lo 3 1 g.bv g.Ss.length g.ys
  cb : ∀ q, g.bv.ownBlock = some q → g.c q = 5
  rg : w.ownsRow P.lo 173 2 g.gv g.L.length (givC g.L)
  cg : ∀ q, g.gv.ownBlock = some q → g.c q = 6
  mem : ∀ (i : Nat) (s : SgD), g.Ss[i]? = some s → Blk w s.G [.pointer (some ⟨s.S, 0, none⟩)] 142 ∧ Blk w s.S (P.cells s) 188 ∧ g.c s.G = 2 ∧ g.c s.S = 7 + i ∧ P.lo ≤ s.S
  who : ∀ (i : Nat) (s : SgD), g.Ss[i]? = some s → P.seed s.z1 s.z2 s.z3 ∧ 1 ≤ s.bat ∧ s.bat ≤ 64
  dd : ∀ (i : Nat) (s : SgD), g.Ss[i]? = some s → (∃ tm2, g.c s.D = 2 ∧ s.D < w.heap.size ∧ w.cell? ⟨s.D, 5, none⟩ = some (.int .i64 tm2) ∧ (s.ov = true ∨ s.tm ≠ tm2)) ∨ (s.D = g.D ∧ s.tm ≤ g.st.term)
  lv : ∀ (i : Nat) (s : SgD), g.Ss[i]? = some s → s.D = g.D → s.tm = g.st.term → s.ov = false → i + 1 = g.Ss.length ∧ Live P g.jid g.sq g.sb g.gone s
  ji : JI P.tot g.st g.jid g.sq g.sb
  gs : g.gone ≤ g.sb
  gl : ∀ p ∈ g.L, p.2 < g.gone
  low : Below P.lo P.Wd w
  big : P.lo ≤ w.heap.size
  stn : g.st.n = P.n
  cnt : Cnt j g.st g.Ss.length g.L.length
section
variable {P : OP} {j : Nat} {g : GH} {w w' : World}
theorem HI.T (K : OPk P) (h : HI P j g w) : Tn w := K.T.below h.low K.TB
theorem HI.below (h : HI P j g w) (hb : Below w.heap.size w w') : HI P j g w' := by
  have hk : Kept (fun _ => False) w w' := Kept.of_below hb
  exact ⟨h.hall.on hb, h.cH, h.disk.on hb, h.cSD, h.dsk.below hb, h.cF, owns_kept h.rs hk (fun _ _ e => e), h.cs, owns_kept h.rb hk (fun _ _ e => e), h.cb, owns_kept h.rg hk (fun _ _ e => e), h.cg,
    fun i s e => by obtain ⟨a, b, c⟩ := h.mem i s e; exact ⟨a.on hb, b.on hb, c⟩, h.who,
    fun i s e => by
      rcases h.dd i s e with ⟨tm2, a, b, c, d⟩ | a
      · exact .inl ⟨tm2, a, Nat.lt_of_lt_of_le b hb.size, (hb.cell (p := ⟨s.D, 5, none⟩) b).trans c, d⟩
      · exact .inr a,
    h.lv, h.ji, h.gs, h.gl, h.low.trans (hb.mono h.big), Nat.le_trans h.big hb.size, h.stn, h.cnt⟩
theorem Cnt.mono {j j' : Nat} {st : DSt} {a b : Nat} (h : Cnt j st a b) (hj : j ≤ j') : Cnt j' st a b := ⟨h.w0, by have := h.w1; omega, h.y0, by have := h.y1; omega, h.t0, by have := h.t1; omega, Nat.le_trans h.a hj, Nat.le_trans h.b hj⟩
theorem HI.next (h : HI P j g w) : HI P (j + 1) g w := ⟨h.hall, h.cH, h.disk, h.cSD, h.dsk, h.cF, h.rs, h.cs, h.rb, h.cb, h.rg, h.cg, h.mem, h.who, h.dd, h.lv, h.ji, h.gs, h.gl, h.low, h.big, h.stn, h.cnt.mono (Nat.le_succ j)⟩
theorem HI.nF (h : HI P j g w) {q : Nat} (hc : g.c q ≠ 3) : ¬ g.F q := fun e => hc (h.cF q e)
theorem HI.nH (h : HI P j g w) : ¬ g.F P.H := h.nF (by rw [h.cH]; decide)
theorem HI.nSD (h : HI P j g w) : ¬ g.F g.SD := h.nF (by rw [h.cSD]; decide)
/-- The colours of the new blocks. -/
def paint (c : Nat → Nat) (z : Nat) (d : Nat → Nat) : Nat → Nat := fun q => if q < z then c q else d q
theorem paint_lt {c : Nat → Nat} {z : Nat} {d : Nat → Nat} {q : Nat} (h : q < z) : paint c z d q = c q := if_pos h
theorem paint_ge {c : Nat → Nat} {z : Nat} {d : Nat → Nat} {q : Nat} (h : z ≤ q) : paint c z d q = d q := if_neg (by omega)
/-- The disk had a turn. -/
theorem HI.turnD (h : HI P j g w) {st2 : DSt} {jid2 : ByteArray} {sq2 sb2 : Nat} {F' : Nat → Prop} (dn : Nat → Nat) (d' : DSk P.lo g.D st2 w' F') (k' : Kept g.F w w') (f' : ∀ q, F' q → g.F q ∨ w.heap.size ≤ q) (hdn : ∀ q, F' q → w.heap.size ≤ q → dn q = 3) (hJ : JI P.tot st2 jid2 sq2 sb2) (hg : g.gone ≤ sb2) (hn : st2.n = P.n)
    (ht : g.st.term < st2.term ∨ st2.term = g.st.term ∧ jid2 = g.jid ∧ sq2 = g.sq ∧ sb2 = g.sb) (hc : Cnt (j + 1) st2 g.Ss.length g.L.length) :
    ∃ c', HI P (j + 1) { g with c := c', F := F', st := st2, jid := jid2, sq := sq2, sb := sb2 } w' ∧ (∀ q, q < w.heap.size → c' q = g.c q) ∧ (∀ q, w.heap.size ≤ q → c' q = dn q) := by
  have hl : DL P.lo g.D st2 g.F w w' := ⟨F', d', k', f'⟩
  have bH := hl.blk h.hall h.nH
  have bD := hl.blk h.disk h.nSD
  have lt1 := h.hall.lt
  have lt2 := h.disk.lt
  obtain ⟨c', hc1, hc2⟩ : ∃ c' : Nat → Nat, (∀ q, q < w.heap.size → c' q = g.c q) ∧ (∀ q, w.heap.size ≤ q → c' q = dn q) := ⟨paint g.c w.heap.size dn, fun q hq => paint_lt hq, fun q hq => paint_ge hq⟩
  refine ⟨c', ⟨bH, ?_, bD, ?_, d', ?_, ?_, ?_, ?_, ?_, ?_, ?_, ?_, h.who, ?_, ?_, hJ, hg, h.gl, ?_, ?_, hn, hc⟩, hc1, hc2⟩
  · exact (hc1 _ (lt1)).trans (h.cH)
  · exact (hc1 _ (lt2)).trans (h.cSD)
  · intro q hq
    by_cases hz : q < w.heap.size
    · refine (hc1 _ (hz)).trans ?_
      rcases f' q hq with e | e
      · exact h.cF q e
      · omega
    · exact (hc2 q (by omega)).trans (hdn q hq (by omega))
  · exact owns_kept h.rs k' (fun q e => h.nF (by rw [h.cs q e]; decide))
  · intro q hq
    exact (hc1 _ ((h.rs.lt q hq).2)).trans (h.cs q hq)
  · exact owns_kept h.rb k' (fun q e => h.nF (by rw [h.cb q e]; decide))
  · intro q hq
    exact (hc1 _ ((h.rb.lt q hq).2)).trans (h.cb q hq)
  · exact owns_kept h.rg k' (fun q e => h.nF (by rw [h.cg q e]; decide))
  · intro q hq
    exact (hc1 _ ((h.rg.lt q hq).2)).trans (h.cg q hq)
  · intro i s e
    obtain ⟨m1, m2, m3, m4, m5⟩ := h.mem i s e
    refine ⟨?_, ?_, ?_, ?_, m5⟩
    · unfold Blk at m1 ⊢
      rw [k'.block s.G (Blk.lt m1) (h.nF (by rw [m3]; decide))]; exact m1
    · unfold Blk at m2 ⊢
      rw [k'.block s.S (Blk.lt m2) (h.nF (by rw [m4]; omega))]; exact m2
    · exact (hc1 _ (m1.lt)).trans (m3)
    · exact (hc1 _ (m2.lt)).trans (m4)
  · intro i s e
    rcases h.dd i s e with ⟨tm2, a, b, c, d⟩ | ⟨a, b⟩
    · exact .inl ⟨tm2, (hc1 _ (b)).trans a, Nat.lt_of_lt_of_le b k'.size, (k'.cell (p := ⟨s.D, 5, none⟩) b (h.nF (by rw [a]; decide))).trans c, d⟩
    · exact .inr ⟨a, by show s.tm ≤ st2.term; rcases ht with e | ⟨e, _⟩ <;> omega⟩
  · intro i s e hD htm hov
    have htm' : s.tm = st2.term := htm
    rcases ht with e2 | ⟨e2, rfl, rfl, rfl⟩
    · exfalso
      rcases h.dd i s e with ⟨tm2, a, b, c, d⟩ | ⟨a, b⟩
      · have := h.cF g.D h.dsk.self
        have hD' : s.D = g.D := hD
        rw [hD', this] at a
        exact absurd a (by decide)
      · omega
    · exact h.lv i s e hD (by omega) hov
  · exact h.low.trans (k'.below (fun q e => (h.dsk.lt q e).1) h.big)
  · exact Nat.le_trans h.big k'.size
end
end Go.Proofs.YtgaoeoijdpdjiabGreatDoor

namespace Go.Proofs.YtgaoeoijdpdjiabGreatDoor
open Go.RowKit
section
variable {P : OP} {j : Nat} {g : GH} {w w' : World}
theorem blk_kept {X : Nat → Prop} {b : Nat} {vs : List Value} {T : TypeId} (h : Blk w b vs T) (hk : Kept X w w') (hn : ¬ X b) : Blk w' b vs T := by
  unfold Blk at h ⊢
  rw [hk.block b (Blk.lt h) hn]; exact h
/-- The signer number i had a turn, and the disk. -/
theorem HI.change (h : HI P j g w) {i : Nat} {s s' : SgD} (hs : g.Ss[i]? = some s) (eG : s'.G = s.G) (eS : s'.S = s.S) (eD : s'.D = s.D) (et : s'.tm = s.tm) (ew : P.seed s'.z1 s'.z2 s'.z3 ∧ 1 ≤ s'.bat ∧ s'.bat ≤ 64) (hD : s.D = g.D) (hi : i + 1 = g.Ss.length)
    {st2 : DSt} {F' : Nat → Prop} {sq2 sb2 gone2 : Nat} (hB : Blk w' s.S (P.cells s') 188) (hd : DSk P.lo g.D st2 w' F') (hk : Kept (fun q => q = s.S ∨ g.F q) w w') (hf : ∀ q, F' q → g.F q ∨ w.heap.size ≤ q)
    (hJ : JI P.tot st2 g.jid sq2 sb2) (hg1 : g.gone ≤ gone2) (hg2 : gone2 ≤ sb2) (hn : st2.n = P.n) (ht : st2.term = g.st.term) (hl : s'.ov = false → Live P g.jid sq2 sb2 gone2 s') (hc : Cnt (j + 1) st2 g.Ss.length g.L.length) :
    ∃ c', HI P (j + 1) { g with c := c', F := F', st := st2, sq := sq2, sb := sb2, gone := gone2, Ss := g.Ss.set i s' } w' ∧ ∀ q, q < w.heap.size → c' q = g.c q := by
  obtain ⟨c', hc1, hc2⟩ : ∃ c' : Nat → Nat, (∀ q, q < w.heap.size → c' q = g.c q) ∧ (∀ q, w.heap.size ≤ q → c' q = 3) := ⟨paint g.c w.heap.size (fun _ => 3), fun q hq => paint_lt hq, fun q hq => paint_ge hq⟩
  obtain ⟨m1, m2, m3, m4, m5⟩ := h.mem i s hs
  have hil : i < g.Ss.length := (List.getElem?_eq_some_iff.1 hs).1
  have nX : ∀ q, g.c q ≠ 3 → g.c q ≠ 7 + i → ¬ (q = s.S ∨ g.F q) := fun q a b e => by
    rcases e with e | e
    · exact b (by rw [e]; exact m4)
    · exact a (h.cF q e)
  have hlen : (g.Ss.set i s').length = g.Ss.length := List.length_set ..
  have hptr : ptrs (g.Ss.set i s') = ptrs g.Ss := by
    unfold ptrs
    rw [List.map_set, eG]
    refine List.ext_getElem? (fun q => ?_)
    rw [List.getElem?_set]
    split
    · rename_i e
      subst e
      rw [if_pos (by simpa using hil), List.getElem?_map, hs]; rfl
    · rfl
  refine ⟨c', ⟨blk_kept h.hall hk (nX _ (by rw [h.cH]; decide) (by rw [h.cH]; omega)), (hc1 _ h.hall.lt).trans h.cH, blk_kept h.disk hk (nX _ (by rw [h.cSD]; decide) (by rw [h.cSD]; omega)), (hc1 _ h.disk.lt).trans h.cSD, hd, ?_, ?_, ?_, ?_, ?_, ?_, ?_, ?_, ?_, ?_, ?_, hJ, hg2, ?_, ?_, ?_, hn, ?_⟩, hc1⟩
  · intro q hq
    by_cases hz : q < w.heap.size
    · refine (hc1 _ hz).trans ?_
      rcases hf q hq with e | e
      · exact h.cF q e
      · omega
    · exact hc2 q (by omega)
  · show w'.ownsRow P.lo _ 1 g.sv (g.Ss.set i s').length (ptrs (g.Ss.set i s'))
    rw [hlen, hptr]
    exact owns_kept h.rs hk (fun q e => nX q (by rw [h.cs q e]; decide) (by rw [h.cs q e]; omega))
  · exact fun q e => (hc1 _ (h.rs.lt q e).2).trans (h.cs q e)
  · show w'.ownsRow P.lo _ 1 g.bv (g.Ss.set i s').length g.ys
    rw [hlen]
    exact owns_kept h.rb hk (fun q e => nX q (by rw [h.cb q e]; decide) (by rw [h.cb q e]; omega))
  · exact fun q e => (hc1 _ (h.rb.lt q e).2).trans (h.cb q e)
  · exact owns_kept h.rg hk (fun q e => nX q (by rw [h.cg q e]; decide) (by rw [h.cg q e]; omega))
  · exact fun q e => (hc1 _ (h.rg.lt q e).2).trans (h.cg q e)
  · intro i2 s2 hs2
    by_cases e : i = i2
    · subst e
      have e2 : (g.Ss.set i s')[i]? = some s2 := hs2
      rw [List.getElem?_set_self hil] at e2
      cases e2
      rw [eG, eS]
      exact ⟨blk_kept m1 hk (nX _ (by rw [m3]; decide) (by rw [m3]; omega)), hB, (hc1 _ m1.lt).trans m3, (hc1 _ m2.lt).trans m4, m5⟩
    · have e2 : (g.Ss.set i s')[i2]? = some s2 := hs2
      rw [List.getElem?_set_ne e] at e2
      obtain ⟨p1, p2, p3, p4, p5⟩ := h.mem i2 s2 e2
      exact ⟨blk_kept p1 hk (nX _ (by rw [p3]; decide) (by rw [p3]; omega)), blk_kept p2 hk (nX _ (by rw [p4]; omega) (by rw [p4]; omega)), (hc1 _ p1.lt).trans p3, (hc1 _ p2.lt).trans p4, p5⟩
  · intro i2 s2 hs2
    by_cases e : i = i2
    · subst e
      have e2 : (g.Ss.set i s')[i]? = some s2 := hs2
      rw [List.getElem?_set_self hil] at e2
      cases e2
      exact ew
    · have e2 : (g.Ss.set i s')[i2]? = some s2 := hs2
      rw [List.getElem?_set_ne e] at e2
      exact h.who i2 s2 e2
  · intro i2 s2 hs2
    by_cases e : i = i2
    · subst e
      have e2 : (g.Ss.set i s')[i]? = some s2 := hs2
      rw [List.getElem?_set_self hil] at e2
      cases e2
      refine .inr ⟨by rw [eD]; exact hD, ?_⟩
      show s'.tm ≤ st2.term
      rw [et, ht]
      rcases h.dd i s hs with ⟨tm2, a, _⟩ | ⟨_, b⟩
      · rw [hD, h.cF g.D h.dsk.self] at a
        exact absurd a (by decide)
      · exact b
    · have e2 : (g.Ss.set i s')[i2]? = some s2 := hs2
      rw [List.getElem?_set_ne e] at e2
      rcases h.dd i2 s2 e2 with ⟨tm2, a, b, c, d⟩ | ⟨a, b⟩
      · exact .inl ⟨tm2, (hc1 _ b).trans a, Nat.lt_of_lt_of_le b hk.size, (hk.cell (p := ⟨s2.D, 5, none⟩) b (nX _ (by rw [a]; decide) (by rw [a]; omega))).trans c, d⟩
      · exact .inr ⟨a, by show s2.tm ≤ st2.term; omega⟩
  · intro i2 s2 hs2 hD2 htm2 hov
    by_cases e : i = i2
    · subst e
      have e2 : (g.Ss.set i s')[i]? = some s2 := hs2
      rw [List.getElem?_set_self hil] at e2
      cases e2
      exact ⟨by show i + 1 = (g.Ss.set i s').length; rw [hlen]; exact hi, hl hov⟩
    · have e2 : (g.Ss.set i s')[i2]? = some s2 := hs2
      rw [List.getElem?_set_ne e] at e2
      have htm' : s2.tm = st2.term := htm2
      have := (h.lv i2 s2 e2 hD2 (by omega) hov).1
      omega
  · exact fun p hp => by have := h.gl p hp; show p.2 < (gone2 : Int); omega
  · exact h.low.trans (hk.below (fun q e => by
      rcases e with rfl | e
      · exact m5
      · exact (h.dsk.lt q e).1) h.big)
  · exact Nat.le_trans h.big hk.size
  · show Cnt (j + 1) st2 (g.Ss.set i s').length g.L.length
    rw [hlen]; exact hc
/-- A signer came. -/
theorem HI.come (h : HI P j g w) {s : SgD} (mG : Blk w s.G [.pointer (some ⟨s.S, 0, none⟩)] 142) (mS : Blk w s.S (P.cells s) 188) (cG : g.c s.G = 2) (cS : g.c s.S = 7 + g.Ss.length) (lS : P.lo ≤ s.S) (ew : P.seed s.z1 s.z2 s.z3 ∧ 1 ≤ s.bat ∧ s.bat ≤ 64) (hD : s.D = g.D) (htm : s.tm = g.st.term) (hlv : Live P g.jid g.sq g.sb g.gone s)
    (hno : ∀ (i : Nat) (s' : SgD), g.Ss[i]? = some s' → s'.D = g.D → s'.tm < g.st.term) {g1 c1 g2 c2 j' : Nat} {bt : Int}
    (hH : Blk w' P.H (P.hall g.SD (.slice (some ⟨g1, 0, none⟩) (g.Ss.length + 1) c1) (.slice (some ⟨g2, 0, none⟩) (g.Ss.length + 1) c2) g.gv) 65)
    (r1 : w'.ownsRow P.lo 67 1 (.slice (some ⟨g1, 0, none⟩) (g.Ss.length + 1) c1) (g.Ss.length + 1) (ptrs g.Ss ++ [.pointer (some ⟨s.G, 0, none⟩)])) (r2 : w'.ownsRow P.lo 3 1 (.slice (some ⟨g2, 0, none⟩) (g.Ss.length + 1) c2) (g.Ss.length + 1) (g.ys ++ [.int .i64 bt]))
    (hk : Kept (fun q => q = P.H ∨ g.sv.ownBlock = some q ∨ g.bv.ownBlock = some q) w w') (e1 : g.sv.ownBlock = some g1 ∨ w.heap.size ≤ g1) (e2 : g.bv.ownBlock = some g2 ∨ w.heap.size ≤ g2) (hne : g1 ≠ g2) (lH : P.lo ≤ P.H) (hc : Cnt j' g.st (g.Ss.length + 1) g.L.length) :
    ∃ c', HI P j' { g with c := c', sv := .slice (some ⟨g1, 0, none⟩) (g.Ss.length + 1) c1, bv := .slice (some ⟨g2, 0, none⟩) (g.Ss.length + 1) c2, Ss := g.Ss ++ [s], ys := g.ys ++ [.int .i64 bt] } w' ∧ ∀ q, q < w.heap.size → c' q = g.c q := by
  obtain ⟨c', hc1, hc2⟩ : ∃ c' : Nat → Nat, (∀ q, q < w.heap.size → c' q = g.c q) ∧ (∀ q, w.heap.size ≤ q → c' q = if q = g1 then 4 else 5) := ⟨paint g.c w.heap.size (fun q => if q = g1 then 4 else 5), fun q hq => paint_lt hq, fun q hq => paint_ge hq⟩
  have nX : ∀ q, g.c q ≠ 1 → g.c q ≠ 4 → g.c q ≠ 5 → ¬ (q = P.H ∨ g.sv.ownBlock = some q ∨ g.bv.ownBlock = some q) := fun q a b c e => by
    rcases e with e | e | e
    · exact a (by rw [e]; exact h.cH)
    · exact b (h.cs q e)
    · exact c (h.cb q e)
  have ext : ∀ (i : Nat) (s' : SgD), (g.Ss ++ [s])[i]? = some s' → g.Ss[i]? = some s' ∨ i = g.Ss.length ∧ s' = s := by
    intro i s' e
    by_cases hi : i < g.Ss.length
    · rw [List.getElem?_append_left hi] at e
      exact .inl e
    · rw [List.getElem?_append_right (by omega)] at e
      have : i - g.Ss.length = 0 := by
        have := (List.getElem?_eq_some_iff.1 e).1
        simp at this
        omega
      rw [this] at e
      simp at e
      exact .inr ⟨by omega, e.symm⟩
  refine ⟨c', ⟨hH, (hc1 _ h.hall.lt).trans h.cH, blk_kept h.disk hk (nX _ (by rw [h.cSD]; decide) (by rw [h.cSD]; decide) (by rw [h.cSD]; decide)), (hc1 _ h.disk.lt).trans h.cSD, h.dsk.kept hk (fun q e => nX q (by rw [h.cF q e]; decide) (by rw [h.cF q e]; decide) (by rw [h.cF q e]; decide)), fun q e => (hc1 _ (h.dsk.lt q e).2).trans (h.cF q e), ?_, ?_, ?_, ?_, owns_kept h.rg hk (fun q e => nX q (by rw [h.cg q e]; decide) (by rw [h.cg q e]; decide) (by rw [h.cg q e]; decide)), fun q e => (hc1 _ (h.rg.lt q e).2).trans (h.cg q e), ?_, ?_, ?_, ?_, h.ji, h.gs, h.gl, ?_, ?_, h.stn, ?_⟩, hc1⟩
  · show w'.ownsRow P.lo _ 1 _ (g.Ss ++ [s]).length (ptrs (g.Ss ++ [s]))
    rw [List.length_append, show ptrs (g.Ss ++ [s]) = ptrs g.Ss ++ [.pointer (some ⟨s.G, 0, none⟩)] by simp [ptrs]]
    exact r1
  · intro q e
    have e' : g1 = q := by simpa [Value.ownBlock] using e
    subst e'
    rcases e1 with e3 | e3
    · exact (hc1 _ (h.rs.lt g1 e3).2).trans (h.cs g1 e3)
    · exact (hc2 g1 e3).trans (if_pos rfl)
  · show w'.ownsRow P.lo _ 1 _ (g.Ss ++ [s]).length (g.ys ++ [.int .i64 bt])
    rw [List.length_append]
    exact r2
  · intro q e
    have e' : g2 = q := by simpa [Value.ownBlock] using e
    subst e'
    rcases e2 with e3 | e3
    · exact (hc1 _ (h.rb.lt g2 e3).2).trans (h.cb g2 e3)
    · exact (hc2 g2 e3).trans (if_neg (fun e => hne e.symm))
  · intro i s' hs
    rcases ext i s' hs with hs | ⟨rfl, rfl⟩
    · obtain ⟨p1, p2, p3, p4, p5⟩ := h.mem i s' hs
      exact ⟨blk_kept p1 hk (nX _ (by rw [p3]; decide) (by rw [p3]; decide) (by rw [p3]; decide)), blk_kept p2 hk (nX _ (by rw [p4]; omega) (by rw [p4]; omega) (by rw [p4]; omega)), (hc1 _ p1.lt).trans p3, (hc1 _ p2.lt).trans p4, p5⟩
    · exact ⟨blk_kept mG hk (nX _ (by rw [cG]; decide) (by rw [cG]; decide) (by rw [cG]; decide)), blk_kept mS hk (nX _ (by rw [cS]; omega) (by rw [cS]; omega) (by rw [cS]; omega)), (hc1 _ mG.lt).trans cG, (hc1 _ mS.lt).trans cS, lS⟩
  · intro i s' hs
    rcases ext i s' hs with hs | ⟨rfl, rfl⟩
    · exact h.who i s' hs
    · exact ew
  · intro i s' hs
    rcases ext i s' hs with hs | ⟨rfl, rfl⟩
    · rcases h.dd i s' hs with ⟨tm2, a, b, c, d⟩ | a
      · exact .inl ⟨tm2, (hc1 _ b).trans a, Nat.lt_of_lt_of_le b hk.size, (hk.cell (p := ⟨s'.D, 5, none⟩) b (nX _ (by rw [a]; decide) (by rw [a]; decide) (by rw [a]; decide))).trans c, d⟩
      · exact .inr a
    · exact .inr ⟨hD, by show s'.tm ≤ g.st.term; omega⟩
  · intro i s' hs hD2 htm2 hov
    rcases ext i s' hs with hs | ⟨rfl, rfl⟩
    · have := hno i s' hs hD2
      have htm' : s'.tm = g.st.term := htm2
      omega
    · exact ⟨by simp, hlv⟩
  · exact h.low.trans (hk.below (fun q e => by
      rcases e with rfl | e | e
      · exact lH
      · exact (h.rs.lt q e).1
      · exact (h.rb.lt q e).1) h.big)
  · exact Nat.le_trans h.big hk.size
  · show Cnt j' g.st (g.Ss ++ [s]).length g.L.length
    rw [List.length_append]
    exact hc
/-- The disk's sectors moved to a new one. -/
theorem HI.moved (h : HI P j g w) {SD2 D2 : Nat} {F2 : Nat → Prop} {st2 : DSt} (hH : Blk w' P.H (P.hall SD2 g.sv g.bv g.gv) 65) (hS : Blk w' SD2 [.pointer (some ⟨D2, 0, none⟩)] 135) (hd : DSk P.lo D2 st2 w' F2) (hf : ∀ q, F2 q → w.heap.size ≤ q) (hs2 : w.heap.size ≤ SD2) (nS : ¬ F2 SD2) (hk : Kept (fun q => q = P.H ∨ g.F q) w w')
    (h5 : w'.cell? ⟨g.D, 5, none⟩ = some (.int .i64 (g.st.term + 1))) (hJ : JI P.tot st2 g.jid g.sq g.sb) (hn : st2.n = P.n) (lH : P.lo ≤ P.H) (hc : Cnt (j + 1) st2 g.Ss.length g.L.length) : ∃ c', HI P (j + 1) { g with c := c', SD := SD2, D := D2, F := F2, st := st2 } w' ∧ ∀ q, q < w.heap.size → g.c q ≠ 3 → c' q = g.c q := by
  obtain ⟨c', hc1, hc2⟩ : ∃ c' : Nat → Nat, (∀ q, q < w.heap.size → c' q = if g.c q = 3 then 2 else g.c q) ∧ (∀ q, w.heap.size ≤ q → c' q = if q = SD2 then 2 else 3) := ⟨paint (fun q => if g.c q = 3 then 2 else g.c q) w.heap.size (fun q => if q = SD2 then 2 else 3), fun q hq => paint_lt hq, fun q hq => paint_ge hq⟩
  have hcn : ∀ {q v}, q < w.heap.size → g.c q = v → v ≠ 3 → c' q = v := fun {q v} hq e hv => by rw [hc1 q hq, if_neg (by rw [e]; exact hv), e]
  have nX : ∀ q, g.c q ≠ 1 → g.c q ≠ 3 → ¬ (q = P.H ∨ g.F q) := fun q a b e => by
    rcases e with e | e
    · exact a (by rw [e]; exact h.cH)
    · exact b (h.cF q e)
  have hDl := h.dsk.ltD
  have hDc := h.cF g.D h.dsk.self
  refine ⟨c', ⟨hH, hcn h.hall.lt h.cH (by decide), hS, ?_, hd, ?_, owns_kept h.rs hk (fun q e => nX q (by rw [h.cs q e]; decide) (by rw [h.cs q e]; decide)), fun q e => hcn (h.rs.lt q e).2 (h.cs q e) (by decide), owns_kept h.rb hk (fun q e => nX q (by rw [h.cb q e]; decide) (by rw [h.cb q e]; decide)), fun q e => hcn (h.rb.lt q e).2 (h.cb q e) (by decide), owns_kept h.rg hk (fun q e => nX q (by rw [h.cg q e]; decide) (by rw [h.cg q e]; decide)), fun q e => hcn (h.rg.lt q e).2 (h.cg q e) (by decide), ?_, h.who, ?_, ?_, hJ, h.gs, h.gl, ?_, ?_, hn, hc⟩, fun q hq e => hcn hq rfl e⟩
  · exact (hc2 SD2 hs2).trans (if_pos rfl)
  · intro q e
    exact (hc2 q (hf q e)).trans (if_neg (fun e2 => nS (by rw [← e2]; exact e)))
  · intro i s hs
    obtain ⟨p1, p2, p3, p4, p5⟩ := h.mem i s hs
    exact ⟨blk_kept p1 hk (nX _ (by rw [p3]; decide) (by rw [p3]; decide)), blk_kept p2 hk (nX _ (by rw [p4]; omega) (by rw [p4]; omega)), hcn p1.lt p3 (by decide), hcn p2.lt p4 (by omega), p5⟩
  · intro i s hs
    rcases h.dd i s hs with ⟨tm2, a, b, c, d⟩ | ⟨a, b⟩
    · exact .inl ⟨tm2, hcn b a (by decide), Nat.lt_of_lt_of_le b hk.size, (hk.cell (p := ⟨s.D, 5, none⟩) b (nX _ (by rw [a]; decide) (by rw [a]; decide))).trans c, d⟩
    · refine .inl ⟨g.st.term + 1, ?_, ?_, ?_, .inr (by omega)⟩
      · rw [a]
        show c' g.D = 2
        rw [hc1 g.D hDl, if_pos hDc]
      · rw [a]; exact Nat.lt_of_lt_of_le hDl hk.size
      · rw [a]; exact h5
  · intro i s hs hD2 htm2 hov
    exfalso
    have hD2' : s.D = D2 := hD2
    have hself := hf D2 hd.self
    rcases h.dd i s hs with ⟨tm2, a, b, c, d⟩ | ⟨a, b⟩
    · omega
    · omega
  · exact h.low.trans (hk.below (fun q e => by
      rcases e with rfl | e
      · exact lH
      · exact (h.dsk.lt q e).1) h.big)
  · exact Nat.le_trans h.big hk.size
end
end Go.Proofs.YtgaoeoijdpdjiabGreatDoor

namespace Go.Proofs.YtgaoeoijdpdjiabGreatDoor
open Go.RowKit
/-- How far a disk's counters went. -/
structure Nr (st st2 : DSt) (a b : Nat) : Prop where
  w1 : st.writes ≤ st2.writes
  w2 : st2.writes ≤ st.writes + a
  y1 : st.syncs ≤ st2.syncs
  y2 : st2.syncs ≤ st.syncs + b
  n : st2.n = st.n
  t : st2.term = st.term
theorem Nr.trans {s1 s2 s3 : DSt} {a b c d : Nat} (h : Nr s1 s2 a b) (k : Nr s2 s3 c d) : Nr s1 s3 (a + c) (b + d) := ⟨by have := h.w1; have := k.w1; omega, by have := h.w2; have := k.w2; omega, by have := h.y1; have := k.y1; omega, by have := h.y2; have := k.y2; omega, k.n.trans h.n, k.t.trans h.t⟩
theorem Nr.mono {s1 s2 : DSt} {a b c d : Nat} (h : Nr s1 s2 a b) (h1 : a ≤ c) (h2 : b ≤ d) : Nr s1 s2 c d := ⟨h.w1, by have := h.w2; omega, h.y1, by have := h.y2; omega, h.n, h.t⟩
theorem Nr.refl (st : DSt) : Nr st st 0 0 := ⟨by omega, by omega, by omega, by omega, rfl, rfl⟩
theorem nr_sync (st : DSt) : Nr st (sySt st) 0 1 := by
  unfold sySt
  split
  · exact ⟨by show st.writes ≤ st.writes; omega, by show st.writes ≤ st.writes + _; omega, by show st.syncs ≤ st.syncs; omega, by show st.syncs ≤ st.syncs + _; omega, rfl, rfl⟩
  · exact ⟨by show st.writes ≤ st.writes; omega, by show st.writes ≤ st.writes + _; omega, by show st.syncs ≤ st.syncs + 1; omega, by show st.syncs + 1 ≤ st.syncs + _; omega, rfl, rfl⟩
theorem nr_read (st : DSt) (i : Int) : Nr st (rdSt st i) 0 0 := by
  unfold rdSt
  split
  · exact Nr.refl st
  · exact ⟨by show st.writes ≤ st.writes; omega, by show st.writes ≤ st.writes + _; omega, by show st.syncs ≤ st.syncs; omega, by show st.syncs ≤ st.syncs + _; omega, rfl, rfl⟩
theorem nr_write (st : DSt) (i : Int) (t : ByteArray) : Nr st (wrSt st i t) 1 0 := by
  unfold wrSt
  split
  · exact (Nr.refl st).mono (by decide) (by decide)
  split
  · exact (Nr.refl st).mono (by decide) (by decide)
  split
  · exact ⟨by show st.writes ≤ st.writes; omega, by show st.writes ≤ st.writes + _; omega, by show st.syncs ≤ st.syncs; omega, by show st.syncs ≤ st.syncs + _; omega, rfl, rfl⟩
  · exact ⟨by show st.writes ≤ st.writes + 1; omega, by show st.writes + 1 ≤ st.writes + _; omega, by show st.syncs ≤ st.syncs; omega, by show st.syncs ≤ st.syncs + _; omega, rfl, rfl⟩
theorem nr_ops (st : DSt) (j : Nat) : Nr st (opS st j) 0 1 := by
  match j with
  | 0 => exact (Nr.refl st).mono (by decide) (by decide)
  | 1 => exact nr_sync st
  | 2 => exact ((nr_sync st).trans (nr_read _ 0)).mono (by decide) (by decide)
  | j + 3 => exact (((nr_sync st).trans (nr_read _ 0)).trans (nr_read _ 1)).mono (by decide) (by decide)
theorem nr_open (st : DSt) : Nr st (opSt st) 0 1 := by
  unfold opSt
  split
  · exact nr_ops st 1
  split
  · exact nr_ops st 2
  · exact nr_ops st 3
theorem nr_mkT (st : DSt) (id : ByteArray) : Nr st (mkT st id) 1 1 := ((nr_ops st 3).trans (nr_write _ _ _)).mono (by decide) (by decide)
theorem nr_make (st : DSt) (id : ByteArray) : Nr st (mkSt st id) 1 2 := by
  unfold mkSt
  split
  · exact (nr_ops st 1).mono (by decide) (by decide)
  split
  · exact (nr_ops st 2).mono (by decide) (by decide)
  split
  · exact (nr_ops st 3).mono (by decide) (by decide)
  split
  · exact (nr_ops st 3).mono (by decide) (by decide)
  split
  · exact (nr_mkT st id).mono (by decide) (by decide)
  · exact ((nr_mkT st id).trans (nr_sync _)).mono (by decide) (by decide)
section
variable {P : OP} {j : Nat} {g : GH} {w w' : World}
theorem HI.cntN (h : HI P j g w) {st2 : DSt} {a b : Nat} (hr : Nr g.st st2 a b) (ha : a ≤ 2) (hb : b ≤ 2) : Cnt (j + 1) st2 g.Ss.length g.L.length := by
  have c := h.cnt
  have := c.w0; have := c.w1; have := c.y0; have := c.y1; have := c.t0; have := c.t1; have := c.a; have := c.b
  have := hr.w1; have := hr.w2; have := hr.y1; have := hr.y2; have := hr.t
  exact ⟨by omega, by omega, by omega, by omega, by omega, by omega, by omega, by omega⟩
/-- The list of a step, as it came in. -/
structure KOk (P : OP) (V : World) (kv : Value) (K : List Bool) : Prop where
  b : BoolsAt V kv K
  l : K.length ≤ maxLen
  o : ∀ b o l c, kv = .slice (some ⟨b, o, none⟩) l c → 0 < l → b < P.lo
theorem KOk.on {kv : Value} {K : List Bool} (h : KOk P P.Wd kv K) (_hlo : P.lo ≤ P.Wd.heap.size) (hb : Below P.lo P.Wd w) : KOk P w kv K := by
  refine ⟨?_, h.l, h.o⟩
  rcases h.b with ⟨e, e2⟩ | ⟨b, o, cap, e, hc, hcell⟩
  · exact .inl ⟨e, e2⟩
  · refine .inr ⟨b, o, cap, e, hc, fun i y hy => ?_⟩
    have hl : b < P.lo := h.o b o _ _ e (by have := (List.getElem?_eq_some_iff.1 hy).1; omega)
    exact (hb.cell (p := ⟨b, o + i, none⟩) hl).trans (hcell i y hy)
theorem HI.keepOk (h : HI P j g w) {kv : Value} {K : List Bool} (hK : KOk P w kv K) : ∀ b o l c, kv = .slice (some ⟨b, o, none⟩) l c → 0 < l → b < w.heap.size ∧ ¬ g.F b := fun b o l c e h0 => by
  have hb := hK.o b o l c e h0
  refine ⟨Nat.lt_of_lt_of_le hb h.big, fun hf => ?_⟩
  have := (h.dsk.lt b hf).1
  omega
theorem dl_keptF {lo D : Nat} {st : DSt} {F : Nat → Prop} (h : DL lo D st F w w') : Kept F w w' := by obtain ⟨_, _, k, _⟩ := h; exact k
end
end Go.Proofs.YtgaoeoijdpdjiabGreatDoor

namespace Go.Proofs.YtgaoeoijdpdjiabGreatDoor
open Go.RowKit
set_option maxRecDepth 20000 in
set_option maxHeartbeats 2000000 in
theorem tstep_make (TR H SD : Nat) (k b x t l : Int) (s1 s2 s3 o1 o2 o3 : ByteArray) (sv bv gv bg : Value) (su go : Int) (kd a bb : Int) (tx : ByteArray) (ka : Option Addr) (kn kc : Nat) (n bt : Nat) (X : Nat → Prop) (QM : Option Addr → Int → World → Prop) (Q : World → Prop) (w : World) (hH : Blk w H (hallC SD k b x t l s1 s2 s3 o1 o2 o3 sv bv gv) 65) (hTR : Blk w TR (trC H bg su go) 58) (hk1 : -9223372036854775808 ≤ kd) (hk2 : kd ≤ 9223372036854775807) (hb1 : -9223372036854775808 ≤ bb) (hb2 : bb ≤ 9223372036854775807) (hbt : pickZ bb 64 = bt) (hbt2 : bt < 64) (hk : pickZ kd 9 = 0) (nT : ¬ X TR) (nH : ¬ X H)
    (hMk : ∀ V : World, Below w.heap.size w V → Calls Tryz.prog 23 #[.pointer (some ⟨SD, 0, none⟩), .agg #[.int .i64 k, .int .i64 b, .int .i64 x, .int .i64 t, .int .i64 l], .agg #[.string s1, .string s2, .string s3], .int .i64 ((bt : Int) + 1)] V fun e w' => ∃ r c, e = .returned (.tuple #[.pointer r, .int .i64 c]) ∧ Kept X V w' ∧ QM r c w')
    (hCa : ∀ (V : World) (r : Option Addr) (c : Int), QM r c V → Calls Tryz.prog 24 #[.pointer (some ⟨H, 0, none⟩), .pointer r, .int .i64 c, .int .i64 ((bt : Int) + 1)] V fun e w' => e = .returned (.bool true) ∧ Q w') :
    Calls Tryz.prog 20 #[.pointer (some ⟨TR, 0, none⟩), .agg #[.int .i64 kd, .int .i64 a, .int .i64 bb, .string tx, .slice ka kn kc], .int .i64 n] w fun e w' => e = .returned (.bool true) ∧ Q w' := by
  obtain ⟨W0, hW⟩ : ∃ W0, w.alloc (.cells #[.int .i64 kd, .int .i64 a, .int .i64 bb, .string tx, .slice ka kn kc] 53) = W0 := ⟨_, rfl⟩
  have HB := hide (show Below w.heap.size w W0 by subst hW; exact (Below.refl _ _).alloc (Nat.le_refl _) _)
  have HH0 := hide (hH.on HB.out)
  have HT0 := hide (hTR.on HB.out)
  have HSX := hide (show Blk W0 w.heap.size [.int .i64 kd, .int .i64 a, .int .i64 bb, .string tx, .slice ka kn kc] 53 by subst hW; exact Blk.new w _ _)
  have HP := hide (pickN_any kd 9 W0 (by decide) (by decide) hk1 hk2)
  have HPB := hide (pickN_any bb 64 W0 (by decide) (by decide) hb1 hb2)
  rw [hbt] at HPB
  have hbw : IntKind.i64.wrap ((bt : Int) + 1) = (bt : Int) + 1 := by rw [IntKind.wrap_i64] <;> omega
  have c0 : W0.cell? ⟨w.heap.size, 0, none⟩ = some (.int .i64 kd) := HSX.out.cell 0
  have c2 : W0.cell? ⟨w.heap.size, 2, none⟩ = some (.int .i64 bb) := HSX.out.cell 2
  rw [hk] at HP
  have HX := hide (And.intro nT nH)
  have HMK := hide (fun (V : World) (h : Below W0.heap.size W0 V) => hMk V (HB.out.trans (h.mono HB.out.size)))
  have HCA := hide hCa
  have HS := hide (fun (V : World) (h : Blk V TR (trC H bg su go) 58 ∧ Blk V H (hallC SD k b x t l s1 s2 s3 o1 o2 o3 sv bv gv) 65) => (by
    obtain ⟨q1, q2⟩ := h
    exact ⟨q1.cell 0, q2.cell 0, q2.cell 1, q2.cell 2, q2.cell 3, q2.cell 4, q2.cell 5, q2.cell 6, q2.cell 7, q2.cell 11⟩ : V.cell? ⟨TR, 0, none⟩ = some (.pointer (some ⟨H, 0, none⟩)) ∧ V.cell? ⟨H, 0, none⟩ = some (.int .i64 k) ∧ V.cell? ⟨H, 1, none⟩ = some (.int .i64 b) ∧ V.cell? ⟨H, 2, none⟩ = some (.int .i64 x) ∧ V.cell? ⟨H, 3, none⟩ = some (.int .i64 t) ∧ V.cell? ⟨H, 4, none⟩ = some (.int .i64 l) ∧ V.cell? ⟨H, 5, none⟩ = some (.string s1) ∧ V.cell? ⟨H, 6, none⟩ = some (.string s2) ∧ V.cell? ⟨H, 7, none⟩ = some (.string s3) ∧ V.cell? ⟨H, 11, none⟩ = some (.pointer (some ⟨SD, 0, none⟩))))
  have HWE := hide hW
  clear hW hH hTR hk1 hk2 hb1 hb2 hbt hbt2 hk nT nH hMk hCa
  go_enter Tryz.func20, Tryz.ntmps20
  go_wp2_with fail
  rw [HWE.out]
  refine HPB.out.mono ?_
  rintro e w1 ⟨rfl, hw1⟩
  subst w1
  go_wp2_with fail
  refine HP.out.mono ?_
  rintro e w1 ⟨rfl, hw1⟩
  subst w1
  clear c0 c2
  go_wp2_with fail
  refine wp_region_held_drew (S := fun V => V.cell? ⟨TR, 0, none⟩ = some (.pointer (some ⟨H, 0, none⟩)) ∧ V.cell? ⟨H, 0, none⟩ = some (.int .i64 k) ∧ V.cell? ⟨H, 1, none⟩ = some (.int .i64 b) ∧ V.cell? ⟨H, 2, none⟩ = some (.int .i64 x) ∧ V.cell? ⟨H, 3, none⟩ = some (.int .i64 t) ∧ V.cell? ⟨H, 4, none⟩ = some (.int .i64 l) ∧ V.cell? ⟨H, 5, none⟩ = some (.string s1) ∧ V.cell? ⟨H, 6, none⟩ = some (.string s2) ∧ V.cell? ⟨H, 7, none⟩ = some (.string s3) ∧ V.cell? ⟨H, 11, none⟩ = some (.pointer (some ⟨SD, 0, none⟩))) (by kernel_rfl) (HS.out _ (⟨HT0.out, HH0.out⟩)) (fun hHeld => ?_)
  refine tk 0 hHeld (h := ?_)
  refine tk 1 hHeld (h := ?_)
  refine tk 2 hHeld (h := ?_)
  refine tk 3 hHeld (h := ?_)
  refine tk 4 hHeld (h := ?_)
  refine tk 5 hHeld (h := ?_)
  refine tk 6 hHeld (h := ?_)
  refine tk 7 hHeld (h := ?_)
  refine tk 8 hHeld (h := ?_)
  refine tk 9 hHeld (h := ?_)
  refine tk 10 hHeld (h := ?_)
  refine tk 11 hHeld (h := ?_)
  refine tk 12 hHeld (h := ?_)
  refine tk 13 hHeld (h := ?_)
  refine tk 14 hHeld (h := ?_)
  refine tk 15 hHeld (h := ?_)
  refine tk 16 hHeld (h := ?_)
  refine tk 17 hHeld (h := ?_)
  refine tk 18 hHeld (h := ?_)
  refine tk 19 hHeld (h := ?_)
  refine tk 20 hHeld (h := ?_)
  refine tk 21 hHeld (h := ?_)
  refine wpAnyH_ready (rs := [22]) (by kernel_rfl) (by simp) ?_
  refine AllReadyH.cons (o := ?oa22) ?hoa22 (fun K hK => ?hsa22) AllReadyH.nil
  case hoa22 => (simp only [List.getElem?_toArray, List.getElem?_cons_succ, List.getElem?_cons_zero]; rfl)
  go_simp
  go_at_call 23
  refine (HMK.out _ ((Below.refl W0.heap.size W0).drew)).mono ?_
  rintro e w4 ⟨r4, c4, rfl, hk4, hq4⟩
  have HQ4 := hide hq4
  have HT4 := hide (blkK (w := W0.drew) HT0.out hk4 HX.out.1)
  have HH4 := hide (blkK (w := W0.drew) HH0.out hk4 HX.out.2)
  clear hk4 hq4
  try go_wp2_with fail
  refine hK.out _ _ (HS.out _ (⟨HT4.out, HH4.out⟩)) (fun hHeld => ?_)
  clear hK K
  try simp only [Act.put, List.setIfInBounds_toArray, List.set_cons_zero, List.set_cons_succ]
  refine tk 23 hHeld (h := ?_)
  refine tk 24 hHeld (h := ?_)
  refine tk 25 hHeld (h := ?_)
  refine tk 26 hHeld (h := ?_)
  refine tk 27 hHeld (h := ?_)
  refine wpAnyH_done (by kernel_rfl) ?_ _
  clear hHeld
  have t0 : w4.cell? ⟨TR, 0, none⟩ = some (.pointer (some ⟨H, 0, none⟩)) := HT4.out.cell 0
  have HC4 := hide (HCA.out _ _ _ HQ4.out)
  go_wp2_with fail
  refine HC4.out.mono ?_
  rintro e w6 ⟨rfl, hq6⟩
  have HQ6 := hide hq6
  clear hq6 t0
  go_wp2
  go_ret
  exact ⟨rfl, HQ6.out⟩
set_option maxRecDepth 20000 in
set_option maxHeartbeats 2000000 in
theorem tstep_open (TR H SD : Nat) (k b x t l : Int) (s1 s2 s3 o1 o2 o3 : ByteArray) (sv bv gv bg : Value) (su go : Int) (kd a bb : Int) (tx : ByteArray) (ka : Option Addr) (kn kc : Nat) (n bt : Nat) (Q : World → Prop) (w : World) (hH : Blk w H (hallC SD k b x t l s1 s2 s3 o1 o2 o3 sv bv gv) 65) (hTR : Blk w TR (trC H bg su go) 58) (hk1 : -9223372036854775808 ≤ kd) (hk2 : kd ≤ 9223372036854775807) (hb1 : -9223372036854775808 ≤ bb) (hb2 : bb ≤ 9223372036854775807) (hbt : pickZ bb 64 = bt) (hbt2 : bt < 64) (hk : pickZ kd 9 = 1)
    (hO : ∀ V : World, Below w.heap.size w V → Calls Tryz.prog 22 #[.pointer (some ⟨TR, 0, none⟩), .agg #[.int .i64 kd, .int .i64 a, .int .i64 bb, .string tx, .slice ka kn kc], .int .i64 ((bt : Int) + 1), .int .i64 n] V fun e w' => e = .returned (.bool true) ∧ Q w') :
    Calls Tryz.prog 20 #[.pointer (some ⟨TR, 0, none⟩), .agg #[.int .i64 kd, .int .i64 a, .int .i64 bb, .string tx, .slice ka kn kc], .int .i64 n] w fun e w' => e = .returned (.bool true) ∧ Q w' := by
  obtain ⟨W0, hW⟩ : ∃ W0, w.alloc (.cells #[.int .i64 kd, .int .i64 a, .int .i64 bb, .string tx, .slice ka kn kc] 53) = W0 := ⟨_, rfl⟩
  have HB := hide (show Below w.heap.size w W0 by subst hW; exact (Below.refl _ _).alloc (Nat.le_refl _) _)
  have HH0 := hide (hH.on HB.out)
  have HT0 := hide (hTR.on HB.out)
  have HSX := hide (show Blk W0 w.heap.size [.int .i64 kd, .int .i64 a, .int .i64 bb, .string tx, .slice ka kn kc] 53 by subst hW; exact Blk.new w _ _)
  have HP := hide (pickN_any kd 9 W0 (by decide) (by decide) hk1 hk2)
  have HPB := hide (pickN_any bb 64 W0 (by decide) (by decide) hb1 hb2)
  rw [hbt] at HPB
  have hbw : IntKind.i64.wrap ((bt : Int) + 1) = (bt : Int) + 1 := by rw [IntKind.wrap_i64] <;> omega
  have c0 : W0.cell? ⟨w.heap.size, 0, none⟩ = some (.int .i64 kd) := HSX.out.cell 0
  have c2 : W0.cell? ⟨w.heap.size, 2, none⟩ = some (.int .i64 bb) := HSX.out.cell 2
  rw [hk] at HP
  have HO := hide (hO W0 HB.out)
  have c1 : W0.cell? ⟨w.heap.size, 1, none⟩ = some (.int .i64 a) := HSX.out.cell 1
  have c3 : W0.cell? ⟨w.heap.size, 3, none⟩ = some (.string tx) := HSX.out.cell 3
  have c4 : W0.cell? ⟨w.heap.size, 4, none⟩ = some (.slice ka kn kc) := HSX.out.cell 4
  have HWE := hide hW
  clear hW hH hTR hk1 hk2 hb1 hb2 hbt hbt2 hk hO
  go_enter Tryz.func20, Tryz.ntmps20
  go_wp2_with fail
  rw [HWE.out]
  refine HPB.out.mono ?_
  rintro e w1 ⟨rfl, hw1⟩
  subst w1
  go_wp2_with fail
  refine HP.out.mono ?_
  rintro e w1 ⟨rfl, hw1⟩
  subst w1
  go_wp2_with fail
  refine HO.out.mono ?_
  rintro e w6 ⟨rfl, hq6⟩
  have HQ6 := hide hq6
  clear hq6 c0 c1 c2 c3 c4
  go_wp2
  go_ret
  exact ⟨rfl, HQ6.out⟩
set_option maxRecDepth 20000 in
set_option maxHeartbeats 2000000 in
theorem tstep_disk (TR H SD : Nat) (k b x t l : Int) (s1 s2 s3 o1 o2 o3 : ByteArray) (sv bv gv bg : Value) (su go : Int) (kd a bb : Int) (tx : ByteArray) (ka : Option Addr) (kn kc : Nat) (n bt : Nat) (Q : World → Prop) (w : World) (hH : Blk w H (hallC SD k b x t l s1 s2 s3 o1 o2 o3 sv bv gv) 65) (hTR : Blk w TR (trC H bg su go) 58) (hk1 : -9223372036854775808 ≤ kd) (hk2 : kd ≤ 9223372036854775807) (hb1 : -9223372036854775808 ≤ bb) (hb2 : bb ≤ 9223372036854775807) (hbt : pickZ bb 64 = bt) (hbt2 : bt < 64) (c : Nat) (hk : pickZ kd 9 = c) (hc : 3 < c) (hc9 : c < 9)
    (hD : ∀ V : World, Below w.heap.size w V → Calls Tryz.prog 56 #[.pointer (some ⟨H, 0, none⟩), .agg #[.int .i64 kd, .int .i64 a, .int .i64 bb, .string tx, .slice ka kn kc], .int .i64 n] V fun e w' => e = .returned (.bool true) ∧ (∀ vs T, Blk V w.heap.size vs T → Blk w' w.heap.size vs T) ∧ Blk w' TR (trC H bg su go) 58 ∧ Q w') :
    Calls Tryz.prog 20 #[.pointer (some ⟨TR, 0, none⟩), .agg #[.int .i64 kd, .int .i64 a, .int .i64 bb, .string tx, .slice ka kn kc], .int .i64 n] w fun e w' => e = .returned (.bool true) ∧ Q w' := by
  obtain ⟨W0, hW⟩ : ∃ W0, w.alloc (.cells #[.int .i64 kd, .int .i64 a, .int .i64 bb, .string tx, .slice ka kn kc] 53) = W0 := ⟨_, rfl⟩
  have HB := hide (show Below w.heap.size w W0 by subst hW; exact (Below.refl _ _).alloc (Nat.le_refl _) _)
  have HH0 := hide (hH.on HB.out)
  have HT0 := hide (hTR.on HB.out)
  have HSX := hide (show Blk W0 w.heap.size [.int .i64 kd, .int .i64 a, .int .i64 bb, .string tx, .slice ka kn kc] 53 by subst hW; exact Blk.new w _ _)
  have HP := hide (pickN_any kd 9 W0 (by decide) (by decide) hk1 hk2)
  have HPB := hide (pickN_any bb 64 W0 (by decide) (by decide) hb1 hb2)
  rw [hbt] at HPB
  have hbw : IntKind.i64.wrap ((bt : Int) + 1) = (bt : Int) + 1 := by rw [IntKind.wrap_i64] <;> omega
  have c0 : W0.cell? ⟨w.heap.size, 0, none⟩ = some (.int .i64 kd) := HSX.out.cell 0
  have c2 : W0.cell? ⟨w.heap.size, 2, none⟩ = some (.int .i64 bb) := HSX.out.cell 2
  rw [hk] at HP
  have HD := hide (fun (V : World) (h : Below W0.heap.size W0 V) => hD V (HB.out.trans (h.mono HB.out.size)))
  have g0 : ((c : Int) == 0) = false := by rw [beq_eq_false_iff_ne]; omega
  have g1 : ((c : Int) == 1) = false := by rw [beq_eq_false_iff_ne]; omega
  have g3 : decide ((3 : Int) < (c : Int)) = true := decide_eq_true (by omega)
  obtain ⟨cz, hcz⟩ : ∃ cz : Int, (c : Int) = cz := ⟨_, rfl⟩
  rw [hcz] at HP g0 g1 g3
  have HS := hide (fun (V : World) (h : Blk V TR (trC H bg su go) 58 ∧ Blk V w.heap.size [.int .i64 kd, .int .i64 a, .int .i64 bb, .string tx, .slice ka kn kc] 53) => (⟨h.1.cell 0, h.2.cell 0, h.2.cell 1, h.2.cell 2, h.2.cell 3, h.2.cell 4⟩ : V.cell? ⟨TR, 0, none⟩ = some (.pointer (some ⟨H, 0, none⟩)) ∧ V.cell? ⟨w.heap.size, 0, none⟩ = some (.int .i64 kd) ∧ V.cell? ⟨w.heap.size, 1, none⟩ = some (.int .i64 a) ∧ V.cell? ⟨w.heap.size, 2, none⟩ = some (.int .i64 bb) ∧ V.cell? ⟨w.heap.size, 3, none⟩ = some (.string tx) ∧ V.cell? ⟨w.heap.size, 4, none⟩ = some (.slice ka kn kc)))
  have HWE := hide hW
  clear hW hH hTR hk1 hk2 hb1 hb2 hbt hbt2 hk hc hc9 hD hcz
  go_enter Tryz.func20, Tryz.ntmps20
  go_wp2_with fail
  rw [HWE.out]
  refine HPB.out.mono ?_
  rintro e w1 ⟨rfl, hw1⟩
  subst w1
  go_wp2_with fail
  refine HP.out.mono ?_
  rintro e w1 ⟨rfl, hw1⟩
  subst w1
  clear c0 c2
  go_wp2_with fail
  refine wp_region_held_drew (S := fun V => V.cell? ⟨TR, 0, none⟩ = some (.pointer (some ⟨H, 0, none⟩)) ∧ V.cell? ⟨w.heap.size, 0, none⟩ = some (.int .i64 kd) ∧ V.cell? ⟨w.heap.size, 1, none⟩ = some (.int .i64 a) ∧ V.cell? ⟨w.heap.size, 2, none⟩ = some (.int .i64 bb) ∧ V.cell? ⟨w.heap.size, 3, none⟩ = some (.string tx) ∧ V.cell? ⟨w.heap.size, 4, none⟩ = some (.slice ka kn kc)) (by kernel_rfl) (HS.out _ (⟨HT0.out, HSX.out⟩)) (fun hHeld => ?_)
  refine tk 0 hHeld (h := ?_)
  refine tk 1 hHeld (h := ?_)
  refine tk 2 hHeld (h := ?_)
  refine tk 3 hHeld (h := ?_)
  refine tk 4 hHeld (h := ?_)
  refine tk 5 hHeld (h := ?_)
  refine wpAnyH_ready (rs := [6]) (by kernel_rfl) (by simp) ?_
  refine AllReadyH.cons (o := ?oa6) ?hoa6 (fun K hK => ?hsa6) AllReadyH.nil
  case hoa6 => (simp only [List.getElem?_toArray, List.getElem?_cons_succ, List.getElem?_cons_zero]; rfl)
  go_simp
  go_at_call 56
  refine (HD.out _ ((Below.refl W0.heap.size W0).drew)).mono ?_
  rintro e w4 ⟨rfl, hk4, hT4, hq4⟩
  have HQ4 := hide hq4
  have HT4 := hide hT4
  have HX4 := hide (hk4 _ _ HSX.out)
  clear hk4 hT4 hq4
  try go_wp2_with fail
  refine hK.out _ _ (HS.out _ (⟨HT4.out, HX4.out⟩)) (fun hHeld => ?_)
  clear hK K
  try simp only [Act.put, List.setIfInBounds_toArray, List.set_cons_zero, List.set_cons_succ]
  refine tk 7 hHeld (h := ?_)
  refine wpAnyH_done (by kernel_rfl) ?_ _
  clear hHeld
  go_wp2
  go_ret
  exact ⟨rfl, HQ4.out⟩
set_option maxRecDepth 20000 in
set_option maxHeartbeats 2000000 in
theorem tstep_none2 (TR H SD : Nat) (k b x t l : Int) (s1 s2 s3 o1 o2 o3 : ByteArray) (sa : Option Addr) (ns sc : Nat) (bv gv bg : Value) (su go : Int) (kd a bb : Int) (tx : ByteArray) (ka : Option Addr) (kn kc : Nat) (n bt : Nat) (w : World) (hH : Blk w H (hallC SD k b x t l s1 s2 s3 o1 o2 o3 (.slice sa ns sc) bv gv) 65) (hTR : Blk w TR (trC H bg su go) 58) (hk1 : -9223372036854775808 ≤ kd) (hk2 : kd ≤ 9223372036854775807) (hb1 : -9223372036854775808 ≤ bb) (hb2 : bb ≤ 9223372036854775807) (hbt : pickZ bb 64 = bt) (hbt2 : bt < 64) (hk : pickZ kd 9 = 2) (hns : ns = 0) :
    Calls Tryz.prog 20 #[.pointer (some ⟨TR, 0, none⟩), .agg #[.int .i64 kd, .int .i64 a, .int .i64 bb, .string tx, .slice ka kn kc], .int .i64 n] w fun e w' => e = .returned (.bool true) ∧ Below w.heap.size w w' := by
  obtain ⟨W0, hW⟩ : ∃ W0, w.alloc (.cells #[.int .i64 kd, .int .i64 a, .int .i64 bb, .string tx, .slice ka kn kc] 53) = W0 := ⟨_, rfl⟩
  have HB := hide (show Below w.heap.size w W0 by subst hW; exact (Below.refl _ _).alloc (Nat.le_refl _) _)
  have HH0 := hide (hH.on HB.out)
  have HT0 := hide (hTR.on HB.out)
  have HSX := hide (show Blk W0 w.heap.size [.int .i64 kd, .int .i64 a, .int .i64 bb, .string tx, .slice ka kn kc] 53 by subst hW; exact Blk.new w _ _)
  have HP := hide (pickN_any kd 9 W0 (by decide) (by decide) hk1 hk2)
  have HPB := hide (pickN_any bb 64 W0 (by decide) (by decide) hb1 hb2)
  rw [hbt] at HPB
  have hbw : IntKind.i64.wrap ((bt : Int) + 1) = (bt : Int) + 1 := by rw [IntKind.wrap_i64] <;> omega
  have c0 : W0.cell? ⟨w.heap.size, 0, none⟩ = some (.int .i64 kd) := HSX.out.cell 0
  have c2 : W0.cell? ⟨w.heap.size, 2, none⟩ = some (.int .i64 bb) := HSX.out.cell 2
  rw [hk] at HP
  subst hns
  have c12 : W0.cell? ⟨H, 12, none⟩ = some (.slice sa 0 sc) := HH0.out.cell 12
  have t0 : W0.cell? ⟨TR, 0, none⟩ = some (.pointer (some ⟨H, 0, none⟩)) := HT0.out.cell 0
  have HWE := hide hW
  clear hW hH hTR hk1 hk2 hb1 hb2 hbt hbt2 hk
  go_enter Tryz.func20, Tryz.ntmps20
  go_wp2_with fail
  rw [HWE.out]
  refine HPB.out.mono ?_
  rintro e w1 ⟨rfl, hw1⟩
  subst w1
  go_wp2_with fail
  refine HP.out.mono ?_
  rintro e w1 ⟨rfl, hw1⟩
  subst w1
  clear c0 c2
  go_wp2
  go_ret
  exact ⟨rfl, HB.out⟩
set_option maxRecDepth 20000 in
set_option maxHeartbeats 2000000 in
theorem tstep_none3 (TR H SD : Nat) (k b x t l : Int) (s1 s2 s3 o1 o2 o3 : ByteArray) (sa : Option Addr) (ns sc : Nat) (bv gv bg : Value) (su go : Int) (kd a bb : Int) (tx : ByteArray) (ka : Option Addr) (kn kc : Nat) (n bt : Nat) (w : World) (hH : Blk w H (hallC SD k b x t l s1 s2 s3 o1 o2 o3 (.slice sa ns sc) bv gv) 65) (hTR : Blk w TR (trC H bg su go) 58) (hk1 : -9223372036854775808 ≤ kd) (hk2 : kd ≤ 9223372036854775807) (hb1 : -9223372036854775808 ≤ bb) (hb2 : bb ≤ 9223372036854775807) (hbt : pickZ bb 64 = bt) (hbt2 : bt < 64) (hk : pickZ kd 9 = 3) (hns : ns = 0) :
    Calls Tryz.prog 20 #[.pointer (some ⟨TR, 0, none⟩), .agg #[.int .i64 kd, .int .i64 a, .int .i64 bb, .string tx, .slice ka kn kc], .int .i64 n] w fun e w' => e = .returned (.bool true) ∧ Below w.heap.size w w' := by
  obtain ⟨W0, hW⟩ : ∃ W0, w.alloc (.cells #[.int .i64 kd, .int .i64 a, .int .i64 bb, .string tx, .slice ka kn kc] 53) = W0 := ⟨_, rfl⟩
  have HB := hide (show Below w.heap.size w W0 by subst hW; exact (Below.refl _ _).alloc (Nat.le_refl _) _)
  have HH0 := hide (hH.on HB.out)
  have HT0 := hide (hTR.on HB.out)
  have HSX := hide (show Blk W0 w.heap.size [.int .i64 kd, .int .i64 a, .int .i64 bb, .string tx, .slice ka kn kc] 53 by subst hW; exact Blk.new w _ _)
  have HP := hide (pickN_any kd 9 W0 (by decide) (by decide) hk1 hk2)
  have HPB := hide (pickN_any bb 64 W0 (by decide) (by decide) hb1 hb2)
  rw [hbt] at HPB
  have hbw : IntKind.i64.wrap ((bt : Int) + 1) = (bt : Int) + 1 := by rw [IntKind.wrap_i64] <;> omega
  have c0 : W0.cell? ⟨w.heap.size, 0, none⟩ = some (.int .i64 kd) := HSX.out.cell 0
  have c2 : W0.cell? ⟨w.heap.size, 2, none⟩ = some (.int .i64 bb) := HSX.out.cell 2
  rw [hk] at HP
  subst hns
  have c12 : W0.cell? ⟨H, 12, none⟩ = some (.slice sa 0 sc) := HH0.out.cell 12
  have t0 : W0.cell? ⟨TR, 0, none⟩ = some (.pointer (some ⟨H, 0, none⟩)) := HT0.out.cell 0
  have HWE := hide hW
  clear hW hH hTR hk1 hk2 hb1 hb2 hbt hbt2 hk
  go_enter Tryz.func20, Tryz.ntmps20
  go_wp2_with fail
  rw [HWE.out]
  refine HPB.out.mono ?_
  rintro e w1 ⟨rfl, hw1⟩
  subst w1
  go_wp2_with fail
  refine HP.out.mono ?_
  rintro e w1 ⟨rfl, hw1⟩
  subst w1
  clear c0 c2
  go_wp2
  go_ret
  exact ⟨rfl, HB.out⟩
set_option maxRecDepth 20000 in
set_option maxHeartbeats 2000000 in
theorem tstep_reserve (TR H SD : Nat) (k b x t l : Int) (s1 s2 s3 o1 o2 o3 : ByteArray) (g ns sc i : Nat) (bv gv bg : Value) (su go : Int) (kd a bb : Int) (tx : ByteArray) (ka : Option Addr) (kn kc : Nat) (n bt : Nat) (Q : World → Prop) (w : World) (hH : Blk w H (hallC SD k b x t l s1 s2 s3 o1 o2 o3 (.slice (some ⟨g, 0, none⟩) ns sc) bv gv) 65) (hTR : Blk w TR (trC H bg su go) 58) (hk1 : -9223372036854775808 ≤ kd) (hk2 : kd ≤ 9223372036854775807) (hb1 : -9223372036854775808 ≤ bb) (hb2 : bb ≤ 9223372036854775807) (hbt : pickZ bb 64 = bt) (hbt2 : bt < 64) (hk : pickZ kd 9 = 3) (ha1 : -9223372036854775808 ≤ a) (ha2 : a ≤ 9223372036854775807) (hns : ns ≤ 8796093022208) (hi : pickZ a ns = i) (hi2 : i < ns)
    (hR : ∀ V : World, Below w.heap.size w V → Calls Tryz.prog 58 #[.pointer (some ⟨TR, 0, none⟩), .int .i64 i, .int .i64 ((bt : Int) + 1)] V fun e w' => e = .returned (.bool true) ∧ Q w') :
    Calls Tryz.prog 20 #[.pointer (some ⟨TR, 0, none⟩), .agg #[.int .i64 kd, .int .i64 a, .int .i64 bb, .string tx, .slice ka kn kc], .int .i64 n] w fun e w' => e = .returned (.bool true) ∧ Q w' := by
  obtain ⟨W0, hW⟩ : ∃ W0, w.alloc (.cells #[.int .i64 kd, .int .i64 a, .int .i64 bb, .string tx, .slice ka kn kc] 53) = W0 := ⟨_, rfl⟩
  have HB := hide (show Below w.heap.size w W0 by subst hW; exact (Below.refl _ _).alloc (Nat.le_refl _) _)
  have HH0 := hide (hH.on HB.out)
  have HT0 := hide (hTR.on HB.out)
  have HSX := hide (show Blk W0 w.heap.size [.int .i64 kd, .int .i64 a, .int .i64 bb, .string tx, .slice ka kn kc] 53 by subst hW; exact Blk.new w _ _)
  have HP := hide (pickN_any kd 9 W0 (by decide) (by decide) hk1 hk2)
  have HPB := hide (pickN_any bb 64 W0 (by decide) (by decide) hb1 hb2)
  rw [hbt] at HPB
  have hbw : IntKind.i64.wrap ((bt : Int) + 1) = (bt : Int) + 1 := by rw [IntKind.wrap_i64] <;> omega
  have c0 : W0.cell? ⟨w.heap.size, 0, none⟩ = some (.int .i64 kd) := HSX.out.cell 0
  have c2 : W0.cell? ⟨w.heap.size, 2, none⟩ = some (.int .i64 bb) := HSX.out.cell 2
  rw [hk] at HP
  have HPA := hide (fun V : World => pickN_any a ns V (by omega) (by omega) ha1 ha2)
  rw [hi] at HPA
  have HR := hide (hR _ (HB.out.trans ((Below.refl W0.heap.size W0).drew.mono HB.out.size)))
  have hnz : ((ns : Int) == 0) = false := by rw [beq_eq_false_iff_ne]; omega
  have hnz2 : ns ≠ 0 := by omega
  have c12 : W0.cell? ⟨H, 12, none⟩ = some (.slice (some ⟨g, 0, none⟩) ns sc) := HH0.out.cell 12
  have t0 : W0.cell? ⟨TR, 0, none⟩ = some (.pointer (some ⟨H, 0, none⟩)) := HT0.out.cell 0
  have HS := hide (fun (V : World) (h : Blk V TR (trC H bg su go) 58 ∧ Blk V H (hallC SD k b x t l s1 s2 s3 o1 o2 o3 (.slice (some ⟨g, 0, none⟩) ns sc) bv gv) 65 ∧ Blk V w.heap.size [.int .i64 kd, .int .i64 a, .int .i64 bb, .string tx, .slice ka kn kc] 53) => (⟨h.1.cell 0, h.2.1.cell 12, h.2.2.cell 1⟩ : V.cell? ⟨TR, 0, none⟩ = some (.pointer (some ⟨H, 0, none⟩)) ∧ V.cell? ⟨H, 12, none⟩ = some (.slice (some ⟨g, 0, none⟩) ns sc) ∧ V.cell? ⟨w.heap.size, 1, none⟩ = some (.int .i64 a)))
  have HWE := hide hW
  clear hW hH hTR hk1 hk2 hb1 hb2 hbt hbt2 hk ha1 ha2 hns hi hi2 hR
  go_enter Tryz.func20, Tryz.ntmps20
  go_wp2_with fail
  rw [HWE.out]
  refine HPB.out.mono ?_
  rintro e w1 ⟨rfl, hw1⟩
  subst w1
  go_wp2_with fail
  refine HP.out.mono ?_
  rintro e w1 ⟨rfl, hw1⟩
  subst w1
  clear c0 c2
  go_wp2_with fail
  refine wp_region_held_drew (S := fun V => V.cell? ⟨TR, 0, none⟩ = some (.pointer (some ⟨H, 0, none⟩)) ∧ V.cell? ⟨H, 12, none⟩ = some (.slice (some ⟨g, 0, none⟩) ns sc) ∧ V.cell? ⟨w.heap.size, 1, none⟩ = some (.int .i64 a)) (by kernel_rfl) (HS.out _ (⟨HT0.out, HH0.out, HSX.out⟩)) (fun hHeld => ?_)
  refine tk 0 hHeld (h := ?_)
  refine tk 1 hHeld (h := ?_)
  refine tk 2 hHeld (h := ?_)
  refine tk 3 hHeld (h := ?_)
  refine tk 4 hHeld (h := ?_)
  refine tk 5 hHeld (h := ?_)
  refine tk 6 hHeld (h := ?_)
  refine tk 7 hHeld (h := ?_)
  refine tk 8 hHeld (h := ?_)
  refine tk 9 hHeld (h := ?_)
  refine wpAnyH_ready (rs := [10]) (by kernel_rfl) (by simp) ?_
  refine AllReadyH.cons (o := ?oa10) ?hoa10 (fun K hK => ?hsa10) AllReadyH.nil
  case hoa10 => (simp only [List.getElem?_toArray, List.getElem?_cons_succ, List.getElem?_cons_zero]; rfl)
  go_simp
  go_at_call 17
  refine (HPA.out _).mono ?_
  rintro e w3 ⟨rfl, hw3⟩
  subst hw3
  try go_wp2_with fail
  refine hK.out _ _ (HS.out _ (⟨HT0.out, HH0.out, HSX.out⟩)) (fun hHeld => ?_)
  clear hK K
  try simp only [Act.put, List.setIfInBounds_toArray, List.set_cons_zero, List.set_cons_succ]
  refine tk 11 hHeld (h := ?_)
  refine wpAnyH_done (by kernel_rfl) ?_ _
  clear hHeld c12 t0
  go_wp2_with fail
  refine HR.out.mono ?_
  rintro e w6 ⟨rfl, hq6⟩
  have HQ6 := hide hq6
  clear hq6
  go_wp2
  go_ret
  exact ⟨rfl, HQ6.out⟩
set_option maxRecDepth 20000 in
set_option maxHeartbeats 2000000 in
theorem tstep_sign (TR H SD : Nat) (k b x t l : Int) (s1 s2 s3 o1 o2 o3 : ByteArray) (g ns sc i : Nat) (bv gv bg : Value) (su go : Int) (kd a bb : Int) (tx : ByteArray) (ka : Option Addr) (kn kc : Nat) (n bt : Nat) (Q : World → Prop) (w : World) (hH : Blk w H (hallC SD k b x t l s1 s2 s3 o1 o2 o3 (.slice (some ⟨g, 0, none⟩) ns sc) bv gv) 65) (hTR : Blk w TR (trC H bg su go) 58) (hk1 : -9223372036854775808 ≤ kd) (hk2 : kd ≤ 9223372036854775807) (hb1 : -9223372036854775808 ≤ bb) (hb2 : bb ≤ 9223372036854775807) (hbt : pickZ bb 64 = bt) (hbt2 : bt < 64) (hk : pickZ kd 9 = 2) (ha1 : -9223372036854775808 ≤ a) (ha2 : a ≤ 9223372036854775807) (hns : ns ≤ 8796093022208) (hi : pickZ a ns = i) (hi2 : i < ns)
    (hR : ∀ V : World, Below w.heap.size w V → Calls Tryz.prog 59 #[.pointer (some ⟨TR, 0, none⟩), .int .i64 i, .string (upS tx 200)] V fun e w' => e = .returned (.bool true) ∧ Q w') :
    Calls Tryz.prog 20 #[.pointer (some ⟨TR, 0, none⟩), .agg #[.int .i64 kd, .int .i64 a, .int .i64 bb, .string tx, .slice ka kn kc], .int .i64 n] w fun e w' => e = .returned (.bool true) ∧ Q w' := by
  obtain ⟨W0, hW⟩ : ∃ W0, w.alloc (.cells #[.int .i64 kd, .int .i64 a, .int .i64 bb, .string tx, .slice ka kn kc] 53) = W0 := ⟨_, rfl⟩
  have HB := hide (show Below w.heap.size w W0 by subst hW; exact (Below.refl _ _).alloc (Nat.le_refl _) _)
  have HH0 := hide (hH.on HB.out)
  have HT0 := hide (hTR.on HB.out)
  have HSX := hide (show Blk W0 w.heap.size [.int .i64 kd, .int .i64 a, .int .i64 bb, .string tx, .slice ka kn kc] 53 by subst hW; exact Blk.new w _ _)
  have HP := hide (pickN_any kd 9 W0 (by decide) (by decide) hk1 hk2)
  have HPB := hide (pickN_any bb 64 W0 (by decide) (by decide) hb1 hb2)
  rw [hbt] at HPB
  have hbw : IntKind.i64.wrap ((bt : Int) + 1) = (bt : Int) + 1 := by rw [IntKind.wrap_i64] <;> omega
  have c0 : W0.cell? ⟨w.heap.size, 0, none⟩ = some (.int .i64 kd) := HSX.out.cell 0
  have c2 : W0.cell? ⟨w.heap.size, 2, none⟩ = some (.int .i64 bb) := HSX.out.cell 2
  rw [hk] at HP
  have HPA := hide (fun V : World => pickN_any a ns V (by omega) (by omega) ha1 ha2)
  rw [hi] at HPA
  have HR := hide (hR _ (HB.out.trans ((Below.refl W0.heap.size W0).drew.mono HB.out.size)))
  have hnz : ((ns : Int) == 0) = false := by rw [beq_eq_false_iff_ne]; omega
  have hnz2 : ns ≠ 0 := by omega
  have c12 : W0.cell? ⟨H, 12, none⟩ = some (.slice (some ⟨g, 0, none⟩) ns sc) := HH0.out.cell 12
  have t0 : W0.cell? ⟨TR, 0, none⟩ = some (.pointer (some ⟨H, 0, none⟩)) := HT0.out.cell 0
  have HS := hide (fun (V : World) (h : Blk V TR (trC H bg su go) 58 ∧ Blk V H (hallC SD k b x t l s1 s2 s3 o1 o2 o3 (.slice (some ⟨g, 0, none⟩) ns sc) bv gv) 65 ∧ Blk V w.heap.size [.int .i64 kd, .int .i64 a, .int .i64 bb, .string tx, .slice ka kn kc] 53) => (⟨h.1.cell 0, h.2.1.cell 12, h.2.2.cell 1⟩ : V.cell? ⟨TR, 0, none⟩ = some (.pointer (some ⟨H, 0, none⟩)) ∧ V.cell? ⟨H, 12, none⟩ = some (.slice (some ⟨g, 0, none⟩) ns sc) ∧ V.cell? ⟨w.heap.size, 1, none⟩ = some (.int .i64 a)))
  have HUP := hide (fun V : World => upTo_any tx 200 V)
  have HC3 := hide (show W0.drew.cell? ⟨w.heap.size, 3, none⟩ = some (.string tx) from HSX.out.cell 3)
  have HWE := hide hW
  clear hW hH hTR hk1 hk2 hb1 hb2 hbt hbt2 hk ha1 ha2 hns hi hi2 hR
  go_enter Tryz.func20, Tryz.ntmps20
  go_wp2_with fail
  rw [HWE.out]
  refine HPB.out.mono ?_
  rintro e w1 ⟨rfl, hw1⟩
  subst w1
  go_wp2_with fail
  refine HP.out.mono ?_
  rintro e w1 ⟨rfl, hw1⟩
  subst w1
  clear c0 c2
  go_wp2_with fail
  refine wp_region_held_drew (S := fun V => V.cell? ⟨TR, 0, none⟩ = some (.pointer (some ⟨H, 0, none⟩)) ∧ V.cell? ⟨H, 12, none⟩ = some (.slice (some ⟨g, 0, none⟩) ns sc) ∧ V.cell? ⟨w.heap.size, 1, none⟩ = some (.int .i64 a)) (by kernel_rfl) (HS.out _ (⟨HT0.out, HH0.out, HSX.out⟩)) (fun hHeld => ?_)
  refine tk 0 hHeld (h := ?_)
  refine tk 1 hHeld (h := ?_)
  refine tk 2 hHeld (h := ?_)
  refine tk 3 hHeld (h := ?_)
  refine tk 4 hHeld (h := ?_)
  refine tk 5 hHeld (h := ?_)
  refine tk 6 hHeld (h := ?_)
  refine tk 7 hHeld (h := ?_)
  refine tk 8 hHeld (h := ?_)
  refine tk 9 hHeld (h := ?_)
  refine wpAnyH_ready (rs := [10]) (by kernel_rfl) (by simp) ?_
  refine AllReadyH.cons (o := ?oa10) ?hoa10 (fun K hK => ?hsa10) AllReadyH.nil
  case hoa10 => (simp only [List.getElem?_toArray, List.getElem?_cons_succ, List.getElem?_cons_zero]; rfl)
  go_simp
  go_at_call 17
  refine (HPA.out _).mono ?_
  rintro e w3 ⟨rfl, hw3⟩
  subst hw3
  try go_wp2_with fail
  refine hK.out _ _ (HS.out _ (⟨HT0.out, HH0.out, HSX.out⟩)) (fun hHeld => ?_)
  clear hK K
  try simp only [Act.put, List.setIfInBounds_toArray, List.set_cons_zero, List.set_cons_succ]
  refine tk 11 hHeld (h := ?_)
  refine wpAnyH_done (by kernel_rfl) ?_ _
  clear hHeld c12 t0
  have c3 := HC3.out
  go_wp2_with fail
  refine (HUP.out _).mono ?_
  rintro e w5 ⟨rfl, hw5⟩
  subst w5
  generalize upS tx 200 = ux at HR ⊢
  go_wp2_with fail
  refine HR.out.mono ?_
  rintro e w6 ⟨rfl, hq6⟩
  have HQ6 := hide hq6
  clear hq6 c3
  go_wp2
  go_ret
  exact ⟨rfl, HQ6.out⟩
end Go.Proofs.YtgaoeoijdpdjiabGreatDoor

namespace Go.Proofs.YtgaoeoijdpdjiabGreatDoor
open Go.RowKit
/-- The hall at the start. -/
theorem hi_new {P : OP} (Kp : OPk P) (hw : P.Wd.heap.size = P.lo) {SD D : Nat} {F : Nat → Prop} {w : World} (hH : Blk w P.H (P.hall SD (.slice none 0 0) (.slice none 0 0) (.slice none 0 0)) 65) (hS : Blk w SD [.pointer (some ⟨D, 0, none⟩)] 135) (hD : DSk P.lo D (newD P.n) w F) (nH : ¬ F P.H) (nS : ¬ F SD) (hne : P.H ≠ SD) (hb : Below P.lo P.Wd w) : ∃ g, HI P 0 g w ∧ g.Ss = [] ∧ g.ys = [] ∧ g.jid = P.idZ P.s1 P.s3 ∧ g.gone = 0 ∧ g.st = newD P.n := by
  have hbig : P.lo ≤ w.heap.size := by rw [← hw]; exact hb.size
  refine ⟨⟨fun q => if q = P.H then 1 else if q = SD then 2 else 3, SD, D, newD P.n, F, P.idZ P.s1 P.s3, 0, 0, 0, [], [], .slice none 0 0, .slice none 0 0, .slice none 0 0, []⟩, ⟨hH, if_pos rfl, hS, ?_, hD, ?_, World.ownsRow_nil _ _ _ _, ?_, World.ownsRow_nil _ _ _ _, ?_, World.ownsRow_nil _ _ _ _, ?_, ?_, ?_, ?_, ?_, ji_new P.n Kp.n2 (Kp.id8 (.inl ⟨rfl, rfl, rfl⟩)) Kp.tot4, Nat.le_refl _, ?_, hb, hbig, rfl, ?_⟩, rfl, rfl, rfl, rfl, rfl⟩
  · exact (if_neg (fun e => hne e.symm)).trans (if_pos rfl)
  · intro q e
    exact (if_neg (fun e2 => nH (by rw [← e2]; exact e))).trans (if_neg (fun e2 => nS (by rw [← e2]; exact e)))
  · intro q e; simp [Value.ownBlock] at e
  · intro q e; simp [Value.ownBlock] at e
  · intro q e; simp [Value.ownBlock] at e
  · intro i s e; simp at e
  · intro i s e; simp at e
  · intro i s e; simp at e
  · intro i s e; simp at e
  · intro p e; simp at e
  · exact ⟨by show (0 : Int) ≤ 0; omega, by show (0 : Int) ≤ _; omega, by show (0 : Int) ≤ 0; omega, by show (0 : Int) ≤ _; omega, by show (0 : Int) ≤ 0; omega, by show (0 : Int) ≤ _; omega, Nat.le_refl _, Nat.le_refl _⟩
end Go.Proofs.YtgaoeoijdpdjiabGreatDoor
