/-
  What holds of the hall between two steps.
-/
import Derived.Test.YtgaoeoijdpdjiabGreatDoorPart42
import Derived.Test.YtgaoeoijdpdjiabGreatDoorPart38
import Derived.Test.YtgaoeoijdpdjiabGreatDoorPart29
import Derived.Test.YtgaoeoijdpdjiabGreatDoorPart26
import Derived.Test.YtgaoeoijdpdjiabGreatDoorPart25
namespace Go.Proofs.YtgaoeoijdpdjiabGreatDoor
open Go.RowKit

/-- What is given once and for all: the set, the two seeds, the hall's place, the world at the start. -/
structure OP where
  k : Int
  b : Nat
  x : Nat
  e : Nat
  f : Nat
  t : Nat
  l : Nat
  s1 : ByteArray
  s2 : ByteArray
  s3 : ByteArray
  o1 : ByteArray
  o2 : ByteArray
  o3 : ByteArray
  lo : Nat
  H : Nat
  n : Nat
  Wd : World
structure OPk (P : OP) : Prop where
  R : RSet P.k P.b P.x P.e P.f P.t P.l
  s1 : P.s1.size = P.b
  s2 : P.s2.size = P.b
  s3 : P.s3.size = P.b
  o1 : P.o1.size = P.b
  o2 : P.o2.size = P.b
  o3 : P.o3.size = P.b
  T : Tn P.Wd
  TB : 1 < P.lo
  n2 : 2 ≤ P.n
  n8 : P.n ≤ 8
  lH : P.lo ≤ P.H
/-- A signer that came out. -/
structure SgD where
  G : Nat
  S : Nat
  D : Nat
  tm : Int
  z1 : ByteArray
  z2 : ByteArray
  z3 : ByteArray
  bat : Nat
  nx : Nat
  q : Nat
  bd : Nat
  ov : Bool
def OP.tot (P : OP) : Nat := 2 ^ (P.t * P.l)
def OP.rootZ (P : OP) (z1 z3 : ByteArray) : ByteArray := rootK P.k P.b P.x P.t (P.b * P.e + P.f) P.l z1 z3
def OP.idZ (P : OP) (z1 z3 : ByteArray) : ByteArray := idS P.k P.b P.x P.t P.l (P.rootZ z1 z3) z3
def OP.cells (P : OP) (s : SgD) : List Value := sgC s.D s.tm P.k P.b P.x P.t P.l (P.rootZ s.z1 s.z3) s.z3 s.z1 s.z2 (P.tot : Int) s.bat s.nx s.q s.bd (P.idZ s.z1 s.z3) s.ov
def OP.hall (P : OP) (SD : Nat) (sv bv gv : Value) : List Value := hallC SD P.k P.b P.x P.t P.l P.s1 P.s2 P.s3 P.o1 P.o2 P.o3 sv bv gv
def OP.seed (P : OP) (z1 z2 z3 : ByteArray) : Prop := z1 = P.s1 ∧ z2 = P.s2 ∧ z3 = P.s3 ∨ z1 = P.o1 ∧ z2 = P.o2 ∧ z3 = P.o3
def ptrs (Ss : List SgD) : List Value := Ss.map fun s => .pointer (some ⟨s.G, 0, none⟩)
theorem OPk.sz {P : OP} (K : OPk P) {z1 z2 z3 : ByteArray} (h : P.seed z1 z2 z3) : z1.size = P.b ∧ z2.size = P.b ∧ z3.size = P.b := by
  rcases h with ⟨rfl, rfl, rfl⟩ | ⟨rfl, rfl, rfl⟩
  · exact ⟨K.s1, K.s2, K.s3⟩
  · exact ⟨K.o1, K.o2, K.o3⟩
theorem OPk.tot4 {P : OP} (K : OPk P) : P.tot ≤ 4096 := total_most K.R
theorem OPk.rk {P : OP} (K : OPk P) {z1 z2 z3 : ByteArray} (h : P.seed z1 z2 z3) : (P.rootZ z1 z3).size = P.b ∧ P.b ≤ 16 := by
  obtain ⟨a, _, c⟩ := K.sz h
  obtain ⟨g1, g2, g3, g4, g5, g6⟩ := pair_small K.R.pr
  exact ⟨rootK_size P.k P.b P.x P.t (P.b * P.e + P.f) P.l z1 z3 K.R.kk g1 g2 (by omega) (by omega) g3, g2⟩
theorem OPk.id8 {P : OP} (K : OPk P) {z1 z2 z3 : ByteArray} (h : P.seed z1 z2 z3) : (P.idZ z1 z3).size = 8 := by
  obtain ⟨a, b⟩ := K.rk h
  obtain ⟨_, _, c⟩ := K.sz h
  exact idS_size P.k P.b P.x P.t P.l _ z3 K.R.kk (by omega) (by omega)

/-- What there is at one time. The colours say which block is whose: 1 the hall, 2 what stays as it is, 3 the disk, 4 5 6 the lists, 7 + i the signer number i. -/
structure GH where
  c : Nat → Nat
  SD : Nat
  D : Nat
  st : DSt
  F : Nat → Prop
  jid : ByteArray
  sq : Nat
  sb : Nat
  gone : Nat
  Ss : List SgD
  L : List (ByteArray × Int)
  sv : Value
  bv : Value
  gv : Value
  ys : List Value
structure Live (P : OP) (jid : ByteArray) (sq sb gone : Nat) (s : SgD) : Prop where
  id : P.idZ s.z1 s.z3 = jid
  q : s.q = sq
  bd : s.bd = sb
  lo : gone ≤ s.nx
  hi : s.nx ≤ sb
  one : 1 ≤ sq
structure Cnt (j : Nat) (st : DSt) (a b : Nat) : Prop where
  w0 : 0 ≤ st.writes
  w1 : st.writes ≤ 8 + 2 * j
  y0 : 0 ≤ st.syncs
  y1 : st.syncs ≤ 8 + 2 * j
  t0 : 0 ≤ st.term
  t1 : st.term ≤ 8 + 2 * j
  a : a ≤ j
  b : b ≤ j
structure HI (P : OP) (j : Nat) (g : GH) (w : World) : Prop where
  hall : Blk w P.H (P.hall g.SD g.sv g.bv g.gv) 65
  cH : g.c P.H = 1
  disk : Blk w g.SD [.pointer (some ⟨g.D, 0, none⟩)] 135
  cSD : g.c g.SD = 2
  dsk : DSk P.lo g.D g.st w g.F
  cF : ∀ q, g.F q → g.c q = 3
  rs : w.ownsRow P.lo 67 1 g.sv g.Ss.length (ptrs g.Ss)
  cs : ∀ q, g.sv.ownBlock = some q → g.c q = 4
  rb : w.ownsRow P.lo 3 1 g.bv g.Ss.length g.ys
  cb : ∀ q, g.bv.ownBlock = some q → g.c q = 5
  rg : w.ownsRow P.lo 173 2 g.gv g.L.length (givC g.L)
  cg : ∀ q, g.gv.ownBlock = some q → g.c q = 6
  mem : ∀ (i : Nat) (s : SgD), g.Ss[i]? = some s → Blk w s.G [.pointer (some ⟨s.S, 0, none⟩)] 142 ∧ Blk w s.S (P.cells s) 188 ∧ g.c s.G = 2 ∧ g.c s.S = 7 + i ∧ P.lo ≤ s.S
  who : ∀ (i : Nat) (s : SgD), g.Ss[i]? = some s → P.seed s.z1 s.z2 s.z3 ∧ 1 ≤ s.bat ∧ s.bat ≤ 64
  dd : ∀ (i : Nat) (s : SgD), g.Ss[i]? = some s → (∃ tm2, g.c s.D = 2 ∧ s.D < w.heap.size ∧ w.cell? ⟨s.D, 5, none⟩ = some (.int .i64 tm2) ∧ (s.ov = true ∨ s.tm ≠ tm2)) ∨ (s.D = g.D ∧ s.tm ≤ g.st.term)
  lv : ∀ (i : Nat) (s : SgD), g.Ss[i]? = some s → s.D = g.D → s.tm = g.st.term → s.ov = false → i + 1 = g.Ss.length ∧ Live P g.jid g.sq g.sb g.gone s
  ji : JI P.tot g.st g.jid g.sq g.sb
  gs : g.gone ≤ g.sb
  gl : ∀ p ∈ g.L, p.2 < g.gone
  low : Below P.lo P.Wd w
  big : P.lo ≤ w.heap.size
  stn : g.st.n = P.n
  cnt : Cnt j g.st g.Ss.length g.L.length

section
variable {P : OP} {j : Nat} {g : GH} {w w' : World}
theorem HI.T (K : OPk P) (h : HI P j g w) : Tn w := K.T.below h.low K.TB
theorem HI.below (h : HI P j g w) (hb : Below w.heap.size w w') : HI P j g w' := by
  have hk : Kept (fun _ => False) w w' := Kept.of_below hb
  exact ⟨h.hall.on hb, h.cH, h.disk.on hb, h.cSD, h.dsk.below hb, h.cF, owns_kept h.rs hk (fun _ _ e => e), h.cs, owns_kept h.rb hk (fun _ _ e => e), h.cb, owns_kept h.rg hk (fun _ _ e => e), h.cg,
    fun i s e => by obtain ⟨a, b, c⟩ := h.mem i s e; exact ⟨a.on hb, b.on hb, c⟩, h.who,
    fun i s e => by
      rcases h.dd i s e with ⟨tm2, a, b, c, d⟩ | a
      · exact .inl ⟨tm2, a, Nat.lt_of_lt_of_le b hb.size, (hb.cell (p := ⟨s.D, 5, none⟩) b).trans c, d⟩
      · exact .inr a,
    h.lv, h.ji, h.gs, h.gl, h.low.trans (hb.mono h.big), Nat.le_trans h.big hb.size, h.stn, h.cnt⟩
theorem Cnt.mono {j j' : Nat} {st : DSt} {a b : Nat} (h : Cnt j st a b) (hj : j ≤ j') : Cnt j' st a b := ⟨h.w0, by have := h.w1; omega, h.y0, by have := h.y1; omega, h.t0, by have := h.t1; omega, Nat.le_trans h.a hj, Nat.le_trans h.b hj⟩
theorem HI.next (h : HI P j g w) : HI P (j + 1) g w := ⟨h.hall, h.cH, h.disk, h.cSD, h.dsk, h.cF, h.rs, h.cs, h.rb, h.cb, h.rg, h.cg, h.mem, h.who, h.dd, h.lv, h.ji, h.gs, h.gl, h.low, h.big, h.stn, h.cnt.mono (Nat.le_succ j)⟩
theorem HI.nF (h : HI P j g w) {q : Nat} (hc : g.c q ≠ 3) : ¬ g.F q := fun e => hc (h.cF q e)
theorem HI.nH (h : HI P j g w) : ¬ g.F P.H := h.nF (by rw [h.cH]; decide)
theorem HI.nSD (h : HI P j g w) : ¬ g.F g.SD := h.nF (by rw [h.cSD]; decide)

/-- The colours of the new blocks. -/
def paint (c : Nat → Nat) (z : Nat) (d : Nat → Nat) : Nat → Nat := fun q => if q < z then c q else d q
theorem paint_lt {c : Nat → Nat} {z : Nat} {d : Nat → Nat} {q : Nat} (h : q < z) : paint c z d q = c q := if_pos h
theorem paint_ge {c : Nat → Nat} {z : Nat} {d : Nat → Nat} {q : Nat} (h : z ≤ q) : paint c z d q = d q := if_neg (by omega)

/-- The disk had a turn. -/
theorem HI.turnD (h : HI P j g w) {st2 : DSt} {jid2 : ByteArray} {sq2 sb2 : Nat} {F' : Nat → Prop} (dn : Nat → Nat) (d' : DSk P.lo g.D st2 w' F') (k' : Kept g.F w w') (f' : ∀ q, F' q → g.F q ∨ w.heap.size ≤ q) (hdn : ∀ q, F' q → w.heap.size ≤ q → dn q = 3) (hJ : JI P.tot st2 jid2 sq2 sb2) (hg : g.gone ≤ sb2) (hn : st2.n = P.n)
    (ht : g.st.term < st2.term ∨ st2.term = g.st.term ∧ jid2 = g.jid ∧ sq2 = g.sq ∧ sb2 = g.sb) (hc : Cnt (j + 1) st2 g.Ss.length g.L.length) :
    ∃ c', HI P (j + 1) { g with c := c', F := F', st := st2, jid := jid2, sq := sq2, sb := sb2 } w' ∧ (∀ q, q < w.heap.size → c' q = g.c q) ∧ (∀ q, w.heap.size ≤ q → c' q = dn q) := by
  have hl : DL P.lo g.D st2 g.F w w' := ⟨F', d', k', f'⟩
  have bH := hl.blk h.hall h.nH
  have bD := hl.blk h.disk h.nSD
  have lt1 := h.hall.lt
  have lt2 := h.disk.lt
  obtain ⟨c', hc1, hc2⟩ : ∃ c' : Nat → Nat, (∀ q, q < w.heap.size → c' q = g.c q) ∧ (∀ q, w.heap.size ≤ q → c' q = dn q) := ⟨paint g.c w.heap.size dn, fun q hq => paint_lt hq, fun q hq => paint_ge hq⟩
  refine ⟨c', ⟨bH, ?_, bD, ?_, d', ?_, ?_, ?_, ?_, ?_, ?_, ?_, ?_, h.who, ?_, ?_, hJ, hg, h.gl, ?_, ?_, hn, hc⟩, hc1, hc2⟩
  · exact (hc1 _ (lt1)).trans (h.cH)
  · exact (hc1 _ (lt2)).trans (h.cSD)
  · intro q hq
    by_cases hz : q < w.heap.size
    · refine (hc1 _ (hz)).trans ?_
      rcases f' q hq with e | e
      · exact h.cF q e
      · omega
    · exact (hc2 q (by omega)).trans (hdn q hq (by omega))
  · exact owns_kept h.rs k' (fun q e => h.nF (by rw [h.cs q e]; decide))
  · intro q hq
    exact (hc1 _ ((h.rs.lt q hq).2)).trans (h.cs q hq)
  · exact owns_kept h.rb k' (fun q e => h.nF (by rw [h.cb q e]; decide))
  · intro q hq
    exact (hc1 _ ((h.rb.lt q hq).2)).trans (h.cb q hq)
  · exact owns_kept h.rg k' (fun q e => h.nF (by rw [h.cg q e]; decide))
  · intro q hq
    exact (hc1 _ ((h.rg.lt q hq).2)).trans (h.cg q hq)
  · intro i s e
    obtain ⟨m1, m2, m3, m4, m5⟩ := h.mem i s e
    refine ⟨?_, ?_, ?_, ?_, m5⟩
    · unfold Blk at m1 ⊢
      rw [k'.block s.G (Blk.lt m1) (h.nF (by rw [m3]; decide))]; exact m1
    · unfold Blk at m2 ⊢
      rw [k'.block s.S (Blk.lt m2) (h.nF (by rw [m4]; omega))]; exact m2
    · exact (hc1 _ (m1.lt)).trans (m3)
    · exact (hc1 _ (m2.lt)).trans (m4)
  · intro i s e
    rcases h.dd i s e with ⟨tm2, a, b, c, d⟩ | ⟨a, b⟩
    · exact .inl ⟨tm2, (hc1 _ (b)).trans a, Nat.lt_of_lt_of_le b k'.size, (k'.cell (p := ⟨s.D, 5, none⟩) b (h.nF (by rw [a]; decide))).trans c, d⟩
    · exact .inr ⟨a, by show s.tm ≤ st2.term; rcases ht with e | ⟨e, _⟩ <;> omega⟩
  · intro i s e hD htm hov
    have htm' : s.tm = st2.term := htm
    rcases ht with e2 | ⟨e2, rfl, rfl, rfl⟩
    · exfalso
      rcases h.dd i s e with ⟨tm2, a, b, c, d⟩ | ⟨a, b⟩
      · have := h.cF g.D h.dsk.self
        have hD' : s.D = g.D := hD
        rw [hD', this] at a
        exact absurd a (by decide)
      · omega
    · exact h.lv i s e hD (by omega) hov
  · exact h.low.trans (k'.below (fun q e => (h.dsk.lt q e).1) h.big)
  · exact Nat.le_trans h.big k'.size
theorem HI.turn (h : HI P j g w) {st2 : DSt} {jid2 : ByteArray} {sq2 sb2 : Nat} (hl : DL P.lo g.D st2 g.F w w') (hJ : JI P.tot st2 jid2 sq2 sb2) (hg : g.gone ≤ sb2) (hn : st2.n = P.n)
    (ht : g.st.term < st2.term ∨ st2.term = g.st.term ∧ jid2 = g.jid ∧ sq2 = g.sq ∧ sb2 = g.sb) (hc : Cnt (j + 1) st2 g.Ss.length g.L.length) : ∃ g', HI P (j + 1) g' w' := by
  obtain ⟨F', d', k', f'⟩ := hl
  obtain ⟨c', hh, _⟩ := h.turnD (fun _ => 3) d' k' f' (fun _ _ _ => rfl) hJ hg hn ht hc
  exact ⟨_, hh⟩
end
end Go.Proofs.YtgaoeoijdpdjiabGreatDoor
