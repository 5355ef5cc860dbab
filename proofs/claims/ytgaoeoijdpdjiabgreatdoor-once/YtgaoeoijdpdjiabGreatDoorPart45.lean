/-
  The steps of the disk, over the hall's invariant.
-/
import Derived.Test.YtgaoeoijdpdjiabGreatDoorPart44
namespace Go.Proofs.YtgaoeoijdpdjiabGreatDoor
open Go.RowKit

/-- How far a disk's counters went. -/
structure Nr (st st2 : DSt) (a b : Nat) : Prop where
  w1 : st.writes ≤ st2.writes
  w2 : st2.writes ≤ st.writes + a
  y1 : st.syncs ≤ st2.syncs
  y2 : st2.syncs ≤ st.syncs + b
  n : st2.n = st.n
  t : st2.term = st.term
theorem Nr.trans {s1 s2 s3 : DSt} {a b c d : Nat} (h : Nr s1 s2 a b) (k : Nr s2 s3 c d) : Nr s1 s3 (a + c) (b + d) := ⟨by have := h.w1; have := k.w1; omega, by have := h.w2; have := k.w2; omega, by have := h.y1; have := k.y1; omega, by have := h.y2; have := k.y2; omega, k.n.trans h.n, k.t.trans h.t⟩
theorem Nr.mono {s1 s2 : DSt} {a b c d : Nat} (h : Nr s1 s2 a b) (h1 : a ≤ c) (h2 : b ≤ d) : Nr s1 s2 c d := ⟨h.w1, by have := h.w2; omega, h.y1, by have := h.y2; omega, h.n, h.t⟩
theorem Nr.refl (st : DSt) : Nr st st 0 0 := ⟨by omega, by omega, by omega, by omega, rfl, rfl⟩
theorem nr_sync (st : DSt) : Nr st (sySt st) 0 1 := by
  unfold sySt
  split
  · exact ⟨by show st.writes ≤ st.writes; omega, by show st.writes ≤ st.writes + _; omega, by show st.syncs ≤ st.syncs; omega, by show st.syncs ≤ st.syncs + _; omega, rfl, rfl⟩
  · exact ⟨by show st.writes ≤ st.writes; omega, by show st.writes ≤ st.writes + _; omega, by show st.syncs ≤ st.syncs + 1; omega, by show st.syncs + 1 ≤ st.syncs + _; omega, rfl, rfl⟩
theorem nr_read (st : DSt) (i : Int) : Nr st (rdSt st i) 0 0 := by
  unfold rdSt
  split
  · exact Nr.refl st
  · exact ⟨by show st.writes ≤ st.writes; omega, by show st.writes ≤ st.writes + _; omega, by show st.syncs ≤ st.syncs; omega, by show st.syncs ≤ st.syncs + _; omega, rfl, rfl⟩
theorem nr_write (st : DSt) (i : Int) (t : ByteArray) : Nr st (wrSt st i t) 1 0 := by
  unfold wrSt
  split
  · exact (Nr.refl st).mono (by decide) (by decide)
  split
  · exact (Nr.refl st).mono (by decide) (by decide)
  split
  · exact ⟨by show st.writes ≤ st.writes; omega, by show st.writes ≤ st.writes + _; omega, by show st.syncs ≤ st.syncs; omega, by show st.syncs ≤ st.syncs + _; omega, rfl, rfl⟩
  · exact ⟨by show st.writes ≤ st.writes + 1; omega, by show st.writes + 1 ≤ st.writes + _; omega, by show st.syncs ≤ st.syncs; omega, by show st.syncs ≤ st.syncs + _; omega, rfl, rfl⟩
theorem nr_ops (st : DSt) (j : Nat) : Nr st (opS st j) 0 1 := by
  match j with
  | 0 => exact (Nr.refl st).mono (by decide) (by decide)
  | 1 => exact nr_sync st
  | 2 => exact ((nr_sync st).trans (nr_read _ 0)).mono (by decide) (by decide)
  | j + 3 => exact (((nr_sync st).trans (nr_read _ 0)).trans (nr_read _ 1)).mono (by decide) (by decide)
theorem nr_open (st : DSt) : Nr st (opSt st) 0 1 := by
  unfold opSt
  split
  · exact nr_ops st 1
  split
  · exact nr_ops st 2
  · exact nr_ops st 3
theorem nr_mkT (st : DSt) (id : ByteArray) : Nr st (mkT st id) 1 1 := ((nr_ops st 3).trans (nr_write _ _ _)).mono (by decide) (by decide)
theorem nr_make (st : DSt) (id : ByteArray) : Nr st (mkSt st id) 1 2 := by
  unfold mkSt
  split
  · exact (nr_ops st 1).mono (by decide) (by decide)
  split
  · exact (nr_ops st 2).mono (by decide) (by decide)
  split
  · exact (nr_ops st 3).mono (by decide) (by decide)
  split
  · exact (nr_ops st 3).mono (by decide) (by decide)
  split
  · exact (nr_mkT st id).mono (by decide) (by decide)
  · exact ((nr_mkT st id).trans (nr_sync _)).mono (by decide) (by decide)

section
variable {P : OP} {j : Nat} {g : GH} {w w' : World}
theorem HI.cntN (h : HI P j g w) {st2 : DSt} {a b : Nat} (hr : Nr g.st st2 a b) (ha : a ≤ 2) (hb : b ≤ 2) : Cnt (j + 1) st2 g.Ss.length g.L.length := by
  have c := h.cnt
  have := c.w0; have := c.w1; have := c.y0; have := c.y1; have := c.t0; have := c.t1; have := c.a; have := c.b
  have := hr.w1; have := hr.w2; have := hr.y1; have := hr.y2; have := hr.t
  exact ⟨by omega, by omega, by omega, by omega, by omega, by omega, by omega, by omega⟩

/-- The list of a step, as it came in. -/
structure KOk (P : OP) (V : World) (kv : Value) (K : List Bool) : Prop where
  b : BoolsAt V kv K
  l : K.length ≤ maxLen
  o : ∀ b o l c, kv = .slice (some ⟨b, o, none⟩) l c → 0 < l → b < P.lo
theorem KOk.on {kv : Value} {K : List Bool} (h : KOk P P.Wd kv K) (_hlo : P.lo ≤ P.Wd.heap.size) (hb : Below P.lo P.Wd w) : KOk P w kv K := by
  refine ⟨?_, h.l, h.o⟩
  rcases h.b with ⟨e, e2⟩ | ⟨b, o, cap, e, hc, hcell⟩
  · exact .inl ⟨e, e2⟩
  · refine .inr ⟨b, o, cap, e, hc, fun i y hy => ?_⟩
    have hl : b < P.lo := h.o b o _ _ e (by have := (List.getElem?_eq_some_iff.1 hy).1; omega)
    exact (hb.cell (p := ⟨b, o + i, none⟩) hl).trans (hcell i y hy)
theorem HI.keepOk (h : HI P j g w) {kv : Value} {K : List Bool} (hK : KOk P w kv K) : ∀ b o l c, kv = .slice (some ⟨b, o, none⟩) l c → 0 < l → b < w.heap.size ∧ ¬ g.F b := fun b o l c e h0 => by
  have hb := hK.o b o l c e h0
  refine ⟨Nat.lt_of_lt_of_le hb h.big, fun hf => ?_⟩
  have := (h.dsk.lt b hf).1
  omega

theorem dl_keptF {lo D : Nat} {st : DSt} {F : Nat → Prop} (h : DL lo D st F w w') : Kept F w w' := by obtain ⟨_, _, k, _⟩ := h; exact k

set_option maxHeartbeats 1000000 in
theorem do_disk (Kp : OPk P) (h : HI P j g w) (hj : j ≤ 2199023255552) (hlo : P.lo ≤ P.Wd.heap.size) (kd a bb : Int) (tx : ByteArray) (ka : Option Addr) (kn kc : Nat) (K : List Bool) (bt c : Nat) (hk1 : -9223372036854775808 ≤ kd) (hk2 : kd ≤ 9223372036854775807) (ha1 : -9223372036854775808 ≤ a) (ha2 : a ≤ 9223372036854775807) (hb1 : -9223372036854775808 ≤ bb) (hb2 : bb ≤ 9223372036854775807) (hts : tx.size ≤ maxLen) (hK : KOk P P.Wd (.slice ka kn kc) K) (hbt : pickZ bb 64 = bt) (hbt2 : bt < 64) (hk : pickZ kd 9 = c) (hc : 3 < c) (hc9 : c < 9)
    (hpk : ∀ n : Nat, 1 ≤ n → ∃ p : Nat, pickZ a n = p ∧ p < n) (hp8 : 0 ≤ pickZ bb 8 ∧ pickZ bb 8 < 8) :
    Calls Tryz.prog 19 #[.pointer (some ⟨P.H, 0, none⟩), .agg #[.int .i64 kd, .int .i64 a, .int .i64 bb, .string tx, .slice ka kn kc], .int .i64 P.n] w fun e w' => e = .returned (.bool true) ∧ ∃ g', HI P (j + 1) g' w' := by
  refine step_disk P.H g.SD P.k P.b P.x P.t P.l P.s1 P.s2 P.s3 P.o1 P.o2 P.o3 g.sv g.bv g.gv kd a bb tx ka kn kc P.n bt _ w h.hall hk1 hk2 hb1 hb2 hbt hbt2 c hk hc hc9 (fun V hbV => ?_)
  have hV := h.below hbV
  have cn := h.cnt
  have t0 := cn.t0
  have t1 := cn.t1
  have y0 := cn.y0
  have y1 := cn.y1
  have w0 := cn.w0
  have w1 := cn.w1
  match c, hc, hc9, hk with
  | 4, _, _, hk =>
    refine disk_crash P.H g.SD P.k P.b P.x P.t P.l P.s1 P.s2 P.s3 P.o1 P.o2 P.o3 g.sv g.bv g.gv kd a bb tx ka kn kc P.n g.F _ V hV.hall hk1 hk2 hk hV.nH (fun i hi => (hV.dsk.lt i hi).2) (fun V2 hb2 => ?_)
    have h2 := hV.below hb2
    have hK2 := hK.on hlo h2.low
    refine (skCrash_on g.SD g.D ka kn kc _ V2 h2.disk (dcrash_any P.lo g.D g.st g.F (.slice ka kn kc) K V2 h2.dsk hK2.b hK2.l (h2.keepOk hK2) t0 (by omega))).mono ?_
    rintro e w' ⟨rfl, hl⟩
    refine ⟨rfl, dl_keptF hl, h2.turn hl (h2.ji.crash K) h2.gs h2.stn (.inl (by show g.st.term < g.st.term + 1; omega)) ?_⟩
    have := cn.a; have := cn.b
    exact ⟨w0, by show g.st.writes ≤ _; omega, y0, by show g.st.syncs ≤ _; omega, by show 0 ≤ g.st.term + 1; omega, by show g.st.term + 1 ≤ _; omega, by omega, by omega⟩
  | 5, _, _, hk =>
    refine disk_trouble P.H g.SD P.k P.b P.x P.t P.l P.s1 P.s2 P.s3 P.o1 P.o2 P.o3 g.sv g.bv g.gv kd a bb tx ka kn kc P.n g.F _ V hV.hall hk1 hk2 hk hb1 hb2 hV.nH (fun i hi => (hV.dsk.lt i hi).2) (fun V2 hb2 => ?_)
    have h2 := hV.below hb2
    refine (skTrouble_on g.SD g.D _ _ _ V2 h2.disk (dtrouble_any P.lo g.D g.st g.F (pickZ bb 8) V2 h2.dsk hp8.1 (by omega))).mono ?_
    rintro e w' ⟨rfl, hl⟩
    refine ⟨rfl, dl_keptF hl, h2.turn hl (h2.ji.trouble _) h2.gs h2.stn (.inr ⟨rfl, rfl, rfl, rfl⟩) ?_⟩
    exact cn.mono (Nat.le_succ j) |> fun c => ⟨c.w0, c.w1, c.y0, c.y1, c.t0, c.t1, c.a, c.b⟩
  | 6, _, _, hk =>
    refine disk_sync P.H g.SD P.k P.b P.x P.t P.l P.s1 P.s2 P.s3 P.o1 P.o2 P.o3 g.sv g.bv g.gv kd a bb tx ka kn kc P.n _ V hV.hall hk1 hk2 hk (fun V2 hb2 => ?_)
    have h2 := hV.below hb2
    refine (skSync_on g.SD g.D _ _ V2 h2.disk (dsync_any P.lo g.D g.st g.F V2 h2.dsk y0 (by omega))).mono ?_
    rintro e w' ⟨rfl, hl⟩
    exact ⟨⟨_, rfl⟩, h2.turn hl h2.ji.sync h2.gs ((nr_sync _).n.trans h2.stn) (.inr ⟨(nr_sync _).t, rfl, rfl, rfl⟩) (h2.cntN (nr_sync _) (by decide) (by decide))⟩
  | 7, _, _, hk =>
    have hn2 := Kp.n2
    have hn8 := Kp.n8
    by_cases hn : P.n ≤ 2
    · refine (disk_none P.H g.SD P.k P.b P.x P.t P.l P.s1 P.s2 P.s3 P.o1 P.o2 P.o3 g.sv g.bv g.gv kd a bb tx ka kn kc P.n V hV.hall hk1 hk2 hk hn).mono ?_
      rintro e w' ⟨rfl, hb⟩
      exact ⟨rfl, g, (hV.below hb).next⟩
    · obtain ⟨m, hm⟩ : ∃ m, P.n = m + 2 := ⟨P.n - 2, by omega⟩
      obtain ⟨p, hp, hp2⟩ := hpk m (by omega)
      refine disk_write P.H g.SD P.k P.b P.x P.t P.l P.s1 P.s2 P.s3 P.o1 P.o2 P.o3 g.sv g.bv g.gv kd a bb tx ka kn kc P.n g.F _ V hV.hall hk1 hk2 hk ha1 ha2 hts m hm (by omega) (by omega) p hp hp2 hV.nH (fun i hi => (hV.dsk.lt i hi).2) (fun V2 hb2 => ?_)
      have h2 := hV.below hb2
      refine (skWrite_on g.SD g.D _ _ _ _ V2 h2.disk (dwrite_any P.lo g.D g.st g.F (2 + (p : Int)) (someB tx 32) V2 h2.dsk h2.big w0 (by omega))).mono ?_
      rintro e w' ⟨rfl, hl⟩
      exact ⟨⟨_, rfl⟩, dl_keptF hl, h2.turn hl (h2.ji.beyond _ _ (by omega)) h2.gs ((nr_write _ _ _).n.trans h2.stn) (.inr ⟨(nr_write _ _ _).t, rfl, rfl, rfl⟩) (h2.cntN (nr_write _ _ _) (by decide) (by decide))⟩
  | 8, _, _, hk =>
    refine disk_moves P.H g.SD P.k P.b P.x P.t P.l P.s1 P.s2 P.s3 P.o1 P.o2 P.o3 g.sv g.bv g.gv kd a bb tx ka kn kc P.n _ V hV.hall hk1 hk2 hk (fun V2 hb2 => ?_)
    have h2 := hV.below hb2
    have hK2 := hK.on hlo h2.low
    rw [← h2.stn]
    refine (moves_on P.lo P.H g.SD g.D P.k P.b P.x P.t P.l P.s1 P.s2 P.s3 P.o1 P.o2 P.o3 g.sv g.bv g.gv g.st g.F ka kn kc K V2 h2.hall h2.disk h2.dsk h2.nH h2.nSD h2.big hK2.b hK2.l (h2.keepOk hK2) t0 (by omega)).mono ?_
    rintro e w' ⟨rfl, SD2, D2, F2, q1, q2, q3, q4, q5, q6, q7, q8⟩
    have hJ : JI P.tot (mvSt g.st K) g.jid g.sq g.sb := (h2.ji.crash K).same rfl rfl rfl
    refine ⟨rfl, h2.moved q1 q2 q3 q4 q5 q6 q7 q8 hJ h2.stn Kp.lH ?_⟩
    have := cn.a; have := cn.b
    have e1 : g.st.n = P.n := h2.stn
    have := Kp.n8
    exact ⟨by show (0 : Int) ≤ (g.st.n : Int); omega, by show (g.st.n : Int) ≤ _; omega, by show (0 : Int) ≤ 1; omega, by show (1 : Int) ≤ _; omega, by show (0 : Int) ≤ 0; omega, by show (0 : Int) ≤ _; omega, by omega, by omega⟩
end
end Go.Proofs.YtgaoeoijdpdjiabGreatDoor
