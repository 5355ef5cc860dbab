/-
  The hall, when a signer signs, comes, gives away; when the disk moves.
-/
import Derived.Test.YtgaoeoijdpdjiabGreatDoorPart43
namespace Go.Proofs.YtgaoeoijdpdjiabGreatDoor
open Go.RowKit

section
variable {P : OP} {j : Nat} {g : GH} {w w' : World}
theorem blk_kept {X : Nat → Prop} {b : Nat} {vs : List Value} {T : TypeId} (h : Blk w b vs T) (hk : Kept X w w') (hn : ¬ X b) : Blk w' b vs T := by
  unfold Blk at h ⊢
  rw [hk.block b (Blk.lt h) hn]; exact h

/-- The signer number i had a turn, and the disk. -/
theorem HI.change (h : HI P j g w) {i : Nat} {s s' : SgD} (hs : g.Ss[i]? = some s) (eG : s'.G = s.G) (eS : s'.S = s.S) (eD : s'.D = s.D) (et : s'.tm = s.tm) (ew : P.seed s'.z1 s'.z2 s'.z3 ∧ 1 ≤ s'.bat ∧ s'.bat ≤ 64) (hD : s.D = g.D) (hi : i + 1 = g.Ss.length)
    {st2 : DSt} {F' : Nat → Prop} {sq2 sb2 gone2 : Nat} (hB : Blk w' s.S (P.cells s') 188) (hd : DSk P.lo g.D st2 w' F') (hk : Kept (fun q => q = s.S ∨ g.F q) w w') (hf : ∀ q, F' q → g.F q ∨ w.heap.size ≤ q)
    (hJ : JI P.tot st2 g.jid sq2 sb2) (hg1 : g.gone ≤ gone2) (hg2 : gone2 ≤ sb2) (hn : st2.n = P.n) (ht : st2.term = g.st.term) (hl : s'.ov = false → Live P g.jid sq2 sb2 gone2 s') (hc : Cnt (j + 1) st2 g.Ss.length g.L.length) :
    ∃ c', HI P (j + 1) { g with c := c', F := F', st := st2, sq := sq2, sb := sb2, gone := gone2, Ss := g.Ss.set i s' } w' := by
  obtain ⟨c', hc1, hc2⟩ : ∃ c' : Nat → Nat, (∀ q, q < w.heap.size → c' q = g.c q) ∧ (∀ q, w.heap.size ≤ q → c' q = 3) := ⟨paint g.c w.heap.size (fun _ => 3), fun q hq => paint_lt hq, fun q hq => paint_ge hq⟩
  obtain ⟨m1, m2, m3, m4, m5⟩ := h.mem i s hs
  have hil : i < g.Ss.length := (List.getElem?_eq_some_iff.1 hs).1
  have nX : ∀ q, g.c q ≠ 3 → g.c q ≠ 7 + i → ¬ (q = s.S ∨ g.F q) := fun q a b e => by
    rcases e with e | e
    · exact b (by rw [e]; exact m4)
    · exact a (h.cF q e)
  have hlen : (g.Ss.set i s').length = g.Ss.length := List.length_set ..
  have hptr : ptrs (g.Ss.set i s') = ptrs g.Ss := by
    unfold ptrs
    rw [List.map_set, eG]
    refine List.ext_getElem? (fun q => ?_)
    rw [List.getElem?_set]
    split
    · rename_i e
      subst e
      rw [if_pos (by simpa using hil), List.getElem?_map, hs]; rfl
    · rfl
  refine ⟨c', ⟨blk_kept h.hall hk (nX _ (by rw [h.cH]; decide) (by rw [h.cH]; omega)), (hc1 _ h.hall.lt).trans h.cH, blk_kept h.disk hk (nX _ (by rw [h.cSD]; decide) (by rw [h.cSD]; omega)), (hc1 _ h.disk.lt).trans h.cSD, hd, ?_, ?_, ?_, ?_, ?_, ?_, ?_, ?_, ?_, ?_, ?_, hJ, hg2, ?_, ?_, ?_, hn, ?_⟩⟩
  · intro q hq
    by_cases hz : q < w.heap.size
    · refine (hc1 _ hz).trans ?_
      rcases hf q hq with e | e
      · exact h.cF q e
      · omega
    · exact hc2 q (by omega)
  · show w'.ownsRow P.lo _ 1 g.sv (g.Ss.set i s').length (ptrs (g.Ss.set i s'))
    rw [hlen, hptr]
    exact owns_kept h.rs hk (fun q e => nX q (by rw [h.cs q e]; decide) (by rw [h.cs q e]; omega))
  · exact fun q e => (hc1 _ (h.rs.lt q e).2).trans (h.cs q e)
  · show w'.ownsRow P.lo _ 1 g.bv (g.Ss.set i s').length g.ys
    rw [hlen]
    exact owns_kept h.rb hk (fun q e => nX q (by rw [h.cb q e]; decide) (by rw [h.cb q e]; omega))
  · exact fun q e => (hc1 _ (h.rb.lt q e).2).trans (h.cb q e)
  · exact owns_kept h.rg hk (fun q e => nX q (by rw [h.cg q e]; decide) (by rw [h.cg q e]; omega))
  · exact fun q e => (hc1 _ (h.rg.lt q e).2).trans (h.cg q e)
  · intro i2 s2 hs2
    by_cases e : i = i2
    · subst e
      have e2 : (g.Ss.set i s')[i]? = some s2 := hs2
      rw [List.getElem?_set_self hil] at e2
      cases e2
      rw [eG, eS]
      exact ⟨blk_kept m1 hk (nX _ (by rw [m3]; decide) (by rw [m3]; omega)), hB, (hc1 _ m1.lt).trans m3, (hc1 _ m2.lt).trans m4, m5⟩
    · have e2 : (g.Ss.set i s')[i2]? = some s2 := hs2
      rw [List.getElem?_set_ne e] at e2
      obtain ⟨p1, p2, p3, p4, p5⟩ := h.mem i2 s2 e2
      exact ⟨blk_kept p1 hk (nX _ (by rw [p3]; decide) (by rw [p3]; omega)), blk_kept p2 hk (nX _ (by rw [p4]; omega) (by rw [p4]; omega)), (hc1 _ p1.lt).trans p3, (hc1 _ p2.lt).trans p4, p5⟩
  · intro i2 s2 hs2
    by_cases e : i = i2
    · subst e
      have e2 : (g.Ss.set i s')[i]? = some s2 := hs2
      rw [List.getElem?_set_self hil] at e2
      cases e2
      exact ew
    · have e2 : (g.Ss.set i s')[i2]? = some s2 := hs2
      rw [List.getElem?_set_ne e] at e2
      exact h.who i2 s2 e2
  · intro i2 s2 hs2
    by_cases e : i = i2
    · subst e
      have e2 : (g.Ss.set i s')[i]? = some s2 := hs2
      rw [List.getElem?_set_self hil] at e2
      cases e2
      refine .inr ⟨by rw [eD]; exact hD, ?_⟩
      show s'.tm ≤ st2.term
      rw [et, ht]
      rcases h.dd i s hs with ⟨tm2, a, _⟩ | ⟨_, b⟩
      · rw [hD, h.cF g.D h.dsk.self] at a
        exact absurd a (by decide)
      · exact b
    · have e2 : (g.Ss.set i s')[i2]? = some s2 := hs2
      rw [List.getElem?_set_ne e] at e2
      rcases h.dd i2 s2 e2 with ⟨tm2, a, b, c, d⟩ | ⟨a, b⟩
      · exact .inl ⟨tm2, (hc1 _ b).trans a, Nat.lt_of_lt_of_le b hk.size, (hk.cell (p := ⟨s2.D, 5, none⟩) b (nX _ (by rw [a]; decide) (by rw [a]; omega))).trans c, d⟩
      · exact .inr ⟨a, by show s2.tm ≤ st2.term; omega⟩
  · intro i2 s2 hs2 hD2 htm2 hov
    by_cases e : i = i2
    · subst e
      have e2 : (g.Ss.set i s')[i]? = some s2 := hs2
      rw [List.getElem?_set_self hil] at e2
      cases e2
      exact ⟨by show i + 1 = (g.Ss.set i s').length; rw [hlen]; exact hi, hl hov⟩
    · have e2 : (g.Ss.set i s')[i2]? = some s2 := hs2
      rw [List.getElem?_set_ne e] at e2
      have htm' : s2.tm = st2.term := htm2
      have := (h.lv i2 s2 e2 hD2 (by omega) hov).1
      omega
  · exact fun p hp => by have := h.gl p hp; show p.2 < (gone2 : Int); omega
  · exact h.low.trans (hk.below (fun q e => by
      rcases e with rfl | e
      · exact m5
      · exact (h.dsk.lt q e).1) h.big)
  · exact Nat.le_trans h.big hk.size
  · show Cnt (j + 1) st2 (g.Ss.set i s').length g.L.length
    rw [hlen]; exact hc

/-- An index is given away. -/
theorem HI.give (h : HI P j g w) {key : ByteArray} {idx : Nat} (hx : idx < g.gone) {gb cap j' : Nat} (hr : w'.ownsRow P.lo 173 2 (.slice (some ⟨gb, 0, none⟩) (g.L.length + 1) cap) (g.L.length + 1) (givC (g.L ++ [(key, (idx : Int))])))
    (hH : Blk w' P.H (P.hall g.SD g.sv g.bv (.slice (some ⟨gb, 0, none⟩) (g.L.length + 1) cap)) 65) (hk : Kept (fun q => q = P.H ∨ g.gv.ownBlock = some q) w w') (ha : g.gv.ownBlock = some gb ∨ w.heap.size ≤ gb) (lH : P.lo ≤ P.H) (hc : Cnt j' g.st g.Ss.length (g.L.length + 1)) :
    ∃ g', HI P j' g' w' := by
  obtain ⟨c', hc1, hc2⟩ : ∃ c' : Nat → Nat, (∀ q, q < w.heap.size → c' q = g.c q) ∧ (∀ q, w.heap.size ≤ q → c' q = 6) := ⟨paint g.c w.heap.size (fun _ => 6), fun q hq => paint_lt hq, fun q hq => paint_ge hq⟩
  have nX : ∀ q, g.c q ≠ 1 → g.c q ≠ 6 → ¬ (q = P.H ∨ g.gv.ownBlock = some q) := fun q a b e => by
    rcases e with e | e
    · exact a (by rw [e]; exact h.cH)
    · exact b (h.cg q e)
  refine ⟨{ g with c := c', gv := .slice (some ⟨gb, 0, none⟩) (g.L.length + 1) cap, L := g.L ++ [(key, (idx : Int))] }, hH, (hc1 _ h.hall.lt).trans h.cH, blk_kept h.disk hk (nX _ (by rw [h.cSD]; decide) (by rw [h.cSD]; decide)), (hc1 _ h.disk.lt).trans h.cSD, h.dsk.kept hk (fun q e => nX q (by rw [h.cF q e]; decide) (by rw [h.cF q e]; decide)), fun q e => (hc1 _ (h.dsk.lt q e).2).trans (h.cF q e), owns_kept h.rs hk (fun q e => nX q (by rw [h.cs q e]; decide) (by rw [h.cs q e]; decide)), fun q e => (hc1 _ (h.rs.lt q e).2).trans (h.cs q e), owns_kept h.rb hk (fun q e => nX q (by rw [h.cb q e]; decide) (by rw [h.cb q e]; decide)), fun q e => (hc1 _ (h.rb.lt q e).2).trans (h.cb q e), ?_, ?_, ?_, h.who, ?_, h.lv, h.ji, h.gs, ?_, ?_, ?_, h.stn, ?_⟩
  · show w'.ownsRow P.lo _ 2 _ (g.L ++ [(key, (idx : Int))]).length _
    rw [List.length_append]
    exact hr
  · intro q e
    have e' : gb = q := by simpa [Value.ownBlock] using e
    subst e'
    rcases ha with e2 | e2
    · exact (hc1 _ (h.rg.lt gb e2).2).trans (h.cg gb e2)
    · exact hc2 gb e2
  · intro i s hs
    obtain ⟨p1, p2, p3, p4, p5⟩ := h.mem i s hs
    exact ⟨blk_kept p1 hk (nX _ (by rw [p3]; decide) (by rw [p3]; decide)), blk_kept p2 hk (nX _ (by rw [p4]; omega) (by rw [p4]; omega)), (hc1 _ p1.lt).trans p3, (hc1 _ p2.lt).trans p4, p5⟩
  · intro i s hs
    rcases h.dd i s hs with ⟨tm2, a, b, c, d⟩ | a
    · exact .inl ⟨tm2, (hc1 _ b).trans a, Nat.lt_of_lt_of_le b hk.size, (hk.cell (p := ⟨s.D, 5, none⟩) b (nX _ (by rw [a]; decide) (by rw [a]; decide))).trans c, d⟩
    · exact .inr a
  · intro p hp
    rcases List.mem_append.1 hp with hp | hp
    · exact h.gl p hp
    · rw [List.mem_singleton] at hp
      subst hp
      show (idx : Int) < (g.gone : Int)
      omega
  · exact h.low.trans (hk.below (fun q e => by
      rcases e with rfl | e
      · exact lH
      · exact (h.rg.lt q e).1) h.big)
  · exact Nat.le_trans h.big hk.size
  · show Cnt j' g.st g.Ss.length (g.L ++ [(key, (idx : Int))]).length
    rw [List.length_append]
    exact hc

/-- A signer came. -/
theorem HI.come (h : HI P j g w) {s : SgD} (mG : Blk w s.G [.pointer (some ⟨s.S, 0, none⟩)] 142) (mS : Blk w s.S (P.cells s) 188) (cG : g.c s.G = 2) (cS : g.c s.S = 7 + g.Ss.length) (lS : P.lo ≤ s.S) (ew : P.seed s.z1 s.z2 s.z3 ∧ 1 ≤ s.bat ∧ s.bat ≤ 64) (hD : s.D = g.D) (htm : s.tm = g.st.term) (hlv : Live P g.jid g.sq g.sb g.gone s)
    (hno : ∀ (i : Nat) (s' : SgD), g.Ss[i]? = some s' → s'.D = g.D → s'.tm < g.st.term) {g1 c1 g2 c2 j' : Nat} {bt : Int}
    (hH : Blk w' P.H (P.hall g.SD (.slice (some ⟨g1, 0, none⟩) (g.Ss.length + 1) c1) (.slice (some ⟨g2, 0, none⟩) (g.Ss.length + 1) c2) g.gv) 65)
    (r1 : w'.ownsRow P.lo 67 1 (.slice (some ⟨g1, 0, none⟩) (g.Ss.length + 1) c1) (g.Ss.length + 1) (ptrs g.Ss ++ [.pointer (some ⟨s.G, 0, none⟩)])) (r2 : w'.ownsRow P.lo 3 1 (.slice (some ⟨g2, 0, none⟩) (g.Ss.length + 1) c2) (g.Ss.length + 1) (g.ys ++ [.int .i64 bt]))
    (hk : Kept (fun q => q = P.H ∨ g.sv.ownBlock = some q ∨ g.bv.ownBlock = some q) w w') (e1 : g.sv.ownBlock = some g1 ∨ w.heap.size ≤ g1) (e2 : g.bv.ownBlock = some g2 ∨ w.heap.size ≤ g2) (hne : g1 ≠ g2) (lH : P.lo ≤ P.H) (hc : Cnt j' g.st (g.Ss.length + 1) g.L.length) :
    ∃ g', HI P j' g' w' := by
  obtain ⟨c', hc1, hc2⟩ : ∃ c' : Nat → Nat, (∀ q, q < w.heap.size → c' q = g.c q) ∧ (∀ q, w.heap.size ≤ q → c' q = if q = g1 then 4 else 5) := ⟨paint g.c w.heap.size (fun q => if q = g1 then 4 else 5), fun q hq => paint_lt hq, fun q hq => paint_ge hq⟩
  have nX : ∀ q, g.c q ≠ 1 → g.c q ≠ 4 → g.c q ≠ 5 → ¬ (q = P.H ∨ g.sv.ownBlock = some q ∨ g.bv.ownBlock = some q) := fun q a b c e => by
    rcases e with e | e | e
    · exact a (by rw [e]; exact h.cH)
    · exact b (h.cs q e)
    · exact c (h.cb q e)
  have ext : ∀ (i : Nat) (s' : SgD), (g.Ss ++ [s])[i]? = some s' → g.Ss[i]? = some s' ∨ i = g.Ss.length ∧ s' = s := by
    intro i s' e
    by_cases hi : i < g.Ss.length
    · rw [List.getElem?_append_left hi] at e
      exact .inl e
    · rw [List.getElem?_append_right (by omega)] at e
      have : i - g.Ss.length = 0 := by
        have := (List.getElem?_eq_some_iff.1 e).1
        simp at this
        omega
      rw [this] at e
      simp at e
      exact .inr ⟨by omega, e.symm⟩
  refine ⟨{ g with c := c', sv := .slice (some ⟨g1, 0, none⟩) (g.Ss.length + 1) c1, bv := .slice (some ⟨g2, 0, none⟩) (g.Ss.length + 1) c2, Ss := g.Ss ++ [s], ys := g.ys ++ [.int .i64 bt] }, hH, (hc1 _ h.hall.lt).trans h.cH, blk_kept h.disk hk (nX _ (by rw [h.cSD]; decide) (by rw [h.cSD]; decide) (by rw [h.cSD]; decide)), (hc1 _ h.disk.lt).trans h.cSD, h.dsk.kept hk (fun q e => nX q (by rw [h.cF q e]; decide) (by rw [h.cF q e]; decide) (by rw [h.cF q e]; decide)), fun q e => (hc1 _ (h.dsk.lt q e).2).trans (h.cF q e), ?_, ?_, ?_, ?_, owns_kept h.rg hk (fun q e => nX q (by rw [h.cg q e]; decide) (by rw [h.cg q e]; decide) (by rw [h.cg q e]; decide)), fun q e => (hc1 _ (h.rg.lt q e).2).trans (h.cg q e), ?_, ?_, ?_, ?_, h.ji, h.gs, h.gl, ?_, ?_, h.stn, ?_⟩
  · show w'.ownsRow P.lo _ 1 _ (g.Ss ++ [s]).length (ptrs (g.Ss ++ [s]))
    rw [List.length_append, show ptrs (g.Ss ++ [s]) = ptrs g.Ss ++ [.pointer (some ⟨s.G, 0, none⟩)] by simp [ptrs]]
    exact r1
  · intro q e
    have e' : g1 = q := by simpa [Value.ownBlock] using e
    subst e'
    rcases e1 with e3 | e3
    · exact (hc1 _ (h.rs.lt g1 e3).2).trans (h.cs g1 e3)
    · exact (hc2 g1 e3).trans (if_pos rfl)
  · show w'.ownsRow P.lo _ 1 _ (g.Ss ++ [s]).length (g.ys ++ [.int .i64 bt])
    rw [List.length_append]
    exact r2
  · intro q e
    have e' : g2 = q := by simpa [Value.ownBlock] using e
    subst e'
    rcases e2 with e3 | e3
    · exact (hc1 _ (h.rb.lt g2 e3).2).trans (h.cb g2 e3)
    · exact (hc2 g2 e3).trans (if_neg (fun e => hne e.symm))
  · intro i s' hs
    rcases ext i s' hs with hs | ⟨rfl, rfl⟩
    · obtain ⟨p1, p2, p3, p4, p5⟩ := h.mem i s' hs
      exact ⟨blk_kept p1 hk (nX _ (by rw [p3]; decide) (by rw [p3]; decide) (by rw [p3]; decide)), blk_kept p2 hk (nX _ (by rw [p4]; omega) (by rw [p4]; omega) (by rw [p4]; omega)), (hc1 _ p1.lt).trans p3, (hc1 _ p2.lt).trans p4, p5⟩
    · exact ⟨blk_kept mG hk (nX _ (by rw [cG]; decide) (by rw [cG]; decide) (by rw [cG]; decide)), blk_kept mS hk (nX _ (by rw [cS]; omega) (by rw [cS]; omega) (by rw [cS]; omega)), (hc1 _ mG.lt).trans cG, (hc1 _ mS.lt).trans cS, lS⟩
  · intro i s' hs
    rcases ext i s' hs with hs | ⟨rfl, rfl⟩
    · exact h.who i s' hs
    · exact ew
  · intro i s' hs
    rcases ext i s' hs with hs | ⟨rfl, rfl⟩
    · rcases h.dd i s' hs with ⟨tm2, a, b, c, d⟩ | a
      · exact .inl ⟨tm2, (hc1 _ b).trans a, Nat.lt_of_lt_of_le b hk.size, (hk.cell (p := ⟨s'.D, 5, none⟩) b (nX _ (by rw [a]; decide) (by rw [a]; decide) (by rw [a]; decide))).trans c, d⟩
      · exact .inr a
    · exact .inr ⟨hD, by show s'.tm ≤ g.st.term; omega⟩
  · intro i s' hs hD2 htm2 hov
    rcases ext i s' hs with hs | ⟨rfl, rfl⟩
    · have := hno i s' hs hD2
      have htm' : s'.tm = g.st.term := htm2
      omega
    · exact ⟨by simp, hlv⟩
  · exact h.low.trans (hk.below (fun q e => by
      rcases e with rfl | e | e
      · exact lH
      · exact (h.rs.lt q e).1
      · exact (h.rb.lt q e).1) h.big)
  · exact Nat.le_trans h.big hk.size
  · show Cnt j' g.st (g.Ss ++ [s]).length g.L.length
    rw [List.length_append]
    exact hc

/-- The disk's sectors moved to a new one. -/
theorem HI.moved (h : HI P j g w) {SD2 D2 : Nat} {F2 : Nat → Prop} {st2 : DSt} (hH : Blk w' P.H (P.hall SD2 g.sv g.bv g.gv) 65) (hS : Blk w' SD2 [.pointer (some ⟨D2, 0, none⟩)] 135) (hd : DSk P.lo D2 st2 w' F2) (hf : ∀ q, F2 q → w.heap.size ≤ q) (hs2 : w.heap.size ≤ SD2) (nS : ¬ F2 SD2) (hk : Kept (fun q => q = P.H ∨ g.F q) w w')
    (h5 : w'.cell? ⟨g.D, 5, none⟩ = some (.int .i64 (g.st.term + 1))) (hJ : JI P.tot st2 g.jid g.sq g.sb) (hn : st2.n = P.n) (lH : P.lo ≤ P.H) (hc : Cnt (j + 1) st2 g.Ss.length g.L.length) : ∃ g', HI P (j + 1) g' w' := by
  obtain ⟨c', hc1, hc2⟩ : ∃ c' : Nat → Nat, (∀ q, q < w.heap.size → c' q = if g.c q = 3 then 2 else g.c q) ∧ (∀ q, w.heap.size ≤ q → c' q = if q = SD2 then 2 else 3) := ⟨paint (fun q => if g.c q = 3 then 2 else g.c q) w.heap.size (fun q => if q = SD2 then 2 else 3), fun q hq => paint_lt hq, fun q hq => paint_ge hq⟩
  have hcn : ∀ {q v}, q < w.heap.size → g.c q = v → v ≠ 3 → c' q = v := fun {q v} hq e hv => by rw [hc1 q hq, if_neg (by rw [e]; exact hv), e]
  have nX : ∀ q, g.c q ≠ 1 → g.c q ≠ 3 → ¬ (q = P.H ∨ g.F q) := fun q a b e => by
    rcases e with e | e
    · exact a (by rw [e]; exact h.cH)
    · exact b (h.cF q e)
  have hDl := h.dsk.ltD
  have hDc := h.cF g.D h.dsk.self
  refine ⟨{ g with c := c', SD := SD2, D := D2, F := F2, st := st2 }, hH, hcn h.hall.lt h.cH (by decide), hS, ?_, hd, ?_, owns_kept h.rs hk (fun q e => nX q (by rw [h.cs q e]; decide) (by rw [h.cs q e]; decide)), fun q e => hcn (h.rs.lt q e).2 (h.cs q e) (by decide), owns_kept h.rb hk (fun q e => nX q (by rw [h.cb q e]; decide) (by rw [h.cb q e]; decide)), fun q e => hcn (h.rb.lt q e).2 (h.cb q e) (by decide), owns_kept h.rg hk (fun q e => nX q (by rw [h.cg q e]; decide) (by rw [h.cg q e]; decide)), fun q e => hcn (h.rg.lt q e).2 (h.cg q e) (by decide), ?_, h.who, ?_, ?_, hJ, h.gs, h.gl, ?_, ?_, hn, hc⟩
  · exact (hc2 SD2 hs2).trans (if_pos rfl)
  · intro q e
    exact (hc2 q (hf q e)).trans (if_neg (fun e2 => nS (by rw [← e2]; exact e)))
  · intro i s hs
    obtain ⟨p1, p2, p3, p4, p5⟩ := h.mem i s hs
    exact ⟨blk_kept p1 hk (nX _ (by rw [p3]; decide) (by rw [p3]; decide)), blk_kept p2 hk (nX _ (by rw [p4]; omega) (by rw [p4]; omega)), hcn p1.lt p3 (by decide), hcn p2.lt p4 (by omega), p5⟩
  · intro i s hs
    rcases h.dd i s hs with ⟨tm2, a, b, c, d⟩ | ⟨a, b⟩
    · exact .inl ⟨tm2, hcn b a (by decide), Nat.lt_of_lt_of_le b hk.size, (hk.cell (p := ⟨s.D, 5, none⟩) b (nX _ (by rw [a]; decide) (by rw [a]; decide))).trans c, d⟩
    · refine .inl ⟨g.st.term + 1, ?_, ?_, ?_, .inr (by omega)⟩
      · rw [a]
        show c' g.D = 2
        rw [hc1 g.D hDl, if_pos hDc]
      · rw [a]; exact Nat.lt_of_lt_of_le hDl hk.size
      · rw [a]; exact h5
  · intro i s hs hD2 htm2 hov
    exfalso
    have hD2' : s.D = D2 := hD2
    have hself := hf D2 hd.self
    rcases h.dd i s hs with ⟨tm2, a, b, c, d⟩ | ⟨a, b⟩
    · omega
    · omega
  · exact h.low.trans (hk.below (fun q e => by
      rcases e with rfl | e
      · exact lH
      · exact (h.dsk.lt q e).1) h.big)
  · exact Nat.le_trans h.big hk.size
end
end Go.Proofs.YtgaoeoijdpdjiabGreatDoor
