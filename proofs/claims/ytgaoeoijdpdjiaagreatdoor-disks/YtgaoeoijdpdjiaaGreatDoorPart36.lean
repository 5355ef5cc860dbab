/-
  Several disks: what holds from step to step.
-/
import Derived.Test.YtgaoeoijdpdjiaaGreatDoorPart34
import Derived.Test.YtgaoeoijdpdjiaaGreatDoorPart35
namespace Go.Proofs.YtgaoeoijdpdjiaaGreatDoor
open Go.RowKit
/-- The disks of a script, each beside the document's. The colours say whose a block is: 1 the statement's world, 2 its list of disks, 3 + i the disks number i. -/
structure DI (lo Wb : Nat) (Wd : World) (wv hv : Value) (j : Nat) (c : Nat → Nat) (dv : Value) (Ps : List PrD) (w : World) : Prop where
  wb : Blk w Wb (wldQ (.slice none 0 0) (.slice none 0 0) (.slice none 0 0) wv dv hv) 74
  cw : c Wb = 1
  row : w.ownsRow lo 115 2 dv Ps.length (plC (Ps.map fun p => (p.X, p.R)))
  cr : ∀ q, dv.ownBlock = some q → c q = 2
  pa : ∀ (i : Nat) (p : PrD), Ps[i]? = some p → PA lo p w ∧ ∀ q, p.fp q → c q = 3 + i
  len : Ps.length ≤ j
  cnt : ∀ p ∈ Ps, p.L.length ≤ j ∧ 0 ≤ p.st.syncs ∧ p.st.syncs ≤ j ∧ 0 ≤ p.st.term ∧ p.st.term ≤ j
  low : Below lo Wd w
  big : lo ≤ w.heap.size
  lW : lo ≤ Wb
section
variable {lo Wb j : Nat} {Wd w w' : World} {wv hv dv : Value} {c : Nat → Nat} {Ps : List PrD}
theorem DI.below (h : DI lo Wb Wd wv hv j c dv Ps w) (hb : Below w.heap.size w w') : DI lo Wb Wd wv hv j c dv Ps w' :=
  ⟨h.wb.on hb, h.cw, owns_kept h.row (Kept.of_below (F := fun _ => False) hb) (fun _ _ e => e), h.cr, fun i p e => ⟨(h.pa i p e).1.below hb, (h.pa i p e).2⟩, h.len, h.cnt, h.low.trans (hb.mono h.big), Nat.le_trans h.big hb.size, h.lW⟩
theorem DI.next (h : DI lo Wb Wd wv hv j c dv Ps w) : DI lo Wb Wd wv hv (j + 1) c dv Ps w :=
  ⟨h.wb, h.cw, h.row, h.cr, h.pa, Nat.le_succ_of_le h.len, fun p e => by obtain ⟨a, b, c, d, e⟩ := h.cnt p e; exact ⟨by omega, b, by omega, d, by omega⟩, h.low, h.big, h.lW⟩
/-- The disks number i had a turn. -/
theorem DI.turn (h : DI lo Wb Wd wv hv j c dv Ps w) {i : Nat} {p : PrD} {s2 : DSt} (hp : Ps[i]? = some p) (hl : PLeft lo p s2 w w') (hs0 : 0 ≤ s2.syncs) (hs1 : s2.syncs ≤ p.st.syncs + 1) (ht0 : 0 ≤ s2.term) (ht1 : s2.term ≤ p.st.term + 1) : ∃ c' Ps', DI lo Wb Wd wv hv (j + 1) c' dv Ps' w' ∧ Ps'.length = Ps.length := by
  obtain ⟨p', e1, e2, e3, e4, hPA, hk, hf⟩ := hl
  obtain ⟨hP0, hc0⟩ := h.pa i p hp
  have hil := (List.getElem?_eq_some_iff.1 hp).1
  have hkc : ∀ {q v}, q < w.heap.size → c q = v → (if q < w.heap.size then c q else 3 + i) = v := fun {q v} hq e => by rw [if_pos hq]; exact e
  refine ⟨fun q => if q < w.heap.size then c q else 3 + i, Ps.set i p', ⟨?_, ?_, ?_, ?_, ?_, ?_, ?_, ?_, ?_, h.lW⟩, List.length_set ..⟩
  · exact blkQ h.wb hk (fun e => by have := hc0 _ e; have := h.cw; omega)
  · exact hkc h.wb.lt h.cw
  · have : (Ps.set i p').map (fun p => (p.X, p.R)) = Ps.map fun p => (p.X, p.R) := by
      rw [List.map_set, e1, e2]
      refine (List.ext_getElem? (fun q => ?_))
      rw [List.getElem?_set]
      split
      · rename_i e
        subst e
        rw [if_pos (by simpa using hil), List.getElem?_map, hp]; rfl
      · rfl
    rw [this, List.length_set]
    exact owns_kept h.row hk (fun q e e2 => by have := hc0 _ e2; have := h.cr q e; omega)
  · intro q e
    exact hkc (h.row.lt q e).2 (h.cr q e)
  · intro k r hr
    rw [List.getElem?_set] at hr
    split at hr
    · rename_i e
      subst e
      try rw [if_pos hil] at hr
      simp only [Option.some.injEq] at hr
      subst hr
      refine ⟨hPA, fun q e => ?_⟩
      by_cases hq : q < w.heap.size
      · refine hkc hq ?_
        rcases hf q e with e5 | e5
        · exact hc0 q e5
        · omega
      · show (if q < w.heap.size then c q else 3 + i) = 3 + i
        rw [if_neg hq]
    · rename_i hne
      obtain ⟨a, b⟩ := h.pa k r hr
      refine ⟨a.kept hk (fun q e e5 => by have := b q e; have := hc0 q e5; omega), fun q e => hkc (a.lt e).2 (b q e)⟩
  · rw [List.length_set]; exact Nat.le_succ_of_le h.len
  · intro r hr
    rcases List.mem_or_eq_of_mem_set hr with hr | rfl
    · obtain ⟨a, b, c, d, e⟩ := h.cnt r hr
      exact ⟨by omega, b, by omega, d, by omega⟩
    · obtain ⟨a, b, c, d, e⟩ := h.cnt p (List.mem_of_getElem? hp)
      rw [e3]
      exact ⟨by omega, hs0, by omega, ht0, by omega⟩
  · exact h.low.trans (hk.below (fun q e => (hP0.lt e).1) h.big)
  · exact Nat.le_trans h.big hk.size
/-- A disk more. -/
theorem DI.add (h : DI lo Wb Wd wv hv j c dv Ps w) {V : World} {n X R g cc : Nat} {F : Nat → Prop} (hb : Below w.heap.size w V) (hd : SDisk lo X (newD n) V F) (hF : ∀ k, F k → w.heap.size ≤ k) (hR : Blk V R (rdC n (.slice none 0 0) 0 0 0) 259) (hR2 : w.heap.size ≤ R) (hW : Blk w' Wb (wldQ (.slice none 0 0) (.slice none 0 0) (.slice none 0 0) wv (.slice (some ⟨g, 0, none⟩) (Ps.length + 1) cc) hv) 74) (hr : w'.ownsRow lo 115 2 (.slice (some ⟨g, 0, none⟩) (Ps.length + 1) cc) (Ps.length + 1) (plC ((Ps.map fun p => (p.X, p.R)) ++ [(X, R)]))) (hk : Kept (fun q => q = Wb ∨ dv.ownBlock = some q) V w') (hg : dv.ownBlock = some g ∨ V.heap.size ≤ g) :
    ∃ c' dv' Ps', DI lo Wb Wd wv hv (j + 1) c' dv' Ps' w' ∧ Ps'.length = Ps.length + 1 := by
  have hV := h.below hb
  have hpa : PA lo ⟨X, R, newD n, [], F, .slice none 0 0⟩ V := ⟨hd, hR, World.ownsRow_nil _ _ _ _, Rl.new n, Nat.le_trans h.big hR2⟩
  have hfp : ∀ q, (PrD.fp ⟨X, R, newD n, [], F, .slice none 0 0⟩) q → w.heap.size ≤ q ∧ q < V.heap.size := by
    intro q e
    refine ⟨?_, (hpa.lt e).2⟩
    rcases e with e | rfl | e
    · exact hF q e
    · exact hR2
    · simp [Value.ownBlock] at e
  have hzz := hb.size
  have hwl := h.wb.lt
  have hkc : ∀ {q v}, q < w.heap.size → c q = v → (if q < w.heap.size then c q else if q < V.heap.size then 3 + Ps.length else 2) = v := fun {q v} hq e => by rw [if_pos hq]; exact e
  refine ⟨fun q => if q < w.heap.size then c q else if q < V.heap.size then 3 + Ps.length else 2, _, Ps ++ [⟨X, R, newD n, [], F, .slice none 0 0⟩], ⟨hW, hkc hwl h.cw, ?_, ?_, ?_, ?_, ?_, ?_, ?_, h.lW⟩, by rw [List.length_append]; rfl⟩
  · rw [List.length_append, List.map_append]
    exact hr
  · intro q e
    have e' : g = q := by simpa [Value.ownBlock] using e
    subst e'
    rcases hg with e5 | e5
    · exact hkc (h.row.lt _ e5).2 (h.cr _ e5)
    · show (if g < w.heap.size then c g else if g < V.heap.size then 3 + Ps.length else 2) = 2
      rw [if_neg (by omega), if_neg (by omega)]
  · intro k r hr2
    rw [List.getElem?_append] at hr2
    split at hr2
    · obtain ⟨a, b⟩ := h.pa k r hr2
      obtain ⟨a2, _⟩ := hV.pa k r hr2
      refine ⟨a2.kept hk (fun q e e5 => ?_), fun q e => hkc (a.lt e).2 (b q e)⟩
      have := b q e
      rcases e5 with rfl | e5
      · have := h.cw; omega
      · have := h.cr q e5; omega
    · rename_i hkl
      have hk0 : k = Ps.length := by
        have := (List.getElem?_eq_some_iff.1 hr2).1
        simp at this
        omega
      subst hk0
      rw [Nat.sub_self] at hr2
      simp only [List.getElem?_cons_zero, Option.some.injEq] at hr2
      subst hr2
      refine ⟨hpa.kept hk (fun q e e5 => ?_), fun q e => ?_⟩
      · have := (hfp q e).1
        rcases e5 with rfl | e5
        · omega
        · have := (h.row.lt q e5).2; omega
      · have := hfp q e
        show (if q < w.heap.size then c q else if q < V.heap.size then 3 + Ps.length else 2) = 3 + Ps.length
        rw [if_neg (by omega), if_pos (by omega)]
  · rw [List.length_append]; exact Nat.succ_le_succ h.len
  · intro r hr2
    rcases List.mem_append.1 hr2 with hr2 | hr2
    · obtain ⟨a, b, c, d, e⟩ := h.cnt r hr2
      exact ⟨by omega, b, by omega, d, by omega⟩
    · rw [List.mem_singleton.1 hr2]
      exact ⟨Nat.zero_le _, by show (0 : Int) ≤ 0; omega, by show (0 : Int) ≤ _; omega, by show (0 : Int) ≤ 0; omega, by show (0 : Int) ≤ _; omega⟩
  · refine h.low.trans ((hb.mono h.big).trans (hk.below (fun q e => ?_) (Nat.le_trans h.big hb.size)))
    rcases e with rfl | e
    · exact h.lW
    · exact (h.row.lt q e).1
  · exact Nat.le_trans h.big (Nat.le_trans hb.size hk.size)
theorem keep_lo {d : OpD} (ok : OpOk Wd d) (hlo : lo = Wd.heap.size) (hb : Below lo Wd w) : KeepLo lo w d.k1 d.k2 d.k3 d.K := by
  rcases ok.k with h | ⟨a, h1, h2, h3⟩
  · exact .inl h
  · refine .inr ⟨a, h1, h2, h3.imp id ?_⟩
    rintro ⟨bk, o, e1, e2, e3, e4⟩
    exact ⟨bk, o, e1, e2, by omega, fun j y hy => (hb.cell (p := ⟨bk, o + j, none⟩) (by show bk < lo; omega)).trans (e4 j y hy)⟩
/-- Any turn of the disks number i. -/
theorem turn_any (h : DI lo Wb Wd wv hv j c dv Ps w) (hj : j ≤ 1099511627776) (hlo : lo = Wd.heap.size) {i : Nat} {p : PrD} (hp : Ps[i]? = some p) (d : OpD) (ok : OpOk Wd d) (h1 : 30 < d.kd) (h2 : d.kd < 37) :
    Calls Tryz.prog 62 #[.agg #[.pointer (some ⟨p.X, 0, none⟩), .pointer (some ⟨p.R, 0, none⟩)], opV d] w fun e w' => e = .returned (.bool true) ∧ Kept p.fp w w' ∧ ∃ c' Ps', DI lo Wb Wd wv hv (j + 1) c' dv Ps' w' ∧ Ps'.length = Ps.length := by
  obtain ⟨hP, _⟩ := h.pa i p hp
  obtain ⟨q1, q2, q3, q4, q5⟩ := h.cnt p (List.mem_of_getElem? hp)
  have fin : ∀ {s2 : DSt} {w' : World}, PLeft lo p s2 w w' → 0 ≤ s2.syncs → s2.syncs ≤ p.st.syncs + 1 → 0 ≤ s2.term → s2.term ≤ p.st.term + 1 → Kept p.fp w w' ∧ ∃ c' Ps', DI lo Wb Wd wv hv (j + 1) c' dv Ps' w' ∧ Ps'.length = Ps.length := fun {s2 w'} hl a b c d => by
    have hk := hl
    obtain ⟨_, _, _, _, _, _, hk, _⟩ := hk
    exact ⟨hk, h.turn hp hl a b c d⟩
  have hcase : d.kd = 31 ∨ d.kd = 32 ∨ d.kd = 33 ∨ d.kd = 34 ∨ d.kd = 35 ∨ d.kd = 36 := by omega
  rcases hcase with e | e | e | e | e | e
  · refine (turn_read hP d e (by omega)).mono ?_
    rintro e w' ⟨rfl, hl⟩
    refine ⟨rfl, fin hl ?_ ?_ ?_ ?_⟩ <;> (unfold rdSt; split <;> (try dsimp only) <;> omega)
  · refine (turn_write hP d e ok.s (by omega) h.big).mono ?_
    rintro e w' ⟨rfl, hl⟩
    refine ⟨rfl, fin hl ?_ ?_ ?_ ?_⟩ <;> (unfold wrSt; split <;> (try split) <;> (try split) <;> (try dsimp only) <;> omega)
  · refine (turn_sync hP d e (by omega) q2 (by omega)).mono ?_
    rintro e w' ⟨rfl, hl⟩
    refine ⟨rfl, fin hl ?_ ?_ ?_ ?_⟩ <;> (unfold sySt; split <;> (try dsimp only) <;> omega)
  · refine (turn_trouble hP d e ok.a).mono ?_
    rintro e w' ⟨rfl, hl⟩
    refine ⟨rfl, fin hl ?_ ?_ ?_ ?_⟩ <;> (split <;> (try dsimp only) <;> omega)
  · refine (turn_crash hP d e (by omega) h.big (keep_lo ok hlo h.low) ok.kn q4 (by omega)).mono ?_
    rintro e w' ⟨rfl, hl⟩
    refine ⟨rfl, fin hl ?_ ?_ ?_ ?_⟩ <;> (unfold crSt; (try dsimp only); omega)
  · refine (turn_count hP d e (by omega)).mono ?_
    rintro e w' ⟨rfl, hl⟩
    exact ⟨rfl, fin hl (by omega) (by omega) (by omega) (by omega)⟩
/-- A step of the kinds of disks. -/
theorem dstep (h : DI lo Wb Wd wv hv j c dv Ps w) (hj : j ≤ 1099511627776) (hlo : lo = Wd.heap.size) (d : OpD) (ok : OpOk Wd d) (h1 : 30 ≤ d.kd) (h2 : d.kd < 37) :
    Calls Tryz.prog 32 #[.pointer (some ⟨Wb, 0, none⟩), opV d] w fun e w' => e = .returned (.bool true) ∧ ∃ c' dv' Ps', DI lo Wb Wd wv hv (j + 1) c' dv' Ps' w' ∧ Ps'.length = Ps.length + if d.kd = 30 ∧ 1 ≤ d.a ∧ d.a ≤ 8 then 1 else 0 := by
  have hlen := h.len
  by_cases hk : d.kd = 30
  · unfold opV opC
    rw [hk]
    refine lstep_disk Wb d.on d.a d.b d.s d.t d.u d.l1 d.l2 d.l3 d.k1 d.k2 d.k3 d.c0 d.c1 d.c2 d.c3 d.c4 d.d0 d.d1 d.d2 d.p0 d.p1 d.p2 d.p3 _ _ _ wv dv hv _ w h.wb (fun V hb => ?_)
    have hV := h.below hb
    by_cases hn : 1 ≤ d.a ∧ d.a ≤ 8
    · obtain ⟨n, hn2⟩ := Int.eq_ofNat_of_zero_le (show 0 ≤ d.a by omega)
      obtain ⟨da, dc, hdv⟩ := owns_len hV.row
      have hwb := hV.wb
      have hrow := hV.row
      rw [hdv] at hwb hrow
      rw [hn2]
      refine (disk_yes lo Wb n _ _ _ wv hv da Ps.length dc _ V (by omega) (by omega) hwb hrow (by omega) hV.big).mono ?_
      rintro e w' ⟨rfl, X, R, F, g, cc, V2, y1, y2, y3, y4, y5, _, y7, y8, y9, y10⟩
      rw [← hdv] at y9 y10
      obtain ⟨c', dv', Ps', z1, z2⟩ := hV.add y1 y2 y3 y4 y5 y7 y8 y9 y10
      exact ⟨rfl, c', dv', Ps', z1, by rw [z2, if_pos ⟨rfl, by omega, by omega⟩]⟩
    · refine (disk_no Wb d.a V (by omega)).mono ?_
      rintro e w' ⟨rfl, rfl⟩
      exact ⟨rfl, c, dv, Ps, hV.next, by rw [if_neg (fun e => hn e.2)]; rfl⟩
  · rw [if_neg (fun e => hk e.1)]
    by_cases hp : 0 < Ps.length
    · obtain ⟨g, dc, hdv, _, _⟩ := h.row.form hp
      have hwb := h.wb
      have hrow := h.row
      rw [hdv] at hwb hrow
      have hpz := pickZ_bd d.on Ps.length (by omega)
      obtain ⟨i, hi⟩ := Int.eq_ofNat_of_zero_le hpz.1
      obtain ⟨p, hpp⟩ : ∃ p, Ps[i]? = some p := ⟨_, List.getElem?_eq_getElem (by omega)⟩
      obtain ⟨hP, hcp⟩ := h.pa i p hpp
      have hcap : Ps.length ≤ dc := by
        rcases hrow.2 with ⟨e, _⟩ | ⟨g', cap', cur, e, _, _, h5, _⟩
        · simp at e
        · simp only [Value.slice.injEq] at e
          omega
      unfold opV opC
      refine (lstep_turn lo Wb d.kd d.on d.a d.b d.s d.t d.u d.l1 d.l2 d.l3 d.k1 d.k2 d.k3 d.c0 d.c1 d.c2 d.c3 d.c4 d.d0 d.d1 d.d2 d.p0 d.p1 d.p2 d.p3 _ _ _ wv hv g Ps.length dc i p.X p.R _ p.fp (fun w' => ∃ c' Ps', DI lo Wb Wd wv hv (j + 1) c' dv Ps' w' ∧ Ps'.length = Ps.length) w (fun q e => ?_) hwb hrow (by omega) (by omega) (by omega) ok.on.1 ok.on.2 hi (by omega) (by rw [List.getElem?_map, hpp]; rfl) hcap (fun V hb => turn_any (h.below hb) hj hlo hpp d ok (by omega) h2)).mono ?_
      · refine ⟨(hP.lt e).2, fun e2 => ?_, fun e2 => ?_⟩
        · have := hcp q e
          rw [e2, h.cw] at this
          omega
        · have := hcp q e
          rw [e2, h.cr g (by rw [hdv]; rfl)] at this
          omega
      · rintro e w' ⟨rfl, c', Ps', z1, z2⟩
        exact ⟨rfl, c', dv, Ps', z1, z2⟩
    · have h0 : Ps.length = 0 := by omega
      obtain ⟨da, dc, hdv⟩ := owns_len h.row
      have hwb := h.wb
      rw [hdv, h0] at hwb
      unfold opV opC
      refine (lstep_none Wb d.kd d.on d.a d.b d.s d.t d.u d.l1 d.l2 d.l3 d.k1 d.k2 d.k3 d.c0 d.c1 d.c2 d.c3 d.c4 d.d0 d.d1 d.d2 d.p0 d.p1 d.p2 d.p3 _ _ _ wv hv da dc w hwb (by omega) (by omega)).mono ?_
      rintro e w' ⟨rfl, hb⟩
      exact ⟨rfl, c, dv, Ps, (h.below hb).next, rfl⟩
end
end Go.Proofs.YtgaoeoijdpdjiaaGreatDoor
