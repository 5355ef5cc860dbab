/-
  A disk of the program's and one of the document's: each call answers alike. A crash of two disks; any turn.
-/
import Derived.Test.YtgaoeoijdpdjiaaGreatDoorPart30
import Derived.Test.YtgaoeoijdpdjiaaGreatDoorPart31
import Derived.Test.YtgaoeoijdpdjiaaGreatDoorPart33
namespace Go.Proofs.YtgaoeoijdpdjiaaGreatDoor
open Go.RowKit
/-- Two disks that were made by one call. -/
structure PrD where
  X : Nat
  R : Nat
  st : DSt
  L : List LogW
  F : Nat → Prop
  lv : Value
def PrD.fp (p : PrD) : Nat → Prop := fun q => p.F q ∨ q = p.R ∨ p.lv.ownBlock = some q
structure PA (lo : Nat) (p : PrD) (w : World) : Prop where
  d : SDisk lo p.X p.st w p.F
  b : Blk w p.R (rdC p.st.n p.lv p.st.trouble p.st.syncs p.st.term) 259
  r : w.ownsRow lo 261 3 p.lv p.L.length (logC p.L)
  rl : Rl p.st p.L
  lR : lo ≤ p.R
theorem sdisk_ne {lo S : Nat} {st : DSt} {w : World} {F : Nat → Prop} (h : SDisk lo S st w F) {b : Nat} {vs : List Value} {T : TypeId} (hb : Blk w b vs T) (h0 : T ≠ 256) (h1 : T ≠ 306) (h2 : T ≠ 308) (h3 : T ≠ 311) : ¬ F b := by
  obtain ⟨D, E, pv, e1, e2, _, _, _, _, rfl⟩ := h
  unfold Blk at hb
  rintro (rfl | rfl | rfl | e)
  · rw [hb] at e1
    simp only [Option.some.injEq, Obj.cells.injEq] at e1
    exact h0 e1.2.1
  · have := e2.disk
    rw [hb] at this
    simp only [Option.some.injEq, Obj.cells.injEq] at this
    exact h1 this.2.1
  · have := e2.durable
    rw [hb] at this
    simp only [Option.some.injEq, Obj.cells.injEq] at this
    exact h2 this.2.1
  · rcases e2.pending.2 with ⟨e3, _⟩ | ⟨g, cap, cur, e3, _, hg, _⟩
    · rw [e3] at e
      simp [Value.ownBlock] at e
    · rw [e3] at e
      have e' : g = b := by simpa [Value.ownBlock] using e
      subst e'
      rw [hb] at hg
      simp only [Option.some.injEq, Obj.cells.injEq] at hg
      exact h3 hg.2.1
theorem row_blk {w : World} {lo : Nat} {e : TypeId} {sz : Nat} {v : Value} {n : Nat} {xs : List Value} {q : Nat} (h : w.ownsRow lo e sz v n xs) (hq : v.ownBlock = some q) : ∃ vs, Blk w q vs e := by
  rcases h.2 with ⟨rfl, _⟩ | ⟨g, cap, cur, rfl, _, hg, _⟩
  · simp [Value.ownBlock] at hq
  · have e' : g = q := by simpa [Value.ownBlock] using hq
    subst e'
    exact ⟨cur.toList, by unfold Blk; rw [hg]⟩
section
variable {lo : Nat} {p : PrD} {w V w' : World}
theorem PA.below (h : PA lo p w) (hb : Below w.heap.size w w') : PA lo p w' := ⟨h.d.below hb, h.b.on hb, owns_kept h.r (Kept.of_below (F := fun _ => False) hb) (fun _ _ e => e), h.rl, h.lR⟩
theorem PA.nR (h : PA lo p w) : ¬ p.F p.R := sdisk_ne h.d h.b (by decide) (by decide) (by decide) (by decide)
theorem PA.nL (h : PA lo p w) {q : Nat} (hq : p.lv.ownBlock = some q) : ¬ p.F q := by
  obtain ⟨vs, hv⟩ := row_blk h.r hq
  exact sdisk_ne h.d hv (by decide) (by decide) (by decide) (by decide)
theorem PA.lt (h : PA lo p w) {q : Nat} (hq : p.fp q) : lo ≤ q ∧ q < w.heap.size := by
  rcases hq with e | rfl | e
  · exact h.d.lt q e
  · exact ⟨h.lR, h.b.lt⟩
  · exact h.r.lt q e
theorem PA.kept {X : Nat → Prop} (h : PA lo p w) (hk : Kept X w w') (hn : ∀ q, p.fp q → ¬ X q) : PA lo p w' :=
  ⟨h.d.kept hk (fun q e => hn q (.inl e)), blkQ h.b hk (hn _ (.inr (.inl rfl))), owns_kept h.r hk (fun q e => hn q (.inr (.inr e))), h.rl, h.lR⟩
/-- The program's disk had its turn, the document's not yet. -/
def HalfX (lo : Nat) (p : PrD) (s2 : DSt) (w V : World) : Prop := ∃ F', SDisk lo p.X s2 V F' ∧ (∀ q, F' q → p.F q ∨ w.heap.size ≤ q) ∧ Blk V p.R (rdC p.st.n p.lv p.st.trouble p.st.syncs p.st.term) 259 ∧ V.ownsRow lo 261 3 p.lv p.L.length (logC p.L) ∧ Kept p.fp w V
theorem half {s2 : DSt} (h : PA lo p w) (hb : Below w.heap.size w V) (hl : SLeft lo p.X s2 p.F V w') : Kept p.fp V w' ∧ HalfX lo p s2 w w' := by
  obtain ⟨F', k1, k2, k3⟩ := hl
  have hV := h.below hb
  have hkf : Kept p.fp V w' := k2.mono (fun q _ e => .inl e)
  refine ⟨hkf, F', k1, fun q e => ?_, blkQ hV.b k2 hV.nR, owns_kept hV.r k2 (fun q e => hV.nL e), (Kept.of_below hb).trans hkf (fun q e => .inl e)⟩
  rcases k3 q e with e2 | e2
  · exact .inl e2
  · exact .inr (Nat.le_trans hb.size e2)
/-- What a call of both leaves. -/
def PLeft (lo : Nat) (p : PrD) (s2 : DSt) (w w' : World) : Prop := ∃ p' : PrD, p'.X = p.X ∧ p'.R = p.R ∧ p'.st = s2 ∧ p'.L.length ≤ p.L.length + 1 ∧ PA lo p' w' ∧ Kept p.fp w w' ∧ ∀ q, p'.fp q → p.fp q ∨ w.heap.size ≤ q
theorem whole2 {s2 : DSt} {L2 : List LogW} {lv2 : Value} (h : HalfX lo p s2 w V) (lR : lo ≤ p.R) (hb : Blk w' p.R (rdC s2.n lv2 s2.trouble s2.syncs s2.term) 259) (hr : w'.ownsRow lo 261 3 lv2 L2.length (logC L2)) (hk : Kept (fun q => q = p.R ∨ p.lv.ownBlock = some q) V w') (hl : ∀ q, lv2.ownBlock = some q → p.lv.ownBlock = some q ∨ V.heap.size ≤ q) (hrl : Rl s2 L2) (hn : L2.length ≤ p.L.length + 1) : Kept p.fp V w' ∧ PLeft lo p s2 w w' := by
  obtain ⟨F', k1, k2, k3, k4, k5⟩ := h
  have hk2 : Kept p.fp V w' := hk.mono (fun q _ e => .inr e)
  have hd : SDisk lo p.X s2 w' F' := k1.kept hk (fun q e e2 => by
    rcases e2 with rfl | e2
    · exact sdisk_ne k1 k3 (by decide) (by decide) (by decide) (by decide) e
    · obtain ⟨vs, hv⟩ := row_blk k4 e2
      exact sdisk_ne k1 hv (by decide) (by decide) (by decide) (by decide) e)
  refine ⟨hk2, ⟨p.X, p.R, s2, L2, F', lv2⟩, rfl, rfl, rfl, hn, ⟨hd, hb, hr, hrl, lR⟩, k5.trans hk2 (fun q e => .inl e), fun q e => ?_⟩
  rcases e with e | e | e
  · rcases k2 q e with e2 | e2
    · exact .inl (.inl e2)
    · exact .inr e2
  · exact .inl (.inr (.inl e))
  · rcases hl q e with e2 | e2
    · exact .inl (.inr (.inr e2))
    · exact .inr (Nat.le_trans k5.size e2)
theorem PA.tr (h : PA lo p w) : 0 ≤ p.st.trouble ∧ p.st.trouble ≤ 9223372036854775807 := ⟨h.d.ok.tr, h.d.ok.tr2⟩
/-- A disk's turn of either kind answers alike. -/
theorem turn_read (h : PA lo p w) (d : OpD) (hk : d.kd = 31) (hL : p.L.length ≤ 1099511627776) :
    Calls Tryz.prog 62 #[.agg #[.pointer (some ⟨p.X, 0, none⟩), .pointer (some ⟨p.R, 0, none⟩)], opV d] w fun e w' => e = .returned (.bool true) ∧ PLeft lo p (rdSt p.st d.a) w w' := by
  have hnn := h.d.ok.hi
  obtain ⟨t0, t1⟩ := h.tr
  unfold opV opC
  rw [hk]
  refine turned_read p.X p.R d.on d.a d.b d.s d.t d.u d.l1 d.l2 d.l3 d.k1 d.k2 d.k3 d.c0 d.c1 d.c2 d.c3 d.c4 d.d0 d.d1 d.d2 d.p0 d.p1 d.p2 d.p3 (rdAns p.st d.a).1 (rdAns p.st d.a).2 p.fp (HalfX lo p (rdSt p.st d.a) w) _ w (fun q e => (h.lt e).2) (fun V hb => ?_) (fun V hH => ?_)
  · refine (sread_any lo p.X p.st p.F d.a V (h.d.below hb)).mono ?_
    rintro e w' ⟨rfl, hl⟩
    exact ⟨rfl, half h hb hl⟩
  · have hH2 := hH
    obtain ⟨F', k1, k2, k3, k4, k5⟩ := hH
    obtain ⟨la, lc, hlv⟩ := owns_len k4
    by_cases hs : 0 ≤ d.a ∧ d.a < p.st.n
    · obtain ⟨i, hi⟩ := Int.eq_ofNat_of_zero_le hs.1
      have hst : rdSt p.st d.a = { p.st with trouble := tick p.st.trouble } := by unfold rdSt; rw [if_neg (fun e => e hs)]
      have hrl : Rl (rdSt p.st d.a) p.L := by rw [hst]; exact h.rl.same rfl rfl rfl rfl
      by_cases ht : p.st.trouble = 1
      · have ha : rdAns p.st d.a = (⟨#[]⟩, 5) := by unfold rdAns; rw [if_neg (fun e => e hs), if_pos ht]
        rw [ha]
        refine (rread_fail p.R d.a p.st.n p.lv p.st.trouble p.st.syncs p.st.term V k3 hs.1 hs.2 ht).mono ?_
        rintro e w' ⟨rfl, hb, hkk⟩
        refine ⟨rfl, whole2 hH2 h.lR (lv2 := p.lv) (by rw [hst]; exact hb) (owns_kept k4 hkk (fun q e e2 => by rw [e2] at e; exact owns_neQ k4 k3 (by decide) e)) (hkk.mono (fun q _ e => .inl e)) (fun q e => .inl e) hrl (Nat.le_succ _)⟩
      · have ha : rdAns p.st d.a = (latestB p.st d.a.toNat, 0) := by unfold rdAns; rw [if_neg (fun e => e hs), if_neg ht]
        have hla : latestB p.st d.a.toNat = lastR p.L i p.L.length := by rw [hi, Int.toNat_natCast]; exact h.rl.read (by omega)
        rw [ha, hla]
        rw [hlv] at k3 k4
        have hRd := rread_yes lo p.R i p.st.n la lc p.st.trouble p.st.syncs p.st.term p.L V k3 k4 (by omega) (by omega) t0 t1 ht
        rw [← hi] at hRd
        refine hRd.mono ?_
        rintro e w' ⟨rfl, hb, hkk⟩
        rw [← hlv] at k3 k4 hb
        refine ⟨rfl, whole2 hH2 h.lR (lv2 := p.lv) (by rw [hst]; exact hb) (owns_kept k4 hkk (fun q e e2 => by rw [e2] at e; exact owns_neQ k4 k3 (by decide) e)) (hkk.mono (fun q _ e => .inl e)) (fun q e => .inl e) hrl (Nat.le_succ _)⟩
    · have hst : rdSt p.st d.a = p.st := by unfold rdSt; rw [if_pos hs]
      have ha : rdAns p.st d.a = (⟨#[]⟩, 4) := by unfold rdAns; rw [if_pos hs]
      rw [ha]
      refine (rread_sec p.R d.a p.st.n p.lv p.st.trouble p.st.syncs p.st.term V k3 (by omega)).mono ?_
      rintro e w' ⟨rfl, rfl⟩
      rw [hst] at hH2 ⊢
      exact ⟨rfl, whole2 hH2 h.lR k3 k4 (Kept.refl _ _) (fun q e => .inl e) h.rl (Nat.le_succ _)⟩
theorem turn_write (h : PA lo p w) (d : OpD) (hk : d.kd = 32) (hs32 : d.s.size ≤ maxLen) (hL : p.L.length ≤ 1099511627776) (hlo : lo ≤ w.heap.size) :
    Calls Tryz.prog 62 #[.agg #[.pointer (some ⟨p.X, 0, none⟩), .pointer (some ⟨p.R, 0, none⟩)], opV d] w fun e w' => e = .returned (.bool true) ∧ PLeft lo p (wrSt p.st d.a d.s) w w' := by
  have hnn := h.d.ok.hi
  obtain ⟨t0, t1⟩ := h.tr
  have hwr := h.rl.wr
  unfold opV opC
  rw [hk]
  refine turned_write p.X p.R d.on d.a d.b d.s d.t d.u d.l1 d.l2 d.l3 d.k1 d.k2 d.k3 d.c0 d.c1 d.c2 d.c3 d.c4 d.d0 d.d1 d.d2 d.p0 d.p1 d.p2 d.p3 (wrAns p.st d.a d.s) p.fp (HalfX lo p (wrSt p.st d.a d.s) w) _ w (fun q e => (h.lt e).2) (fun V hb => ?_) (fun V hH => ?_)
  · refine (swrite_any lo p.X p.st p.F d.a d.s V (h.d.below hb) (Nat.le_trans hlo hb.size) (by omega) (by omega)).mono ?_
    rintro e w' ⟨rfl, hl⟩
    exact ⟨rfl, half h hb hl⟩
  · have hH2 := hH
    obtain ⟨F', k1, k2, k3, k4, k5⟩ := hH
    have hlV : lo ≤ V.heap.size := Nat.le_trans hlo k5.size
    obtain ⟨la, lc, hlv⟩ := owns_len k4
    by_cases hs : 0 ≤ d.a ∧ d.a < p.st.n
    · by_cases hz : d.s.size = 32
      · by_cases hf : p.st.trouble = 1 ∨ p.st.pend.length = 16
        · have hst : wrSt p.st d.a d.s = { p.st with trouble := tick p.st.trouble } := by unfold wrSt; rw [if_neg (fun e => e hs), if_neg (fun e => e hz), if_pos hf]
          have ha : wrAns p.st d.a d.s = 5 := by unfold wrAns; rw [if_neg (fun e => e hs), if_neg (fun e => e hz), if_pos hf]
          rw [ha]
          have hrl : Rl (wrSt p.st d.a d.s) p.L := by rw [hst]; exact h.rl.same rfl rfl rfl rfl
          rw [hlv] at k3 k4
          refine (rwrite_fail lo p.R d.a p.st.n d.s la lc p.st.trouble p.st.syncs p.st.term p.L V k3 k4 (by omega) hs.1 hs.2 hz t0 t1 (by rw [h.rl.count]; omega)).mono ?_
          rintro e w' ⟨rfl, hb, hkk⟩
          rw [← hlv] at k3 k4 hb
          exact ⟨rfl, whole2 hH2 h.lR (lv2 := p.lv) (by rw [hst]; exact hb) (owns_kept k4 hkk (fun q e e2 => by rw [e2] at e; exact owns_neQ k4 k3 (by decide) e)) (hkk.mono (fun q _ e => .inl e)) (fun q e => .inl e) hrl (Nat.le_succ _)⟩
        · have hmost := h.d.ok.most
          have hst : wrSt p.st d.a d.s = { p.st with trouble := tick p.st.trouble, pend := p.st.pend ++ [(d.a.toNat, d.s)], writes := p.st.writes + 1 } := by unfold wrSt; rw [if_neg (fun e => e hs), if_neg (fun e => e hz), if_neg hf]
          have ha : wrAns p.st d.a d.s = 0 := by unfold wrAns; rw [if_neg (fun e => e hs), if_neg (fun e => e hz), if_neg hf]
          rw [ha]
          have hrl : Rl (wrSt p.st d.a d.s) (p.L ++ [(d.a.toNat, d.s, 0)]) := by rw [hst]; exact h.rl.write _ _ _
          obtain ⟨i, hi⟩ := Int.eq_ofNat_of_zero_le hs.1
          rw [hlv] at k3 k4
          have hRd := rwrite_yes lo p.R i p.st.n d.s la lc p.st.trouble p.st.syncs p.st.term p.L V k3 k4 (by omega) hlV (by omega) hz t0 t1 (by omega) (by rw [h.rl.count]; omega)
          rw [← hi] at hRd
          refine hRd.mono ?_
          rintro e w' ⟨rfl, g, c, hb, hr, hkk, hg⟩
          rw [← hlv] at hkk hg
          rw [hi, Int.toNat_natCast] at hrl
          rw [← hi] at hrl
          refine ⟨rfl, whole2 hH2 h.lR (lv2 := .slice (some ⟨g, 0, none⟩) (p.L.length + 1) c) (L2 := p.L ++ [(i, d.s, 0)]) (by rw [hst]; exact hb) (by rw [List.length_append]; exact hr) hkk (fun q e => ?_) hrl (by rw [List.length_append]; exact Nat.le_refl _)⟩
          have e' : g = q := by simpa [Value.ownBlock] using e
          rw [← e']
          exact hg
      · have hst : wrSt p.st d.a d.s = p.st := by unfold wrSt; rw [if_neg (fun e => e hs), if_pos hz]
        have ha : wrAns p.st d.a d.s = 2 := by unfold wrAns; rw [if_neg (fun e => e hs), if_pos hz]
        rw [ha]
        refine (rwrite_len p.R d.a p.st.n d.s p.lv p.st.trouble p.st.syncs p.st.term V k3 hs.1 hs.2 hz hs32).mono ?_
        rintro e w' ⟨rfl, rfl⟩
        rw [hst] at hH2 ⊢
        exact ⟨rfl, whole2 hH2 h.lR k3 k4 (Kept.refl _ _) (fun q e => .inl e) h.rl (Nat.le_succ _)⟩
    · have hst : wrSt p.st d.a d.s = p.st := by unfold wrSt; rw [if_pos hs]
      have ha : wrAns p.st d.a d.s = 4 := by unfold wrAns; rw [if_pos hs]
      rw [ha]
      refine (rwrite_sec p.R d.a p.st.n d.s p.lv p.st.trouble p.st.syncs p.st.term V k3 (by omega)).mono ?_
      rintro e w' ⟨rfl, rfl⟩
      rw [hst] at hH2 ⊢
      exact ⟨rfl, whole2 hH2 h.lR k3 k4 (Kept.refl _ _) (fun q e => .inl e) h.rl (Nat.le_succ _)⟩
theorem turn_sync (h : PA lo p w) (d : OpD) (hk : d.kd = 33) (hL : p.L.length ≤ 1099511627776) (hs0 : 0 ≤ p.st.syncs) (hs1 : p.st.syncs ≤ 1099511627776) :
    Calls Tryz.prog 62 #[.agg #[.pointer (some ⟨p.X, 0, none⟩), .pointer (some ⟨p.R, 0, none⟩)], opV d] w fun e w' => e = .returned (.bool true) ∧ PLeft lo p (sySt p.st) w w' := by
  obtain ⟨t0, t1⟩ := h.tr
  unfold opV opC
  rw [hk]
  refine turned_sync p.X p.R d.on d.a d.b d.s d.t d.u d.l1 d.l2 d.l3 d.k1 d.k2 d.k3 d.c0 d.c1 d.c2 d.c3 d.c4 d.d0 d.d1 d.d2 d.p0 d.p1 d.p2 d.p3 (syAns p.st) p.fp (HalfX lo p (sySt p.st) w) _ w (fun q e => (h.lt e).2) (fun V hb => ?_) (fun V hH => ?_)
  · refine (ssync_any lo p.X p.st p.F V (h.d.below hb) hs0 (by omega)).mono ?_
    rintro e w' ⟨rfl, hl⟩
    exact ⟨rfl, half h hb hl⟩
  · have hH2 := hH
    obtain ⟨F', k1, k2, k3, k4, k5⟩ := hH
    obtain ⟨la, lc, hlv⟩ := owns_len k4
    by_cases ht : p.st.trouble = 1
    · have hst : sySt p.st = { p.st with trouble := tick p.st.trouble } := by unfold sySt; rw [if_pos ht]
      have ha : syAns p.st = 5 := by unfold syAns; rw [if_pos ht]
      rw [ha]
      refine (rsync_fail p.R p.st.n p.lv p.st.trouble p.st.syncs p.st.term V k3 ht).mono ?_
      rintro e w' ⟨rfl, hb, hkk⟩
      exact ⟨rfl, whole2 hH2 h.lR (lv2 := p.lv) (by rw [hst]; exact hb) (owns_kept k4 hkk (fun q e e2 => by rw [e2] at e; exact owns_neQ k4 k3 (by decide) e)) (hkk.mono (fun q _ e => .inl e)) (fun q e => .inl e) (by rw [hst]; exact h.rl.same rfl rfl rfl rfl) (Nat.le_succ _)⟩
    · have hst : sySt p.st = { p.st with trouble := tick p.st.trouble, dur := laidJ p.st p.st.pend.length, pend := [], syncs := p.st.syncs + 1 } := by unfold sySt; rw [if_neg ht]
      have ha : syAns p.st = 0 := by unfold syAns; rw [if_neg ht]
      rw [ha]
      rw [hlv] at k3 k4
      refine (rsync_yes lo p.R p.st.n la lc p.st.trouble p.st.syncs p.st.term p.L V k3 k4 (by omega) t0 t1 ht hs0 (by omega)).mono ?_
      rintro e w' ⟨rfl, hb, hr, hkk⟩
      rw [← hlv] at hb hr hkk
      exact ⟨rfl, whole2 hH2 h.lR (lv2 := p.lv) (L2 := crL (fun _ => true) 0 p.L) (by rw [hst]; exact hb) (by rw [crL_length]; exact hr) hkk (fun q e => .inl e) (by rw [hst]; exact h.rl.sync h.d.ok rfl rfl rfl rfl) (by rw [crL_length]; exact Nat.le_succ _)⟩
theorem turn_trouble (h : PA lo p w) (d : OpD) (hk : d.kd = 34) (ha : I64 d.a) :
    Calls Tryz.prog 62 #[.agg #[.pointer (some ⟨p.X, 0, none⟩), .pointer (some ⟨p.R, 0, none⟩)], opV d] w fun e w' => e = .returned (.bool true) ∧ PLeft lo p (if d.a < 0 then p.st else { p.st with trouble := d.a }) w w' := by
  unfold opV opC
  rw [hk]
  refine turned_trouble p.X p.R d.on d.a d.b d.s d.t d.u d.l1 d.l2 d.l3 d.k1 d.k2 d.k3 d.c0 d.c1 d.c2 d.c3 d.c4 d.d0 d.d1 d.d2 d.p0 d.p1 d.p2 d.p3 (if d.a < 0 then 2 else 0) p.fp (HalfX lo p (if d.a < 0 then p.st else { p.st with trouble := d.a }) w) _ w (fun q e => (h.lt e).2) (fun V hb => ?_) (fun V hH => ?_)
  · refine (strouble_any lo p.X p.st p.F d.a V (h.d.below hb) ha.2).mono ?_
    rintro e w' ⟨rfl, hl⟩
    exact ⟨rfl, half h hb hl⟩
  · have hH2 := hH
    obtain ⟨F', k1, k2, k3, k4, k5⟩ := hH
    by_cases hn : d.a < 0
    · rw [if_pos hn] at hH2 ⊢
      rw [if_pos hn]
      refine (rtrouble_no p.R d.a V hn).mono ?_
      rintro e w' ⟨rfl, rfl⟩
      exact ⟨rfl, whole2 hH2 h.lR k3 k4 (Kept.refl _ _) (fun q e => .inl e) h.rl (Nat.le_succ _)⟩
    · rw [if_neg hn] at hH2 ⊢
      rw [if_neg hn]
      refine (rtrouble_yes p.R d.a p.st.n p.lv p.st.trouble p.st.syncs p.st.term V k3 (by omega)).mono ?_
      rintro e w' ⟨rfl, hb, hkk⟩
      exact ⟨rfl, whole2 hH2 h.lR (lv2 := p.lv) hb (owns_kept k4 hkk (fun q e e2 => by rw [e2] at e; exact owns_neQ k4 k3 (by decide) e)) (hkk.mono (fun q _ e => .inl e)) (fun q e => .inl e) (h.rl.same rfl rfl rfl rfl) (Nat.le_succ _)⟩
theorem turn_count (h : PA lo p w) (d : OpD) (hk : d.kd = 36) (hL : p.L.length ≤ 1099511627776) :
    Calls Tryz.prog 62 #[.agg #[.pointer (some ⟨p.X, 0, none⟩), .pointer (some ⟨p.R, 0, none⟩)], opV d] w fun e w' => e = .returned (.bool true) ∧ PLeft lo p p.st w w' := by
  unfold opV opC
  rw [hk]
  refine (turned_count p.X p.R d.on d.a d.b d.s d.t d.u d.l1 d.l2 d.l3 d.k1 d.k2 d.k3 d.c0 d.c1 d.c2 d.c3 d.c4 d.d0 d.d1 d.d2 d.p0 d.p1 d.p2 d.p3 p.st.writes p.st.syncs p.st.pend.length p.fp (fun _ => True) (fun _ => True) w (fun q e => (h.lt e).2) (fun V hb => scount_any lo p.X p.st p.F V (h.d.below hb)) (fun V hb => ?_)).mono ?_
  · have hV := h.below hb
    obtain ⟨la, lc, hlv⟩ := owns_len hV.r
    have hb := hV.b
    have hr := hV.r
    rw [hlv] at hb hr
    have := rcount_any lo p.R p.st.n la lc p.st.trouble p.st.syncs p.st.term p.L V hb hr (by omega)
    rw [h.rl.count, ← h.rl.wr] at this
    exact this
  · rintro e w' ⟨rfl, hb⟩
    exact ⟨rfl, p, rfl, rfl, rfl, Nat.le_succ _, h.below hb, Kept.of_below hb, fun q e => .inl e⟩
end
end Go.Proofs.YtgaoeoijdpdjiaaGreatDoor

namespace Go.Proofs.YtgaoeoijdpdjiaaGreatDoor
open Go.RowKit
/-- What is to be kept came in at an old place. -/
def KeepLo (lo : Nat) (w : World) (sp : Option Addr) (n c : Nat) (K : List Bool) : Prop :=
  (sp = none ∧ n = 0 ∧ c = 0 ∧ K = []) ∨ ∃ a : Addr, sp = some a ∧ n = K.length ∧ (K = [] ∨ ∃ bk o, a = ⟨bk, o, none⟩ ∧ K.length ≤ c ∧ bk < lo ∧ ∀ (j : Nat) y, K[j]? = some y → w.cell? ⟨bk, o + j, none⟩ = some (.bool y))
section
variable {lo : Nat} {p : PrD} {w V w' : World} {sp : Option Addr} {n c : Nat} {K : List Bool}
theorem KeepLo.kept (h : KeepLo lo w sp n c K) {X : Nat → Prop} (hk : Kept X w w') (hX : ∀ q, X q → lo ≤ q) (hlo : lo ≤ w.heap.size) : KeepLo lo w' sp n c K := by
  rcases h with h | ⟨a, h1, h2, h3⟩
  · exact .inl h
  · refine .inr ⟨a, h1, h2, h3.imp id ?_⟩
    rintro ⟨bk, o, e1, e2, e3, e4⟩
    exact ⟨bk, o, e1, e2, e3, fun j y hy => (hk.cell (p := ⟨bk, o + j, none⟩) (Nat.lt_of_lt_of_le e3 hlo) (fun e => by have := hX _ e; dsimp only at this; omega)).trans (e4 j y hy)⟩
theorem KeepLo.bools (h : KeepLo lo w sp n c K) : BoolsAt w (.slice sp n c) K := by
  rcases h with ⟨rfl, rfl, rfl, rfl⟩ | ⟨a, rfl, rfl, h3⟩
  · exact .inl ⟨⟨none, 0, rfl⟩, rfl⟩
  · rcases h3 with rfl | ⟨bk, o, rfl, e2, _, e4⟩
    · exact .inl ⟨⟨_, _, rfl⟩, rfl⟩
    · exact .inr ⟨bk, o, c, rfl, e2, e4⟩
theorem KeepLo.own (h : KeepLo lo w sp n c K) : ∀ b o l c2, Value.slice sp n c = .slice (some ⟨b, o, none⟩) l c2 → 0 < l → b < lo := by
  intro b o l c2 e hl
  simp only [Value.slice.injEq] at e
  rcases h with ⟨rfl, _⟩ | ⟨a, rfl, h2, h3⟩
  · simp at e
  · rcases h3 with rfl | ⟨bk, o2, rfl, _, e3, _⟩
    · have : n = 0 := h2
      omega
    · have := e.1
      simp only [Option.some.injEq, Addr.mk.injEq] at this
      omega
/-- A block of another kind is not of the two disks. -/
theorem PA.ne (h : PA lo p w) {b : Nat} {vs : List Value} (hb : Blk w b vs 4) : ¬ p.fp b := by
  rintro (e | rfl | e)
  · exact sdisk_ne h.d hb (by decide) (by decide) (by decide) (by decide) e
  · have := h.b
    unfold Blk at this hb
    rw [hb] at this
    simp only [Option.some.injEq, Obj.cells.injEq] at this
    exact absurd this.2.1 (by decide)
  · exact owns_neQ h.r hb (by decide) e
theorem mix_cell {g : Nat} {f : Nat → Bool} (hb : Blk w g (mixK (K.length + 5) f (keepV K) 0) 4) {j : Nat} {y : Bool} (hy : K[j]? = some y) : w.cell? ⟨g, j, none⟩ = some (.bool y) := by
  have hl := (List.getElem?_eq_some_iff.1 hy).1
  rw [hb.cell j, mixK_get _ _ _ _ _ (by omega), if_neg (by omega), keepV_in hy]
set_option maxHeartbeats 1000000 in
theorem turn_crash (h : PA lo p w) (d : OpD) (hk : d.kd = 35) (hL : p.L.length ≤ 1099511627776) (hlo : lo ≤ w.heap.size) (hK : KeepLo lo w d.k1 d.k2 d.k3 d.K) (hKn : d.K.length ≤ 140737488355328) (hs0 : 0 ≤ p.st.term) (hs1 : p.st.term ≤ 1099511627776) :
    Calls Tryz.prog 62 #[.agg #[.pointer (some ⟨p.X, 0, none⟩), .pointer (some ⟨p.R, 0, none⟩)], opV d] w fun e w' => e = .returned (.bool true) ∧ PLeft lo p (crSt p.st d.K) w w' := by
  unfold opV opC
  rw [hk]
  have hKm : d.K.length ≤ maxLen := by unfold maxLen; omega
  have hfl : ∀ q, p.fp q → lo ≤ q := fun q e => (h.lt e).1
  have crR : ∀ V, HalfX lo p (crSt p.st d.K) w V → Calls Tryz.prog 130 #[.pointer (some ⟨p.R, 0, none⟩), .slice d.k1 d.k2 d.k3] V fun e w' => e = .returned (.tuple #[]) ∧ Kept p.fp V w' ∧ PLeft lo p (crSt p.st d.K) w w' ∧ KeepLo lo w' d.k1 d.k2 d.k3 d.K := by
    intro V hH
    have hH2 := hH
    obtain ⟨F', k1, k2, k3, k4, k5⟩ := hH
    have hKV := hK.kept k5 hfl hlo
    obtain ⟨la, lc, hlv⟩ := owns_len k4
    have hll : ∀ q, p.lv.ownBlock = some q → lo ≤ q := fun q e => (k4.lt q e).1
    have k3' := k3
    have k4' := k4
    rw [hlv] at k3 k4
    refine (rcrash_any lo p.R p.st.n la lc p.st.trouble p.st.syncs p.st.term p.L _ d.K V k3 k4 (by omega) hKV.bools hKm (fun b o l c e hl => ?_) hs0 (by omega)).mono ?_
    · have hb := hKV.own b o l c e hl
      refine ⟨Nat.lt_of_lt_of_le hb (Nat.le_trans hlo k5.size), fun e2 => ?_⟩
      have := hll b (by rw [hlv]; exact e2)
      omega
    · rintro e w' ⟨rfl, hb, hr, hkk⟩
      rw [← hlv] at hb hr hkk
      obtain ⟨q1, q2⟩ := whole2 hH2 h.lR (lv2 := p.lv) (L2 := crL (fun c => d.K.getD c false) 0 p.L) hb (by rw [crL_length]; exact hr) hkk (fun q e => .inl e) (h.rl.crash h.d.ok d.K rfl rfl rfl rfl) (by rw [crL_length]; exact Nat.le_succ _)
      exact ⟨rfl, q1, q2, hKV.kept q1 hfl (Nat.le_trans hlo k5.size)⟩
  rcases hK with ⟨e1, e2, e3, e4⟩ | ⟨a, e1, e2, e3⟩
  · have hKn2 : KeepLo lo w d.k1 d.k2 d.k3 d.K := .inl ⟨e1, e2, e3, e4⟩
    refine turned_crash p.X p.R d.on d.a d.b d.s d.t d.u d.l1 d.l2 d.l3 d.k1 d.k2 d.k3 d.c0 d.c1 d.c2 d.c3 d.c4 d.d0 d.d1 d.d2 d.p0 d.p1 d.p2 d.p3 (.slice none 0 0) (fun V => Below w.heap.size w V) _ p.fp (HalfX lo p (crSt p.st d.K) w) (fun V => PLeft lo p (crSt p.st d.K) w V) w (fun q e => (h.lt e).2) (fun V hb _ => ?_) (fun V hb => ?_) (fun V hH => (crR V hH).mono fun e w' h => ⟨h.1, h.2.1, h.2.2.1⟩) (fun V hH => ?_)
    · rw [e1, e2, e3]
      refine (lentK_nil V).mono ?_
      rintro e w' ⟨rfl, rfl⟩
      exact ⟨rfl, Below.refl _ _, hb⟩
    · refine (scrash_any lo p.X p.st p.F _ d.K V (h.d.below hb) (.inl ⟨⟨none, 0, rfl⟩, e4⟩) hKm (fun b o l c e => by simp at e) hs0 (by omega)).mono ?_
      rintro e w' ⟨rfl, hl⟩
      exact ⟨rfl, half h hb hl⟩
    · rw [e1, e2, e3]
      refine (wholeK_nil V).mono ?_
      rintro e w' ⟨rfl, rfl⟩
      exact ⟨rfl, hH⟩
  · have hKs : KeepLo lo w d.k1 d.k2 d.k3 d.K := .inr ⟨a, e1, e2, e3⟩
    have hgn : ∀ q, p.fp q → q ≠ w.heap.size + 2 := fun q e => by have := (h.lt e).2; omega
    refine turned_crash p.X p.R d.on d.a d.b d.s d.t d.u d.l1 d.l2 d.l3 d.k1 d.k2 d.k3 d.c0 d.c1 d.c2 d.c3 d.c4 d.d0 d.d1 d.d2 d.p0 d.p1 d.p2 d.p3 (.slice (some ⟨w.heap.size + 2, 0, none⟩) d.K.length (d.K.length + 5)) (fun V => Below w.heap.size w V ∧ Blk V (w.heap.size + 2) (mixK (d.K.length + 5) (fun i => !keepV d.K i) (keepV d.K) 0) 4) _ p.fp (fun V => HalfX lo p (crSt p.st d.K) w V ∧ Blk V (w.heap.size + 2) (mixK (d.K.length + 5) (fun i => !keepV d.K i) (keepV d.K) 0) 4) (fun V => (PLeft lo p (crSt p.st d.K) w V ∧ KeepLo lo V d.k1 d.k2 d.k3 d.K) ∧ Blk V (w.heap.size + 2) (mixK (d.K.length + 5) (fun i => !keepV d.K i) (keepV d.K) 0) 4) w (fun q e => (h.lt e).2) (fun V hb hsz => ?_) ?_ ?_ ?_
    · rw [e1, e2]
      have hKV := hKs.kept (Kept.of_below (F := fun _ => False) hb) (fun _ e => e.elim) hlo
      refine (lentK_some a d.k3 d.K V ?_ hKn).mono ?_
      · rcases hKV with ⟨e, _⟩ | ⟨a', f1, f2, f3⟩
        · rw [e1] at e; simp at e
        · rw [e1] at f1
          simp only [Option.some.injEq] at f1
          subst f1
          refine f3.imp id ?_
          rintro ⟨bk, o, g1, g2, g3, g4⟩
          exact ⟨bk, o, g1, Nat.lt_of_lt_of_le g3 (Nat.le_trans hlo hb.size), g4⟩
      · rintro e w' ⟨rfl, hbk, hb2⟩
        rw [hsz] at hbk ⊢
        rw [← hsz]
        rw [← hsz] at hbk
        exact ⟨rfl, hb2, hb.trans (hb2.mono hb.size), hbk⟩
    · rintro V ⟨hb, hbk⟩
      refine (scrash_any lo p.X p.st p.F _ d.K V (h.d.below hb) (.inr ⟨_, 0, _, rfl, by omega, fun j y hy => by rw [Nat.zero_add]; exact mix_cell hbk hy⟩) hKm (fun b o l c e hl => ?_) hs0 (by omega)).mono ?_
      · simp only [Value.slice.injEq, Option.some.injEq, Addr.mk.injEq, and_true] at e
        obtain ⟨⟨e5, _⟩, _⟩ := e
        rw [← e5]
        exact ⟨hbk.lt, fun e => hgn _ (.inl e) rfl⟩
      · rintro e w' ⟨rfl, hl⟩
        obtain ⟨q1, q2⟩ := half h hb hl
        exact ⟨rfl, q1, q2, blkQ hbk q1 (fun e => hgn _ e rfl)⟩
    · rintro V ⟨hH, hbk⟩
      refine (crR V hH).mono ?_
      rintro e w' ⟨rfl, q1, q2, q3⟩
      exact ⟨rfl, q1, ⟨q2, q3⟩, blkQ hbk q1 (fun e => hgn _ e rfl)⟩
    · rintro V ⟨⟨hH, hKV⟩, hbk⟩
      rw [e1, e2]
      have hgw : w.heap.size + 2 < V.heap.size := hbk.lt
      refine (wholeK_some (w.heap.size + 2) a d.k3 d.K V ?_ hKn hbk).mono ?_
      · rcases hKV with ⟨e, _⟩ | ⟨a', f1, f2, f3⟩
        · rw [e1] at e; simp at e
        · rw [e1] at f1
          simp only [Option.some.injEq] at f1
          subst f1
          refine f3.imp id ?_
          rintro ⟨bk, o, g1, g2, g3, g4⟩
          exact ⟨bk, o, g1, g2, by omega, g4⟩
      · rintro e w' ⟨rfl, hkk⟩
        obtain ⟨p', y1, y2, y3, y4, y5, y6, y7⟩ := hH
        refine ⟨rfl, p', y1, y2, y3, y4, y5.kept hkk (fun q e e2 => ?_), y6.trans hkk (fun q e => .inr (by rw [e]; omega)), y7⟩
        rw [e2] at e
        exact y5.ne hbk e
end
end Go.Proofs.YtgaoeoijdpdjiaaGreatDoor
