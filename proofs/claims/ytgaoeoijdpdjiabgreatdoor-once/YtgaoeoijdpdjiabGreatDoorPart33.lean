/-
  Make and Open of package signers, over any disk. A signer when nothing fails: what holds from step to step.
-/
import Derived.Test.YtgaoeoijdpdjiabGreatDoorPart32
import Derived.Test.YtgaoeoijdpdjiabGreatDoorPart27
import Derived.Test.YtgaoeoijdpdjiabGreatDoorPart22
namespace Go.Proofs.YtgaoeoijdpdjiabGreatDoor
open Go.RowKit

theorem sy_term (st : DSt) : (sySt st).term = st.term := by unfold sySt; split <;> rfl
theorem rd_term (st : DSt) (i : Int) : (rdSt st i).term = st.term := by unfold rdSt; split <;> rfl
theorem wr_term (st : DSt) (i : Int) (t : ByteArray) : (wrSt st i t).term = st.term := by
  unfold wrSt
  repeat' split
  all_goals rfl
theorem opS_term (st : DSt) (j : Nat) : (opS st j).term = st.term := by
  rcases j with _ | _ | _ | j
  · rfl
  · exact sy_term st
  · show (rdSt (sySt st) 0).term = _; rw [rd_term, sy_term]
  · show (rdSt (rdSt (sySt st) 0) 1).term = _; rw [rd_term, rd_term, sy_term]
theorem opSt_term (st : DSt) : (opSt st).term = st.term := by
  unfold opSt
  repeat' split
  all_goals exact opS_term _ _
theorem mkT_term (st : DSt) (id : ByteArray) : (mkT st id).term = st.term := by unfold mkT; rw [wr_term, opS_term]
theorem mkSt_term (st : DSt) (id : ByteArray) : (mkSt st id).term = st.term := by
  unfold mkSt
  repeat' split
  all_goals first | exact opS_term _ _ | exact mkT_term _ _ | (rw [sy_term, mkT_term])

set_option maxRecDepth 20000 in
set_option maxHeartbeats 4000000 in
theorem make_any (lo D : Nat) (st : DSt) (F : Nat → Prop) (k b x t l : Int) (root pub sec rnd id : ByteArray) (tot bat z0 z1 z2 z4 z5 : Int) (w : World) (hD : DSk lo D st w F) (hn : 2 ≤ st.n) (hT : Tn w) (hTB : 1 < lo) (hlo : lo ≤ w.heap.size) (hb1 : 1 ≤ bat) (hb2 : bat ≤ 64) (ht0 : 0 ≤ st.term) (ht1 : st.term < 9223372036854775807)
    (hM : ∀ V : World, Calls Tryz.prog 155 #[.agg #[.int .i64 k, .int .i64 b, .int .i64 x, .int .i64 t, .int .i64 l]] V fun e w' => e = .returned (.tuple #[.agg #[.int .i64 z0, .int .i64 z1, .int .i64 z2, .int .i64 tot, .int .i64 z4, .int .i64 z5], .int .i64 0]) ∧ Below V.heap.size V w')
    (hOf : ∀ V : World, Tn V → Calls Tryz.prog 178 #[.agg #[.int .i64 k, .int .i64 b, .int .i64 x, .int .i64 t, .int .i64 l], .agg #[.string sec, .string rnd, .string pub]] V fun e w' => e = .returned (.tuple #[.agg #[.int .i64 k, .int .i64 b, .int .i64 x, .int .i64 t, .int .i64 l, .string root, .string pub], .int .i64 0]) ∧ Below V.heap.size V w')
    (hId : ∀ V : World, Tn V → Calls Tryz.prog 179 #[.agg #[.int .i64 k, .int .i64 b, .int .i64 x, .int .i64 t, .int .i64 l, .string root, .string pub]] V fun e w' => e = .returned (.string id) ∧ Below V.heap.size V w')
    (s' : DSt) (hs' : s' = { st with term := st.term + 1 }) (y0 : 0 ≤ s'.syncs) (y1 : s'.syncs < 9223372036854775807) (hid : id.size = 8) (r0 : 0 ≤ (opS s' 3).writes) (r1 : (opS s' 3).writes < 9223372036854775807) (y2 : 0 ≤ (mkT s' id).syncs) (y3 : (mkT s' id).syncs < 9223372036854775807) :
    Calls Tryz.prog 66 #[.pointer (some ⟨D, 0, none⟩), .agg #[.int .i64 k, .int .i64 b, .int .i64 x, .int .i64 t, .int .i64 l], .agg #[.string sec, .string rnd, .string pub], .int .i64 bat] w fun e w' => ∃ F', DSk lo D (mkSt s' id) w' F' ∧ Kept F w w' ∧ (∀ k, F' k → F k ∨ w.heap.size ≤ k) ∧
      ((mkAns s' id = 0 ∧ ∃ S, e = .returned (.tuple #[.pointer (some ⟨S, 0, none⟩), .int .i64 0]) ∧ Blk w' S (sgC D (st.term + 1) k b x t l root pub sec rnd tot bat 0 1 0 id false) 188 ∧ ¬ F' S ∧ w.heap.size ≤ S) ∨ (mkAns s' id ≠ 0 ∧ e = .returned (.tuple #[.pointer none, .int .i64 (mkAns s' id)]))) := by
  obtain ⟨W1, hW⟩ : ∃ W1, ((w.alloc (.cells #[.int .i64 k, .int .i64 b, .int .i64 x, .int .i64 t, .int .i64 l] 26)).alloc (.cells #[.string sec, .string rnd, .string pub] 42)).alloc (.cells (List.toArray [.func (.func 107) #[] #[], .func (.func 108) #[] #[], .func (.func 109) #[] #[], .func (.func 110) #[] #[], .func (.func 111) #[] #[], .func (.func 107) #[] #[]]) 331) = W1 := ⟨_, rfl⟩
  have HB := hide (show Below w.heap.size w W1 by subst hW; exact (((Below.refl _ _).alloc (Nat.le_refl _) _).alloc (by simp) _).alloc (by simp; omega) _)
  have HSB := hide (show Blk W1 (w.heap.size + 1 + 1) mkV 331 by
    rw [← hW]
    have h := Blk.new ((w.alloc (.cells #[.int .i64 k, .int .i64 b, .int .i64 x, .int .i64 t, .int .i64 l] 26)).alloc (.cells #[.string sec, .string rnd, .string pub] 42)) mkV 331
    simp only [World.size_alloc] at h
    exact h)
  have hlt := HSB.out.lt
  have nF : ¬ F (w.heap.size + 1 + 1) := fun h => by have := (hD.lt _ h).2; omega
  have hDN : ∀ (V : World) (O : Nat) (F1 : Nat → Prop), DSk lo D s' V F1 → Kept F W1 V → (∀ k, F1 k → F k ∨ W1.heap.size ≤ k) → W1.heap.size ≤ O → ¬ F1 O → Blk V O (opC D id tot (.slice none 0 0) 0 0 ⟨#[]⟩) 246 → _ := fun V O F1 d1 k1 f1 hO nO bO =>
    mdone_any lo O (w.heap.size + 1 + 1) D 331 s' F1 id tot V d1 bO (k1.blk HSB.out nF) nO (by
      intro h
      rcases f1 _ h with h | h
      · exact nF h
      · omega) (Nat.le_trans hlo (Nat.le_trans HB.out.size k1.size)) (by omega) hid y0 y1 r0 r1 y2 y3
  have HT : Hid (Calls Tryz.prog 106 #[.pointer (some ⟨D, 0, none⟩), .agg #[.int .i64 k, .int .i64 b, .int .i64 x, .int .i64 t, .int .i64 l], .agg #[.string sec, .string rnd, .string pub], .int .i64 bat, .slice (some ⟨w.heap.size + 1 + 1, 0, none⟩) 6 6] W1 fun e w' => ∃ v c, e = .returned (.tuple #[.pointer v, .int .i64 c]) ∧ ∃ F', DSk lo D (mkSt s' id) w' F' ∧ Kept F W1 w' ∧ (∀ k, F' k → F k ∨ W1.heap.size ≤ k) ∧
      ((mkAns s' id = 0 ∧ c = 0 ∧ ∃ S, v = some ⟨S, 0, none⟩ ∧ Blk w' S (sgC D (st.term + 1) k b x t l root pub sec rnd tot bat 0 1 0 id false) 188 ∧ ¬ F' S ∧ W1.heap.size ≤ S) ∨ (mkAns s' id ≠ 0 ∧ v = none ∧ c = mkAns s' id))) := by
    by_cases hc : mkAns s' id = 0
    · refine (begun_fv lo D st (mkSt s' id) F k b x t l root pub sec rnd id _ tot bat _ _ z0 z1 z2 z4 z5 (.slice (some ⟨w.heap.size + 1 + 1, 0, none⟩) 6 6) W1 (hD.below HB.out) hn (hT.on HB.out) hTB (Nat.le_trans hlo HB.out.size) hb1 hb2 ht0 ht1 (by rw [mkSt_term, hs']) hM hOf hId (by
        intro V O F1 d1 k1 f1 hO nO bO
        rw [← hs'] at d1
        refine (hDN V O F1 d1 k1 f1 hO nO bO).mono ?_
        rintro e w' ⟨rfl, h1, _⟩
        rw [hc]
        exact ⟨rfl, h1 hc⟩)).mono ?_
      rintro e w' ⟨S, F', rfl, q1, q2, q3, q4, q5, q6⟩
      exact ⟨_, _, rfl, F', q2, q5, q6, .inl ⟨hc, rfl, S, rfl, q1, q3, q4⟩⟩
    · refine (begun_no lo D st (mkSt s' id) F k b x t l root pub sec rnd id tot bat (mkAns s' id) z0 z1 z2 z4 z5 (.slice (some ⟨w.heap.size + 1 + 1, 0, none⟩) 6 6) W1 (hD.below HB.out) hn (hT.on HB.out) hTB (Nat.le_trans hlo HB.out.size) hb1 hb2 ht0 ht1 hc hM hOf hId (by
        intro V O F1 d1 k1 f1 hO nO bO
        rw [← hs'] at d1
        refine (hDN V O F1 d1 k1 f1 hO nO bO).mono ?_
        rintro e w' ⟨rfl, _, h2⟩
        exact ⟨rfl, h2⟩)).mono ?_
      rintro e w' ⟨F', rfl, q2, q5, q6⟩
      exact ⟨_, _, rfl, F', q2, q5, q6, .inr ⟨hc, rfl, rfl⟩⟩
  have HWE := hide hW
  clear hW hlt nF hDN hM hOf hId hD hT
  go_enter Tryz.func66, Tryz.ntmps66
  go_wp2_with fail
  rw [HWE.out]
  refine HT.out.mono ?_
  rintro e w2 ⟨v, c, rfl, hq⟩
  have HQ := hide hq
  clear hq
  go_wp2
  go_ret2
  obtain ⟨F', q2, q5, q6, q7⟩ := HQ.out
  refine ⟨F', q2, (Kept.of_below (F := F) HB.out).trans q5 (fun i hi => .inl hi), fun i hi => ?_, ?_⟩
  · rcases q6 i hi with h | h
    · exact .inl h
    · exact .inr (Nat.le_trans HB.out.size h)
  · rcases q7 with ⟨h1, rfl, S, rfl, h2, h3, h4⟩ | ⟨h1, rfl, rfl⟩
    · exact .inl ⟨h1, S, rfl, h2, h3, Nat.le_trans HB.out.size h4⟩
    · exact .inr ⟨h1, rfl⟩

set_option maxRecDepth 20000 in
set_option maxHeartbeats 4000000 in
theorem open_any (lo D : Nat) (st : DSt) (F : Nat → Prop) (k b x t l : Int) (root pub sec rnd id : ByteArray) (tot bat z0 z1 z2 z4 z5 : Int) (w : World) (hD : DSk lo D st w F) (hn : 2 ≤ st.n) (hT : Tn w) (hTB : 1 < lo) (hlo : lo ≤ w.heap.size) (hb1 : 1 ≤ bat) (hb2 : bat ≤ 64) (ht0 : 0 ≤ st.term) (ht1 : st.term < 9223372036854775807)
    (hM : ∀ V : World, Calls Tryz.prog 155 #[.agg #[.int .i64 k, .int .i64 b, .int .i64 x, .int .i64 t, .int .i64 l]] V fun e w' => e = .returned (.tuple #[.agg #[.int .i64 z0, .int .i64 z1, .int .i64 z2, .int .i64 tot, .int .i64 z4, .int .i64 z5], .int .i64 0]) ∧ Below V.heap.size V w')
    (hOf : ∀ V : World, Tn V → Calls Tryz.prog 178 #[.agg #[.int .i64 k, .int .i64 b, .int .i64 x, .int .i64 t, .int .i64 l], .agg #[.string sec, .string rnd, .string pub]] V fun e w' => e = .returned (.tuple #[.agg #[.int .i64 k, .int .i64 b, .int .i64 x, .int .i64 t, .int .i64 l, .string root, .string pub], .int .i64 0]) ∧ Below V.heap.size V w')
    (hId : ∀ V : World, Tn V → Calls Tryz.prog 179 #[.agg #[.int .i64 k, .int .i64 b, .int .i64 x, .int .i64 t, .int .i64 l, .string root, .string pub]] V fun e w' => e = .returned (.string id) ∧ Below V.heap.size V w')
    (s' : DSt) (hs' : s' = { st with term := st.term + 1 }) (y0 : 0 ≤ s'.syncs) (y1 : s'.syncs < 9223372036854775807) :
    Calls Tryz.prog 100 #[.pointer (some ⟨D, 0, none⟩), .agg #[.int .i64 k, .int .i64 b, .int .i64 x, .int .i64 t, .int .i64 l], .agg #[.string sec, .string rnd, .string pub], .int .i64 bat] w fun e w' => ∃ F', DSk lo D (opSt s') w' F' ∧ Kept F w w' ∧ (∀ k, F' k → F k ∨ w.heap.size ≤ k) ∧
      ((opAns s' id tot = 0 ∧ ∃ S, e = .returned (.tuple #[.pointer (some ⟨S, 0, none⟩), .int .i64 0]) ∧ Blk w' S (sgC D (st.term + 1) k b x t l root pub sec rnd tot bat (opT s' id tot).b (opT s' id tot).q (opT s' id tot).b (opT s' id tot).d false) 188 ∧ ¬ F' S ∧ w.heap.size ≤ S) ∨ (opAns s' id tot ≠ 0 ∧ e = .returned (.tuple #[.pointer none, .int .i64 (opAns s' id tot)]))) := by
  obtain ⟨W1, hW⟩ : ∃ W1, ((w.alloc (.cells #[.int .i64 k, .int .i64 b, .int .i64 x, .int .i64 t, .int .i64 l] 26)).alloc (.cells #[.string sec, .string rnd, .string pub] 42)).alloc (.cells (List.toArray [.func (.func 107) #[] #[], .func (.func 108) #[] #[], .func (.func 109) #[] #[], .func (.func 172) #[] #[]]) 331) = W1 := ⟨_, rfl⟩
  have HB := hide (show Below w.heap.size w W1 by subst hW; exact (((Below.refl _ _).alloc (Nat.le_refl _) _).alloc (by simp) _).alloc (by simp; omega) _)
  have HSB := hide (show Blk W1 (w.heap.size + 1 + 1) opV 331 by
    rw [← hW]
    have h := Blk.new ((w.alloc (.cells #[.int .i64 k, .int .i64 b, .int .i64 x, .int .i64 t, .int .i64 l] 26)).alloc (.cells #[.string sec, .string rnd, .string pub] 42)) opV 331
    simp only [World.size_alloc] at h
    exact h)
  have hlt := HSB.out.lt
  have nF : ¬ F (w.heap.size + 1 + 1) := fun h => by have := (hD.lt _ h).2; omega
  have hDN : ∀ (V : World) (O : Nat) (F1 : Nat → Prop), DSk lo D s' V F1 → Kept F W1 V → (∀ k, F1 k → F k ∨ W1.heap.size ≤ k) → W1.heap.size ≤ O → ¬ F1 O → Blk V O (opC D id tot (.slice none 0 0) 0 0 ⟨#[]⟩) 246 → _ := fun V O F1 d1 k1 f1 hO nO bO =>
    odone_any lo O (w.heap.size + 1 + 1) D 331 s' F1 id tot V d1 bO (k1.blk HSB.out nF) nO (by
      intro h
      rcases f1 _ h with h | h
      · exact nF h
      · omega) (Nat.le_trans hlo (Nat.le_trans HB.out.size k1.size)) (by omega) y0 y1
  have HT : Hid (Calls Tryz.prog 106 #[.pointer (some ⟨D, 0, none⟩), .agg #[.int .i64 k, .int .i64 b, .int .i64 x, .int .i64 t, .int .i64 l], .agg #[.string sec, .string rnd, .string pub], .int .i64 bat, .slice (some ⟨w.heap.size + 1 + 1, 0, none⟩) 4 4] W1 fun e w' => ∃ v c, e = .returned (.tuple #[.pointer v, .int .i64 c]) ∧ ∃ F', DSk lo D (opSt s') w' F' ∧ Kept F W1 w' ∧ (∀ k, F' k → F k ∨ W1.heap.size ≤ k) ∧
      ((opAns s' id tot = 0 ∧ c = 0 ∧ ∃ S, v = some ⟨S, 0, none⟩ ∧ Blk w' S (sgC D (st.term + 1) k b x t l root pub sec rnd tot bat (opT s' id tot).b (opT s' id tot).q (opT s' id tot).b (opT s' id tot).d false) 188 ∧ ¬ F' S ∧ W1.heap.size ≤ S) ∨ (opAns s' id tot ≠ 0 ∧ v = none ∧ c = opAns s' id tot))) := by
    by_cases hc : opAns s' id tot = 0
    · refine (begun_fv lo D st (opSt s') F k b x t l root pub sec rnd id _ tot bat _ _ z0 z1 z2 z4 z5 (.slice (some ⟨w.heap.size + 1 + 1, 0, none⟩) 4 4) W1 (hD.below HB.out) hn (hT.on HB.out) hTB (Nat.le_trans hlo HB.out.size) hb1 hb2 ht0 ht1 (by rw [opSt_term, hs']) hM hOf hId (by
        intro V O F1 d1 k1 f1 hO nO bO
        rw [← hs'] at d1
        refine (hDN V O F1 d1 k1 f1 hO nO bO).mono ?_
        rintro e w' ⟨rfl, h1, _⟩
        rw [hc]
        exact ⟨rfl, h1 hc⟩)).mono ?_
      rintro e w' ⟨S, F', rfl, q1, q2, q3, q4, q5, q6⟩
      exact ⟨_, _, rfl, F', q2, q5, q6, .inl ⟨hc, rfl, S, rfl, q1, q3, q4⟩⟩
    · refine (begun_no lo D st (opSt s') F k b x t l root pub sec rnd id tot bat (opAns s' id tot) z0 z1 z2 z4 z5 (.slice (some ⟨w.heap.size + 1 + 1, 0, none⟩) 4 4) W1 (hD.below HB.out) hn (hT.on HB.out) hTB (Nat.le_trans hlo HB.out.size) hb1 hb2 ht0 ht1 hc hM hOf hId (by
        intro V O F1 d1 k1 f1 hO nO bO
        rw [← hs'] at d1
        refine (hDN V O F1 d1 k1 f1 hO nO bO).mono ?_
        rintro e w' ⟨rfl, _, h2⟩
        exact ⟨rfl, h2⟩)).mono ?_
      rintro e w' ⟨F', rfl, q2, q5, q6⟩
      exact ⟨_, _, rfl, F', q2, q5, q6, .inr ⟨hc, rfl, rfl⟩⟩
  have HWE := hide hW
  clear hW hlt nF hDN hM hOf hId hD hT
  go_enter Tryz.func100, Tryz.ntmps100
  go_wp2_with fail
  rw [HWE.out]
  refine HT.out.mono ?_
  rintro e w2 ⟨v, c, rfl, hq⟩
  have HQ := hide hq
  clear hq
  go_wp2
  go_ret2
  obtain ⟨F', q2, q5, q6, q7⟩ := HQ.out
  refine ⟨F', q2, (Kept.of_below (F := F) HB.out).trans q5 (fun i hi => .inl hi), fun i hi => ?_, ?_⟩
  · rcases q6 i hi with h | h
    · exact .inl h
    · exact .inr (Nat.le_trans HB.out.size h)
  · rcases q7 with ⟨h1, rfl, S, rfl, h2, h3, h4⟩ | ⟨h1, rfl, rfl⟩
    · exact .inl ⟨h1, S, rfl, h2, h3, Nat.le_trans HB.out.size h4⟩
    · exact .inr ⟨h1, rfl⟩
end Go.Proofs.YtgaoeoijdpdjiabGreatDoor

namespace Go.Proofs.YtgaoeoijdpdjiabGreatDoor
open Go.RowKit

/-- A disk on which nothing is pending and nothing fails. -/
structure Calm (st : DSt) (tm q : Int) : Prop where
  n : st.n = 2
  tr : st.trouble = 0
  pe : st.pend = []
  te : st.term = tm
  wr : st.writes = q
  sy : st.syncs = q + 1

theorem calm_next {st : DSt} {tm q : Int} (h : Calm st tm q) (i : Int) (hi : 0 ≤ i ∧ i < 2) (z : ByteArray) (hz : z.size = 32) :
    wrAns st i z = 0 ∧ (wrSt st i z).syncs = st.syncs ∧ syAns (wrSt st i z) = 0 ∧ Calm (sySt (wrSt st i z)) tm (q + 1) := by
  have hi' : 0 ≤ i ∧ i < (st.n : Int) := ⟨hi.1, by rw [h.n]; exact hi.2⟩
  have hf : ¬ (st.trouble = 1 ∨ st.pend.length = 16) := by
    rintro (e | e)
    · rw [h.tr] at e; exact absurd e (by decide)
    · rw [h.pe] at e; exact absurd e (by decide)
  have e1 : wrAns st i z = 0 := by rw [wrAns, if_neg (fun hn => hn hi'), if_neg (fun hn => hn hz), if_neg hf]
  have e2 : wrSt st i z = { st with trouble := tick st.trouble, pend := st.pend ++ [(i.toNat, z)], writes := st.writes + 1 } := by rw [wrSt, if_neg (fun hn => hn hi'), if_neg (fun hn => hn hz), if_neg hf]
  have t0 : tick st.trouble = 0 := by rw [h.tr]; decide
  have e3 : ¬ (wrSt st i z).trouble = 1 := by rw [e2]; show ¬ tick st.trouble = 1; rw [t0]; decide
  refine ⟨e1, by rw [e2], by rw [syAns, if_neg e3], ?_⟩
  rw [sySt, if_neg e3, e2]
  exact ⟨h.n, by show tick (tick st.trouble) = 0; rw [t0]; decide, rfl, h.te, by show st.writes + 1 = q + 1; rw [h.wr], by show st.syncs + 1 = q + 1 + 1; rw [h.sy]⟩

def ioC (D : Nat) (tm k : Int) (b x e f t l : Nat) (sec rnd pub : ByteArray) (bat : Int) (kk q bd : Nat) : List Value :=
  sgC D tm k b x t l (rootK k b x t (b * e + f) l sec pub) pub sec rnd ((2 ^ (t * l) : Nat) : Int) bat kk q bd (idS k b x t l (rootK k b x t (b * e + f) l sec pub) pub) false

section
variable {k : Int} {b x e f t l : Nat} (R : RSet k b x e f t l) {sec rnd pub : ByteArray} (s1 : sec.size = b) (s2 : rnd.size = b) (s3 : pub.size = b) {lo SD D G S : Nat} {tm bat : Int} {kk q bd : Nat} {st : DSt} {F : Nat → Prop} {V : World}

theorem total_most (R : RSet k b x e f t l) : 2 ^ (t * l) ≤ 4096 := Nat.le_trans (Nat.pow_le_pow_right (by decide) (Nat.mul_le_mul R.t2 R.l2)) (by decide)

/-- A reservation, when nothing fails. -/
theorem resv_in (R : RSet k b x e f t l) (s1 : sec.size = b) (s3 : pub.size = b) (hc : Calm st tm q) (hq1 : 1 ≤ q) (hq : q ≤ bd + 1) (hbd : bd < 2 ^ (t * l)) (m : Nat) (hm : 1 ≤ m) (hm2 : m ≤ 64) :
    ∃ (st2 : DSt) (nb : Nat), Calm st2 tm ((q + 1 : Nat) : Int) ∧ nb = min (bd + m) (2 ^ (t * l)) ∧ ∀ (V : World) (F : Nat → Prop), Blk V S (ioC D tm k b x e f t l sec rnd pub bat kk q bd) 188 → DSk lo D st V F → ¬ F S → lo ≤ V.heap.size →
    Calls Tryz.prog 116 #[.pointer (some ⟨S, 0, none⟩), .int .i64 m] V fun e' w' => e' = .returned (.int .i64 0) ∧ SGL lo S D st2 (ioC D tm k b x e f t l sec rnd pub bat kk (q + 1) nb) F V w' := by
  have hT := total_most R
  obtain ⟨g1, g2, g3, g4, g5, g6⟩ := pair_small R.pr
  have hrk := rootK_size k b x t (b * e + f) l sec pub R.kk g1 g2 (by omega) (by omega) g3
  have hid : (idS k b x t l (rootK k b x t (b * e + f) l sec pub) pub).size = 8 := idS_size k b x t l _ pub R.kk (by omega) (by omega)
  obtain ⟨nb, hnb⟩ : ∃ nb : Nat, nb = min (bd + m) (2 ^ (t * l)) := ⟨_, rfl⟩
  obtain ⟨q2, hq2⟩ : ∃ q2 : Int, Int.tmod ((q : Int) + 1) 2 = q2 := ⟨_, rfl⟩
  have hq2' : q2 = ((q : Int) + 1) % 2 := by rw [← hq2, Int.tmod_eq_emod_of_nonneg (by omega)]
  have hR : RecR ((q : Int) + 1) nb (idS k b x t l (rootK k b x t (b * e + f) l sec pub) pub) := ⟨by omega, by omega, by omega, by omega, hid⟩
  have hsz := sealS_size ((q : Int) + 1) nb (idS k b x t l (rootK k b x t (b * e + f) l sec pub) pub) hid
  obtain ⟨a1, a2, a3, a4⟩ := calm_next hc q2 ⟨by omega, by omega⟩ _ hsz
  refine ⟨_, nb, a4, hnb, fun V F hB hD hSF hlo => ?_⟩
  have hwr := hc.wr
  have hsy := hc.sy
  refine (reserve_yes lo S D st F tm k b x t l _ pub sec rnd _ bat kk q bd _ false m q2 nb V hB hD hSF hlo (by omega) (by omega) (by omega) (by omega) hR hq2 (by rw [IntKind.wrap_i64] <;> omega) (by rw [IntKind.wrap_i64] <;> omega) (by rw [IntKind.wrap_i64] <;> omega) ?_ a1 a2 a3).mono ?_
  · split <;> omega
  · rintro e' w' ⟨rfl, h1, h2⟩
    exact ⟨rfl, h1, h2⟩
end
end Go.Proofs.YtgaoeoijdpdjiabGreatDoor
