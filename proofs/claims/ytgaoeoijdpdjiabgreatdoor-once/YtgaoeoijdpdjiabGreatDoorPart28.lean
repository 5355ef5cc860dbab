/-
  A record that is found. Make, where nothing fails and the disk bears no record.
-/
import Derived.Test.YtgaoeoijdpdjiabGreatDoorPart27
import Derived.Deep.AppendLies
import Derived.Deep.RegionLaw
namespace Go.Proofs.YtgaoeoijdpdjiabGreatDoor
open Go.RowKit

theorem infoRec : (Tryz.prog.info? 186).map (fun i => (i.zero, i.size, i.bytes)) = some (some (.agg #[.int .i64 0, .int .i64 0, .string ⟨#[]⟩]), 3, 32) := by kernel_rfl

set_option maxRecDepth 20000 in
set_option maxHeartbeats 4000000 in
theorem oread_yes (Q : World → Prop) (lo O D n c : Nat) (a : Option Addr) (i tot lq lb : Int) (s id ld : ByteArray) (xs : List Value) (w : World) (h0 : w.cell? ⟨O, 0, none⟩ = some (.pointer (some ⟨D, 0, none⟩))) (hs : isRec s = true) (hn : n ≤ 100) (hno : (Value.slice a n c).ownBlock ≠ some O)
    (hQ : ∀ V, Q V → Blk V O (opC D id tot (.slice a n c) lq lb ld) 246 ∧ V.ownsRow lo 186 3 (.slice a n c) n xs ∧ lo ≤ V.heap.size)
    (hR : Calls Tryz.prog 103 #[.pointer (some ⟨D, 0, none⟩), .int .i64 i] w fun e w' => e = .returned (.tuple #[.string s, .int .i64 0]) ∧ Q w') :
    Calls Tryz.prog 182 #[.pointer (some ⟨O, 0, none⟩), .int .i64 i] w fun e w' => e = .returned (.int .i64 0) ∧ ∃ V g cap, Q V ∧ w'.ownsRow lo 186 3 (.slice (some ⟨g, 0, none⟩) (n + 1) cap) (n + 1) (xs ++ [.int .i64 (seqOf s), .int .i64 (boundOf s), .string (idOf s)]) ∧ Blk w' O (opC D id tot (.slice (some ⟨g, 0, none⟩) (n + 1) cap) lq lb ld) 246 ∧ Kept (fun k => k = O ∨ (Value.slice a n c).ownBlock = some k) V w' ∧ ((Value.slice a n c).ownBlock = some g ∨ V.heap.size ≤ g) := by
  have HR := hide hR
  have HU := hide (fun V : World => unseal_any s V)
  rw [unsV_yes hs] at HU
  have HQ := hide hQ
  have HNO := hide hno
  obtain ⟨i0, hi0, hz0, hz1, hz2⟩ := info_parts infoRec
  generalize seqOf s = rq at HU ⊢
  generalize boundOf s = rb at HU ⊢
  generalize idOf s = rd at HU ⊢
  clear hR hs hQ hno
  go_enter Tryz.func182, Tryz.ntmps182
  go_wp2_with fail
  refine HR.out.mono ?_
  rintro e w1 ⟨rfl, hq1⟩
  have HQ1 := hide hq1
  clear hq1
  go_wp2_with fail
  refine (HU.out _).mono ?_
  rintro e w2 ⟨rfl, hb2⟩
  obtain ⟨W2, hW2⟩ : ∃ W2, w2.alloc (.cells #[.int .i64 rq, .int .i64 rb, .string rd] 186) = W2 := ⟨_, rfl⟩
  obtain ⟨RB, hRB⟩ : ∃ RB, w2.heap.size = RB := ⟨_, rfl⟩
  have HB2 := hide (show Below w1.heap.size w1 W2 by rw [← hW2]; exact hb2.alloc hb2.size _)
  have HRB := hide (show Blk W2 RB [.int .i64 rq, .int .i64 rb, .string rd] 186 by rw [← hW2, ← hRB]; exact Blk.new w2 _ _)
  have HO2 := hide ((HQ.out _ HQ1.out).1.on HB2.out)
  have HW2 := hide (show W2.ownsRow lo 186 3 (.slice a n c) n xs from owns_kept (HQ.out _ HQ1.out).2.1 (Kept.of_below (F := fun _ => False) HB2.out) (fun _ _ h => h))
  have HLO := hide (Nat.le_trans (HQ.out _ HQ1.out).2.2 HB2.out.size)
  have HWE := hide hW2
  have HRE := hide hRB
  clear hb2 hW2 hRB h0
  go_wp2_with fail
  rw [HWE.out, HRE.out]
  have hOl := HO2.out.lt
  have HOL := hide hOl
  have c3 : W2.drew.cell? ⟨O, 3, none⟩ = some (.slice a n c) := HO2.out.cell 3
  have r0 : W2.drew.cell? ⟨RB, 0, none⟩ = some (.int .i64 rq) := HRB.out.cell 0
  have r1 : W2.drew.cell? ⟨RB, 1, none⟩ = some (.int .i64 rb) := HRB.out.cell 1
  have r2 : W2.drew.cell? ⟨RB, 2, none⟩ = some (.string rd) := HRB.out.cell 2
  have c3' : ∀ o, (W2.alloc o).cell? ⟨O, 3, none⟩ = some (.slice a n c) := fun o => (World.cell?_alloc_lt _ _ _ hOl).trans (HO2.out.cell 3)
  have N1 : Hid (n + 1 ≤ maxLen) := by show _ ≤ _; unfold maxLen; omega
  have N2 : Hid ((n + 1) * 32 ≤ 140737488355328) := by show _ ≤ _; omega
  have N3 : Hid (∀ o, lo ≤ (W2.alloc o).drew.heap.size) := fun o => by have h := HLO.out; show lo ≤ (W2.alloc o).heap.size; rw [World.size_alloc]; exact Nat.le_succ_of_le h
  have N4 : Hid (∀ o, (W2.alloc o).drew.heap.size = W2.heap.size + 1) := fun o => by show (W2.alloc o).heap.size = _; rw [World.size_alloc]
  have N5 : Hid (∀ o, O < (W2.alloc o).drew.heap.size) := fun o => by show O < (W2.alloc o).heap.size; rw [World.size_alloc]; exact Nat.lt_succ_of_lt HOL.out
  have N6 : Hid (∀ o, (W2.alloc o).drew.frozen? ⟨O, 3, none⟩ = false) := fun o => (World.frozen?_alloc_past (w := W2) o O 3 HOL.out).trans (HO2.out.free 3)
  have N8 : Hid (∀ u ∈ [Value.int .i64 rq, .int .i64 rb, .string rd], u.oneCell' = true) := by intro u hu; simp at hu; rcases hu with rfl | rfl | rfl <;> rfl
  have N10 : Hid (∀ o, (W2.alloc o).drew.ownsRow lo 186 3 (.slice a n c) n xs) := fun o => HW2.out.alloc o
  have HNW : Hid (∀ j u, [Value.int .i64 rq, .int .i64 rb, .string rd][j]? = some u → (W2.alloc (.cells (List.toArray [.int .i64 rq, .int .i64 rb, .string rd]) 186)).drew.cell? ((⟨W2.heap.size, 0, none⟩ : Addr).add j) = some u) := World.news_of_block (heap_alloc_new W2 _)
  clear hOl
  go_region_law ((refine step_append_lies _ (by rfl) (.tmp 32) (.tmp 34) 244 (by rfl) lo 186 i0 (.agg #[.int .i64 0, .int .i64 0, .string ⟨#[]⟩]) 3 32 Tryz.underlying244 hi0 hz0 hz1 hz2 (by rfl) (by decide) (.slice a n c) n xs (by rfl) (N10.out _) ⟨W2.heap.size, 0, none⟩ 1 1 [.int .i64 rq, .int .i64 rb, .string rd] (by rfl) (by rfl) HNW.out N8.out (by decide) N1.out N2.out (N3.out _) (W2.heap.size + 1) (N4.out _) ?_; intro g cap' w3 hown hgrow hat hlt; have e1 : w3.cell? ⟨O, 3, none⟩ = some (.slice a n c) := (hgrow.cell_far ⟨O, 3, none⟩ (N5.out _) (fun e => HNO.out e.symm)).trans (c3' _); have e2 : w3.frozen? ⟨O, 3, none⟩ = false := (hgrow.frozen_far ⟨O, 3, none⟩ (N5.out _) (fun e => HNO.out e.symm)).trans (N6.out _)))
  all_goals
    have gO : g ≠ O := by
      rcases hat with e | e
      · intro e2; subst e2; exact HNO.out e
      · have := HOL.out; omega
    have hgO := hgrow.block O (N5.out _) (fun e => HNO.out e.symm)
    have hB3 : Blk w3 O (opC D id tot (.slice a n c) lq lb ld) 246 := by
      unfold Blk
      rw [hgO]
      exact (HO2.out.alloc _ : Blk (W2.alloc _) O _ _)
    have HBF := hide (hB3.set 3 (.slice (some ⟨g, 0, none⟩) (n + 1) cap'))
    have HOF := hide (owns_kept hown (kept_set w3 ⟨O, 3, none⟩ (.slice (some ⟨g, 0, none⟩) (n + 1) cap')) (fun k e hk => by
      have e' : g = k := by simpa [Value.ownBlock] using e
      exact gO (e'.trans hk)))
    have HKF := hide (show Kept (fun k => k = O ∨ (Value.slice a n c).ownBlock = some k) w1 (w3.setCell ⟨O, 3, none⟩ (.slice (some ⟨g, 0, none⟩) (n + 1) cap')) by
      refine Kept.setCell ?_ (.inl (.inl rfl)) _
      refine Kept.grown (w := (W2.alloc _).drew) ?_ hgrow (fun k e => .inl (.inr e))
      exact ((Kept.of_below HB2.out).alloc _).drew)
    have HGF := hide (show (Value.slice a n c).ownBlock = some g ∨ w1.heap.size ≤ g by
      rcases hat with e | e
      · exact .inl e
      · have := HB2.out.size; exact .inr (by omega))
    clear hown hgrow hat hlt e1 e2 gO hgO hB3
    generalize World.setCell w3 { block := O, off := 3 } _ = W4 at *
    go_wp2
    go_ret
    exact ⟨rfl, w1, g, cap', HQ1.out, HOF.out, HBF.out, HKF.out, HGF.out⟩
end Go.Proofs.YtgaoeoijdpdjiabGreatDoor

namespace Go.Proofs.YtgaoeoijdpdjiabGreatDoor
open Go.RowKit

set_option maxRecDepth 20000 in
set_option maxHeartbeats 4000000 in
theorem make_yes (lo D : Nat) (st : DSt) (F : Nat → Prop) (k b x t l : Int) (root pub sec rnd id x0 x1 : ByteArray) (tot bat z0 z1 z2 z4 z5 : Int) (w : World) (hD : DSk lo D st w F) (hn : 2 ≤ st.n) (hT : Tn w) (hTB : 1 < lo) (hlo : lo ≤ w.heap.size) (hb1 : 1 ≤ bat) (hb2 : bat ≤ 64) (ht0 : 0 ≤ st.term) (ht1 : st.term < 9223372036854775807) (hid : id.size = 8)
    (hM : ∀ V : World, Calls Tryz.prog 155 #[.agg #[.int .i64 k, .int .i64 b, .int .i64 x, .int .i64 t, .int .i64 l]] V fun e w' => e = .returned (.tuple #[.agg #[.int .i64 z0, .int .i64 z1, .int .i64 z2, .int .i64 tot, .int .i64 z4, .int .i64 z5], .int .i64 0]) ∧ Below V.heap.size V w')
    (hOf : ∀ V : World, Tn V → Calls Tryz.prog 178 #[.agg #[.int .i64 k, .int .i64 b, .int .i64 x, .int .i64 t, .int .i64 l], .agg #[.string sec, .string rnd, .string pub]] V fun e w' => e = .returned (.tuple #[.agg #[.int .i64 k, .int .i64 b, .int .i64 x, .int .i64 t, .int .i64 l, .string root, .string pub], .int .i64 0]) ∧ Below V.heap.size V w')
    (hId : ∀ V : World, Tn V → Calls Tryz.prog 179 #[.agg #[.int .i64 k, .int .i64 b, .int .i64 x, .int .i64 t, .int .i64 l, .string root, .string pub]] V fun e w' => e = .returned (.string id) ∧ Below V.heap.size V w')
    (s' : DSt) (hs' : s' = { st with term := st.term + 1 }) (y0 : 0 ≤ s'.syncs) (y1 : s'.syncs < 9223372036854775806) (r0 : 0 ≤ s'.writes) (r1 : s'.writes < 9223372036854775807)
    (a1 : syAns s' = 0) (a2 : rdAns (sySt s') 0 = (x0, 0)) (b2 : isRec x0 = false) (a3 : rdAns (rdSt (sySt s') 0) 1 = (x1, 0)) (b3 : isRec x1 = false) (a5 : wrAns (mkS s' id 4) 1 (sealS 1 0 id) = 0) (a6 : syAns (mkS s' id 5) = 0)
    (w4 : (mkS s' id 4).writes = s'.writes) (w5 : (mkS s' id 5).syncs = s'.syncs + 1) (w6 : (mkS s' id 6).term = st.term + 1) :
    Calls Tryz.prog 66 #[.pointer (some ⟨D, 0, none⟩), .agg #[.int .i64 k, .int .i64 b, .int .i64 x, .int .i64 t, .int .i64 l], .agg #[.string sec, .string rnd, .string pub], .int .i64 bat] w fun e w' => ∃ S F', e = .returned (.tuple #[.pointer (some ⟨S, 0, none⟩), .int .i64 0]) ∧ Blk w' S (sgC D (st.term + 1) k b x t l root pub sec rnd tot bat 0 1 0 id false) 188 ∧ DSk lo D (mkS s' id 6) w' F' ∧ ¬ F' S ∧ w.heap.size ≤ S ∧ Kept F w w' ∧ ∀ k, F' k → F k ∨ w.heap.size ≤ k := by
  obtain ⟨W1, hW⟩ : ∃ W1, ((w.alloc (.cells #[.int .i64 k, .int .i64 b, .int .i64 x, .int .i64 t, .int .i64 l] 26)).alloc (.cells #[.string sec, .string rnd, .string pub] 42)).alloc (.cells (List.toArray [.func (.func 107) #[] #[], .func (.func 108) #[] #[], .func (.func 109) #[] #[], .func (.func 110) #[] #[], .func (.func 111) #[] #[], .func (.func 107) #[] #[]]) 331) = W1 := ⟨_, rfl⟩
  have HB := hide (show Below w.heap.size w W1 by subst hW; exact (((Below.refl _ _).alloc (Nat.le_refl _) _).alloc (by simp) _).alloc (by simp; omega) _)
  have HSB := hide (show Blk W1 (w.heap.size + 1 + 1) mkV 331 by
    rw [← hW]
    have h := Blk.new ((w.alloc (.cells #[.int .i64 k, .int .i64 b, .int .i64 x, .int .i64 t, .int .i64 l] 26)).alloc (.cells #[.string sec, .string rnd, .string pub] 42)) mkV 331
    simp only [World.size_alloc] at h
    exact h)
  have hlt := HSB.out.lt
  have nF : ¬ F (w.heap.size + 1 + 1) := fun h => by have := (hD.lt _ h).2; omega
  have HBG := hide (begun_yes lo D st (mkS s' id 6) F k b x t l root pub sec rnd id id tot bat 1 0 z0 z1 z2 z4 z5 (.slice (some ⟨w.heap.size + 1 + 1, 0, none⟩) 6 6) (.slice none 0 0) W1 (hD.below HB.out) hn (hT.on HB.out) hTB (Nat.le_trans hlo HB.out.size) hb1 hb2 ht0 ht1 w6 hM hOf hId (by
    intro V O F1 d1 k1 f1 hO nO bO
    rw [← hs'] at d1
    refine mdone_yes lo O (w.heap.size + 1 + 1) D 331 s' F1 id x0 x1 tot V d1 bO (k1.blk HSB.out nF) nO ?_ (Nat.le_trans hlo (Nat.le_trans HB.out.size k1.size)) (by omega) hid y0 y1 r0 r1 a1 a2 b2 a3 b3 a5 a6 w4 w5
    intro h
    rcases f1 _ h with h | h
    · exact nF h
    · omega))
  have HWE := hide hW
  clear hW hlt nF hM hOf hId hD hT
  go_enter Tryz.func66, Tryz.ntmps66
  go_wp2_with fail
  rw [HWE.out]
  refine HBG.out.mono ?_
  rintro e w2 ⟨S, F', rfl, q1, q2, q3, q4, q5, q6⟩
  have HQ := hide (And.intro q1 (And.intro q2 (And.intro q3 (And.intro q4 (And.intro q5 q6)))))
  clear q1 q2 q3 q4 q5 q6
  go_wp2
  go_ret2
  obtain ⟨q1, q2, q3, q4, q5, q6⟩ := HQ.out
  refine ⟨S, F', rfl, q1, q2, q3, Nat.le_trans HB.out.size q4, (Kept.of_below (F := F) HB.out).trans q5 (fun i hi => .inl hi), fun i hi => ?_⟩
  rcases q6 i hi with h | h
  · exact .inl h
  · exact .inr (Nat.le_trans HB.out.size h)

set_option maxRecDepth 20000 in
theorem below_on (S D : Nat) (w : World) (h : Blk w S [.pointer (some ⟨D, 0, none⟩)] 135) :
    Calls Tryz.prog 67 #[.pointer (some ⟨S, 0, none⟩)] w fun e w' => e = .returned (.pointer (some ⟨D, 0, none⟩)) ∧ Below w.heap.size w w' := by
  have c0 : w.cell? ⟨S, 0, none⟩ = some (.pointer (some ⟨D, 0, none⟩)) := h.cell 0
  clear h
  go_enter Tryz.func67, Tryz.ntmps67
  go_wp2
  go_ret
  exact ⟨rfl, Below.refl _ _⟩
set_option maxRecDepth 20000 in
theorem given_on (S : Nat) (w : World) :
    Calls Tryz.prog 65 #[.pointer (some ⟨S, 0, none⟩), .int .i64 0] w fun e w' => e = .returned (.tuple #[.pointer (some ⟨w.heap.size, 0, none⟩), .int .i64 0]) ∧ Blk w' w.heap.size [.pointer (some ⟨S, 0, none⟩)] 142 ∧ Below w.heap.size w w' := by
  go_enter Tryz.func65, Tryz.ntmps65
  go_wp2
  go_ret2
  exact ⟨rfl, Blk.new w _ _, (Below.refl _ _).alloc (Nat.le_refl _) _⟩
end Go.Proofs.YtgaoeoijdpdjiabGreatDoor
