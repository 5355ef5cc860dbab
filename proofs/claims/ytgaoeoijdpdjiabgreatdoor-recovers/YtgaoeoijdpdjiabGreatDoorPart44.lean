/-
  A disk's sectors, copied to another one: what the writes make. A disk's sectors, moved to a new disk behind a crash. Make and Open of package signers, over any disk. The journal of one key on a disk, by itself: what a crash, a sync, a reservation leave of it. The hall moves to a new disk. The journal, when a key is made or opened, and when a signer reserves. The journal, when a key is made, and when a signer reserves.
-/
import Derived.Test.YtgaoeoijdpdjiabGreatDoorPart41
import Derived.Test.YtgaoeoijdpdjiabGreatDoorPart43
import Derived.Test.YtgaoeoijdpdjiabGreatDoorPart39
import Derived.Test.YtgaoeoijdpdjiabGreatDoorPart42
namespace Go.Proofs.YtgaoeoijdpdjiabGreatDoor
open Go.RowKit
/-- The first j sectors, as writes. -/
def copyP (dur : List ByteArray) (j : Nat) : List (Nat × ByteArray) := (List.range j).map fun i => (i, dur.getD i ⟨#[]⟩)
theorem copyP_length (dur : List ByteArray) (j : Nat) : (copyP dur j).length = j := by simp [copyP]
theorem copyP_succ (dur : List ByteArray) (j : Nat) : copyP dur (j + 1) = copyP dur j ++ [(j, dur.getD j ⟨#[]⟩)] := by simp [copyP, List.range_succ]
theorem copy_fold (dur init : List ByteArray) (h : init.length = dur.length) : ∀ j, j ≤ dur.length → (copyP dur j).foldl (fun d p => d.set p.1 p.2) init = dur.take j ++ init.drop j
  | 0, _ => by simp [copyP]
  | j + 1, hj => by
    rw [copyP_succ, List.foldl_append, copy_fold dur init h j (by omega)]
    simp only [List.foldl_cons, List.foldl_nil]
    have hl : (dur.take j).length = j := by rw [List.length_take]; omega
    rw [List.set_append_right (h := by omega), hl, Nat.sub_self, List.drop_eq_getElem_cons (by omega), List.set_cons_zero, List.take_succ_eq_append_getElem (by omega), List.getD_eq_getElem?_getD, List.getElem?_eq_getElem (by omega), List.append_assoc]
    rfl
/-- All of them: the new disk holds what the old one did. -/
theorem copy_all (dur init : List ByteArray) (h : init.length = dur.length) (s : DSt) (hd : s.dur = init) (hp : s.pend = copyP dur dur.length) : laidJ s s.pend.length = dur := by
  rw [laidJ, List.take_length, hp, hd, copy_fold dur init h dur.length (Nat.le_refl _), List.take_length, List.drop_of_length_le (by omega), List.append_nil]
end Go.Proofs.YtgaoeoijdpdjiabGreatDoor

namespace Go.Proofs.YtgaoeoijdpdjiabGreatDoor
open Go.RowKit
set_option maxRecDepth 20000 in
theorem skWrite_on (SD D : Nat) (i : Int) (z : ByteArray) (c : Int) (Q : World → Prop) (w : World) (hG : Blk w SD [.pointer (some ⟨D, 0, none⟩)] 135)
    (h : Calls Tryz.prog 104 #[.pointer (some ⟨D, 0, none⟩), .int .i64 i, .string z] w fun e w' => e = .returned (.int .i64 c) ∧ Q w') :
    Calls Tryz.prog 62 #[.pointer (some ⟨SD, 0, none⟩), .int .i64 i, .string z] w fun e w' => e = .returned (.int .i64 c) ∧ Q w' := by
  have H := hide h
  have c0 : w.cell? ⟨SD, 0, none⟩ = some (.pointer (some ⟨D, 0, none⟩)) := hG.cell 0
  clear h hG
  go_enter Tryz.func62, Tryz.ntmps62
  go_wp2_with fail
  refine H.out.mono ?_
  rintro e w1 ⟨rfl, hq⟩
  have HQ := hide hq
  clear hq
  go_wp2
  go_ret
  exact ⟨rfl, HQ.out⟩
set_option maxRecDepth 20000 in
theorem skSync_on (SD D : Nat) (c : Int) (Q : World → Prop) (w : World) (hG : Blk w SD [.pointer (some ⟨D, 0, none⟩)] 135)
    (h : Calls Tryz.prog 105 #[.pointer (some ⟨D, 0, none⟩)] w fun e w' => e = .returned (.int .i64 c) ∧ Q w') :
    Calls Tryz.prog 63 #[.pointer (some ⟨SD, 0, none⟩)] w fun e w' => e = .returned (.int .i64 c) ∧ Q w' := by
  have H := hide h
  have c0 : w.cell? ⟨SD, 0, none⟩ = some (.pointer (some ⟨D, 0, none⟩)) := hG.cell 0
  clear h hG
  go_enter Tryz.func63, Tryz.ntmps63
  go_wp2_with fail
  refine H.out.mono ?_
  rintro e w1 ⟨rfl, hq⟩
  have HQ := hide hq
  clear hq
  go_wp2
  go_ret
  exact ⟨rfl, HQ.out⟩
/-- The two disks, while the sectors are copied. -/
def MV (lo H SD D SD2 D2 : Nat) (hv : List Value) (s1 s2 : DSt) (F : Nat → Prop) (w wr : World) : Prop :=
  ∃ F1 F2, DSk lo D s1 wr F1 ∧ DSk lo D2 s2 wr F2 ∧ (∀ k, F1 k → ¬ F2 k) ∧ (∀ k, F1 k → F k ∨ w.heap.size ≤ k) ∧ (∀ k, F2 k → w.heap.size ≤ k) ∧ ¬ F1 SD2 ∧ ¬ F2 SD2 ∧ Blk wr H hv 65 ∧ Blk wr SD [.pointer (some ⟨D, 0, none⟩)] 135 ∧ Blk wr SD2 [.pointer (some ⟨D2, 0, none⟩)] 135 ∧ Kept F w wr
section
variable {lo H SD D SD2 D2 : Nat} {hv : List Value} {s1 s2 s3 : DSt} {F F1 F2 : Nat → Prop} {w wr w2 : World}
/-- The old disk is read. -/
theorem MV.old (hH : H < w.heap.size) (hS : SD < w.heap.size) (nH : ¬ F H) (nS : ¬ F SD) (d2 : DSk lo D2 s2 wr F2) (h12 : ∀ k, F1 k → ¬ F2 k) (f1 : ∀ k, F1 k → F k ∨ w.heap.size ≤ k) (f2 : ∀ k, F2 k → w.heap.size ≤ k) (n1 : ¬ F1 SD2) (n2 : ¬ F2 SD2) (bH : Blk wr H hv 65) (bS : Blk wr SD [.pointer (some ⟨D, 0, none⟩)] 135) (b2 : Blk wr SD2 [.pointer (some ⟨D2, 0, none⟩)] 135) (hk : Kept F w wr)
    (hl : DL lo D s3 F1 wr w2) : MV lo H SD D SD2 D2 hv s3 s2 F w w2 := by
  have mH : ¬ F1 H := fun e => by rcases f1 H e with e | e <;> first | exact nH e | omega
  have mS : ¬ F1 SD := fun e => by rcases f1 SD e with e | e <;> first | exact nS e | omega
  have b1H := hl.blk bH mH
  have b1S := hl.blk bS mS
  have b12 := hl.blk b2 n1
  obtain ⟨G, dG, kG, fG⟩ := hl
  refine ⟨G, F2, dG, d2.kept kG (fun k e e2 => h12 k e2 e), fun k e e2 => ?_, fun k e => ?_, f2, fun e => ?_, n2, b1H, b1S, b12, hk.trans kG f1⟩
  · rcases fG k e with e3 | e3
    · exact h12 k e3 e2
    · have := (d2.lt k e2).2; omega
  · rcases fG k e with e3 | e3
    · exact f1 k e3
    · exact .inr (Nat.le_trans hk.size e3)
  · rcases fG SD2 e with e3 | e3
    · exact n1 e3
    · have := b2.lt; omega
/-- The new disk is written. -/
theorem MV.new (hH : H < w.heap.size) (hS : SD < w.heap.size) (d1 : DSk lo D s1 wr F1) (h12 : ∀ k, F1 k → ¬ F2 k) (f1 : ∀ k, F1 k → F k ∨ w.heap.size ≤ k) (f2 : ∀ k, F2 k → w.heap.size ≤ k) (n1 : ¬ F1 SD2) (n2 : ¬ F2 SD2) (bH : Blk wr H hv 65) (bS : Blk wr SD [.pointer (some ⟨D, 0, none⟩)] 135) (b2 : Blk wr SD2 [.pointer (some ⟨D2, 0, none⟩)] 135) (hk : Kept F w wr)
    (hl : DL lo D2 s3 F2 wr w2) : MV lo H SD D SD2 D2 hv s1 s3 F w w2 := by
  have mH : ¬ F2 H := fun e => by have := f2 H e; omega
  have mS : ¬ F2 SD := fun e => by have := f2 SD e; omega
  have b1H := hl.blk bH mH
  have b1S := hl.blk bS mS
  have b12 := hl.blk b2 n2
  obtain ⟨G, dG, kG, fG⟩ := hl
  refine ⟨F1, G, d1.kept kG (fun k e e2 => h12 k e e2), dG, fun k e e2 => ?_, f1, fun k e => ?_, n1, fun e => ?_, b1H, b1S, b12, hk.trans kG (fun k e => .inr (f2 k e))⟩
  · rcases fG k e2 with e3 | e3
    · exact h12 k e e3
    · have := (d1.lt k e).2; omega
  · rcases fG k e with e3 | e3
    · exact f2 k e3
    · exact Nat.le_trans hk.size e3
  · rcases fG SD2 e with e3 | e3
    · exact n2 e3
    · have := b2.lt; omega
end
/-- The new disk, when j sectors are written. -/
def cpSt (n : Nat) (dur : List ByteArray) (j : Nat) : DSt := { newD n with pend := copyP dur j, writes := j }
/-- The new disk in the end. -/
def mvSt (st : DSt) (K : List Bool) : DSt := ⟨st.n, keptJ st K st.pend.length, [], st.n, 1, 0, 0⟩
theorem cp_write (n : Nat) (dur : List ByteArray) (j : Nat) (hn : n ≤ 8) (hl : dur.length = n) (hd : ∀ x ∈ dur, x.size = 32) (hj : j < n) : wrAns (cpSt n dur j) j (dur.getD j ⟨#[]⟩) = 0 ∧ wrSt (cpSt n dur j) j (dur.getD j ⟨#[]⟩) = cpSt n dur (j + 1) := by
  have h0 : 0 ≤ (j : Int) ∧ (j : Int) < ((cpSt n dur j).n : Int) := ⟨by omega, by show (j : Int) < (n : Int); omega⟩
  have hs : (dur.getD j ⟨#[]⟩).size = 32 := by
    rw [List.getD_eq_getElem?_getD, List.getElem?_eq_getElem (by omega)]
    exact hd _ (List.getElem_mem _)
  have hf : ¬ ((cpSt n dur j).trouble = 1 ∨ (cpSt n dur j).pend.length = 16) := by
    rintro (e | e)
    · exact absurd (show (0 : Int) = 1 from e) (by decide)
    · have : (copyP dur j).length = 16 := e
      rw [copyP_length] at this
      omega
  constructor
  · rw [wrAns, if_neg (fun hn => hn h0), if_neg (fun hn => hn hs), if_neg hf]
  · rw [wrSt, if_neg (fun hn => hn h0), if_neg (fun hn => hn hs), if_neg hf, Int.toNat_natCast]
    simp only [cpSt, newD, copyP_succ, tick]
    rfl
theorem cp_sync (st : DSt) (K : List Bool) (hl : (keptJ st K st.pend.length).length = st.n) : syAns (cpSt st.n (keptJ st K st.pend.length) st.n) = 0 ∧ sySt (cpSt st.n (keptJ st K st.pend.length) st.n) = mvSt st K := by
  have ht : ¬ (cpSt st.n (keptJ st K st.pend.length) st.n).trouble = 1 := fun e => absurd (show (0 : Int) = 1 from e) (by decide)
  constructor
  · rw [syAns, if_neg ht]
  · rw [sySt, if_neg ht, copy_all (keptJ st K st.pend.length) (List.replicate st.n zeroS) (by rw [hl]; simp) _ rfl (by rw [hl]; rfl)]
    rfl
end Go.Proofs.YtgaoeoijdpdjiabGreatDoor

namespace Go.Proofs.YtgaoeoijdpdjiabGreatDoor
open Go.RowKit
theorem sy_term (st : DSt) : (sySt st).term = st.term := by unfold sySt; split <;> rfl
theorem rd_term (st : DSt) (i : Int) : (rdSt st i).term = st.term := by unfold rdSt; split <;> rfl
theorem wr_term (st : DSt) (i : Int) (t : ByteArray) : (wrSt st i t).term = st.term := by
  unfold wrSt
  repeat' split
  all_goals rfl
theorem opS_term (st : DSt) (j : Nat) : (opS st j).term = st.term := by
  rcases j with _ | _ | _ | j
  · rfl
  · exact sy_term st
  · show (rdSt (sySt st) 0).term = _; rw [rd_term, sy_term]
  · show (rdSt (rdSt (sySt st) 0) 1).term = _; rw [rd_term, rd_term, sy_term]
theorem opSt_term (st : DSt) : (opSt st).term = st.term := by
  unfold opSt
  repeat' split
  all_goals exact opS_term _ _
theorem mkT_term (st : DSt) (id : ByteArray) : (mkT st id).term = st.term := by unfold mkT; rw [wr_term, opS_term]
theorem mkSt_term (st : DSt) (id : ByteArray) : (mkSt st id).term = st.term := by
  unfold mkSt
  repeat' split
  all_goals first | exact opS_term _ _ | exact mkT_term _ _ | (rw [sy_term, mkT_term])
set_option maxRecDepth 20000 in
set_option maxHeartbeats 4000000 in
theorem make_any (lo D : Nat) (st : DSt) (F : Nat → Prop) (k b x t l : Int) (root pub sec rnd id : ByteArray) (tot bat z0 z1 z2 z4 z5 : Int) (w : World) (hD : DSk lo D st w F) (hn : 2 ≤ st.n) (hT : Tn w) (hTB : 1 < lo) (hlo : lo ≤ w.heap.size) (hb1 : 1 ≤ bat) (hb2 : bat ≤ 64) (ht0 : 0 ≤ st.term) (ht1 : st.term < 9223372036854775807)
    (hM : ∀ V : World, Calls Tryz.prog 155 #[.agg #[.int .i64 k, .int .i64 b, .int .i64 x, .int .i64 t, .int .i64 l]] V fun e w' => e = .returned (.tuple #[.agg #[.int .i64 z0, .int .i64 z1, .int .i64 z2, .int .i64 tot, .int .i64 z4, .int .i64 z5], .int .i64 0]) ∧ Below V.heap.size V w')
    (hOf : ∀ V : World, Tn V → Calls Tryz.prog 178 #[.agg #[.int .i64 k, .int .i64 b, .int .i64 x, .int .i64 t, .int .i64 l], .agg #[.string sec, .string rnd, .string pub]] V fun e w' => e = .returned (.tuple #[.agg #[.int .i64 k, .int .i64 b, .int .i64 x, .int .i64 t, .int .i64 l, .string root, .string pub], .int .i64 0]) ∧ Below V.heap.size V w')
    (hId : ∀ V : World, Tn V → Calls Tryz.prog 179 #[.agg #[.int .i64 k, .int .i64 b, .int .i64 x, .int .i64 t, .int .i64 l, .string root, .string pub]] V fun e w' => e = .returned (.string id) ∧ Below V.heap.size V w')
    (s' : DSt) (hs' : s' = { st with term := st.term + 1 }) (y0 : 0 ≤ s'.syncs) (y1 : s'.syncs < 9223372036854775807) (hid : id.size = 8) (r0 : 0 ≤ (opS s' 3).writes) (r1 : (opS s' 3).writes < 9223372036854775807) (y2 : 0 ≤ (mkT s' id).syncs) (y3 : (mkT s' id).syncs < 9223372036854775807) :
    Calls Tryz.prog 66 #[.pointer (some ⟨D, 0, none⟩), .agg #[.int .i64 k, .int .i64 b, .int .i64 x, .int .i64 t, .int .i64 l], .agg #[.string sec, .string rnd, .string pub], .int .i64 bat] w fun e w' => ∃ F', DSk lo D (mkSt s' id) w' F' ∧ Kept F w w' ∧ (∀ k, F' k → F k ∨ w.heap.size ≤ k) ∧
      ((mkAns s' id = 0 ∧ ∃ S, e = .returned (.tuple #[.pointer (some ⟨S, 0, none⟩), .int .i64 0]) ∧ Blk w' S (sgC D (st.term + 1) k b x t l root pub sec rnd tot bat 0 1 0 id false) 188 ∧ ¬ F' S ∧ w.heap.size ≤ S) ∨ (mkAns s' id ≠ 0 ∧ e = .returned (.tuple #[.pointer none, .int .i64 (mkAns s' id)]))) := by
  obtain ⟨W1, hW⟩ : ∃ W1, ((w.alloc (.cells #[.int .i64 k, .int .i64 b, .int .i64 x, .int .i64 t, .int .i64 l] 26)).alloc (.cells #[.string sec, .string rnd, .string pub] 42)).alloc (.cells (List.toArray [.func (.func 107) #[] #[], .func (.func 108) #[] #[], .func (.func 109) #[] #[], .func (.func 110) #[] #[], .func (.func 111) #[] #[], .func (.func 107) #[] #[]]) 331) = W1 := ⟨_, rfl⟩
  have HB := hide (show Below w.heap.size w W1 by subst hW; exact (((Below.refl _ _).alloc (Nat.le_refl _) _).alloc (by simp) _).alloc (by simp; omega) _)
  have HSB := hide (show Blk W1 (w.heap.size + 1 + 1) mkV 331 by
    rw [← hW]
    have h := Blk.new ((w.alloc (.cells #[.int .i64 k, .int .i64 b, .int .i64 x, .int .i64 t, .int .i64 l] 26)).alloc (.cells #[.string sec, .string rnd, .string pub] 42)) mkV 331
    simp only [World.size_alloc] at h
    exact h)
  have hlt := HSB.out.lt
  have nF : ¬ F (w.heap.size + 1 + 1) := fun h => by have := (hD.lt _ h).2; omega
  have hDN : ∀ (V : World) (O : Nat) (F1 : Nat → Prop), DSk lo D s' V F1 → Kept F W1 V → (∀ k, F1 k → F k ∨ W1.heap.size ≤ k) → W1.heap.size ≤ O → ¬ F1 O → Blk V O (opC D id tot (.slice none 0 0) 0 0 ⟨#[]⟩) 246 → _ := fun V O F1 d1 k1 f1 hO nO bO =>
    mdone_any lo O (w.heap.size + 1 + 1) D 331 s' F1 id tot V d1 bO (k1.blk HSB.out nF) nO (by
      intro h
      rcases f1 _ h with h | h
      · exact nF h
      · omega) (Nat.le_trans hlo (Nat.le_trans HB.out.size k1.size)) (by omega) hid y0 y1 r0 r1 y2 y3
  have HT : Hid (Calls Tryz.prog 106 #[.pointer (some ⟨D, 0, none⟩), .agg #[.int .i64 k, .int .i64 b, .int .i64 x, .int .i64 t, .int .i64 l], .agg #[.string sec, .string rnd, .string pub], .int .i64 bat, .slice (some ⟨w.heap.size + 1 + 1, 0, none⟩) 6 6] W1 fun e w' => ∃ v c, e = .returned (.tuple #[.pointer v, .int .i64 c]) ∧ ∃ F', DSk lo D (mkSt s' id) w' F' ∧ Kept F W1 w' ∧ (∀ k, F' k → F k ∨ W1.heap.size ≤ k) ∧
      ((mkAns s' id = 0 ∧ c = 0 ∧ ∃ S, v = some ⟨S, 0, none⟩ ∧ Blk w' S (sgC D (st.term + 1) k b x t l root pub sec rnd tot bat 0 1 0 id false) 188 ∧ ¬ F' S ∧ W1.heap.size ≤ S) ∨ (mkAns s' id ≠ 0 ∧ v = none ∧ c = mkAns s' id))) := by
    by_cases hc : mkAns s' id = 0
    · refine (begun_fv lo D st (mkSt s' id) F k b x t l root pub sec rnd id _ tot bat _ _ z0 z1 z2 z4 z5 (.slice (some ⟨w.heap.size + 1 + 1, 0, none⟩) 6 6) W1 (hD.below HB.out) hn (hT.on HB.out) hTB (Nat.le_trans hlo HB.out.size) hb1 hb2 ht0 ht1 (by rw [mkSt_term, hs']) hM hOf hId (by
        intro V O F1 d1 k1 f1 hO nO bO
        rw [← hs'] at d1
        refine (hDN V O F1 d1 k1 f1 hO nO bO).mono ?_
        rintro e w' ⟨rfl, h1, _⟩
        rw [hc]
        exact ⟨rfl, h1 hc⟩)).mono ?_
      rintro e w' ⟨S, F', rfl, q1, q2, q3, q4, q5, q6⟩
      exact ⟨_, _, rfl, F', q2, q5, q6, .inl ⟨hc, rfl, S, rfl, q1, q3, q4⟩⟩
    · refine (begun_no lo D st (mkSt s' id) F k b x t l root pub sec rnd id tot bat (mkAns s' id) z0 z1 z2 z4 z5 (.slice (some ⟨w.heap.size + 1 + 1, 0, none⟩) 6 6) W1 (hD.below HB.out) hn (hT.on HB.out) hTB (Nat.le_trans hlo HB.out.size) hb1 hb2 ht0 ht1 hc hM hOf hId (by
        intro V O F1 d1 k1 f1 hO nO bO
        rw [← hs'] at d1
        refine (hDN V O F1 d1 k1 f1 hO nO bO).mono ?_
        rintro e w' ⟨rfl, _, h2⟩
        exact ⟨rfl, h2⟩)).mono ?_
      rintro e w' ⟨F', rfl, q2, q5, q6⟩
      exact ⟨_, _, rfl, F', q2, q5, q6, .inr ⟨hc, rfl, rfl⟩⟩
  have HWE := hide hW
  clear hW hlt nF hDN hM hOf hId hD hT
  go_enter Tryz.func66, Tryz.ntmps66
  go_wp2_with fail
  rw [HWE.out]
  refine HT.out.mono ?_
  rintro e w2 ⟨v, c, rfl, hq⟩
  have HQ := hide hq
  clear hq
  go_wp2
  go_ret2
  obtain ⟨F', q2, q5, q6, q7⟩ := HQ.out
  refine ⟨F', q2, (Kept.of_below (F := F) HB.out).trans q5 (fun i hi => .inl hi), fun i hi => ?_, ?_⟩
  · rcases q6 i hi with h | h
    · exact .inl h
    · exact .inr (Nat.le_trans HB.out.size h)
  · rcases q7 with ⟨h1, rfl, S, rfl, h2, h3, h4⟩ | ⟨h1, rfl, rfl⟩
    · exact .inl ⟨h1, S, rfl, h2, h3, Nat.le_trans HB.out.size h4⟩
    · exact .inr ⟨h1, rfl⟩
set_option maxRecDepth 20000 in
set_option maxHeartbeats 4000000 in
theorem open_any (lo D : Nat) (st : DSt) (F : Nat → Prop) (k b x t l : Int) (root pub sec rnd id : ByteArray) (tot bat z0 z1 z2 z4 z5 : Int) (w : World) (hD : DSk lo D st w F) (hn : 2 ≤ st.n) (hT : Tn w) (hTB : 1 < lo) (hlo : lo ≤ w.heap.size) (hb1 : 1 ≤ bat) (hb2 : bat ≤ 64) (ht0 : 0 ≤ st.term) (ht1 : st.term < 9223372036854775807)
    (hM : ∀ V : World, Calls Tryz.prog 155 #[.agg #[.int .i64 k, .int .i64 b, .int .i64 x, .int .i64 t, .int .i64 l]] V fun e w' => e = .returned (.tuple #[.agg #[.int .i64 z0, .int .i64 z1, .int .i64 z2, .int .i64 tot, .int .i64 z4, .int .i64 z5], .int .i64 0]) ∧ Below V.heap.size V w')
    (hOf : ∀ V : World, Tn V → Calls Tryz.prog 178 #[.agg #[.int .i64 k, .int .i64 b, .int .i64 x, .int .i64 t, .int .i64 l], .agg #[.string sec, .string rnd, .string pub]] V fun e w' => e = .returned (.tuple #[.agg #[.int .i64 k, .int .i64 b, .int .i64 x, .int .i64 t, .int .i64 l, .string root, .string pub], .int .i64 0]) ∧ Below V.heap.size V w')
    (hId : ∀ V : World, Tn V → Calls Tryz.prog 179 #[.agg #[.int .i64 k, .int .i64 b, .int .i64 x, .int .i64 t, .int .i64 l, .string root, .string pub]] V fun e w' => e = .returned (.string id) ∧ Below V.heap.size V w')
    (s' : DSt) (hs' : s' = { st with term := st.term + 1 }) (y0 : 0 ≤ s'.syncs) (y1 : s'.syncs < 9223372036854775807) :
    Calls Tryz.prog 100 #[.pointer (some ⟨D, 0, none⟩), .agg #[.int .i64 k, .int .i64 b, .int .i64 x, .int .i64 t, .int .i64 l], .agg #[.string sec, .string rnd, .string pub], .int .i64 bat] w fun e w' => ∃ F', DSk lo D (opSt s') w' F' ∧ Kept F w w' ∧ (∀ k, F' k → F k ∨ w.heap.size ≤ k) ∧
      ((opAns s' id tot = 0 ∧ ∃ S, e = .returned (.tuple #[.pointer (some ⟨S, 0, none⟩), .int .i64 0]) ∧ Blk w' S (sgC D (st.term + 1) k b x t l root pub sec rnd tot bat (opT s' id tot).b (opT s' id tot).q (opT s' id tot).b (opT s' id tot).d false) 188 ∧ ¬ F' S ∧ w.heap.size ≤ S) ∨ (opAns s' id tot ≠ 0 ∧ e = .returned (.tuple #[.pointer none, .int .i64 (opAns s' id tot)]))) := by
  obtain ⟨W1, hW⟩ : ∃ W1, ((w.alloc (.cells #[.int .i64 k, .int .i64 b, .int .i64 x, .int .i64 t, .int .i64 l] 26)).alloc (.cells #[.string sec, .string rnd, .string pub] 42)).alloc (.cells (List.toArray [.func (.func 107) #[] #[], .func (.func 108) #[] #[], .func (.func 109) #[] #[], .func (.func 172) #[] #[]]) 331) = W1 := ⟨_, rfl⟩
  have HB := hide (show Below w.heap.size w W1 by subst hW; exact (((Below.refl _ _).alloc (Nat.le_refl _) _).alloc (by simp) _).alloc (by simp; omega) _)
  have HSB := hide (show Blk W1 (w.heap.size + 1 + 1) opV 331 by
    rw [← hW]
    have h := Blk.new ((w.alloc (.cells #[.int .i64 k, .int .i64 b, .int .i64 x, .int .i64 t, .int .i64 l] 26)).alloc (.cells #[.string sec, .string rnd, .string pub] 42)) opV 331
    simp only [World.size_alloc] at h
    exact h)
  have hlt := HSB.out.lt
  have nF : ¬ F (w.heap.size + 1 + 1) := fun h => by have := (hD.lt _ h).2; omega
  have hDN : ∀ (V : World) (O : Nat) (F1 : Nat → Prop), DSk lo D s' V F1 → Kept F W1 V → (∀ k, F1 k → F k ∨ W1.heap.size ≤ k) → W1.heap.size ≤ O → ¬ F1 O → Blk V O (opC D id tot (.slice none 0 0) 0 0 ⟨#[]⟩) 246 → _ := fun V O F1 d1 k1 f1 hO nO bO =>
    odone_any lo O (w.heap.size + 1 + 1) D 331 s' F1 id tot V d1 bO (k1.blk HSB.out nF) nO (by
      intro h
      rcases f1 _ h with h | h
      · exact nF h
      · omega) (Nat.le_trans hlo (Nat.le_trans HB.out.size k1.size)) (by omega) y0 y1
  have HT : Hid (Calls Tryz.prog 106 #[.pointer (some ⟨D, 0, none⟩), .agg #[.int .i64 k, .int .i64 b, .int .i64 x, .int .i64 t, .int .i64 l], .agg #[.string sec, .string rnd, .string pub], .int .i64 bat, .slice (some ⟨w.heap.size + 1 + 1, 0, none⟩) 4 4] W1 fun e w' => ∃ v c, e = .returned (.tuple #[.pointer v, .int .i64 c]) ∧ ∃ F', DSk lo D (opSt s') w' F' ∧ Kept F W1 w' ∧ (∀ k, F' k → F k ∨ W1.heap.size ≤ k) ∧
      ((opAns s' id tot = 0 ∧ c = 0 ∧ ∃ S, v = some ⟨S, 0, none⟩ ∧ Blk w' S (sgC D (st.term + 1) k b x t l root pub sec rnd tot bat (opT s' id tot).b (opT s' id tot).q (opT s' id tot).b (opT s' id tot).d false) 188 ∧ ¬ F' S ∧ W1.heap.size ≤ S) ∨ (opAns s' id tot ≠ 0 ∧ v = none ∧ c = opAns s' id tot))) := by
    by_cases hc : opAns s' id tot = 0
    · refine (begun_fv lo D st (opSt s') F k b x t l root pub sec rnd id _ tot bat _ _ z0 z1 z2 z4 z5 (.slice (some ⟨w.heap.size + 1 + 1, 0, none⟩) 4 4) W1 (hD.below HB.out) hn (hT.on HB.out) hTB (Nat.le_trans hlo HB.out.size) hb1 hb2 ht0 ht1 (by rw [opSt_term, hs']) hM hOf hId (by
        intro V O F1 d1 k1 f1 hO nO bO
        rw [← hs'] at d1
        refine (hDN V O F1 d1 k1 f1 hO nO bO).mono ?_
        rintro e w' ⟨rfl, h1, _⟩
        rw [hc]
        exact ⟨rfl, h1 hc⟩)).mono ?_
      rintro e w' ⟨S, F', rfl, q1, q2, q3, q4, q5, q6⟩
      exact ⟨_, _, rfl, F', q2, q5, q6, .inl ⟨hc, rfl, S, rfl, q1, q3, q4⟩⟩
    · refine (begun_no lo D st (opSt s') F k b x t l root pub sec rnd id tot bat (opAns s' id tot) z0 z1 z2 z4 z5 (.slice (some ⟨w.heap.size + 1 + 1, 0, none⟩) 4 4) W1 (hD.below HB.out) hn (hT.on HB.out) hTB (Nat.le_trans hlo HB.out.size) hb1 hb2 ht0 ht1 hc hM hOf hId (by
        intro V O F1 d1 k1 f1 hO nO bO
        rw [← hs'] at d1
        refine (hDN V O F1 d1 k1 f1 hO nO bO).mono ?_
        rintro e w' ⟨rfl, _, h2⟩
        exact ⟨rfl, h2⟩)).mono ?_
      rintro e w' ⟨F', rfl, q2, q5, q6⟩
      exact ⟨_, _, rfl, F', q2, q5, q6, .inr ⟨hc, rfl, rfl⟩⟩
  have HWE := hide hW
  clear hW hlt nF hDN hM hOf hId hD hT
  go_enter Tryz.func100, Tryz.ntmps100
  go_wp2_with fail
  rw [HWE.out]
  refine HT.out.mono ?_
  rintro e w2 ⟨v, c, rfl, hq⟩
  have HQ := hide hq
  clear hq
  go_wp2
  go_ret2
  obtain ⟨F', q2, q5, q6, q7⟩ := HQ.out
  refine ⟨F', q2, (Kept.of_below (F := F) HB.out).trans q5 (fun i hi => .inl hi), fun i hi => ?_, ?_⟩
  · rcases q6 i hi with h | h
    · exact .inl h
    · exact .inr (Nat.le_trans HB.out.size h)
  · rcases q7 with ⟨h1, rfl, S, rfl, h2, h3, h4⟩ | ⟨h1, rfl, rfl⟩
    · exact .inl ⟨h1, S, rfl, h2, h3, Nat.le_trans HB.out.size h4⟩
    · exact .inr ⟨h1, rfl⟩
end Go.Proofs.YtgaoeoijdpdjiabGreatDoor

namespace Go.Proofs.YtgaoeoijdpdjiabGreatDoor
open Go.RowKit
/-- What may stand in a sector behind a crash. -/
def Cand (st : DSt) (s : Nat) (x : ByteArray) : Prop := st.dur[s]? = some x ∨ (s, x) ∈ st.pend
/-- The text x is the record number q of the key id. -/
def Jr (tot : Nat) (id : ByteArray) (s : Nat) (x : ByteArray) (q b : Nat) : Prop := x = sealS q b id ∧ q % 2 = s ∧ 1 ≤ q ∧ q ≤ b + 1 ∧ b ≤ tot
/-- The journal: each record is of one key; the record sq, with the bound sb, is durable. -/
structure JI (tot : Nat) (st : DSt) (id : ByteArray) (sq sb : Nat) : Prop where
  n2 : 2 ≤ st.n
  len : st.dur.length = st.n
  id8 : id.size = 8
  tot4 : tot ≤ 4096
  recs : ∀ s, s < 2 → ∀ x, Cand st s x → isRec x = true → ∃ q b, Jr tot id s x q b
  base : sq = 0 ∧ sb = 0 ∨ 1 ≤ sq ∧ (∃ x, st.dur[sq % 2]? = some x ∧ Jr tot id (sq % 2) x sq sb) ∧ (∀ x, (sq % 2, x) ∉ st.pend) ∧ ∀ x q b, Cand st ((sq + 1) % 2) x → Jr tot id ((sq + 1) % 2) x q b → q = sq + 1 ∧ sb ≤ b ∨ q < sq
theorem jr_recR {tot : Nat} {id : ByteArray} {s : Nat} {x : ByteArray} {q b : Nat} (h : Jr tot id s x q b) (h8 : id.size = 8) (h4 : tot ≤ 4096) : RecR q b id := by
  obtain ⟨_, _, h1, h2, h3⟩ := h
  exact ⟨by omega, by omega, by omega, by omega, h8⟩
theorem jr_rec {tot : Nat} {id : ByteArray} {s : Nat} {x : ByteArray} {q b : Nat} (h : Jr tot id s x q b) (h8 : id.size = 8) (h4 : tot ≤ 4096) : isRec x = true ∧ recOf x = ⟨q, b, id⟩ := by
  have hR := jr_recR h h8 h4
  obtain ⟨rfl, _⟩ := h
  obtain ⟨a, c, d⟩ := seq_seal _ _ _ hR
  refine ⟨?_, by rw [recOf, a, c, d]⟩
  rw [isRec, decide_eq_true_iff, a, c, d]
  exact ⟨sealS_size _ _ _ h8, hR, rfl⟩
section
variable {tot : Nat} {st s2 : DSt} {id : ByteArray} {sq sb : Nat}
theorem JI.same (h : JI tot st id sq sb) (hn : s2.n = st.n) (hd : s2.dur = st.dur) (hp : s2.pend = st.pend) : JI tot s2 id sq sb := by
  have hC : ∀ s x, Cand s2 s x → Cand st s x := fun s x hc => by unfold Cand at hc ⊢; rw [hd, hp] at hc; exact hc
  refine ⟨by rw [hn]; exact h.n2, by rw [hd, hn]; exact h.len, h.id8, h.tot4, fun s hs x hc hr => h.recs s hs x (hC s x hc) hr, ?_⟩
  rcases h.base with hb | ⟨h1, h2, h3, h4⟩
  · exact .inl hb
  · exact .inr ⟨h1, by rw [hd]; exact h2, by rw [hp]; exact h3, fun x q b hc hj => h4 x q b (hC _ x hc) hj⟩
/-- The sectors settle: each holds one of what might be. -/
theorem JI.settle (h : JI tot st id sq sb) (hn : s2.n = st.n) (hl : s2.dur.length = st.dur.length) (hp : s2.pend = []) (hd : ∀ s x, s2.dur[s]? = some x → Cand st s x ∧ ((∀ y, (s, y) ∉ st.pend) → st.dur[s]? = some x)) : JI tot s2 id sq sb := by
  have hC : ∀ s x, Cand s2 s x → Cand st s x := fun s x hc => by
    rcases hc with hc | hc
    · exact (hd s x hc).1
    · rw [hp] at hc; simp at hc
  refine ⟨by rw [hn]; exact h.n2, by rw [hl, hn]; exact h.len, h.id8, h.tot4, fun s hs x hc hr => h.recs s hs x (hC s x hc) hr, ?_⟩
  rcases h.base with hb | ⟨h1, ⟨x, h2, h2'⟩, h3, h4⟩
  · exact .inl hb
  · refine .inr ⟨h1, ⟨x, ?_, h2'⟩, by rw [hp]; simp, fun x q b hc hj => h4 x q b (hC _ x hc) hj⟩
    have hlt : sq % 2 < s2.dur.length := by rw [hl]; exact (List.getElem?_eq_some_iff.1 h2).1
    obtain ⟨y, hy⟩ : ∃ y, s2.dur[sq % 2]? = some y := ⟨_, List.getElem?_eq_getElem hlt⟩
    have := (hd _ y hy).2 h3
    rw [h2] at this
    rw [hy, ← this]
end
theorem fold_settle : ∀ (ps : List (Nat × ByteArray)) (d : List ByteArray) (s : Nat) (x : ByteArray), (ps.foldl (fun d p => d.set p.1 p.2) d)[s]? = some x → (d[s]? = some x ∧ (∀ y, (s, y) ∉ ps)) ∨ (s, x) ∈ ps
  | [], d, s, x, hx => .inl ⟨hx, by simp⟩
  | p :: r, d, s, x, hx => by
    rw [List.foldl_cons] at hx
    rcases fold_settle r _ s x hx with ⟨a, b⟩ | a
    · rw [List.getElem?_set] at a
      by_cases e : p.1 = s
      · rw [if_pos e] at a
        split at a
        · simp only [Option.some.injEq] at a
          right
          rw [← a, ← e]
          exact List.mem_cons_self
        · simp at a
      · rw [if_neg e] at a
        refine .inl ⟨a, fun y hy => ?_⟩
        rcases List.mem_cons.1 hy with hy | hy
        · exact e (by rw [← hy])
        · exact b y hy
    · exact .inr (List.mem_cons_of_mem _ a)
theorem fold_settleK (K : List Bool) : ∀ (ps : List ((Nat × ByteArray) × Nat)) (d : List ByteArray) (s : Nat) (x : ByteArray), (ps.foldl (fun d q => if K.getD q.2 false then d.set q.1.1 q.1.2 else d) d)[s]? = some x → d[s]? = some x ∨ ∃ i, ((s, x), i) ∈ ps
  | [], d, s, x, hx => .inl hx
  | p :: r, d, s, x, hx => by
    rw [List.foldl_cons] at hx
    rcases fold_settleK K r _ s x hx with a | ⟨i, a⟩
    · split at a
      · rw [List.getElem?_set] at a
        by_cases e : p.1.1 = s
        · rw [if_pos e] at a
          split at a
          · simp only [Option.some.injEq] at a
            right
            refine ⟨p.2, ?_⟩
            rw [← a, ← e]
            exact List.mem_cons_self
          · simp at a
        · rw [if_neg e] at a
          exact .inl a
      · exact .inl a
    · exact .inr ⟨i, List.mem_cons_of_mem _ a⟩
theorem laid_len (st : DSt) (j : Nat) : (laidJ st j).length = st.dur.length := by
  unfold laidJ
  generalize st.pend.take j = ps
  generalize st.dur = d
  induction ps generalizing d with
  | nil => rfl
  | cons p r ih => rw [List.foldl_cons, ih, List.length_set]
section
variable {tot : Nat} {st s2 : DSt} {id : ByteArray} {sq sb : Nat}
theorem laid_cand {s : Nat} {x : ByteArray} (hx : (laidJ st st.pend.length)[s]? = some x) : Cand st s x ∧ ((∀ y, (s, y) ∉ st.pend) → st.dur[s]? = some x) := by
  rw [laidJ, List.take_length] at hx
  rcases fold_settle st.pend st.dur s x hx with ⟨a, _⟩ | a
  · exact ⟨.inl a, fun _ => a⟩
  · exact ⟨.inr a, fun hn => absurd a (hn x)⟩
theorem kept_cand {K : List Bool} {s : Nat} {x : ByteArray} (hx : (keptJ st K st.pend.length)[s]? = some x) : Cand st s x ∧ ((∀ y, (s, y) ∉ st.pend) → st.dur[s]? = some x) := by
  rw [keptJ, List.take_length] at hx
  rcases fold_settleK K st.pend.zipIdx st.dur s x hx with a | ⟨i, hi⟩
  · exact ⟨.inl a, fun _ => a⟩
  · have a : (s, x) ∈ st.pend := by
      have := List.mem_zipIdx hi
      obtain ⟨_, h2, h3⟩ := this
      rw [h3]
      exact List.getElem_mem _
    exact ⟨.inr a, fun hn => absurd a (hn x)⟩
theorem JI.sync (h : JI tot st id sq sb) : JI tot (sySt st) id sq sb := by
  unfold sySt
  split
  · exact h.same rfl rfl rfl
  · exact h.settle rfl (laid_len st _) rfl (fun _ _ hx => laid_cand hx)
theorem JI.crash (h : JI tot st id sq sb) (K : List Bool) : JI tot (crSt st K) id sq sb :=
  h.settle rfl (keptJ_len st K _) rfl (fun _ _ hx => kept_cand hx)
theorem JI.read (h : JI tot st id sq sb) (i : Int) : JI tot (rdSt st i) id sq sb := by
  unfold rdSt
  split
  · exact h
  · exact h.same rfl rfl rfl
theorem JI.term (h : JI tot st id sq sb) (t : Int) : JI tot { st with term := t } id sq sb := h.same rfl rfl rfl
theorem JI.trouble (h : JI tot st id sq sb) (t : Int) : JI tot { st with trouble := t } id sq sb := h.same rfl rfl rfl
/-- A sector beyond the journal. -/
theorem JI.beyond (h : JI tot st id sq sb) (i : Int) (t : ByteArray) (hi : 2 ≤ i) : JI tot (wrSt st i t) id sq sb := by
  unfold wrSt
  split
  · exact h
  split
  · exact h
  split
  · exact h.same rfl rfl rfl
  · have hm : ∀ s x, s < 2 → (s, x) ∈ st.pend ++ [(i.toNat, t)] → (s, x) ∈ st.pend := by
      intro s x hs hx
      rw [List.mem_append, List.mem_singleton] at hx
      rcases hx with hx | hx
      · exact hx
      · have : s = i.toNat := congrArg Prod.fst hx
        omega
    have hC : ∀ s x, s < 2 → Cand { st with trouble := tick st.trouble, pend := st.pend ++ [(i.toNat, t)], writes := st.writes + 1 } s x → Cand st s x := by
      intro s x hs hc
      rcases hc with hc | hc
      · exact .inl hc
      · exact .inr (hm s x hs hc)
    refine ⟨h.n2, h.len, h.id8, h.tot4, fun s hs x hc hr => h.recs s hs x (hC s x hs hc) hr, ?_⟩
    rcases h.base with hb | ⟨h1, h2, h3, h4⟩
    · exact .inl hb
    · exact .inr ⟨h1, h2, fun x hx => h3 x (hm _ x (by omega) hx), fun x q b hc hj => h4 x q b (hC _ x (by omega) hc) hj⟩
theorem JI.begins (h : JI tot st id sq sb) (j : Nat) : JI tot (opS st j) id sq sb := by
  match j with
  | 0 => exact h
  | 1 => exact h.sync
  | 2 => exact h.sync.read 0
  | j + 3 => exact (h.sync.read 0).read 1
theorem JI.begun (h : JI tot st id sq sb) : JI tot (opSt st) id sq sb := by
  unfold opSt
  split
  · exact h.begins 1
  split
  · exact h.begins 2
  · exact h.begins 3
/-- A new disk. -/
theorem ji_new (n : Nat) (h : 2 ≤ n) (h8 : id.size = 8) (h4 : tot ≤ 4096) : JI tot (newD n) id 0 0 := by
  refine ⟨h, by simp [newD], h8, h4, fun s hs x hc hr => ?_, .inl ⟨rfl, rfl⟩⟩
  rcases hc with hc | hc
  · have : x = zeroS := by
      have := List.mem_of_getElem? hc
      exact List.eq_of_mem_replicate this
    rw [this, zero_norec] at hr
    exact absurd hr (by decide)
  · simp [newD] at hc
end
end Go.Proofs.YtgaoeoijdpdjiabGreatDoor

namespace Go.Proofs.YtgaoeoijdpdjiabGreatDoor
open Go.RowKit
set_option maxRecDepth 20000 in
set_option maxHeartbeats 2000000 in
theorem moves_on (lo H SD D : Nat) (k b x t l : Int) (s1 s2 s3 o1 o2 o3 : ByteArray) (sv bv gv : Value) (st : DSt) (F : Nat → Prop) (ka : Option Addr) (kn kc : Nat) (K : List Bool) (w : World)
    (hH : Blk w H (hallC SD k b x t l s1 s2 s3 o1 o2 o3 sv bv gv) 65) (hSD : Blk w SD [.pointer (some ⟨D, 0, none⟩)] 135) (hD : DSk lo D st w F) (nH : ¬ F H) (nS : ¬ F SD) (hlo : lo ≤ w.heap.size)
    (hK : BoolsAt w (.slice ka kn kc) K) (hKL : K.length ≤ maxLen) (hKF : ∀ b o l c, Value.slice ka kn kc = .slice (some ⟨b, o, none⟩) l c → 0 < l → b < w.heap.size ∧ ¬ F b) (ht0 : 0 ≤ st.term) (ht1 : st.term < 9223372036854775807) :
    Calls Tryz.prog 21 #[.pointer (some ⟨H, 0, none⟩), .slice ka kn kc, .int .i64 st.n] w fun e w' => e = .returned (.bool true) ∧
      ∃ SD2 D2 F2, Blk w' H (hallC SD2 k b x t l s1 s2 s3 o1 o2 o3 sv bv gv) 65 ∧ Blk w' SD2 [.pointer (some ⟨D2, 0, none⟩)] 135 ∧ DSk lo D2 (mvSt st K) w' F2 ∧ (∀ q, F2 q → w.heap.size ≤ q) ∧ w.heap.size ≤ SD2 ∧ ¬ F2 SD2 ∧ Kept (fun q => q = H ∨ F q) w w' ∧ w'.cell? ⟨D, 5, none⟩ = some (.int .i64 (st.term + 1)) := by
  have hok := hD.ok
  have hn1 := hok.lo
  have hn8 := hok.hi
  have hlen : (keptJ st K st.pend.length).length = st.n := by rw [keptJ_len]; exact hok.len
  have HL32 := hide (hD.ok)
  have HCR := hide (skCrash_on SD D ka kn kc (fun w' => DL lo D (crSt st K) F w w') w hSD (dcrash_any lo D st F (.slice ka kn kc) K w hD hK hKL hKF ht0 ht1))
  have HND := hide (fun (V : World) (h : lo ≤ V.heap.size) => snew_yes st.n V lo hn1 hn8 h)
  have HHL := hide hH.lt
  have HSL := hide hSD.lt
  have HH := hide hH
  have HS := hide hSD
  have HNH := hide nH
  have HNS := hide nS
  have HLO := hide hlo
  have HLEN := hide hlen
  have HDF := hide hD
  have c11 : w.cell? ⟨H, 11, none⟩ = some (.pointer (some ⟨SD, 0, none⟩)) := hH.cell 11
  have hnn : (st.n : Int) ≤ 8 := by omega
  clear hH hSD hD nH nS hlo hK hKL hKF ht0 ht1 hok hlen
  go_enter Tryz.func21, Tryz.ntmps21
  go_wp2_with fail
  refine HCR.out.mono ?_
  rintro e w1 ⟨rfl, hl1⟩
  have hbH := hl1.blk HH.out HNH.out
  have hbS := hl1.blk HS.out HNS.out
  obtain ⟨F1, d1, k1, f1⟩ := hl1
  have HD1 := hide d1
  have HK1 := hide k1
  have HF1 := hide f1
  have HH1 := hide hbH
  have HS1 := hide hbS
  have HND1 := hide (HND.out w1 (Nat.le_trans HLO.out k1.size))
  clear d1 k1 f1 hbH hbS c11
  go_wp2_with fail
  refine HND1.out.mono ?_
  rintro e w2 ⟨SD2, F0, rfl, hs2, hf2, hb2⟩
  obtain ⟨D2, E2, pv2, hbS2, hd2, n1, n2, n3, hloS2, rfl⟩ := hs2
  have HMV : Hid (MV lo H SD D SD2 D2 (hallC SD k b x t l s1 s2 s3 o1 o2 o3 sv bv gv) (crSt st K) (cpSt st.n (keptJ st K st.pend.length) 0) F w w2) := by
    have hge : w1.heap.size ≤ SD2 := hf2 SD2 (.inl rfl)
    refine ⟨F1, DFoot D2 E2 pv2, HD1.out.below hb2, ⟨E2, pv2, hd2, rfl⟩, fun q e e2 => ?_, HF1.out, fun q e => ?_, fun e => ?_, ?_, HH1.out.on hb2, HS1.out.on hb2, hbS2, HK1.out.after hb2⟩
    · have := (HD1.out.lt q e).2
      have := hf2 q (.inr e2)
      omega
    · exact Nat.le_trans HK1.out.size (hf2 q (.inr e))
    · have := (HD1.out.lt SD2 e).2
      omega
    · rintro (e | e | e) <;> first | exact n1 e | exact n2 e | exact n3 e
  have HGE := hide (show w.heap.size ≤ SD2 from Nat.le_trans HK1.out.size (hf2 SD2 (.inl rfl)))
  clear hf2 hb2 hbS2 hd2 n1 n2 n3 hloS2
  go_wp2_with fail
  go_loopw [9] (fun i wr => ∃ j : Nat, j ≤ st.n ∧ i = .int .i64 j ∧ Hid (MV lo H SD D SD2 D2 (hallC SD k b x t l s1 s2 s3 o1 o2 o3 sv bv gv) (crSt st K) (cpSt st.n (keptJ st K st.pend.length) j) F w wr)) (fun i _ => st.n - (intOf i).toNat)
  case atStart => exact ⟨0, Nat.zero_le _, rfl, HMV.out⟩
  case round =>
    obtain ⟨j, hj, rfl, hmv⟩ := hrel
    by_cases hlt : j < st.n
    · obtain ⟨G1, G2, e1, e2, h12, g1, g2, m1, m2, bH, bS, b2, hk⟩ := hmv.out
      have hra : rdAns (crSt st K) j = ((keptJ st K st.pend.length).getD j ⟨#[]⟩, 0) := rda_calm (crSt st K) j hlt rfl rfl
      have hrs : rdSt (crSt st K) j = crSt st K := rd_calm (crSt st K) j hlt rfl
      have HRD := hide (skRead_on SD D j _ _ (fun w' => MV lo H SD D SD2 D2 (hallC SD k b x t l s1 s2 s3 o1 o2 o3 sv bv gv) (crSt st K) (cpSt st.n (keptJ st K st.pend.length) j) F w w') wr bS ((dread_any lo D (crSt st K) G1 j wr e1).mono (by
        rintro e w' ⟨rfl, hl⟩
        rw [hrs] at hl
        exact ⟨rfl, MV.old HHL.out HSL.out HNH.out HNS.out e2 h12 g1 g2 m1 m2 bH bS b2 hk hl⟩)))
      rw [hra] at HRD
      have c11 : wr.cell? ⟨H, 11, none⟩ = some (.pointer (some ⟨SD, 0, none⟩)) := bH.cell 11
      have hx32 : ∀ y ∈ keptJ st K st.pend.length, y.size = 32 := fun y hy => by
        obtain ⟨s, hs⟩ := List.getElem?_of_mem hy
        rcases (kept_cand hs).1 with h | h
        · exact HL32.out.sec y (List.mem_of_getElem? h)
        · exact (HL32.out.pen _ h).2
      obtain ⟨wa, ws⟩ := cp_write st.n (keptJ st K st.pend.length) j (by omega) HLEN.out hx32 hlt
      have HWR := hide (fun (V : World) (h : MV lo H SD D SD2 D2 (hallC SD k b x t l s1 s2 s3 o1 o2 o3 sv bv gv) (crSt st K) (cpSt st.n (keptJ st K st.pend.length) j) F w V) => (by
        obtain ⟨G1, G2, e1, e2, h12, g1, g2, m1, m2, bH, bS, b2, hk⟩ := h
        have := skWrite_on SD2 D2 j ((keptJ st K st.pend.length).getD j ⟨#[]⟩) _ (fun w' => MV lo H SD D SD2 D2 (hallC SD k b x t l s1 s2 s3 o1 o2 o3 sv bv gv) (crSt st K) (cpSt st.n (keptJ st K st.pend.length) (j + 1)) F w w') V b2 ((dwrite_any lo D2 _ G2 j ((keptJ st K st.pend.length).getD j ⟨#[]⟩) V e2 (Nat.le_trans HLO.out hk.size) (by show (0 : Int) ≤ (j : Int); omega) (by show (j : Int) < _; omega)).mono (by
          rintro e w' ⟨rfl, hl⟩
          rw [ws] at hl
          exact ⟨rfl, MV.new HHL.out HSL.out e1 h12 g1 g2 m1 m2 bH bS b2 hk hl⟩))
        rw [wa] at this
        exact this : Calls Tryz.prog 62 #[.pointer (some ⟨SD2, 0, none⟩), .int .i64 j, .string ((keptJ st K st.pend.length).getD j ⟨#[]⟩)] V fun e w' => e = .returned (.int .i64 0) ∧ MV lo H SD D SD2 D2 (hallC SD k b x t l s1 s2 s3 o1 o2 o3 sv bv gv) (crSt st K) (cpSt st.n (keptJ st K st.pend.length) (j + 1)) F w w'))
      have hms : (j : Int) < (st.n : Int) := by omega
      generalize (keptJ st K st.pend.length).getD j ⟨#[]⟩ = z at HRD HWR
      clear hra hrs hx32 wa ws e1 e2 h12 g1 g2 m1 m2 bH bS b2 hk hmv
      go_wp2_with fail
      refine HRD.out.mono ?_
      rintro e w3 ⟨rfl, hm3⟩
      have HW3 := hide (HWR.out _ hm3)
      clear hm3 c11
      go_wp2_with fail
      refine HW3.out.mono ?_
      rintro e w4 ⟨rfl, hm4⟩
      have HM4 := hide hm4
      clear hm4
      go_wp2
      go_roundw
      case rel => exact ⟨j + 1, by omega, by go_num, HM4.out⟩
      case measure => simp [intOf]; omega
    · have hjn : j = st.n := by omega
      subst hjn
      have hms : ¬ (st.n : Int) < (st.n : Int) := by omega
      obtain ⟨G1, G2, e1, e2, h12, g1, g2, m1, m2, bH, bS, b2, hk⟩ := hmv.out
      obtain ⟨ya, ys⟩ := cp_sync st K HLEN.out
      have HSY := hide (skSync_on SD2 D2 _ (fun w' => MV lo H SD D SD2 D2 (hallC SD k b x t l s1 s2 s3 o1 o2 o3 sv bv gv) (crSt st K) (mvSt st K) F w w') wr b2 ((dsync_any lo D2 _ G2 wr e2 (by show (0 : Int) ≤ 0; decide) (by show (0 : Int) < _; decide)).mono (by
        rintro e w' ⟨rfl, hl⟩
        rw [ys] at hl
        exact ⟨rfl, MV.new HHL.out HSL.out e1 h12 g1 g2 m1 m2 bH bS b2 hk hl⟩)))
      rw [ya] at HSY
      clear ya ys e1 e2 h12 g1 g2 m1 m2 bH bS b2 hk hmv
      go_wp2_with fail
      refine HSY.out.mono ?_
      rintro e w3 ⟨rfl, hm3⟩
      obtain ⟨G1, G2, e1, e2, h12, g1, g2, m1, m2, bH, bS, b2, hk⟩ := hm3
      have f11 : w3.frozen? ⟨H, 11, none⟩ = false := bH.free 11
      have c11 : w3.cell? ⟨H, 11, none⟩ = some (.pointer (some ⟨SD, 0, none⟩)) := bH.cell 11
      have nG1 : ¬ G1 H := fun e => by rcases g1 H e with e | e <;> first | exact HNH.out e | (have := HHL.out; omega)
      have nG2 : ¬ G2 H := fun e => by have := g2 H e; have := HHL.out; omega
      have HSH := hide (show SD2 ≠ H by have := HGE.out; have := HHL.out; omega)
      have HF := hide (And.intro (bH.set 11 (.pointer (some ⟨SD2, 0, none⟩))) (And.intro e1.term (And.intro e1.self nG1)))
      have HX := hide (And.intro (e2.kept (kept_set w3 ⟨H, 11, none⟩ (.pointer (some ⟨SD2, 0, none⟩))) (fun q e hq => nG2 (by have hq' : q = H := hq; rw [← hq']; exact e))) (And.intro g2 m2))
      have HY := hide (And.intro b2 (And.intro hk e1.ltD))
      clear e1 e2 h12 g1 g2 m1 m2 bH bS b2 hk nG1 nG2
      go_wp2
      go_ret
      refine ⟨rfl, SD2, D2, G2, HF.out.1, ?_, HX.out.1, HX.out.2.1, HGE.out, HX.out.2.2, (HY.out.2.1.mono (fun q _ e => .inr e)).setCell (.inl (.inl rfl)) _, ?_⟩
      · have hb := HY.out.1
        unfold Blk at hb ⊢
        rw [(kept_set w3 ⟨H, 11, none⟩ (.pointer (some ⟨SD2, 0, none⟩))).block SD2 (Blk.lt hb) HSH.out]
        exact hb
      · rw [(kept_set w3 ⟨H, 11, none⟩ (.pointer (some ⟨SD2, 0, none⟩))).cell (p := ⟨D, 5, none⟩) HY.out.2.2 (fun e => HF.out.2.2.2 (by have e' : D = H := e; rw [← e']; exact HF.out.2.2.1))]
        exact HF.out.2.1
end Go.Proofs.YtgaoeoijdpdjiabGreatDoor

namespace Go.Proofs.YtgaoeoijdpdjiabGreatDoor
open Go.RowKit
section
variable {tot : Nat} {st s2 : DSt} {id id2 : ByteArray} {sq sb : Nat}
theorem sync_yes (h : syAns st = 0) : sySt st = { st with trouble := tick st.trouble, dur := laidJ st st.pend.length, pend := [], syncs := st.syncs + 1 } := by
  unfold syAns at h
  unfold sySt
  split at h
  · exact absurd h (by decide)
  · rename_i hn
    rw [if_neg hn]
theorem read_yes (i : Nat) (hi : i < st.n) (hl : st.dur.length = st.n) (hp : st.pend = []) (h : (rdAns st i).2 = 0) : st.dur[i]? = some (rdAns st i).1 ∧ rdSt st i = { st with trouble := tick st.trouble } := by
  have h0 : 0 ≤ (i : Int) ∧ (i : Int) < st.n := by omega
  have hA : rdAns st i = if st.trouble = 1 then (⟨#[]⟩, 5) else (latestB st i, 0) := by rw [rdAns, if_neg (fun hn => hn h0), Int.toNat_natCast]
  have hS : rdSt st i = { st with trouble := tick st.trouble } := by rw [rdSt, if_neg (fun hn => hn h0)]
  rw [hA] at h ⊢
  rw [hS]
  by_cases ht : st.trouble = 1
  · rw [if_pos ht] at h
    exact absurd h (by decide)
  · rw [if_neg ht]
    refine ⟨?_, rfl⟩
    rw [latestB, hp]
    simp only [List.length_nil, back, Option.getD_none]
    rw [List.getD_eq_getElem?_getD, List.getElem?_eq_getElem (by omega)]
    rfl
/-- What the steps of a beginning read, when nothing fails. -/
theorem begin_reads (h2 : 2 ≤ st.n) (hl : st.dur.length = st.n) (h0 : syAns st = 0) (h1 : (opR0 st).2 = 0) (h3 : (opR1 st).2 = 0) :
    (opS st 3).pend = [] ∧ (opS st 3).n = st.n ∧ (opS st 3).dur[0]? = some (opR0 st).1 ∧ (opS st 3).dur[1]? = some (opR1 st).1 := by
  have e := sync_yes h0
  have hl1 : (sySt st).dur.length = (sySt st).n := by rw [e]; show (laidJ st _).length = st.n; rw [laid_len, hl]
  have hn1 : (sySt st).n = st.n := by rw [e]
  have hp1 : (sySt st).pend = [] := by rw [e]
  obtain ⟨a, b⟩ := read_yes (st := sySt st) 0 (by omega) hl1 hp1 h1
  have b' : rdSt (sySt st) 0 = { sySt st with trouble := tick (sySt st).trouble } := b
  obtain ⟨c, d⟩ := read_yes (st := rdSt (sySt st) 0) 1 (by rw [b']; show 1 < (sySt st).n; omega) (by rw [b']; exact hl1) (by rw [b']; exact hp1) h3
  have d' : opS st 3 = { rdSt (sySt st) 0 with trouble := tick (rdSt (sySt st) 0).trouble } := d
  rw [d']
  refine ⟨by rw [b']; exact hp1, by rw [b']; exact hn1, ?_, c⟩
  rw [b']
  exact a
/-- A key that opens: its records are those of the journal; it goes on at the greatest. -/
theorem JI.opened (h : JI tot st id sq sb) (ha : opAns st id2 tot = 0) : id2 = id ∧ (opT st id2 tot).d = id ∧ ∃ q b : Nat, (opT st id2 tot).q = q ∧ (opT st id2 tot).b = b ∧ sb ≤ b ∧ JI tot (opSt st) id q b ∧ 1 ≤ q ∧ q ≤ b + 1 ∧ b ≤ tot := by
  unfold opAns at ha
  split at ha
  · rename_i hn; exact absurd ha hn
  rename_i h0
  split at ha
  · rename_i hn; exact absurd ha hn
  rename_i h1
  split at ha
  · rename_i hn; exact absurd ha hn
  rename_i h3
  split at ha
  · exact absurd ha (by decide)
  rename_i hq
  simp only [ne_eq, Decidable.not_not] at h0 h1 h3
  have hJ := h.begins 3
  obtain ⟨hp, hn, e0, e1⟩ := begin_reads h.n2 h.len h0 h1 h3
  have hst : opSt st = opS st 3 := by
    unfold opSt
    rw [if_neg (fun hn => hn h0), if_neg (fun hn => hn h1)]
  rw [hst]
  have hL : opL st 3 = foundR (foundR [] (opR0 st).1) (opR1 st).1 := rfl
  unfold opT at hq ⊢
  rw [takeJ, List.take_length] at hq ⊢
  rw [hL] at hq ⊢
  generalize (opR0 st).1 = x0 at *
  generalize (opR1 st).1 = x1 at *
  generalize opS st 3 = s at *
  have h8 := hJ.id8
  have h4 := hJ.tot4
  -- what each sector may hold
  have c0 : isRec x0 = true → ∃ q b : Nat, Jr tot id 0 x0 q b ∧ recOf x0 = ⟨q, b, id⟩ := fun hr => by
    obtain ⟨q, b, hj⟩ := hJ.recs 0 (by omega) x0 (.inl e0) hr
    exact ⟨q, b, hj, (jr_rec hj h8 h4).2⟩
  have c1 : isRec x1 = true → ∃ q b : Nat, Jr tot id 1 x1 q b ∧ recOf x1 = ⟨q, b, id⟩ := fun hr => by
    obtain ⟨q, b, hj⟩ := hJ.recs 1 (by omega) x1 (.inl e1) hr
    exact ⟨q, b, hj, (jr_rec hj h8 h4).2⟩
  -- the journal begun anew at a record that is the greatest
  have mk : ∀ (i : Nat) (x y : ByteArray) (q b : Nat), i < 2 → s.dur[i]? = some x → s.dur[1 - i]? = some y → Jr tot id i x q b → (isRec y = true → ∀ q' b' : Nat, Jr tot id (1 - i) y q' b' → q' < q) → JI tot s id q b ∧ sb ≤ b := by
    intro i x y q b hi hx hy hj hl
    have hj' := hj
    obtain ⟨_, hm, hq1, hq2, hbt⟩ := hj'
    refine ⟨⟨hJ.n2, hJ.len, h8, h4, hJ.recs, .inr ⟨hq1, ⟨x, by rw [hm]; exact hx, by rw [hm]; exact hj⟩, by rw [hp]; simp, ?_⟩⟩, ?_⟩
    · intro z q' b' hc hz
      rw [show (q + 1) % 2 = 1 - i by omega] at hc hz
      rcases hc with hc | hc
      · rw [hy] at hc
        cases hc
        exact .inr (hl (jr_rec hz h8 h4).1 q' b' hz)
      · rw [hp] at hc
        simp at hc
    · rcases hJ.base with ⟨_, hb⟩ | ⟨b1, ⟨z, b2, b2'⟩, b3, b4⟩
      · omega
      · by_cases hs : sq % 2 = i
        · rw [hs, hx] at b2
          cases b2
          have r1 := (jr_rec hj h8 h4).2
          have r2 := (jr_rec b2' h8 h4).2
          rw [r1] at r2
          have := congrArg Rec.b r2
          simp only at this
          omega
        · have hs' : sq % 2 = 1 - i := by omega
          rw [hs', hy] at b2
          cases b2
          rw [hs'] at b2'
          have lt := hl (jr_rec b2' h8 h4).1 sq sb b2'
          have := b4 x q b (by rw [show (sq + 1) % 2 = i by omega]; exact .inl hx) (by rw [show (sq + 1) % 2 = i by omega]; exact hj)
          omega
  unfold foundR at hq ⊢
  by_cases r0 : isRec x0 = true
  · obtain ⟨q0, b0, j0, e0'⟩ := c0 r0
    have ⟨_, m0, q01, q02, b0t⟩ := j0
    by_cases r1 : isRec x1 = true
    · obtain ⟨q1, b1, j1, e1'⟩ := c1 r1
      have ⟨_, m1, q11, q12, b1t⟩ := j1
      rw [if_pos r0, if_pos r1] at hq ⊢
      simp only [List.nil_append, List.singleton_append, List.foldl_cons, List.foldl_nil, e0', e1'] at hq ⊢
      by_cases hid : id2 = id
      · subst hid
        have t0 : takeR id2 tot ⟨0, 0, ⟨#[]⟩⟩ ⟨q0, b0, id2⟩ = ⟨q0, b0, id2⟩ := by
          rw [takeR, if_pos ⟨rfl, by simp only; omega, by rw [laterR, decide_eq_true_iff]; simp only; omega⟩]
        rw [t0] at hq ⊢
        by_cases hlt : q0 < q1
        · have t1 : takeR id2 tot ⟨q0, b0, id2⟩ ⟨q1, b1, id2⟩ = ⟨q1, b1, id2⟩ := by
            rw [takeR, if_pos ⟨rfl, by simp only; omega, by rw [laterR, decide_eq_true_iff]; simp only; omega⟩]
          rw [t1]
          obtain ⟨m, n⟩ := mk 1 x1 x0 q1 b1 (by omega) e1 e0 j1 (fun _ q' b' hz => by
            have := (jr_rec hz h8 h4).2
            rw [e0'] at this
            have := congrArg Rec.q this
            simp only at this
            omega)
          exact ⟨rfl, rfl, q1, b1, rfl, rfl, n, m, q11, q12, b1t⟩
        · have t1 : takeR id2 tot ⟨q0, b0, id2⟩ ⟨q1, b1, id2⟩ = ⟨q0, b0, id2⟩ := by
            rw [takeR, if_neg]
            rintro ⟨_, _, hl⟩
            rw [laterR, decide_eq_true_iff] at hl
            simp only at hl
            omega
          rw [t1]
          obtain ⟨m, n⟩ := mk 0 x0 x1 q0 b0 (by omega) e0 e1 j0 (fun _ q' b' hz => by
            have := (jr_rec hz h8 h4).2
            rw [e1'] at this
            have := congrArg Rec.q this
            simp only at this
            omega)
          exact ⟨rfl, rfl, q0, b0, rfl, rfl, n, m, q01, q02, b0t⟩
      · exfalso
        apply hq
        have hid' : ¬ id = id2 := fun e => hid e.symm
        rw [takeR, if_neg (fun h => hid' h.1), takeR, if_neg (fun h => hid' h.1)]
    · rw [if_pos r0, if_neg r1] at hq ⊢
      simp only [List.nil_append, List.foldl_cons, List.foldl_nil, e0'] at hq ⊢
      by_cases hid : id2 = id
      · subst hid
        have t0 : takeR id2 tot ⟨0, 0, ⟨#[]⟩⟩ ⟨q0, b0, id2⟩ = ⟨q0, b0, id2⟩ := by
          rw [takeR, if_pos ⟨rfl, by simp only; omega, by rw [laterR, decide_eq_true_iff]; simp only; omega⟩]
        rw [t0]
        obtain ⟨m, n⟩ := mk 0 x0 x1 q0 b0 (by omega) e0 e1 j0 (fun hr => absurd hr r1)
        exact ⟨rfl, rfl, q0, b0, rfl, rfl, n, m, q01, q02, b0t⟩
      · exfalso
        apply hq
        have hid' : ¬ id = id2 := fun e => hid e.symm
        rw [takeR, if_neg (fun h => hid' h.1)]
  · by_cases r1 : isRec x1 = true
    · obtain ⟨q1, b1, j1, e1'⟩ := c1 r1
      have ⟨_, m1, q11, q12, b1t⟩ := j1
      rw [if_neg r0, if_pos r1] at hq ⊢
      simp only [List.nil_append, List.foldl_cons, List.foldl_nil, e1'] at hq ⊢
      by_cases hid : id2 = id
      · subst hid
        have t0 : takeR id2 tot ⟨0, 0, ⟨#[]⟩⟩ ⟨q1, b1, id2⟩ = ⟨q1, b1, id2⟩ := by
          rw [takeR, if_pos ⟨rfl, by simp only; omega, by rw [laterR, decide_eq_true_iff]; simp only; omega⟩]
        rw [t0]
        obtain ⟨m, n⟩ := mk 1 x1 x0 q1 b1 (by omega) e1 e0 j1 (fun hr => absurd hr r0)
        exact ⟨rfl, rfl, q1, b1, rfl, rfl, n, m, q11, q12, b1t⟩
      · exfalso
        apply hq
        have hid' : ¬ id = id2 := fun e => hid e.symm
        rw [takeR, if_neg (fun h => hid' h.1)]
    · exfalso
      apply hq
      rw [if_neg r0, if_neg r1]
      rfl
end
end Go.Proofs.YtgaoeoijdpdjiabGreatDoor

namespace Go.Proofs.YtgaoeoijdpdjiabGreatDoor
open Go.RowKit
section
variable {tot : Nat} {st s2 : DSt} {id id2 : ByteArray} {sq sb : Nat}
theorem write_or (i : Nat) (t : ByteArray) (hi : i < st.n) (ht : t.size = 32) : (wrAns st i t = 5 ∧ wrSt st i t = { st with trouble := tick st.trouble }) ∨ (wrAns st i t = 0 ∧ wrSt st i t = { st with trouble := tick st.trouble, pend := st.pend ++ [(i, t)], writes := st.writes + 1 }) := by
  have h0 : 0 ≤ (i : Int) ∧ (i : Int) < st.n := by omega
  have hA : wrAns st i t = if st.trouble = 1 ∨ st.pend.length = 16 then 5 else 0 := by rw [wrAns, if_neg (fun hn => hn h0), if_neg (fun hn => hn ht)]
  have hS : wrSt st i t = if st.trouble = 1 ∨ st.pend.length = 16 then { st with trouble := tick st.trouble } else { st with trouble := tick st.trouble, pend := st.pend ++ [(i, t)], writes := st.writes + 1 } := by rw [wrSt, if_neg (fun hn => hn h0), if_neg (fun hn => hn ht), Int.toNat_natCast]
  rw [hA, hS]
  split
  · exact .inl ⟨rfl, rfl⟩
  · exact .inr ⟨rfl, rfl⟩
theorem jr_new (q b : Nat) (h1 : 1 ≤ q) (h2 : q ≤ b + 1) (h3 : b ≤ tot) : Jr tot id (q % 2) (sealS q b id) q b := ⟨rfl, rfl, h1, h2, h3⟩
/-- The next record is written. -/
theorem JI.lay (h : JI tot st id sq sb) (b : Nat) (hb : sb ≤ b) (hbt : b ≤ tot) (hq : sq ≤ b) : JI tot (wrSt st ((sq + 1) % 2 : Nat) (sealS ((sq + 1 : Nat) : Int) b id)) id sq sb := by
  have hn := h.n2
  rcases write_or (st := st) ((sq + 1) % 2) (sealS ((sq + 1 : Nat) : Int) b id) (by omega) (sealS_size _ _ _ h.id8) with ⟨_, e⟩ | ⟨_, e⟩
  · rw [e]; exact h.same rfl rfl rfl
  · rw [e]
    have hj : Jr tot id ((sq + 1) % 2) (sealS ((sq + 1 : Nat) : Int) b id) (sq + 1) b := jr_new _ _ (by omega) (by omega) hbt
    have hC : ∀ s x, Cand { st with trouble := tick st.trouble, pend := st.pend ++ [((sq + 1) % 2, sealS ((sq + 1 : Nat) : Int) b id)], writes := st.writes + 1 } s x → Cand st s x ∨ s = (sq + 1) % 2 ∧ x = sealS ((sq + 1 : Nat) : Int) b id := by
      intro s x hc
      rcases hc with hc | hc
      · exact .inl (.inl hc)
      · rcases List.mem_append.1 hc with hc | hc
        · exact .inl (.inr hc)
        · rw [List.mem_singleton] at hc
          cases hc
          exact .inr ⟨rfl, rfl⟩
    refine ⟨h.n2, h.len, h.id8, h.tot4, fun s hs x hc hr => ?_, ?_⟩
    · rcases hC s x hc with hc | ⟨rfl, rfl⟩
      · exact h.recs s hs x hc hr
      · exact ⟨_, _, hj⟩
    · rcases h.base with hb | ⟨h1, h2, h3, h4⟩
      · exact .inl hb
      · refine .inr ⟨h1, h2, fun x hx => ?_, fun x q b' hc hz => ?_⟩
        · rcases List.mem_append.1 hx with hx | hx
          · exact h3 x hx
          · rw [List.mem_singleton] at hx
            have := congrArg Prod.fst hx
            simp only at this
            omega
        · rcases hC _ x hc with hc | ⟨_, rfl⟩
          · exact h4 x q b' hc hz
          · have r1 := (jr_rec hj h.id8 h.tot4).2
            have r2 := (jr_rec hz h.id8 h.tot4).2
            rw [r1] at r2
            have e1 := congrArg Rec.q r2
            have e2 := congrArg Rec.b r2
            simp only at e1 e2
            exact .inl ⟨by omega, by omega⟩
/-- It is written, and synced. -/
theorem JI.laid (h : JI tot st id sq sb) (b : Nat) (hb : sb ≤ b) (hbt : b ≤ tot) (hq : sq ≤ b) (hz : sq = 0 → ∀ x, Cand st 0 x → isRec x = false)
    (ha : wrAns st ((sq + 1) % 2 : Nat) (sealS ((sq + 1 : Nat) : Int) b id) = 0) (hy : syAns (wrSt st ((sq + 1) % 2 : Nat) (sealS ((sq + 1 : Nat) : Int) b id)) = 0) : JI tot (sySt (wrSt st ((sq + 1) % 2 : Nat) (sealS ((sq + 1 : Nat) : Int) b id))) id (sq + 1) b := by
  have hL := (h.lay b hb hbt hq).sync
  have hn := h.n2
  have hlen := h.len
  rcases write_or (st := st) ((sq + 1) % 2) (sealS ((sq + 1 : Nat) : Int) b id) (by omega) (sealS_size _ _ _ h.id8) with ⟨e0, _⟩ | ⟨_, e⟩
  · rw [ha] at e0; exact absurd e0 (by decide)
  have hj : Jr tot id ((sq + 1) % 2) (sealS ((sq + 1 : Nat) : Int) b id) (sq + 1) b := jr_new _ _ (by omega) (by omega) hbt
  have ey := sync_yes hy
  rw [ey] at hL ⊢
  rw [e] at hL ⊢
  generalize hx : sealS ((sq + 1 : Nat) : Int) b id = X at *
  have hlast : (laidJ { st with trouble := tick st.trouble, pend := st.pend ++ [((sq + 1) % 2, X)], writes := st.writes + 1 } (st.pend ++ [((sq + 1) % 2, X)]).length) = (laidJ st st.pend.length).set ((sq + 1) % 2) X := by
    simp only [laidJ, List.take_length, List.foldl_append, List.foldl_cons, List.foldl_nil]
  have hll := laid_len st st.pend.length
  refine ⟨hL.n2, hL.len, hL.id8, hL.tot4, hL.recs, .inr ⟨by omega, ⟨X, ?_, hj⟩, by simp, fun x q b' hc hz2 => ?_⟩⟩
  · show (laidJ _ _)[(sq + 1) % 2]? = some X
    rw [hlast, List.getElem?_set_self (by omega)]
  · have es : (sq + 1 + 1) % 2 = sq % 2 := by omega
    rw [es] at hc hz2
    rcases hc with hc | hc
    · have hc' : (laidJ _ _)[sq % 2]? = some x := hc
      rw [hlast, List.getElem?_set_ne (by omega)] at hc'
      obtain ⟨g1, g2⟩ := laid_cand hc'
      rcases h.base with ⟨hs, _⟩ | ⟨h1, ⟨z, h2, h2'⟩, h3, h4⟩
      · subst hs
        have := hz rfl x g1
        rw [(jr_rec hz2 h.id8 h.tot4).1] at this
        exact absurd this (by decide)
      · have := g2 h3
        rw [h2] at this
        cases this
        have r1 := (jr_rec h2' h.id8 h.tot4).2
        have r2 := (jr_rec hz2 h.id8 h.tot4).2
        rw [r1] at r2
        have e1 := congrArg Rec.q r2
        simp only at e1
        exact .inr (by omega)
    · simp at hc
theorem JI.switch (h : JI tot st id sq sb) (h8 : id2.size = 8) (hz : ∀ s, s < 2 → ∀ x, Cand st s x → isRec x = false) : JI tot st id2 0 0 :=
  ⟨h.n2, h.len, h8, h.tot4, fun s hs x hc hr => by rw [hz s hs x hc] at hr; exact absurd hr (by decide), .inl ⟨rfl, rfl⟩⟩
theorem JI.none (h : JI tot st id sq sb) (hz : ∀ s, s < 2 → ∀ x, Cand st s x → isRec x = false) : sq = 0 ∧ sb = 0 := by
  rcases h.base with hb | ⟨h1, ⟨z, h2, h2'⟩, h3, h4⟩
  · exact hb
  · have := hz (sq % 2) (by omega) z (.inl h2)
    rw [(jr_rec h2' h.id8 h.tot4).1] at this
    exact absurd this (by decide)
theorem found_nil {L : List Rec} {x : ByteArray} (h : foundR L x = []) : L = [] ∧ isRec x = false := by
  unfold foundR at h
  split at h
  · simp at h
  · rename_i hn
    exact ⟨h, by simpa using hn⟩
/-- A key is made, or it is not. -/
theorem JI.made (h : JI tot st id sq sb) (h8 : id2.size = 8) : (mkAns st id2 = 0 ∧ sb = 0 ∧ JI tot (mkSt st id2) id2 1 0) ∨ (mkAns st id2 ≠ 0 ∧ ∃ id', (id' = id ∨ id' = id2) ∧ JI tot (mkSt st id2) id' sq sb) := by
  by_cases h0 : syAns st = 0
  case neg => exact .inr ⟨by rw [mkAns, if_pos h0]; exact h0, id, .inl rfl, by rw [mkSt, if_pos h0]; exact h.begins 1⟩
  by_cases h1 : (opR0 st).2 = 0
  case neg => exact .inr ⟨by rw [mkAns, if_neg (fun hn => hn h0), if_pos h1]; exact h1, id, .inl rfl, by rw [mkSt, if_neg (fun hn => hn h0), if_pos h1]; exact h.begins 2⟩
  by_cases h3 : (opR1 st).2 = 0
  case neg => exact .inr ⟨by rw [mkAns, if_neg (fun hn => hn h0), if_neg (fun hn => hn h1), if_pos h3]; exact h3, id, .inl rfl, by rw [mkSt, if_neg (fun hn => hn h0), if_neg (fun hn => hn h1), if_pos h3]; exact h.begins 3⟩
  by_cases hL : opL st 3 = []
  case neg => exact .inr ⟨by rw [mkAns, if_neg (fun hn => hn h0), if_neg (fun hn => hn h1), if_neg (fun hn => hn h3), if_pos hL]; decide, id, .inl rfl, by rw [mkSt, if_neg (fun hn => hn h0), if_neg (fun hn => hn h1), if_neg (fun hn => hn h3), if_pos hL]; exact h.begins 3⟩
  have eA : mkAns st id2 = if wrAns (opS st 3) 1 (sealS 1 0 id2) ≠ 0 then wrAns (opS st 3) 1 (sealS 1 0 id2) else syAns (mkT st id2) := by
    rw [mkAns, if_neg (fun hn => hn h0), if_neg (fun hn => hn h1), if_neg (fun hn => hn h3), if_neg (fun hn => hn hL)]
  have eS : mkSt st id2 = if wrAns (opS st 3) 1 (sealS 1 0 id2) ≠ 0 then mkT st id2 else sySt (mkT st id2) := by
    rw [mkSt, if_neg (fun hn => hn h0), if_neg (fun hn => hn h1), if_neg (fun hn => hn h3), if_neg (fun hn => hn hL)]
  obtain ⟨hp, hn, e0, e1⟩ := begin_reads h.n2 h.len h0 h1 h3
  have hJ := h.begins 3
  have hL' : foundR (foundR [] (opR0 st).1) (opR1 st).1 = [] := hL
  obtain ⟨hL0, n1⟩ := found_nil hL'
  obtain ⟨_, n0⟩ := found_nil hL0
  have hz : ∀ s, s < 2 → ∀ x, Cand (opS st 3) s x → isRec x = false := by
    intro s hs x hc
    rcases hc with hc | hc
    · match s, hs with
      | 0, _ => rw [e0] at hc; cases hc; exact n0
      | 1, _ => rw [e1] at hc; cases hc; exact n1
    · rw [hp] at hc; simp at hc
  obtain ⟨hs0, hb0⟩ := hJ.none hz
  have hJ2 := hJ.switch h8 hz
  have hlay : JI tot (mkT st id2) id2 0 0 := hJ2.lay 0 (Nat.le_refl _) (Nat.zero_le _) (Nat.le_refl _)
  subst hs0 hb0
  by_cases ha : wrAns (opS st 3) 1 (sealS 1 0 id2) = 0
  · rw [if_neg (fun hn => hn ha)] at eA eS
    by_cases hy : syAns (mkT st id2) = 0
    · refine .inl ⟨by rw [eA]; exact hy, rfl, ?_⟩
      rw [eS]
      exact hJ2.laid 0 (Nat.le_refl _) (Nat.zero_le _) (Nat.le_refl _) (fun _ x hc => hz 0 (by omega) x hc) ha hy
    · refine .inr ⟨by rw [eA]; exact hy, id2, .inr rfl, ?_⟩
      rw [eS]
      exact hlay.sync
  · rw [if_pos ha] at eA eS
    refine .inr ⟨by rw [eA]; exact ha, id2, .inr rfl, ?_⟩
    rw [eS]
    exact hlay
end
end Go.Proofs.YtgaoeoijdpdjiabGreatDoor
