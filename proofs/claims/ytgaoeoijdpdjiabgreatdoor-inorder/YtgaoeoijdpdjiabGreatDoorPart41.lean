/-
  Make, where nothing fails and the disk bears no record.
-/
import Derived.Test.YtgaoeoijdpdjiabGreatDoorPart40
namespace Go.Proofs.YtgaoeoijdpdjiabGreatDoor
open Go.RowKit

set_option maxRecDepth 20000 in
set_option maxHeartbeats 4000000 in
theorem make_yes (lo D : Nat) (st : DSt) (F : Nat → Prop) (k b x t l : Int) (root pub sec rnd id x0 x1 : ByteArray) (tot bat z0 z1 z2 z4 z5 : Int) (w : World) (hD : DSk lo D st w F) (hn : 2 ≤ st.n) (hT : Tn w) (hTB : 1 < lo) (hlo : lo ≤ w.heap.size) (hb1 : 1 ≤ bat) (hb2 : bat ≤ 64) (ht0 : 0 ≤ st.term) (ht1 : st.term < 9223372036854775807) (hid : id.size = 8)
    (hM : ∀ V : World, Calls Tryz.prog 155 #[.agg #[.int .i64 k, .int .i64 b, .int .i64 x, .int .i64 t, .int .i64 l]] V fun e w' => e = .returned (.tuple #[.agg #[.int .i64 z0, .int .i64 z1, .int .i64 z2, .int .i64 tot, .int .i64 z4, .int .i64 z5], .int .i64 0]) ∧ Below V.heap.size V w')
    (hOf : ∀ V : World, Tn V → Calls Tryz.prog 178 #[.agg #[.int .i64 k, .int .i64 b, .int .i64 x, .int .i64 t, .int .i64 l], .agg #[.string sec, .string rnd, .string pub]] V fun e w' => e = .returned (.tuple #[.agg #[.int .i64 k, .int .i64 b, .int .i64 x, .int .i64 t, .int .i64 l, .string root, .string pub], .int .i64 0]) ∧ Below V.heap.size V w')
    (hId : ∀ V : World, Tn V → Calls Tryz.prog 179 #[.agg #[.int .i64 k, .int .i64 b, .int .i64 x, .int .i64 t, .int .i64 l, .string root, .string pub]] V fun e w' => e = .returned (.string id) ∧ Below V.heap.size V w')
    (s' : DSt) (hs' : s' = { st with term := st.term + 1 }) (y0 : 0 ≤ s'.syncs) (y1 : s'.syncs < 9223372036854775806) (r0 : 0 ≤ s'.writes) (r1 : s'.writes < 9223372036854775807)
    (a1 : syAns s' = 0) (a2 : rdAns (sySt s') 0 = (x0, 0)) (b2 : isRec x0 = false) (a3 : rdAns (rdSt (sySt s') 0) 1 = (x1, 0)) (b3 : isRec x1 = false) (a5 : wrAns (mkS s' id 4) 1 (sealS 1 0 id) = 0) (a6 : syAns (mkS s' id 5) = 0)
    (w4 : (mkS s' id 4).writes = s'.writes) (w5 : (mkS s' id 5).syncs = s'.syncs + 1) (w6 : (mkS s' id 6).term = st.term + 1) :
    Calls Tryz.prog 66 #[.pointer (some ⟨D, 0, none⟩), .agg #[.int .i64 k, .int .i64 b, .int .i64 x, .int .i64 t, .int .i64 l], .agg #[.string sec, .string rnd, .string pub], .int .i64 bat] w fun e w' => ∃ S F', e = .returned (.tuple #[.pointer (some ⟨S, 0, none⟩), .int .i64 0]) ∧ Blk w' S (sgC D (st.term + 1) k b x t l root pub sec rnd tot bat 0 1 0 id false) 188 ∧ DSk lo D (mkS s' id 6) w' F' ∧ ¬ F' S ∧ w.heap.size ≤ S ∧ Kept F w w' ∧ ∀ k, F' k → F k ∨ w.heap.size ≤ k := by
  obtain ⟨W1, hW⟩ : ∃ W1, ((w.alloc (.cells #[.int .i64 k, .int .i64 b, .int .i64 x, .int .i64 t, .int .i64 l] 26)).alloc (.cells #[.string sec, .string rnd, .string pub] 42)).alloc (.cells (List.toArray [.func (.func 107) #[] #[], .func (.func 108) #[] #[], .func (.func 109) #[] #[], .func (.func 110) #[] #[], .func (.func 111) #[] #[], .func (.func 107) #[] #[]]) 331) = W1 := ⟨_, rfl⟩
  have HB := hide (show Below w.heap.size w W1 by subst hW; exact (((Below.refl _ _).alloc (Nat.le_refl _) _).alloc (by simp) _).alloc (by simp; omega) _)
  have HSB := hide (show Blk W1 (w.heap.size + 1 + 1) mkV 331 by
    rw [← hW]
    have h := Blk.new ((w.alloc (.cells #[.int .i64 k, .int .i64 b, .int .i64 x, .int .i64 t, .int .i64 l] 26)).alloc (.cells #[.string sec, .string rnd, .string pub] 42)) mkV 331
    simp only [World.size_alloc] at h
    exact h)
  have hlt := HSB.out.lt
  have nF : ¬ F (w.heap.size + 1 + 1) := fun h => by have := (hD.lt _ h).2; omega
  have HBG := hide (begun_yes lo D st (mkS s' id 6) F k b x t l root pub sec rnd id id tot bat 1 0 z0 z1 z2 z4 z5 (.slice (some ⟨w.heap.size + 1 + 1, 0, none⟩) 6 6) (.slice none 0 0) W1 (hD.below HB.out) hn (hT.on HB.out) hTB (Nat.le_trans hlo HB.out.size) hb1 hb2 ht0 ht1 w6 hM hOf hId (by
    intro V O F1 d1 k1 f1 hO nO bO
    rw [← hs'] at d1
    refine mdone_yes lo O (w.heap.size + 1 + 1) D 331 s' F1 id x0 x1 tot V d1 bO (k1.blk HSB.out nF) nO ?_ (Nat.le_trans hlo (Nat.le_trans HB.out.size k1.size)) (by omega) hid y0 y1 r0 r1 a1 a2 b2 a3 b3 a5 a6 w4 w5
    intro h
    rcases f1 _ h with h | h
    · exact nF h
    · omega))
  have HWE := hide hW
  clear hW hlt nF hM hOf hId hD hT
  go_enter Tryz.func66, Tryz.ntmps66
  go_wp2_with fail
  rw [HWE.out]
  refine HBG.out.mono ?_
  rintro e w2 ⟨S, F', rfl, q1, q2, q3, q4, q5, q6⟩
  have HQ := hide (And.intro q1 (And.intro q2 (And.intro q3 (And.intro q4 (And.intro q5 q6)))))
  clear q1 q2 q3 q4 q5 q6
  go_wp2
  go_ret2
  obtain ⟨q1, q2, q3, q4, q5, q6⟩ := HQ.out
  refine ⟨S, F', rfl, q1, q2, q3, Nat.le_trans HB.out.size q4, (Kept.of_below (F := F) HB.out).trans q5 (fun i hi => .inl hi), fun i hi => ?_⟩
  rcases q6 i hi with h | h
  · exact .inl h
  · exact .inr (Nat.le_trans HB.out.size h)

set_option maxRecDepth 20000 in
theorem below_on (S D : Nat) (w : World) (h : Blk w S [.pointer (some ⟨D, 0, none⟩)] 135) :
    Calls Tryz.prog 67 #[.pointer (some ⟨S, 0, none⟩)] w fun e w' => e = .returned (.pointer (some ⟨D, 0, none⟩)) ∧ Below w.heap.size w w' := by
  have c0 : w.cell? ⟨S, 0, none⟩ = some (.pointer (some ⟨D, 0, none⟩)) := h.cell 0
  clear h
  go_enter Tryz.func67, Tryz.ntmps67
  go_wp2
  go_ret
  exact ⟨rfl, Below.refl _ _⟩
set_option maxRecDepth 20000 in
theorem given_on (S : Nat) (w : World) :
    Calls Tryz.prog 65 #[.pointer (some ⟨S, 0, none⟩), .int .i64 0] w fun e w' => e = .returned (.tuple #[.pointer (some ⟨w.heap.size, 0, none⟩), .int .i64 0]) ∧ Blk w' w.heap.size [.pointer (some ⟨S, 0, none⟩)] 142 ∧ Below w.heap.size w w' := by
  go_enter Tryz.func65, Tryz.ntmps65
  go_wp2
  go_ret2
  exact ⟨rfl, Blk.new w _ _, (Below.refl _ _).alloc (Nat.le_refl _) _⟩
end Go.Proofs.YtgaoeoijdpdjiabGreatDoor
