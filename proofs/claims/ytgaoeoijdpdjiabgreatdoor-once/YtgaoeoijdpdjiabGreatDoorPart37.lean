/-
  The hall: a disk, the signers that there were, and what they gave away. The journal, when a key is made or opened, and when a signer reserves.
-/
import Derived.Test.YtgaoeoijdpdjiabGreatDoorPart36
import Derived.Test.YtgaoeoijdpdjiabGreatDoorPart9
import Derived.Test.YtgaoeoijdpdjiabGreatDoorPart6
namespace Go.Proofs.YtgaoeoijdpdjiabGreatDoor
open Go.RowKit

/-- A hall's cells. -/
def hallC (SD : Nat) (k b x t l : Int) (s1 s2 s3 o1 o2 o3 : ByteArray) (sv bv gv : Value) : List Value :=
  [.int .i64 k, .int .i64 b, .int .i64 x, .int .i64 t, .int .i64 l, .string s1, .string s2, .string s3, .string o1, .string o2, .string o3, .pointer (some ⟨SD, 0, none⟩), sv, bv, gv]

theorem blk_new1 (w : World) (o : Obj) (vs : List Value) (T : TypeId) : Blk ((w.alloc o).alloc (.cells vs.toArray T)) (w.heap.size + 1) vs T := by
  have h := Blk.new (w.alloc o) vs T
  rw [World.size_alloc] at h
  exact h
theorem blk_new2 (w : World) (o o2 : Obj) (vs : List Value) (T : TypeId) : Blk (((w.alloc o).alloc o2).alloc (.cells vs.toArray T)) (w.heap.size + 2) vs T := by
  have h := Blk.new ((w.alloc o).alloc o2) vs T
  rw [World.size_alloc, World.size_alloc] at h
  exact h

set_option maxHeartbeats 400000 in
theorem pickN_any (c n : Int) (w : World) (h1 : 1 ≤ n) (h2 : n ≤ 9223372036854775807) (hc : -9223372036854775808 ≤ c) (hc2 : c ≤ 9223372036854775807) :
    Calls Tryz.prog 17 #[.int .i64 c, .int .i64 n] w fun e w' => e = .returned (.int .i64 (pickZ c n)) ∧ w' = w := by
  by_cases h : c < 0
  · go_enter Tryz.func17, Tryz.ntmps17
    go_wp2
    go_ret
    refine ⟨ret_int ?_, rfl⟩
    unfold pickZ
    rw [if_pos h, ← Int.neg_tmod, Int.tmod_eq_emod_of_nonneg (by omega)]
  · go_enter Tryz.func17, Tryz.ntmps17
    go_wp2
    go_ret
    refine ⟨ret_int ?_, rfl⟩
    unfold pickZ
    rw [if_neg (by omega)]

set_option maxRecDepth 20000 in
set_option maxHeartbeats 1000000 in
theorem seeded_on (H SD : Nat) (k b x t l : Int) (s1 s2 s3 o1 o2 o3 : ByteArray) (sv bv gv : Value) (kd a bb : Int) (tx : ByteArray) (ka : Option Addr) (kn kc : Nat) (w : World) (hH : Blk w H (hallC SD k b x t l s1 s2 s3 o1 o2 o3 sv bv gv) 65) (ha : -9223372036854775808 ≤ a) (ha2 : a ≤ 9223372036854775807) :
    Calls Tryz.prog 54 #[.pointer (some ⟨H, 0, none⟩), .agg #[.int .i64 kd, .int .i64 a, .int .i64 bb, .string tx, .slice ka kn kc]] w fun e w' =>
      (e = .returned (.agg #[.string s1, .string s2, .string s3]) ∨ e = .returned (.agg #[.string o1, .string o2, .string o3])) ∧ Below w.heap.size w w' := by
  obtain ⟨W0, hW⟩ : ∃ W0, (w.alloc (.cells #[.int .i64 kd, .int .i64 a, .int .i64 bb, .string tx, .slice ka kn kc] 53)).alloc (.cells #[.string ⟨#[]⟩, .string ⟨#[]⟩, .string ⟨#[]⟩] 42) = W0 := ⟨_, rfl⟩
  have HB := hide (show Below w.heap.size w W0 by subst hW; exact ((Below.refl _ _).alloc (Nat.le_refl _) _).alloc (by simp) _)
  have hb := hH.on HB.out
  have c5 : W0.cell? ⟨H, 5, none⟩ = some (.string s1) := hb.cell 5
  have c6 : W0.cell? ⟨H, 6, none⟩ = some (.string s2) := hb.cell 6
  have c7 : W0.cell? ⟨H, 7, none⟩ = some (.string s3) := hb.cell 7
  have c8 : W0.cell? ⟨H, 8, none⟩ = some (.string o1) := hb.cell 8
  have c9 : W0.cell? ⟨H, 9, none⟩ = some (.string o2) := hb.cell 9
  have c10 : W0.cell? ⟨H, 10, none⟩ = some (.string o3) := hb.cell 10
  have hS : Blk W0 w.heap.size [.int .i64 kd, .int .i64 a, .int .i64 bb, .string tx, .slice ka kn kc] 53 := by subst hW; exact (Blk.new w _ _).alloc _
  have hR : Blk W0 (w.heap.size + 1) [.string ⟨#[]⟩, .string ⟨#[]⟩, .string ⟨#[]⟩] 42 := by subst hW; exact blk_new1 w _ _ _
  have d1 : W0.cell? ⟨w.heap.size, 1, none⟩ = some (.int .i64 a) := hS.cell 1
  have r0 : W0.cell? ⟨w.heap.size + 1, 0, none⟩ = some (.string ⟨#[]⟩) := hR.cell 0
  have r1 : W0.cell? ⟨w.heap.size + 1, 1, none⟩ = some (.string ⟨#[]⟩) := hR.cell 1
  have r2 : W0.cell? ⟨w.heap.size + 1, 2, none⟩ = some (.string ⟨#[]⟩) := hR.cell 2
  have f0 := hR.free 0
  have f1 := hR.free 1
  have f2 := hR.free 2
  have HP := hide (pickN_any a 2 W0 (by decide) (by decide) ha ha2)
  have HRL := hide hR
  have HWE := hide hW
  clear hW hS hR hb hH
  by_cases hp : pickZ a 2 = 1
  · have e1 : (pickZ a 2 == 1) = true := by simpa using hp
    clear hp
    go_enter Tryz.func54, Tryz.ntmps54
    go_wp2_with fail
    rw [HWE.out]
    refine HP.out.mono ?_
    rintro e w1 ⟨rfl, rfl⟩
    go_wp2
    have HF := hide ((((HRL.out.set 0 (.string o1)).set 1 (.string o2)).set 2 (.string o3)))
    have HK := hide (((HB.out.setCell (p := ⟨w.heap.size + 1, 0, none⟩) (by simp) (.string o1)).setCell (p := ⟨w.heap.size + 1, 1, none⟩) (by simp) (.string o2)).setCell (p := ⟨w.heap.size + 1, 2, none⟩) (by simp) (.string o3))
    have g0 := HF.out.cell 0
    have g1 := HF.out.cell 1
    have g2 := HF.out.cell 2
    simp only [List.set_cons_zero, List.set_cons_succ, List.getElem?_cons_zero, List.getElem?_cons_succ] at g0 g1 g2
    refine bodyPost_ret (v := .agg #[.string o1, .string o2, .string o3]) (by simp [results, Tryz.results54, go_sem, g0, g1, g2]) rfl ⟨.inr rfl, HK.out⟩
  · have e1 : (pickZ a 2 == 1) = false := by simpa using hp
    clear hp
    go_enter Tryz.func54, Tryz.ntmps54
    go_wp2_with fail
    rw [HWE.out]
    refine HP.out.mono ?_
    rintro e w1 ⟨rfl, rfl⟩
    go_wp2
    have HF := hide ((((HRL.out.set 0 (.string s1)).set 1 (.string s2)).set 2 (.string s3)))
    have HK := hide (((HB.out.setCell (p := ⟨w.heap.size + 1, 0, none⟩) (by simp) (.string s1)).setCell (p := ⟨w.heap.size + 1, 1, none⟩) (by simp) (.string s2)).setCell (p := ⟨w.heap.size + 1, 2, none⟩) (by simp) (.string s3))
    have g0 := HF.out.cell 0
    have g1 := HF.out.cell 1
    have g2 := HF.out.cell 2
    simp only [List.set_cons_zero, List.set_cons_succ, List.getElem?_cons_zero, List.getElem?_cons_succ] at g0 g1 g2
    refine bodyPost_ret (v := .agg #[.string s1, .string s2, .string s3]) (by simp [results, Tryz.results54, go_sem, g0, g1, g2]) rfl ⟨.inl rfl, HK.out⟩

set_option maxRecDepth 20000 in
set_option maxHeartbeats 1000000 in
theorem entered_on (k b x t l : Int) (s1 s2 s3 o1 o2 o3 : ByteArray) (n : Nat) (w : World) (h1 : 1 ≤ n) (h2 : n ≤ 8) :
    Calls Tryz.prog 18 #[.agg #[.int .i64 k, .int .i64 b, .int .i64 x, .int .i64 t, .int .i64 l], .agg #[.string s1, .string s2, .string s3], .agg #[.string o1, .string o2, .string o3], .int .i64 n] w fun e w' =>
      ∃ H SD D F, e = .returned (.pointer (some ⟨H, 0, none⟩)) ∧ Blk w' H (hallC SD k b x t l s1 s2 s3 o1 o2 o3 (.slice none 0 0) (.slice none 0 0) (.slice none 0 0)) 65 ∧ Blk w' SD [.pointer (some ⟨D, 0, none⟩)] 135 ∧ DSk w.heap.size D (newD n) w' F ∧ ¬ F H ∧ ¬ F SD ∧ H ≠ SD ∧ w.heap.size ≤ H ∧ w.heap.size ≤ SD ∧ Below w.heap.size w w' := by
  obtain ⟨W0, hW⟩ : ∃ W0, ((w.alloc (.cells #[.int .i64 k, .int .i64 b, .int .i64 x, .int .i64 t, .int .i64 l] 26)).alloc (.cells #[.string s1, .string s2, .string s3] 42)).alloc (.cells #[.string o1, .string o2, .string o3] 42) = W0 := ⟨_, rfl⟩
  have HB := hide (show Below w.heap.size w W0 by subst hW; exact (((Below.refl _ _).alloc (Nat.le_refl _) _).alloc (by simp) _).alloc (by simp <;> omega) _)
  have HC := hide (show Blk W0 w.heap.size [.int .i64 k, .int .i64 b, .int .i64 x, .int .i64 t, .int .i64 l] 26 by subst hW; exact ((Blk.new w _ _).alloc _).alloc _)
  have HE := hide (show Blk W0 (w.heap.size + 1) [.string s1, .string s2, .string s3] 42 by subst hW; exact (blk_new1 w _ _ _).alloc _)
  have HG := hide (show Blk W0 (w.heap.size + 2) [.string o1, .string o2, .string o3] 42 by subst hW; exact blk_new2 w _ _ _ _)
  have HND := hide (snew_yes n W0 w.heap.size h1 h2 HB.out.size)
  have HWE := hide hW
  clear hW h1 h2
  go_enter Tryz.func18, Tryz.ntmps18
  go_wp2_with fail
  rw [HWE.out]
  refine HND.out.mono ?_
  rintro e1 w3 ⟨SD, F0, rfl, hs3, hf3, hb3⟩
  obtain ⟨D, E, pv, hbS, hd, n1, n2, n3, hloS, rfl⟩ := hs3
  have hC3 := HC.out.on hb3
  have hE3 := HE.out.on hb3
  have hG3 := HG.out.on hb3
  have c0 : w3.cell? ⟨w.heap.size, 0, none⟩ = some (.int .i64 k) := hC3.cell 0
  have c1 : w3.cell? ⟨w.heap.size, 1, none⟩ = some (.int .i64 b) := hC3.cell 1
  have c2 : w3.cell? ⟨w.heap.size, 2, none⟩ = some (.int .i64 x) := hC3.cell 2
  have c3 : w3.cell? ⟨w.heap.size, 3, none⟩ = some (.int .i64 t) := hC3.cell 3
  have c4 : w3.cell? ⟨w.heap.size, 4, none⟩ = some (.int .i64 l) := hC3.cell 4
  have d0 : w3.cell? ⟨w.heap.size + 1, 0, none⟩ = some (.string s1) := hE3.cell 0
  have d1 : w3.cell? ⟨w.heap.size + 1, 1, none⟩ = some (.string s2) := hE3.cell 1
  have d2 : w3.cell? ⟨w.heap.size + 1, 2, none⟩ = some (.string s3) := hE3.cell 2
  have g0 : w3.cell? ⟨w.heap.size + 2, 0, none⟩ = some (.string o1) := hG3.cell 0
  have g1 : w3.cell? ⟨w.heap.size + 2, 1, none⟩ = some (.string o2) := hG3.cell 1
  have g2 : w3.cell? ⟨w.heap.size + 2, 2, none⟩ = some (.string o3) := hG3.cell 2
  have hSDl : SD < w3.heap.size := (Array.getElem?_eq_some_iff.1 hbS).1
  have HF := hide (show DSk w.heap.size D (newD n) w3 (DFoot D E pv) from ⟨E, pv, hd, rfl⟩)
  have HSD := hide (show Blk w3 SD [.pointer (some ⟨D, 0, none⟩)] 135 from hbS)
  have HN := hide (show ¬ DFoot D E pv SD by rintro (e | e | e) <;> first | exact n1 e | exact n2 e | exact n3 e)
  have HL := hide (And.intro hSDl hloS)
  have HB3 := hide (HB.out.trans (hb3.mono HB.out.size))
  clear hbS hd n1 n2 n3 hloS hf3 hb3 hC3 hE3 hG3 hSDl
  go_wp2
  go_ret
  refine ⟨w3.heap.size, SD, D, DFoot D E pv, rfl, Blk.new w3 _ _, HSD.out.alloc _, HF.out.below ((Below.refl _ _).alloc (Nat.le_refl _) _), fun hf => ?_, HN.out, ?_, HB3.out.size, HL.out.2, HB3.out.alloc HB3.out.size _⟩
  · have := (HF.out.lt _ hf).2
    omega
  · have := HL.out.1
    omega
end Go.Proofs.YtgaoeoijdpdjiabGreatDoor

namespace Go.Proofs.YtgaoeoijdpdjiabGreatDoor
open Go.RowKit

section
variable {tot : Nat} {st s2 : DSt} {id id2 : ByteArray} {sq sb : Nat}
theorem sync_yes (h : syAns st = 0) : sySt st = { st with trouble := tick st.trouble, dur := laidJ st st.pend.length, pend := [], syncs := st.syncs + 1 } := by
  unfold syAns at h
  unfold sySt
  split at h
  · exact absurd h (by decide)
  · rename_i hn
    rw [if_neg hn]
theorem read_yes (i : Nat) (hi : i < st.n) (hl : st.dur.length = st.n) (hp : st.pend = []) (h : (rdAns st i).2 = 0) : st.dur[i]? = some (rdAns st i).1 ∧ rdSt st i = { st with trouble := tick st.trouble } := by
  have h0 : 0 ≤ (i : Int) ∧ (i : Int) < st.n := by omega
  have hA : rdAns st i = if st.trouble = 1 then (⟨#[]⟩, 5) else (latestB st i, 0) := by rw [rdAns, if_neg (fun hn => hn h0), Int.toNat_natCast]
  have hS : rdSt st i = { st with trouble := tick st.trouble } := by rw [rdSt, if_neg (fun hn => hn h0)]
  rw [hA] at h ⊢
  rw [hS]
  by_cases ht : st.trouble = 1
  · rw [if_pos ht] at h
    exact absurd h (by decide)
  · rw [if_neg ht]
    refine ⟨?_, rfl⟩
    rw [latestB, hp]
    simp only [List.length_nil, back, Option.getD_none]
    rw [List.getD_eq_getElem?_getD, List.getElem?_eq_getElem (by omega)]
    rfl
/-- What the steps of a beginning read, when nothing fails. -/
theorem begin_reads (h2 : 2 ≤ st.n) (hl : st.dur.length = st.n) (h0 : syAns st = 0) (h1 : (opR0 st).2 = 0) (h3 : (opR1 st).2 = 0) :
    (opS st 3).pend = [] ∧ (opS st 3).n = st.n ∧ (opS st 3).dur[0]? = some (opR0 st).1 ∧ (opS st 3).dur[1]? = some (opR1 st).1 := by
  have e := sync_yes h0
  have hl1 : (sySt st).dur.length = (sySt st).n := by rw [e]; show (laidJ st _).length = st.n; rw [laid_len, hl]
  have hn1 : (sySt st).n = st.n := by rw [e]
  have hp1 : (sySt st).pend = [] := by rw [e]
  obtain ⟨a, b⟩ := read_yes (st := sySt st) 0 (by omega) hl1 hp1 h1
  have b' : rdSt (sySt st) 0 = { sySt st with trouble := tick (sySt st).trouble } := b
  obtain ⟨c, d⟩ := read_yes (st := rdSt (sySt st) 0) 1 (by rw [b']; show 1 < (sySt st).n; omega) (by rw [b']; exact hl1) (by rw [b']; exact hp1) h3
  have d' : opS st 3 = { rdSt (sySt st) 0 with trouble := tick (rdSt (sySt st) 0).trouble } := d
  rw [d']
  refine ⟨by rw [b']; exact hp1, by rw [b']; exact hn1, ?_, c⟩
  rw [b']
  exact a

theorem takeR_or (id : ByteArray) (tot : Int) (l r : Rec) : takeR id tot l r = r ∧ r.d = id ∧ r.b ≤ tot ∧ laterR r l = true ∨ takeR id tot l r = l ∧ ¬ (r.d = id ∧ r.b ≤ tot ∧ laterR r l = true) := by
  unfold takeR
  split
  · rename_i h
    exact .inl ⟨rfl, h⟩
  · rename_i h
    exact .inr ⟨rfl, h⟩

/-- A key that opens: its records are those of the journal; it goes on at the greatest. -/
theorem JI.opened (h : JI tot st id sq sb) (ha : opAns st id2 tot = 0) : id2 = id ∧ (opT st id2 tot).d = id ∧ ∃ q b : Nat, (opT st id2 tot).q = q ∧ (opT st id2 tot).b = b ∧ sb ≤ b ∧ JI tot (opSt st) id q b ∧ 1 ≤ q ∧ q ≤ b + 1 ∧ b ≤ tot := by
  unfold opAns at ha
  split at ha
  · rename_i hn; exact absurd ha hn
  rename_i h0
  split at ha
  · rename_i hn; exact absurd ha hn
  rename_i h1
  split at ha
  · rename_i hn; exact absurd ha hn
  rename_i h3
  split at ha
  · exact absurd ha (by decide)
  rename_i hq
  simp only [ne_eq, Decidable.not_not] at h0 h1 h3
  have hJ := h.begins 3
  obtain ⟨hp, hn, e0, e1⟩ := begin_reads h.n2 h.len h0 h1 h3
  have hst : opSt st = opS st 3 := by
    unfold opSt
    rw [if_neg (fun hn => hn h0), if_neg (fun hn => hn h1)]
  rw [hst]
  have hL : opL st 3 = foundR (foundR [] (opR0 st).1) (opR1 st).1 := rfl
  unfold opT at hq ⊢
  rw [takeJ, List.take_length] at hq ⊢
  rw [hL] at hq ⊢
  generalize (opR0 st).1 = x0 at *
  generalize (opR1 st).1 = x1 at *
  generalize opS st 3 = s at *
  have h8 := hJ.id8
  have h4 := hJ.tot4
  -- what each sector may hold
  have c0 : isRec x0 = true → ∃ q b : Nat, Jr tot id 0 x0 q b ∧ recOf x0 = ⟨q, b, id⟩ := fun hr => by
    obtain ⟨q, b, hj⟩ := hJ.recs 0 (by omega) x0 (.inl e0) hr
    exact ⟨q, b, hj, (jr_rec hj h8 h4).2⟩
  have c1 : isRec x1 = true → ∃ q b : Nat, Jr tot id 1 x1 q b ∧ recOf x1 = ⟨q, b, id⟩ := fun hr => by
    obtain ⟨q, b, hj⟩ := hJ.recs 1 (by omega) x1 (.inl e1) hr
    exact ⟨q, b, hj, (jr_rec hj h8 h4).2⟩
  -- the journal begun anew at a record that is the greatest
  have mk : ∀ (i : Nat) (x y : ByteArray) (q b : Nat), i < 2 → s.dur[i]? = some x → s.dur[1 - i]? = some y → Jr tot id i x q b → (isRec y = true → ∀ q' b' : Nat, Jr tot id (1 - i) y q' b' → q' < q) → JI tot s id q b ∧ sb ≤ b := by
    intro i x y q b hi hx hy hj hl
    have hj' := hj
    obtain ⟨_, hm, hq1, hq2, hbt⟩ := hj'
    refine ⟨⟨hJ.n2, hJ.len, h8, h4, hJ.recs, .inr ⟨hq1, ⟨x, by rw [hm]; exact hx, by rw [hm]; exact hj⟩, by rw [hp]; simp, ?_⟩⟩, ?_⟩
    · intro z q' b' hc hz
      rw [show (q + 1) % 2 = 1 - i by omega] at hc hz
      rcases hc with hc | hc
      · rw [hy] at hc
        cases hc
        exact .inr (hl (jr_rec hz h8 h4).1 q' b' hz)
      · rw [hp] at hc
        simp at hc
    · rcases hJ.base with ⟨_, hb⟩ | ⟨b1, ⟨z, b2, b2'⟩, b3, b4⟩
      · omega
      · by_cases hs : sq % 2 = i
        · rw [hs, hx] at b2
          cases b2
          have r1 := (jr_rec hj h8 h4).2
          have r2 := (jr_rec b2' h8 h4).2
          rw [r1] at r2
          have := congrArg Rec.b r2
          simp only at this
          omega
        · have hs' : sq % 2 = 1 - i := by omega
          rw [hs', hy] at b2
          cases b2
          rw [hs'] at b2'
          have lt := hl (jr_rec b2' h8 h4).1 sq sb b2'
          have := b4 x q b (by rw [show (sq + 1) % 2 = i by omega]; exact .inl hx) (by rw [show (sq + 1) % 2 = i by omega]; exact hj)
          omega
  unfold foundR at hq ⊢
  by_cases r0 : isRec x0 = true
  · obtain ⟨q0, b0, j0, e0'⟩ := c0 r0
    have ⟨_, m0, q01, q02, b0t⟩ := j0
    by_cases r1 : isRec x1 = true
    · obtain ⟨q1, b1, j1, e1'⟩ := c1 r1
      have ⟨_, m1, q11, q12, b1t⟩ := j1
      rw [if_pos r0, if_pos r1] at hq ⊢
      simp only [List.nil_append, List.singleton_append, List.foldl_cons, List.foldl_nil, e0', e1'] at hq ⊢
      by_cases hid : id2 = id
      · subst hid
        have t0 : takeR id2 tot ⟨0, 0, ⟨#[]⟩⟩ ⟨q0, b0, id2⟩ = ⟨q0, b0, id2⟩ := by
          rw [takeR, if_pos ⟨rfl, by simp only; omega, by rw [laterR, decide_eq_true_iff]; simp only; omega⟩]
        rw [t0] at hq ⊢
        by_cases hlt : q0 < q1
        · have t1 : takeR id2 tot ⟨q0, b0, id2⟩ ⟨q1, b1, id2⟩ = ⟨q1, b1, id2⟩ := by
            rw [takeR, if_pos ⟨rfl, by simp only; omega, by rw [laterR, decide_eq_true_iff]; simp only; omega⟩]
          rw [t1]
          obtain ⟨m, n⟩ := mk 1 x1 x0 q1 b1 (by omega) e1 e0 j1 (fun _ q' b' hz => by
            have := (jr_rec hz h8 h4).2
            rw [e0'] at this
            have := congrArg Rec.q this
            simp only at this
            omega)
          exact ⟨rfl, rfl, q1, b1, rfl, rfl, n, m, q11, q12, b1t⟩
        · have t1 : takeR id2 tot ⟨q0, b0, id2⟩ ⟨q1, b1, id2⟩ = ⟨q0, b0, id2⟩ := by
            rw [takeR, if_neg]
            rintro ⟨_, _, hl⟩
            rw [laterR, decide_eq_true_iff] at hl
            simp only at hl
            omega
          rw [t1]
          obtain ⟨m, n⟩ := mk 0 x0 x1 q0 b0 (by omega) e0 e1 j0 (fun _ q' b' hz => by
            have := (jr_rec hz h8 h4).2
            rw [e1'] at this
            have := congrArg Rec.q this
            simp only at this
            omega)
          exact ⟨rfl, rfl, q0, b0, rfl, rfl, n, m, q01, q02, b0t⟩
      · exfalso
        apply hq
        have hid' : ¬ id = id2 := fun e => hid e.symm
        rw [takeR, if_neg (fun h => hid' h.1), takeR, if_neg (fun h => hid' h.1)]
    · rw [if_pos r0, if_neg r1] at hq ⊢
      simp only [List.nil_append, List.foldl_cons, List.foldl_nil, e0'] at hq ⊢
      by_cases hid : id2 = id
      · subst hid
        have t0 : takeR id2 tot ⟨0, 0, ⟨#[]⟩⟩ ⟨q0, b0, id2⟩ = ⟨q0, b0, id2⟩ := by
          rw [takeR, if_pos ⟨rfl, by simp only; omega, by rw [laterR, decide_eq_true_iff]; simp only; omega⟩]
        rw [t0]
        obtain ⟨m, n⟩ := mk 0 x0 x1 q0 b0 (by omega) e0 e1 j0 (fun hr => absurd hr r1)
        exact ⟨rfl, rfl, q0, b0, rfl, rfl, n, m, q01, q02, b0t⟩
      · exfalso
        apply hq
        have hid' : ¬ id = id2 := fun e => hid e.symm
        rw [takeR, if_neg (fun h => hid' h.1)]
  · by_cases r1 : isRec x1 = true
    · obtain ⟨q1, b1, j1, e1'⟩ := c1 r1
      have ⟨_, m1, q11, q12, b1t⟩ := j1
      rw [if_neg r0, if_pos r1] at hq ⊢
      simp only [List.nil_append, List.foldl_cons, List.foldl_nil, e1'] at hq ⊢
      by_cases hid : id2 = id
      · subst hid
        have t0 : takeR id2 tot ⟨0, 0, ⟨#[]⟩⟩ ⟨q1, b1, id2⟩ = ⟨q1, b1, id2⟩ := by
          rw [takeR, if_pos ⟨rfl, by simp only; omega, by rw [laterR, decide_eq_true_iff]; simp only; omega⟩]
        rw [t0]
        obtain ⟨m, n⟩ := mk 1 x1 x0 q1 b1 (by omega) e1 e0 j1 (fun hr => absurd hr r0)
        exact ⟨rfl, rfl, q1, b1, rfl, rfl, n, m, q11, q12, b1t⟩
      · exfalso
        apply hq
        have hid' : ¬ id = id2 := fun e => hid e.symm
        rw [takeR, if_neg (fun h => hid' h.1)]
    · exfalso
      apply hq
      rw [if_neg r0, if_neg r1]
      rfl
end
end Go.Proofs.YtgaoeoijdpdjiabGreatDoor
