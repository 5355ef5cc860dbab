/-
  The disk as package signet hands it out: every call, in one word: what it answers, what the disk is then, what else may have turned.
-/
import Derived.Test.YtgaoeoijdpdjiaaGreatDoorPart24
namespace Go.Proofs.YtgaoeoijdpdjiaaGreatDoor
open Go.RowKit
/-- A disk of package signet lies at block S: F are the blocks that are its own. -/
def SDisk (lo S : Nat) (st : DSt) (w : World) (F : Nat → Prop) : Prop := ∃ D E pv, w.heap[S]? = some (.cells (List.toArray [.pointer (some ⟨D, 0, none⟩)]) 256 (0, 0)) ∧ DAt lo D E pv st w ∧ S ≠ D ∧ S ≠ E ∧ pv.ownBlock ≠ some S ∧ lo ≤ S ∧ F = fun k => k = S ∨ DFoot D E pv k
theorem SDisk.lt {lo S : Nat} {st : DSt} {w : World} {F : Nat → Prop} (h : SDisk lo S st w F) : ∀ k, F k → lo ≤ k ∧ k < w.heap.size := by
  obtain ⟨D, E, pv, hb, hd, h1, h2, h3, h4, rfl⟩ := h
  rintro k (rfl | hk)
  · exact ⟨h4, (Array.getElem?_eq_some_iff.1 hb).1⟩
  · exact hd.lt k hk
theorem SDisk.kept {lo S : Nat} {st : DSt} {w w' : World} {F G : Nat → Prop} (h : SDisk lo S st w F) (hk : Kept G w w') (hn : ∀ k, F k → ¬ G k) : SDisk lo S st w' F := by
  obtain ⟨D, E, pv, hb, hd, h1, h2, h3, h4, rfl⟩ := h
  exact ⟨D, E, pv, by rw [hk.block S (Array.getElem?_eq_some_iff.1 hb).1 (hn S (.inl rfl))]; exact hb, hd.kept hk (fun k e => hn k (.inr e)), h1, h2, h3, h4, rfl⟩
theorem SDisk.below {lo S : Nat} {st : DSt} {w w' : World} {F : Nat → Prop} (h : SDisk lo S st w F) (hb : Below w.heap.size w w') : SDisk lo S st w' F := h.kept (Kept.of_below (F := fun _ => False) hb) (fun _ _ hf => hf)
theorem SDisk.ok {lo S : Nat} {st : DSt} {w : World} {F : Nat → Prop} (h : SDisk lo S st w F) : DOk st := by
  obtain ⟨D, E, pv, hb, hd, _⟩ := h
  exact hd.ok
/-- What a call leaves: the disk is st, its blocks are old ones of its own or new; all else is as it was. -/
def SLeft (lo S : Nat) (st : DSt) (F : Nat → Prop) (w w' : World) : Prop := ∃ F', SDisk lo S st w' F' ∧ Kept F w w' ∧ ∀ k, F' k → F k ∨ w.heap.size ≤ k
theorem sleft_mk {lo S D E : Nat} {pv pv' : Value} {st : DSt} {w w' : World} (hb : w.heap[S]? = some (.cells (List.toArray [.pointer (some ⟨D, 0, none⟩)]) 256 (0, 0))) (hd : DAt lo D E pv' st w') (hk : Kept (DFoot D E pv) w w') (ho : ∀ k, pv'.ownBlock = some k → pv.ownBlock = some k ∨ w.heap.size ≤ k) (h1 : S ≠ D) (h2 : S ≠ E) (h3 : pv.ownBlock ≠ some S) (h4 : lo ≤ S) :
    SLeft lo S st (fun k => k = S ∨ DFoot D E pv k) w w' := by
  have hS := (Array.getElem?_eq_some_iff.1 hb).1
  refine ⟨_, ⟨D, E, pv', ?_, hd, h1, h2, ?_, h4, rfl⟩, hk.mono (fun k _ e => .inr e), ?_⟩
  · rw [hk.block S hS (by rintro (e | e | e) <;> first | exact h1 e | exact h2 e | exact h3 e)]
    exact hb
  · intro e
    rcases ho S e with h | h
    · exact h3 h
    · omega
  · rintro k (rfl | rfl | rfl | e)
    · exact .inl (.inl rfl)
    · exact .inl (.inr (.inl rfl))
    · exact .inl (.inr (.inr (.inl rfl)))
    · rcases ho k e with h | h
      · exact .inl (.inr (.inr (.inr h)))
      · exact .inr h
theorem foot_of_D {D E : Nat} {pv : Value} {w w' : World} (h : Kept (fun k => k = D) w w') : Kept (DFoot D E pv) w w' := h.mono (fun _ _ e => .inl e)
theorem snew_yes (n : Nat) (w : World) (lo : Nat) (h1 : 1 ≤ n) (h2 : n ≤ 8) (hlo : lo ≤ w.heap.size) :
    Calls Tryz.prog 118 #[.int .i64 n] w fun e w' => ∃ S F, e = .returned (.tuple #[.pointer (some ⟨S, 0, none⟩), .int .i64 0]) ∧ SDisk lo S (newD n) w' F ∧ (∀ k, F k → w.heap.size ≤ k) ∧ Below w.heap.size w w' := by
  have HN := hideK (dnew_yes n w lo h1 h2 hlo)
  have HLO := hideK hlo
  clear h1 h2 hlo
  go_enter Tryz.func118, Tryz.ntmps118
  go_wp2_with fail
  refine HN.out.mono ?_
  rintro e w1 ⟨rfl, hd, hb⟩
  have HD := hideK hd
  have HB := hideK hb
  clear hd hb
  go_wp2
  go_ret2
  have hz := HD.out.ltD
  refine ⟨_, _, rfl, ⟨w.heap.size + 1, w.heap.size, .slice none 0 0, heap_alloc_new w1 _, HD.out.below ((Below.refl _ _).alloc (Nat.le_refl _) _), by omega, by omega, by simp [Value.ownBlock], Nat.le_trans HLO.out HB.out.size, rfl⟩, ?_, HB.out.alloc HB.out.size _⟩
  rintro k (rfl | rfl | rfl | e)
  · exact HB.out.size
  · omega
  · omega
  · simp [Value.ownBlock] at e
theorem snew_no (n : Int) (w : World) (h : n < 1 ∨ 8 < n) :
    Calls Tryz.prog 118 #[.int .i64 n] w fun e w' => e = .returned (.tuple #[.pointer none, .int .i64 2]) ∧ w' = w := by
  have HN := hideK (dnew_no n w h)
  clear h
  go_enter Tryz.func118, Tryz.ntmps118
  go_wp2_with fail
  refine HN.out.mono ?_
  rintro e w1 ⟨rfl, rfl⟩
  go_wp2
  go_ret2
  exact ⟨rfl, rfl⟩
theorem sread_any (lo S : Nat) (st : DSt) (F : Nat → Prop) (i : Int) (w : World) (h : SDisk lo S st w F) :
    Calls Tryz.prog 120 #[.pointer (some ⟨S, 0, none⟩), .int .i64 i] w fun e w' => e = .returned (.tuple #[.string (rdAns st i).1, .int .i64 (rdAns st i).2]) ∧ SLeft lo S (rdSt st i) F w w' := by
  obtain ⟨D, E, pv, hb, hd, h1, h2, h3, h4, rfl⟩ := h
  have c0 : w.cell? ⟨S, 0, none⟩ = some (.pointer (some ⟨D, 0, none⟩)) := cellOf hb rfl
  have HR := hideK (read_any lo D E pv st i w hd)
  have HFIN : Hid (∀ w', DAt lo D E pv (rdSt st i) w' ∧ Kept (fun k => k = D) w w' → SLeft lo S (rdSt st i) (fun k => k = S ∨ DFoot D E pv k) w w') := fun w' h => sleft_mk hb h.1 (foot_of_D h.2) (fun k e => .inl e) h1 h2 h3 h4
  clear hb hd h1 h2 h3 h4
  generalize rdAns st i = z at *
  obtain ⟨z1, z2⟩ := z
  go_enter Tryz.func120, Tryz.ntmps120
  go_wp2_with fail
  refine HR.out.mono ?_
  rintro e w1 ⟨rfl, hd1⟩
  have HX := hideK (HFIN.out _ hd1)
  clear hd1
  go_wp2
  go_ret2
  exact ⟨rfl, HX.out⟩
/-- What a write answers, and what it makes. -/
theorem swrite_any (lo S : Nat) (st : DSt) (F : Nat → Prop) (i : Int) (t : ByteArray) (w : World) (h : SDisk lo S st w F) (hlo : lo ≤ w.heap.size) (hw : 0 ≤ st.writes) (hw2 : st.writes < 9223372036854775807) :
    Calls Tryz.prog 122 #[.pointer (some ⟨S, 0, none⟩), .int .i64 i, .string t] w fun e w' => e = .returned (.int .i64 (wrAns st i t)) ∧ SLeft lo S (wrSt st i t) F w w' := by
  obtain ⟨D, E, pv, hb, hd, h1, h2, h3, h4, rfl⟩ := h
  have c0 : w.cell? ⟨S, 0, none⟩ = some (.pointer (some ⟨D, 0, none⟩)) := cellOf hb rfl
  have HW : Hid (Calls Tryz.prog 199 #[.pointer (some ⟨D, 0, none⟩), .int .i64 i, .string t] w fun e w' => e = .returned (.int .i64 (wrAns st i t)) ∧ SLeft lo S (wrSt st i t) (fun k => k = S ∨ DFoot D E pv k) w w') := by
    by_cases hi : 0 ≤ i ∧ i < st.n
    · by_cases ht : t.size = 32
      · by_cases hf : st.trouble = 1 ∨ st.pend.length = 16
        · rw [show wrAns st i t = 5 by rw [wrAns, if_neg (fun hn => hn hi), if_neg (fun hn => hn ht), if_pos hf], show wrSt st i t = { st with trouble := tick st.trouble } by rw [wrSt, if_neg (fun hn => hn hi), if_neg (fun hn => hn ht), if_pos hf]]
          refine (write_dsk lo D E pv st i t w hd hi ht hf).mono ?_
          rintro e w' ⟨rfl, a, b⟩
          exact ⟨rfl, sleft_mk hb a (foot_of_D b) (fun k e => .inl e) h1 h2 h3 h4⟩
        · rw [show wrAns st i t = 0 by rw [wrAns, if_neg (fun hn => hn hi), if_neg (fun hn => hn ht), if_neg hf], show wrSt st i t = { st with trouble := tick st.trouble, pend := st.pend ++ [(i.toNat, t)], writes := st.writes + 1 } by rw [wrSt, if_neg (fun hn => hn hi), if_neg (fun hn => hn ht), if_neg hf]]
          obtain ⟨k, rfl⟩ := Int.eq_ofNat_of_zero_le hi.1
          refine (write_ok lo D E pv st k t w hd hlo (by omega) ht (fun e => hf (.inl e)) (fun e => hf (.inr e)) hw hw2).mono ?_
          rintro e w' ⟨rfl, pv', a, b, c⟩
          exact ⟨rfl, sleft_mk hb (by simpa using a) b c h1 h2 h3 h4⟩
      · rw [show wrAns st i t = 2 by rw [wrAns, if_neg (fun hn => hn hi), if_pos ht], show wrSt st i t = st by rw [wrSt, if_neg (fun hn => hn hi), if_pos ht]]
        refine (write_arg lo D E pv st i t w hd hi ht).mono ?_
        rintro e w' ⟨rfl, rfl⟩
        exact ⟨rfl, sleft_mk hb hd (Kept.refl _ _) (fun k e => .inl e) h1 h2 h3 h4⟩
    · rw [show wrAns st i t = 4 by rw [wrAns, if_pos hi], show wrSt st i t = st by rw [wrSt, if_pos hi]]
      refine (write_sec lo D E pv st i t w hd hi).mono ?_
      rintro e w' ⟨rfl, rfl⟩
      exact ⟨rfl, sleft_mk hb hd (Kept.refl _ _) (fun k e => .inl e) h1 h2 h3 h4⟩
  clear hb hd h1 h2 h3 h4 hlo
  generalize wrAns st i t = z at *
  go_enter Tryz.func122, Tryz.ntmps122
  go_wp2_with fail
  refine HW.out.mono ?_
  rintro e w1 ⟨rfl, hd1⟩
  have HX := hideK hd1
  clear hd1
  go_wp2
  go_ret
  exact ⟨rfl, HX.out⟩
def syAns (st : DSt) : Int := if st.trouble = 1 then 5 else 0
def sySt (st : DSt) : DSt := if st.trouble = 1 then { st with trouble := tick st.trouble } else { st with trouble := tick st.trouble, dur := laidJ st st.pend.length, pend := [], syncs := st.syncs + 1 }
theorem ssync_any (lo S : Nat) (st : DSt) (F : Nat → Prop) (w : World) (h : SDisk lo S st w F) (hw : 0 ≤ st.syncs) (hw2 : st.syncs < 9223372036854775807) :
    Calls Tryz.prog 124 #[.pointer (some ⟨S, 0, none⟩)] w fun e w' => e = .returned (.int .i64 (syAns st)) ∧ SLeft lo S (sySt st) F w w' := by
  obtain ⟨D, E, pv, hb, hd, h1, h2, h3, h4, rfl⟩ := h
  have c0 : w.cell? ⟨S, 0, none⟩ = some (.pointer (some ⟨D, 0, none⟩)) := cellOf hb rfl
  have HW : Hid (Calls Tryz.prog 201 #[.pointer (some ⟨D, 0, none⟩)] w fun e w' => e = .returned (.int .i64 (syAns st)) ∧ SLeft lo S (sySt st) (fun k => k = S ∨ DFoot D E pv k) w w') := by
    by_cases ht : st.trouble = 1
    · rw [show syAns st = 5 by rw [syAns, if_pos ht], show sySt st = { st with trouble := tick st.trouble } by rw [sySt, if_pos ht]]
      refine (sync_no lo D E pv st w hd ht).mono ?_
      rintro e w' ⟨rfl, a, b⟩
      exact ⟨rfl, sleft_mk hb a (foot_of_D b) (fun k e => .inl e) h1 h2 h3 h4⟩
    · rw [show syAns st = 0 by rw [syAns, if_neg ht], show sySt st = { st with trouble := tick st.trouble, dur := laidJ st st.pend.length, pend := [], syncs := st.syncs + 1 } by rw [sySt, if_neg ht]]
      refine (sync_ok lo D E pv st w hd ht hw hw2).mono ?_
      rintro e w' ⟨rfl, a, b⟩
      exact ⟨rfl, sleft_mk hb a b (fun k e => by simp [Value.ownBlock] at e) h1 h2 h3 h4⟩
  clear hb hd h1 h2 h3 h4
  generalize syAns st = z at *
  go_enter Tryz.func124, Tryz.ntmps124
  go_wp2_with fail
  refine HW.out.mono ?_
  rintro e w1 ⟨rfl, hd1⟩
  have HX := hideK hd1
  clear hd1
  go_wp2
  go_ret
  exact ⟨rfl, HX.out⟩
theorem strouble_any (lo S : Nat) (st : DSt) (F : Nat → Prop) (k : Int) (w : World) (h : SDisk lo S st w F) (hk : k ≤ 9223372036854775807) :
    Calls Tryz.prog 126 #[.pointer (some ⟨S, 0, none⟩), .int .i64 k] w fun e w' => e = .returned (.int .i64 (if k < 0 then 2 else 0)) ∧ SLeft lo S (if k < 0 then st else { st with trouble := k }) F w w' := by
  obtain ⟨D, E, pv, hb, hd, h1, h2, h3, h4, rfl⟩ := h
  have c0 : w.cell? ⟨S, 0, none⟩ = some (.pointer (some ⟨D, 0, none⟩)) := cellOf hb rfl
  have HW := hideK (trouble_any lo D E pv st k w hd hk)
  generalize (if k < 0 then st else { st with trouble := k }) = st' at *
  have HFIN : Hid (∀ w', DAt lo D E pv st' w' ∧ Kept (fun k => k = D) w w' → SLeft lo S st' (fun k => k = S ∨ DFoot D E pv k) w w') := fun w' h => sleft_mk hb h.1 (foot_of_D h.2) (fun k e => .inl e) h1 h2 h3 h4
  clear hb hd h1 h2 h3 h4 hk
  generalize (if k < 0 then (2 : Int) else 0) = z at *
  go_enter Tryz.func126, Tryz.ntmps126
  go_wp2_with fail
  refine HW.out.mono ?_
  rintro e w1 ⟨rfl, hd1⟩
  have HX := hideK (HFIN.out _ hd1)
  clear hd1
  go_wp2
  go_ret
  exact ⟨rfl, HX.out⟩
def crSt (st : DSt) (K : List Bool) : DSt := { st with trouble := 0, dur := keptJ st K st.pend.length, pend := [], term := st.term + 1 }
theorem scrash_any (lo S : Nat) (st : DSt) (F : Nat → Prop) (kv : Value) (K : List Bool) (w : World) (h : SDisk lo S st w F) (hK : BoolsAt w kv K) (hKL : K.length ≤ maxLen) (hKF : ∀ b o l c, kv = .slice (some ⟨b, o, none⟩) l c → 0 < l → b < w.heap.size ∧ ¬ F b) (hw : 0 ≤ st.term) (hw2 : st.term < 9223372036854775807) :
    Calls Tryz.prog 129 #[.pointer (some ⟨S, 0, none⟩), kv] w fun e w' => e = .returned (.tuple #[]) ∧ SLeft lo S (crSt st K) F w w' := by
  obtain ⟨D, E, pv, hb, hd, h1, h2, h3, h4, rfl⟩ := h
  have c0 : w.cell? ⟨S, 0, none⟩ = some (.pointer (some ⟨D, 0, none⟩)) := cellOf hb rfl
  have HW := hideK (crash_any lo D E pv st kv K w hd hK hKL (fun b o l c e h0 => ⟨(hKF b o l c e h0).1, fun hf => (hKF b o l c e h0).2 (.inr hf)⟩) hw hw2)
  have HFIN : Hid (∀ w', DAt lo D E (.slice none 0 0) (crSt st K) w' ∧ Kept (DFoot D E pv) w w' → SLeft lo S (crSt st K) (fun k => k = S ∨ DFoot D E pv k) w w') := fun w' h => sleft_mk hb h.1 h.2 (fun k e => by simp [Value.ownBlock] at e) h1 h2 h3 h4
  obtain ⟨ka, kc, hkv⟩ := hK.len
  subst hkv
  clear hb hd h1 h2 h3 h4 hK hKF
  unfold maxLen at hKL
  go_enter Tryz.func129, Tryz.ntmps129
  go_wp2_with fail
  refine HW.out.mono ?_
  rintro e w1 ⟨rfl, hd1⟩
  have HX := hideK (HFIN.out _ hd1)
  clear hd1
  go_wp2
  go_end0
  exact ⟨rfl, HX.out⟩
theorem scount_any (lo S : Nat) (st : DSt) (F : Nat → Prop) (w : World) (h : SDisk lo S st w F) :
    Calls Tryz.prog 132 #[.pointer (some ⟨S, 0, none⟩)] w fun e w' => e = .returned (.agg #[.int .i64 st.writes, .int .i64 st.syncs, .int .i64 st.pend.length]) ∧ Below w.heap.size w w' := by
  obtain ⟨D, E, pv, hb, hd, h1, h2, h3, h4, rfl⟩ := h
  have c0 : w.cell? ⟨S, 0, none⟩ = some (.pointer (some ⟨D, 0, none⟩)) := cellOf hb rfl
  have hS : S < w.heap.size := (Array.getElem?_eq_some_iff.1 hb).1
  have HW := hideK (fun (V : World) (hV : Below w.heap.size w V) => dcount_any lo D E pv st V (hd.below hV))
  clear hb hd h1 h2 h3 h4
  generalize st.writes = a at *
  generalize st.syncs = b at *
  generalize st.pend.length = c at *
  go_enter Tryz.func132, Tryz.ntmps132
  go_wp2_with fail
  refine (HW.out _ ((Below.refl _ _).alloc (Nat.le_refl _) _)).mono ?_
  rintro e w1 ⟨rfl, hb1⟩
  have B1 := hideK (((Below.refl w.heap.size w).alloc (Nat.le_refl _) _).trans (hb1.mono (by simp)))
  have e0 : w1.cell? ⟨w.heap.size, 0, none⟩ = some (.int .i64 0) := (hb1.cell (p := ⟨w.heap.size, 0, none⟩) (by simp)).trans (by simp [go_sem])
  have e1 : w1.cell? ⟨w.heap.size, 1, none⟩ = some (.int .i64 0) := (hb1.cell (p := ⟨w.heap.size, 1, none⟩) (by simp)).trans (by simp [go_sem])
  have e2 : w1.cell? ⟨w.heap.size, 2, none⟩ = some (.int .i64 0) := (hb1.cell (p := ⟨w.heap.size, 2, none⟩) (by simp)).trans (by simp [go_sem])
  have ef : ∀ i, w1.frozen? ⟨w.heap.size, i, none⟩ = false := fun i => (hb1.frozen (p := ⟨w.heap.size, i, none⟩) (by simp)).trans (by simp [go_sem])
  clear hb1 hS
  go_wp2
  refine bodyPost_ret (v := .agg #[.int .i64 a, .int .i64 b, .int .i64 c]) (by simp [results, Tryz.results132, go_sem, e0, e1, e2]) rfl ⟨rfl, ?_⟩
  iterate 3 refine Below.setCell ?_ (by simp) _
  exact B1.out
end Go.Proofs.YtgaoeoijdpdjiaaGreatDoor
