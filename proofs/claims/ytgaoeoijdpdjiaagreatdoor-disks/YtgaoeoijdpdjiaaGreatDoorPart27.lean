/-
  The document's disk: Write and Sync.
-/
import Derived.Test.YtgaoeoijdpdjiaaGreatDoorPart26
namespace Go.Proofs.YtgaoeoijdpdjiaaGreatDoor
open Go.RowKit
theorem infoWr : (Tryz.prog.info? 261).map (fun i => (i.zero, i.size, i.bytes)) = some (some (.agg #[.int .i64 0, .string ⟨#[]⟩, .int .i64 0]), 3, 32) := by kernel_rfl
theorem info_partsQ {o : Option TypeInfo} {z : Option Value} {s b : Nat} (h : o.map (fun i => (i.zero, i.size, i.bytes)) = some (z, s, b)) : ∃ i, o = some i ∧ i.zero = z ∧ i.size = s ∧ i.bytes = b := by
  cases o with
  | none => simp at h
  | some i => simp at h; exact ⟨i, rfl, h.1, h.2.1, h.2.2⟩
/-- One cell of a row is written. -/
theorem owns_set {w : World} {lo : Nat} {e : TypeId} {sz g n cap : Nat} {xs : List Value} (h : w.ownsRow lo e sz (.slice (some ⟨g, 0, none⟩) n cap) n xs) (i : Nat) (u : Value) : (w.setCell ⟨g, i, none⟩ u).ownsRow lo e sz (.slice (some ⟨g, 0, none⟩) n cap) n (xs.set i u) := by
  refine ⟨by rw [List.length_set]; exact h.1, .inr ?_⟩
  rcases h.2 with ⟨e1, _⟩ | ⟨g', cap', cur, e1, h1, h2, h3, h4, h5, h6⟩
  · simp at e1
  · simp only [Value.slice.injEq, Option.some.injEq, Addr.mk.injEq, and_true, true_and] at e1
    obtain ⟨rfl, rfl⟩ := e1
    have hb : Blk w g cur.toList e := by unfold Blk; rw [h2]
    have hs := hb.set i u
    exact ⟨g, cap, (cur.toList.set i u).toArray, rfl, h1, hs, h3, h4, by simp [h5], by simp [List.take_set, h6]⟩
theorem owns_free {w : World} {lo : Nat} {e : TypeId} {sz g n cap : Nat} {xs : List Value} (h : w.ownsRow lo e sz (.slice (some ⟨g, 0, none⟩) n cap) n xs) (i : Nat) : w.frozen? ⟨g, i, none⟩ = false := by
  rcases h.2 with ⟨e1, _⟩ | ⟨g', cap', cur, e1, _, h2, _⟩
  · simp at e1
  · simp only [Value.slice.injEq, Option.some.injEq, Addr.mk.injEq, and_true, true_and] at e1
    obtain ⟨rfl, rfl⟩ := e1
    simp [World.frozen?, h2]
theorem logC_set {z : Nat} : ∀ {L : List LogW} {j : Nat} {p : LogW}, L[j]? = some p → (logC L).set (j * 3 + 2) (.int .i64 (z : Int)) = logC (L.set j (p.1, p.2.1, z))
  | [], j, p, h => by simp at h
  | q :: L, 0, p, h => by
    simp at h
    subst h
    rfl
  | q :: L, j + 1, p, h => by
    have h' : L[j]? = some p := by simpa using h
    have ih := logC_set (z := z) h'
    have e1 : (j + 1) * 3 + 2 = j * 3 + 2 + 1 + 1 + 1 := by omega
    rw [e1]
    show [Value.int .i64 (q.1 : Int), .string q.2.1, .int .i64 (q.2.2 : Int)] ++ (logC L).set (j * 3 + 2) _ = [Value.int .i64 (q.1 : Int), .string q.2.1, .int .i64 (q.2.2 : Int)] ++ logC (L.set j _)
    rw [ih]
/-- What becomes of a pending write, the c-th of them. -/
def stC (κ : Nat → Bool) (c : Nat) (p : LogW) : LogW := if p.2.2 = 0 then (p.1, p.2.1, if κ c then 1 else 2) else p
def crL (κ : Nat → Bool) : Nat → List LogW → List LogW
  | _, [] => []
  | c, p :: L => stC κ c p :: crL κ (if p.2.2 = 0 then c + 1 else c) L
def crJ (κ : Nat → Bool) (L : List LogW) (j : Nat) : List LogW := crL κ 0 (L.take j) ++ L.drop j
theorem crL_length (κ : Nat → Bool) : ∀ (c : Nat) (L : List LogW), (crL κ c L).length = L.length
  | _, [] => rfl
  | c, p :: L => by rw [crL, List.length_cons, List.length_cons, crL_length κ _ L]
theorem crL_snoc (κ : Nat → Bool) (p : LogW) : ∀ (c : Nat) (L : List LogW), crL κ c (L ++ [p]) = crL κ c L ++ [stC κ (c + pendN L) p]
  | c, [] => by simp [crL, pendN]
  | c, q :: L => by
    rw [List.cons_append, crL, crL_snoc κ p _ L, crL, List.cons_append]
    congr 4
    unfold pendN
    by_cases hq : q.2.2 = 0
    · rw [if_pos hq, List.filter_cons_of_pos (by simpa using hq), List.length_cons]; omega
    · rw [if_neg hq, List.filter_cons_of_neg (by simpa using hq)]
theorem crJ_length (κ : Nat → Bool) (L : List LogW) (j : Nat) : (crJ κ L j).length = L.length := by
  unfold crJ
  rw [List.length_append, crL_length, ← List.length_append, List.take_append_drop]
theorem crJ_zero (κ : Nat → Bool) (L : List LogW) : crJ κ L 0 = L := by simp [crJ, crL]
theorem crJ_all (κ : Nat → Bool) (L : List LogW) : crJ κ L L.length = crL κ 0 L := by simp [crJ]
theorem crJ_parts {κ : Nat → Bool} {L : List LogW} {j : Nat} {p : LogW} (h : L[j]? = some p) : crJ κ L j = crL κ 0 (L.take j) ++ p :: L.drop (j + 1) ∧ crJ κ L (j + 1) = crL κ 0 (L.take j) ++ stC κ (pendN (L.take j)) p :: L.drop (j + 1) ∧ (crL κ 0 (L.take j)).length = j := by
  obtain ⟨hj, rfl⟩ := List.getElem?_eq_some_iff.1 h
  refine ⟨?_, ?_, ?_⟩
  · rw [crJ, List.drop_eq_getElem_cons hj]
  · rw [crJ, List.take_succ_eq_append_getElem hj, crL_snoc, List.append_assoc, Nat.zero_add]; rfl
  · rw [crL_length, List.length_take]; omega
theorem crJ_get {κ : Nat → Bool} {L : List LogW} {j : Nat} {p : LogW} (h : L[j]? = some p) : (crJ κ L j)[j]? = some p := by
  obtain ⟨a, _, c⟩ := crJ_parts (κ := κ) h
  rw [a, List.getElem?_append_right (by omega), c, Nat.sub_self]
  rfl
theorem crJ_succ {κ : Nat → Bool} {L : List LogW} {j : Nat} {p : LogW} (h : L[j]? = some p) : crJ κ L (j + 1) = (crJ κ L j).set j (stC κ (pendN (L.take j)) p) := by
  obtain ⟨a, b, c⟩ := crJ_parts (κ := κ) h
  rw [a, b, List.set_append_right _ _ (by omega), c, Nat.sub_self]
  rfl
theorem crJ_same {κ : Nat → Bool} {L : List LogW} {j : Nat} {p : LogW} (h : L[j]? = some p) (hp : p.2.2 ≠ 0) : crJ κ L (j + 1) = crJ κ L j := by
  obtain ⟨a, b, c⟩ := crJ_parts (κ := κ) h
  rw [a, b]
  unfold stC
  rw [if_neg hp]
theorem rwrite_sec (R : Nat) (i n : Int) (t : ByteArray) (lv : Value) (due sy en : Int) (w : World) (hB : Blk w R (rdC n lv due sy en) 259) (h : i < 0 ∨ n ≤ i) : Calls Tryz.prog 123 #[.pointer (some ⟨R, 0, none⟩), .int .i64 i, .string t] w fun e w' => e = .returned (.int .i64 4) ∧ w' = w := by
  have c0 : w.cell? ⟨R, 0, none⟩ = some (.int .i64 n) := hB.cell 0
  clear hB
  by_cases h0 : i < 0
  · go_enter Tryz.func123, Tryz.ntmps123
    go_wp2
    go_ret
    exact ⟨rfl, rfl⟩
  · have h1 : n ≤ i := by omega
    have e1 : decide (n ≤ i) = true := decide_eq_true h1
    go_enter Tryz.func123, Tryz.ntmps123
    go_wp2
    go_ret
    exact ⟨rfl, rfl⟩
theorem rwrite_len (R : Nat) (i n : Int) (t : ByteArray) (lv : Value) (due sy en : Int) (w : World) (hB : Blk w R (rdC n lv due sy en) 259) (h0 : 0 ≤ i) (h1 : i < n) (ht : t.size ≠ 32) (_hm : t.size ≤ maxLen) : Calls Tryz.prog 123 #[.pointer (some ⟨R, 0, none⟩), .int .i64 i, .string t] w fun e w' => e = .returned (.int .i64 2) ∧ w' = w := by
  have c0 : w.cell? ⟨R, 0, none⟩ = some (.int .i64 n) := hB.cell 0
  have i0 : ¬ i < 0 := by omega
  have i1 : ¬ n ≤ i := by omega
  have e1 : ((t.size : Int) != 32) = true := by
    have : (t.size : Int) ≠ 32 := by omega
    simpa using this
  clear hB h0 h1
  go_enter Tryz.func123, Tryz.ntmps123
  go_wp2
  go_ret
  exact ⟨rfl, rfl⟩
theorem rwrite_fail (lo R : Nat) (i n : Int) (t : ByteArray) (la : Option Addr) (lc : Nat) (due sy en : Int) (L : List LogW) (w : World) (hB : Blk w R (rdC n (.slice la L.length lc) due sy en) 259) (hr : w.ownsRow lo 261 3 (.slice la L.length lc) L.length (logC L)) (hL : L.length ≤ 2199023255552) (h0 : 0 ≤ i) (h1 : i < n) (ht : t.size = 32) (hd0 : 0 ≤ due) (hd2 : due ≤ 9223372036854775807) (hf : due = 1 ∨ 16 ≤ pendN L) :
    Calls Tryz.prog 123 #[.pointer (some ⟨R, 0, none⟩), .int .i64 i, .string t] w fun e w' => e = .returned (.int .i64 5) ∧ Blk w' R (rdC n (.slice la L.length lc) (tickR due) sy en) 259 ∧ Kept (fun q => q = R) w w' := by
  have HF := hide (rfails_any R n (.slice la L.length lc) due sy en w hB hd0 hd2)
  have hne := owns_neQ hr hB (by decide)
  have c0 : w.cell? ⟨R, 0, none⟩ = some (.int .i64 n) := hB.cell 0
  have HRK := hide (fun (V : World) (hb : Blk V R (rdC n (.slice la L.length lc) (tickR due) sy en) 259) (hk : Kept (fun q => q = R) w V) => rwait_any lo R n la lc (tickR due) sy en L V hb (owns_kept hr hk (fun q e e2 => hne (by rw [e, e2]))) hL)
  have hpl : pendN L ≤ 2199023255552 := Nat.le_trans (pendN_le L) hL
  have i0 : ¬ i < 0 := by omega
  have i1 : ¬ n ≤ i := by omega
  have e1 : ((t.size : Int) != 32) = false := by simp [ht]
  obtain ⟨pn, hpn⟩ : ∃ pn, pendN L = pn := ⟨_, rfl⟩
  rw [hpn] at HRK hf hpl
  generalize L.length = m at hB HF HRK ⊢
  clear hB hr hL hne h0 h1 hd0 hd2 ht hpn
  by_cases hd : due = 1
  · have hde : (due == 1) = true := by simpa using hd
    clear hf
    go_enter Tryz.func123, Tryz.ntmps123
    go_wp2_with fail
    refine HF.out.mono ?_
    rintro e w1 ⟨rfl, hb, hk⟩
    have HQ := hide (And.intro hb hk)
    have HW := hide (HRK.out _ hb hk)
    clear hb hk c0
    go_wp2_with fail
    refine HW.out.mono ?_
    rintro e w2 ⟨rfl, hw2⟩
    subst w2
    go_wp2
    go_ret
    exact ⟨rfl, HQ.out.1, HQ.out.2⟩
  · have hde : (due == 1) = false := by simpa using hd
    have hp : (16 : Int) ≤ (pn : Int) := by omega
    clear hf
    go_enter Tryz.func123, Tryz.ntmps123
    go_wp2_with fail
    refine HF.out.mono ?_
    rintro e w1 ⟨rfl, hb, hk⟩
    have HQ := hide (And.intro hb hk)
    have HW := hide (HRK.out _ hb hk)
    clear hb hk c0
    go_wp2_with fail
    refine HW.out.mono ?_
    rintro e w2 ⟨rfl, hw2⟩
    subst w2
    go_wp2
    go_ret
    exact ⟨rfl, HQ.out.1, HQ.out.2⟩
set_option maxRecDepth 20000 in
set_option maxHeartbeats 2000000 in
theorem rwrite_yes (lo R : Nat) (i n : Nat) (t : ByteArray) (la : Option Addr) (lc : Nat) (due sy en : Int) (L : List LogW) (w : World) (hB : Blk w R (rdC n (.slice la L.length lc) due sy en) 259) (hr : w.ownsRow lo 261 3 (.slice la L.length lc) L.length (logC L)) (hL : L.length ≤ 2199023255552) (hlo : lo ≤ w.heap.size) (h1 : i < n) (ht : t.size = 32) (hd0 : 0 ≤ due) (hd2 : due ≤ 9223372036854775807) (hd : due ≠ 1) (hf : pendN L < 16) :
    Calls Tryz.prog 123 #[.pointer (some ⟨R, 0, none⟩), .int .i64 i, .string t] w fun e w' => e = .returned (.int .i64 0) ∧ ∃ g c, Blk w' R (rdC n (.slice (some ⟨g, 0, none⟩) (L.length + 1) c) (tickR due) sy en) 259 ∧ w'.ownsRow lo 261 3 (.slice (some ⟨g, 0, none⟩) (L.length + 1) c) (L.length + 1) (logC (L ++ [(i, t, 0)])) ∧ Kept (fun q => q = R ∨ (Value.slice la L.length lc).ownBlock = some q) w w' ∧ ((Value.slice la L.length lc).ownBlock = some g ∨ w.heap.size ≤ g) := by
  obtain ⟨i0, hi0, hz0, hz1, hz2⟩ := info_partsQ infoWr
  have HF := hide (rfails_any R n (.slice la L.length lc) due sy en w hB hd0 hd2)
  have hne := owns_neQ hr hB (by decide)
  have HNE := hide hne
  have c0 : w.cell? ⟨R, 0, none⟩ = some (.int .i64 (n : Int)) := hB.cell 0
  have HRO := hide (fun (V : World) (hk : Kept (fun q => q = R) w V) => owns_kept hr hk (fun q e e2 => hne (by rw [e, e2])))
  have HRK := hide (fun (V : World) (hb : Blk V R (rdC n (.slice la L.length lc) (tickR due) sy en) 259) (hk : Kept (fun q => q = R) w V) => rwait_any lo R n la lc (tickR due) sy en L V hb (HRO.out V hk) hL)
  have i0' : ¬ (i : Int) < 0 := by omega
  have i1' : ¬ (n : Int) ≤ (i : Int) := by omega
  have e1 : ((t.size : Int) != 32) = false := by simp [ht]
  have hde : (due == 1) = false := by simpa using hd
  obtain ⟨pn, hpn⟩ : ∃ pn, pendN L = pn := ⟨_, rfl⟩
  rw [hpn] at HRK hf
  have hp : ¬ (16 : Int) ≤ (pn : Int) := by omega
  have N1 : Hid (L.length + 1 ≤ maxLen) := by show _ ≤ _; unfold maxLen; omega
  have N2 : Hid ((L.length + 1) * 32 ≤ 140737488355328) := by show _ ≤ _; omega
  have HLO := hide hlo
  have HSN := hide (logC_snoc L (i, t, 0))
  generalize L.length = m at hB HF HRK HRO HNE N1 N2 ⊢
  clear hB hr hL hne h1 hd0 hd2 ht hpn hd hf hlo
  go_enter Tryz.func123, Tryz.ntmps123
  go_wp2_with fail
  refine HF.out.mono ?_
  rintro e w1 ⟨rfl, hb, hk⟩
  have HQB := hide hb
  have HQK := hide hk
  have HW := hide (HRK.out _ hb hk)
  have HR1 := hide (HRO.out _ hk)
  clear hb hk c0
  go_wp2_with fail
  refine HW.out.mono ?_
  rintro e w2 ⟨rfl, hw2⟩
  subst w2
  have hHl := HQB.out.lt
  have c1 : w1.cell? ⟨R, 1, none⟩ = some (.slice la m lc) := HQB.out.cell 1
  have c1' : ∀ o, (w1.alloc o).cell? ⟨R, 1, none⟩ = some (.slice la m lc) := fun o => (World.cell?_alloc_lt _ _ _ hHl).trans c1
  clear hHl
  go_wp2_with (at_builtin; refine wpList_append_lies _ rfl _ _ 257 rfl lo 261 i0 (.agg #[.int .i64 0, .string ⟨#[]⟩, .int .i64 0]) 3 32 Tryz.underlying257 hi0 hz0 hz1 hz2 rfl (by decide) (.slice la m lc) m (logC L) rfl (HR1.out.alloc _) ⟨w1.heap.size, 0, none⟩ 1 1 [.int .i64 (i : Int), .string t, .int .i64 0] rfl rfl (World.news_of_block (heap_alloc_new w1 _)) (fun u hu => by simp at hu; rcases hu with rfl | rfl | rfl <;> rfl) (by decide) N1.out N2.out (by rw [World.size_alloc]; exact Nat.le_succ_of_le (Nat.le_trans HLO.out HQK.out.size)) (w1.heap.size + 1) (World.size_alloc _ _) ?_)
  intro g c2 w5 hown hgrow hat hlt5
  have nR : (Value.slice la m lc).ownBlock ≠ some R := HNE.out
  have gR : g ≠ R := by
    rcases hat with e | e
    · intro e2; subst e2; exact nR e
    · have := HQB.out.lt; omega
  have hgH := hgrow.block R (by rw [World.size_alloc]; exact Nat.lt_succ_of_lt HQB.out.lt) (fun e => nR e.symm)
  have hB5 : Blk w5 R (rdC n (.slice la m lc) (tickR due) sy en) 259 := by
    unfold Blk
    rw [hgH]
    exact (HQB.out.alloc _ : Blk (w1.alloc _) R _ _)
  have f1 : w5.frozen? ⟨R, 1, none⟩ = false := hB5.free 1
  have e5 : w5.cell? ⟨R, 1, none⟩ = some (.slice la m lc) := hB5.cell 1
  have HBF := hide (hB5.set 1 (.slice (some ⟨g, 0, none⟩) (m + 1) c2))
  have HOF := hide (owns_kept hown (kept_set w5 ⟨R, 1, none⟩ (.slice (some ⟨g, 0, none⟩) (m + 1) c2)) (fun q e hk => by
    have e' : g = q := by simpa [Value.ownBlock] using e
    exact gR (e'.trans hk)))
  have HKF := hide (show Kept (fun q => q = R ∨ (Value.slice la m lc).ownBlock = some q) w (w5.setCell ⟨R, 1, none⟩ (.slice (some ⟨g, 0, none⟩) (m + 1) c2)) from
    (Kept.grown (w := w1.alloc _) ((HQK.out.mono (fun q _ e => .inl e)).alloc _) hgrow (fun q e => .inl (.inr e))).setCell (.inl (.inl rfl)) _)
  have HAT := hide (show (Value.slice la m lc).ownBlock = some g ∨ w.heap.size ≤ g by
    rcases hat with e | e
    · exact .inl e
    · have := HQK.out.size; exact .inr (by omega))
  clear hown hgrow hat hlt5 hgH hB5 gR nR c1 c1'
  go_wp2
  go_ret
  exact ⟨rfl, g, c2, HBF.out, by rw [HSN.out]; exact HOF.out, HKF.out, HAT.out⟩
theorem rsync_fail (R : Nat) (n : Int) (lv : Value) (due sy en : Int) (w : World) (hB : Blk w R (rdC n lv due sy en) 259) (hd : due = 1) : Calls Tryz.prog 125 #[.pointer (some ⟨R, 0, none⟩)] w fun e w' => e = .returned (.int .i64 5) ∧ Blk w' R (rdC n lv (tickR due) sy en) 259 ∧ Kept (fun q => q = R) w w' := by
  have HF := hide (rfails_any R n lv due sy en w hB (by omega) (by omega))
  subst hd
  clear hB
  go_enter Tryz.func125, Tryz.ntmps125
  go_wp2_with fail
  refine HF.out.mono ?_
  rintro e w1 ⟨rfl, hb, hk⟩
  have HQ := hide (And.intro hb hk)
  clear hb hk
  go_wp2
  go_ret
  exact ⟨rfl, HQ.out.1, HQ.out.2⟩
end Go.Proofs.YtgaoeoijdpdjiaaGreatDoor
