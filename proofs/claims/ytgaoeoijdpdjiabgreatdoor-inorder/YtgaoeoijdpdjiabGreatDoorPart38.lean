/-
  Reserve and Sign of a signer.
-/
import Derived.Test.YtgaoeoijdpdjiabGreatDoorPart37
namespace Go.Proofs.YtgaoeoijdpdjiabGreatDoor
open Go.RowKit

/-- What a signer's call leaves: the signer, the disk; all else is as it was. -/
def SGL (lo S D : Nat) (st : DSt) (vs : List Value) (F : Nat → Prop) (w w' : World) : Prop := Blk w' S vs 188 ∧ ∃ F', DSk lo D st w' F' ∧ Kept (fun k => k = S ∨ F k) w w' ∧ ∀ k, F' k → F k ∨ w.heap.size ≤ k
section
variable {lo S D : Nat} {st : DSt} {vs : List Value} {F : Nat → Prop} {w w' w2 : World}
theorem SGL.then (h : SGL lo S D st vs F w w') (hb : Below w'.heap.size w' w2) : SGL lo S D st vs F w w2 := by
  obtain ⟨h1, F', h2, h3, h4⟩ := h
  exact ⟨h1.on hb, F', h2.below hb, h3.after hb, h4⟩
theorem SGL.of_below (hb : Below w.heap.size w w') (h : SGL lo S D st vs F w' w2) : SGL lo S D st vs F w w2 := by
  obtain ⟨h1, F', h2, h3, h4⟩ := h
  refine ⟨h1, F', h2, (Kept.of_below (F := fun k => k = S ∨ F k) hb).trans h3 (fun i hi => .inl hi), fun i hi => ?_⟩
  rcases h4 i hi with h | h
  · exact .inl h
  · exact .inr (Nat.le_trans hb.size h)
theorem SGL.refl (hB : Blk w S vs 188) (hD : DSk lo D st w F) : SGL lo S D st vs F w w := ⟨hB, F, hD, Kept.refl _ _, fun _ hk => .inl hk⟩
theorem SGL.low (h : SGL lo S D st vs F w w') (hS : lo ≤ S) (hF : ∀ k, F k → lo ≤ k) (hlo : lo ≤ w.heap.size) : Below lo w w' := by
  obtain ⟨h1, F', h2, h3, h4⟩ := h
  refine h3.below (fun k hk => ?_) hlo
  rcases hk with rfl | hk
  · exact hS
  · exact hF k hk
/-- One cell of the signer is laid anew. -/
theorem SGL.set (h : SGL lo S D st vs F w w') (hSl : S < w.heap.size) (hSF : ¬ F S) (i : Nat) (v : Value) : SGL lo S D st (vs.set i v) F w (w'.setCell ⟨S, i, none⟩ v) := by
  obtain ⟨h1, F', h2, h3, h4⟩ := h
  refine ⟨h1.set i v, F', h2.kept (kept_set w' ⟨S, i, none⟩ v) (fun k hk e => ?_), h3.setCell (.inl (.inl rfl)) v, h4⟩
  have e' : k = S := e
  subst e'
  rcases h4 k hk with h | h
  · exact hSF h
  · omega
end

set_option maxRecDepth 20000 in
set_option maxHeartbeats 4000000 in
theorem sreserve_spent (lo S D : Nat) (st : DSt) (F : Nat → Prop) (tm k b x t l : Int) (root pub sec rnd : ByteArray) (tot bat nx q bd : Int) (id : ByteArray) (m : Int) (w : World) (hB : Blk w S (sgC D tm k b x t l root pub sec rnd tot bat nx q bd id false) 188) (hD : DSk lo D st w F) (_hSF : ¬ F S) (htm : st.term = tm) (h1 : 1 ≤ m) (h2 : m ≤ 64) (hsp : bd = tot) :
    Calls Tryz.prog 72 #[.pointer (some ⟨S, 0, none⟩), .int .i64 m] w fun e w' => e = .returned (.tuple #[.int .i64 0, .int .i64 10]) ∧ Below w.heap.size w w' := by
  have hSl := hB.lt
  have HOV := hide (isOver_no S D tm w hSl hD.ltD (hB.cell 0) (hB.cell 1) (hB.cell 18) (by rw [← htm]; exact hD.term))
  have HBA := hide (fun V : World => batch_yes m V h1 h2)
  have e1 : (bd == tot) = true := by simpa using hsp
  have HS := hide (fun (V : World) (h : Below w.heap.size w V) => (by
    have q1 := hB.on h
    exact ⟨q1.cell 12, q1.cell 15, q1.cell 16⟩ : V.cell? ⟨S, 12, none⟩ = some (.int .i64 tot) ∧ V.cell? ⟨S, 15, none⟩ = some (.int .i64 q) ∧ V.cell? ⟨S, 16, none⟩ = some (.int .i64 bd)))
  clear hB hD _hSF htm h1 h2 hsp
  go_enter Tryz.func72, Tryz.ntmps72
  go_wp2_with fail
  refine HOV.out.mono ?_
  rintro e w1 ⟨rfl, hb1⟩
  have HB1 := hide hb1
  clear hb1
  go_wp2_with fail
  refine (HBA.out _).mono ?_
  rintro e w2 ⟨rfl, hb2⟩
  have HB2 := hide (heldB HB1.out hb2 (Nat.le_refl _))
  clear hb2
  go_wp2_with fail
  refine wp_region_held_drew (S := fun V => V.cell? ⟨S, 12, none⟩ = some (.int .i64 tot) ∧ V.cell? ⟨S, 15, none⟩ = some (.int .i64 q) ∧ V.cell? ⟨S, 16, none⟩ = some (.int .i64 bd)) (by kernel_rfl) (HS.out _ (HB2.out.drew)) (fun hHeld => ?_)
  refine wpAnyH_take (i := 0) (oi := ?oia0) (v := ?va0) ?hia0 (by kernel_rfl) (by kernel_rfl) (by kernel_rfl) ?hQa0 (Or.inl ⟨?h1a0, ?hya0⟩) hHeld ?resta0
  case hia0 => (simp only [List.getElem?_toArray, List.getElem?_cons_zero]; rfl)
  case hQa0 => exact fun _ _ _ h => h
  case h1a0 => rfl
  case hya0 => intro V hSV; (try dsimp only at hSV); go_simp; (try with_reducible rfl)
  try simp only [Act.put, List.setIfInBounds_toArray, List.set_cons_zero, List.set_cons_succ]
  refine wpAnyH_take (i := 1) (oi := ?oia1) (v := ?va1) ?hia1 (by kernel_rfl) (by kernel_rfl) (by kernel_rfl) ?hQa1 (Or.inl ⟨?h1a1, ?hya1⟩) hHeld ?resta1
  case hia1 => (simp only [List.getElem?_toArray, List.getElem?_cons_succ, List.getElem?_cons_zero]; rfl)
  case hQa1 => exact fun _ _ _ h => h
  case h1a1 => rfl
  case hya1 => intro V hSV; (try dsimp only at hSV); go_simp; (try with_reducible rfl)
  try simp only [Act.put, List.setIfInBounds_toArray, List.set_cons_zero, List.set_cons_succ]
  refine wpAnyH_take (i := 2) (oi := ?oia2) (v := ?va2) ?hia2 (by kernel_rfl) (by kernel_rfl) (by kernel_rfl) ?hQa2 (Or.inl ⟨?h1a2, ?hya2⟩) hHeld ?resta2
  case hia2 => (simp only [List.getElem?_toArray, List.getElem?_cons_succ, List.getElem?_cons_zero]; rfl)
  case hQa2 => exact fun _ _ _ h => h
  case h1a2 => rfl
  case hya2 => intro V hSV; (try dsimp only at hSV); go_simp; (try with_reducible rfl)
  try simp only [Act.put, List.setIfInBounds_toArray, List.set_cons_zero, List.set_cons_succ]
  refine wpAnyH_take (i := 3) (oi := ?oia3) (v := ?va3) ?hia3 (by kernel_rfl) (by kernel_rfl) (by kernel_rfl) ?hQa3 (Or.inl ⟨?h1a3, ?hya3⟩) hHeld ?resta3
  case hia3 => (simp only [List.getElem?_toArray, List.getElem?_cons_succ, List.getElem?_cons_zero]; rfl)
  case hQa3 => exact fun _ _ _ h => h
  case h1a3 => rfl
  case hya3 => intro V hSV; (try dsimp only at hSV); go_simp; (try with_reducible rfl)
  try simp only [Act.put, List.setIfInBounds_toArray, List.set_cons_zero, List.set_cons_succ]
  refine wpAnyH_take (i := 4) (oi := ?oia4) (v := ?va4) ?hia4 (by kernel_rfl) (by kernel_rfl) (by kernel_rfl) ?hQa4 (Or.inl ⟨?h1a4, ?hya4⟩) hHeld ?resta4
  case hia4 => (simp only [List.getElem?_toArray, List.getElem?_cons_succ, List.getElem?_cons_zero]; rfl)
  case hQa4 => exact fun _ _ _ h => h
  case h1a4 => rfl
  case hya4 => intro V hSV; (try dsimp only at hSV); go_simp; (try with_reducible rfl)
  try simp only [Act.put, List.setIfInBounds_toArray, List.set_cons_zero, List.set_cons_succ]
  refine wpAnyH_take (i := 5) (oi := ?oia5) (v := ?va5) ?hia5 (by kernel_rfl) (by kernel_rfl) (by kernel_rfl) ?hQa5 (Or.inl ⟨?h1a5, ?hya5⟩) hHeld ?resta5
  case hia5 => (simp only [List.getElem?_toArray, List.getElem?_cons_succ, List.getElem?_cons_zero]; rfl)
  case hQa5 => exact fun _ _ _ h => h
  case h1a5 => rfl
  case hya5 => intro V hSV; (try dsimp only at hSV); go_simp; (try with_reducible rfl)
  try simp only [Act.put, List.setIfInBounds_toArray, List.set_cons_zero, List.set_cons_succ]
  refine wpAnyH_take (i := 6) (oi := ?oia6) (v := ?va6) ?hia6 (by kernel_rfl) (by kernel_rfl) (by kernel_rfl) ?hQa6 (Or.inl ⟨?h1a6, ?hya6⟩) hHeld ?resta6
  case hia6 => (simp only [List.getElem?_toArray, List.getElem?_cons_succ, List.getElem?_cons_zero]; rfl)
  case hQa6 => exact fun _ _ _ h => h
  case h1a6 => rfl
  case hya6 => intro V hSV; (try dsimp only at hSV); go_simp; (try with_reducible rfl)
  try simp only [Act.put, List.setIfInBounds_toArray, List.set_cons_zero, List.set_cons_succ]
  refine wpAnyH_take (i := 7) (oi := ?oia7) (v := ?va7) ?hia7 (by kernel_rfl) (by kernel_rfl) (by kernel_rfl) ?hQa7 (Or.inl ⟨?h1a7, ?hya7⟩) hHeld ?resta7
  case hia7 => (simp only [List.getElem?_toArray, List.getElem?_cons_succ, List.getElem?_cons_zero]; rfl)
  case hQa7 => exact fun _ _ _ h => h
  case h1a7 => rfl
  case hya7 => intro V hSV; (try dsimp only at hSV); go_simp; (try with_reducible rfl)
  try simp only [Act.put, List.setIfInBounds_toArray, List.set_cons_zero, List.set_cons_succ]
  refine wpAnyH_take (i := 8) (oi := ?oia8) (v := ?va8) ?hia8 (by kernel_rfl) (by kernel_rfl) (by kernel_rfl) ?hQa8 (Or.inl ⟨?h1a8, ?hya8⟩) hHeld ?resta8
  case hia8 => (simp only [List.getElem?_toArray, List.getElem?_cons_succ, List.getElem?_cons_zero]; rfl)
  case hQa8 => exact fun _ _ _ h => h
  case h1a8 => rfl
  case hya8 => intro V hSV; (try dsimp only at hSV); go_simp; (try with_reducible rfl)
  try simp only [Act.put, List.setIfInBounds_toArray, List.set_cons_zero, List.set_cons_succ]
  refine wpAnyH_take (i := 9) (oi := ?oia9) (v := ?va9) ?hia9 (by kernel_rfl) (by kernel_rfl) (by kernel_rfl) ?hQa9 (Or.inl ⟨?h1a9, ?hya9⟩) hHeld ?resta9
  case hia9 => (simp only [List.getElem?_toArray, List.getElem?_cons_succ, List.getElem?_cons_zero]; rfl)
  case hQa9 => exact fun _ _ _ h => h
  case h1a9 => rfl
  case hya9 => intro V hSV; (try dsimp only at hSV); go_simp; (try with_reducible rfl)
  try simp only [Act.put, List.setIfInBounds_toArray, List.set_cons_zero, List.set_cons_succ]
  refine wpAnyH_take (i := 10) (oi := ?oia10) (v := ?va10) ?hia10 (by kernel_rfl) (by kernel_rfl) (by kernel_rfl) ?hQa10 (Or.inl ⟨?h1a10, ?hya10⟩) hHeld ?resta10
  case hia10 => (simp only [List.getElem?_toArray, List.getElem?_cons_succ, List.getElem?_cons_zero]; rfl)
  case hQa10 => exact fun _ _ _ h => h
  case h1a10 => rfl
  case hya10 => intro V hSV; (try dsimp only at hSV); go_simp; (try with_reducible rfl)
  try simp only [Act.put, List.setIfInBounds_toArray, List.set_cons_zero, List.set_cons_succ]
  refine wpAnyH_take (i := 11) (oi := ?oia11) (v := undef) ?hia11 (by kernel_rfl) (by kernel_rfl) (by kernel_rfl) ?hQa11 (Or.inr ⟨?h1a11, rfl⟩) hHeld ?resta11
  case hia11 => (simp only [List.getElem?_toArray, List.getElem?_cons_succ, List.getElem?_cons_zero]; rfl)
  case hQa11 => exact fun _ _ _ h => h
  case h1a11 => rfl
  try simp only [Act.put, List.setIfInBounds_toArray, List.set_cons_zero, List.set_cons_succ]
  refine wpAnyH_take (i := 12) (oi := ?oia12) (v := undef) ?hia12 (by kernel_rfl) (by kernel_rfl) (by kernel_rfl) ?hQa12 (Or.inr ⟨?h1a12, rfl⟩) hHeld ?resta12
  case hia12 => (simp only [List.getElem?_toArray, List.getElem?_cons_succ, List.getElem?_cons_zero]; rfl)
  case hQa12 => exact fun _ _ _ h => h
  case h1a12 => rfl
  try simp only [Act.put, List.setIfInBounds_toArray, List.set_cons_zero, List.set_cons_succ]
  refine wpAnyH_take (i := 13) (oi := ?oia13) (v := undef) ?hia13 (by kernel_rfl) (by kernel_rfl) (by kernel_rfl) ?hQa13 (Or.inr ⟨?h1a13, rfl⟩) hHeld ?resta13
  case hia13 => (simp only [List.getElem?_toArray, List.getElem?_cons_succ, List.getElem?_cons_zero]; rfl)
  case hQa13 => exact fun _ _ _ h => h
  case h1a13 => rfl
  try simp only [Act.put, List.setIfInBounds_toArray, List.set_cons_zero, List.set_cons_succ]
  refine wpAnyH_take (i := 14) (oi := ?oia14) (v := undef) ?hia14 (by kernel_rfl) (by kernel_rfl) (by kernel_rfl) ?hQa14 (Or.inr ⟨?h1a14, rfl⟩) hHeld ?resta14
  case hia14 => (simp only [List.getElem?_toArray, List.getElem?_cons_succ, List.getElem?_cons_zero]; rfl)
  case hQa14 => exact fun _ _ _ h => h
  case h1a14 => rfl
  try simp only [Act.put, List.setIfInBounds_toArray, List.set_cons_zero, List.set_cons_succ]
  refine wpAnyH_take (i := 15) (oi := ?oia15) (v := undef) ?hia15 (by kernel_rfl) (by kernel_rfl) (by kernel_rfl) ?hQa15 (Or.inr ⟨?h1a15, rfl⟩) hHeld ?resta15
  case hia15 => (simp only [List.getElem?_toArray, List.getElem?_cons_succ, List.getElem?_cons_zero]; rfl)
  case hQa15 => exact fun _ _ _ h => h
  case h1a15 => rfl
  try simp only [Act.put, List.setIfInBounds_toArray, List.set_cons_zero, List.set_cons_succ]
  refine wpAnyH_take (i := 16) (oi := ?oia16) (v := undef) ?hia16 (by kernel_rfl) (by kernel_rfl) (by kernel_rfl) ?hQa16 (Or.inr ⟨?h1a16, rfl⟩) hHeld ?resta16
  case hia16 => (simp only [List.getElem?_toArray, List.getElem?_cons_succ, List.getElem?_cons_zero]; rfl)
  case hQa16 => exact fun _ _ _ h => h
  case h1a16 => rfl
  try simp only [Act.put, List.setIfInBounds_toArray, List.set_cons_zero, List.set_cons_succ]
  refine wpAnyH_take (i := 17) (oi := ?oia17) (v := ?va17) ?hia17 (by kernel_rfl) (by kernel_rfl) (by kernel_rfl) ?hQa17 (Or.inl ⟨?h1a17, ?hya17⟩) hHeld ?resta17
  case hia17 => (simp only [List.getElem?_toArray, List.getElem?_cons_succ, List.getElem?_cons_zero]; rfl)
  case hQa17 => exact fun _ _ _ h => h
  case h1a17 => rfl
  case hya17 => intro V hSV; (try dsimp only at hSV); go_simp; (try with_reducible rfl)
  try simp only [Act.put, List.setIfInBounds_toArray, List.set_cons_zero, List.set_cons_succ]
  refine wpAnyH_done (by kernel_rfl) ?_ _
  have HB3 := hide HB2.out.drew
  go_wp2
  go_ret2
  exact ⟨rfl, HB3.out⟩

set_option maxRecDepth 20000 in
set_option maxHeartbeats 4000000 in
theorem sreserve_yes (lo S D : Nat) (st : DSt) (F : Nat → Prop) (tm k b x t l : Int) (root pub sec rnd : ByteArray) (tot bat nx q bd : Int) (id : ByteArray) (m nb : Int) (s2 : DSt) (w : World) (hB : Blk w S (sgC D tm k b x t l root pub sec rnd tot bat nx q bd id false) 188) (hD : DSk lo D st w F) (_hSF : ¬ F S) (htm : st.term = tm) (h1 : 1 ≤ m) (h2 : m ≤ 64) (hsp : bd ≠ tot) (hq : q ≠ 2147483647)
    (hRS : ∀ V : World, Below w.heap.size w V → Calls Tryz.prog 116 #[.pointer (some ⟨S, 0, none⟩), .int .i64 m] V fun e w' => e = .returned (.int .i64 0) ∧ SGL lo S D s2 (sgC D tm k b x t l root pub sec rnd tot bat nx (q + 1) nb id false) F V w') :
    Calls Tryz.prog 72 #[.pointer (some ⟨S, 0, none⟩), .int .i64 m] w fun e w' => e = .returned (.tuple #[.int .i64 nb, .int .i64 0]) ∧ SGL lo S D s2 (sgC D tm k b x t l root pub sec rnd tot bat nx (q + 1) nb id false) F w w' := by
  have hSl := hB.lt
  have HOV := hide (isOver_no S D tm w hSl hD.ltD (hB.cell 0) (hB.cell 1) (hB.cell 18) (by rw [← htm]; exact hD.term))
  have HBA := hide (fun V : World => batch_yes m V h1 h2)
  have e1 : (bd == tot) = false := by simpa using hsp
  have e2 : (q == 2147483647) = false := by simpa using hq
  have HRS := hide hRS
  have HS := hide (fun (V : World) (h : Below w.heap.size w V) => (by
    have q1 := hB.on h
    exact ⟨q1.cell 12, q1.cell 15, q1.cell 16⟩ : V.cell? ⟨S, 12, none⟩ = some (.int .i64 tot) ∧ V.cell? ⟨S, 15, none⟩ = some (.int .i64 q) ∧ V.cell? ⟨S, 16, none⟩ = some (.int .i64 bd)))
  clear hB hD _hSF htm h1 h2 hsp hq hRS
  go_enter Tryz.func72, Tryz.ntmps72
  go_wp2_with fail
  refine HOV.out.mono ?_
  rintro e w1 ⟨rfl, hb1⟩
  have HB1 := hide hb1
  clear hb1
  go_wp2_with fail
  refine (HBA.out _).mono ?_
  rintro e w2 ⟨rfl, hb2⟩
  have HB2 := hide (heldB HB1.out hb2 (Nat.le_refl _))
  clear hb2
  go_wp2_with fail
  refine wp_region_held_drew (S := fun V => V.cell? ⟨S, 12, none⟩ = some (.int .i64 tot) ∧ V.cell? ⟨S, 15, none⟩ = some (.int .i64 q) ∧ V.cell? ⟨S, 16, none⟩ = some (.int .i64 bd)) (by kernel_rfl) (HS.out _ (HB2.out.drew)) (fun hHeld => ?_)
  refine wpAnyH_take (i := 0) (oi := ?oia0) (v := ?va0) ?hia0 (by kernel_rfl) (by kernel_rfl) (by kernel_rfl) ?hQa0 (Or.inl ⟨?h1a0, ?hya0⟩) hHeld ?resta0
  case hia0 => (simp only [List.getElem?_toArray, List.getElem?_cons_zero]; rfl)
  case hQa0 => exact fun _ _ _ h => h
  case h1a0 => rfl
  case hya0 => intro V hSV; (try dsimp only at hSV); go_simp; (try with_reducible rfl)
  try simp only [Act.put, List.setIfInBounds_toArray, List.set_cons_zero, List.set_cons_succ]
  refine wpAnyH_take (i := 1) (oi := ?oia1) (v := ?va1) ?hia1 (by kernel_rfl) (by kernel_rfl) (by kernel_rfl) ?hQa1 (Or.inl ⟨?h1a1, ?hya1⟩) hHeld ?resta1
  case hia1 => (simp only [List.getElem?_toArray, List.getElem?_cons_succ, List.getElem?_cons_zero]; rfl)
  case hQa1 => exact fun _ _ _ h => h
  case h1a1 => rfl
  case hya1 => intro V hSV; (try dsimp only at hSV); go_simp; (try with_reducible rfl)
  try simp only [Act.put, List.setIfInBounds_toArray, List.set_cons_zero, List.set_cons_succ]
  refine wpAnyH_take (i := 2) (oi := ?oia2) (v := ?va2) ?hia2 (by kernel_rfl) (by kernel_rfl) (by kernel_rfl) ?hQa2 (Or.inl ⟨?h1a2, ?hya2⟩) hHeld ?resta2
  case hia2 => (simp only [List.getElem?_toArray, List.getElem?_cons_succ, List.getElem?_cons_zero]; rfl)
  case hQa2 => exact fun _ _ _ h => h
  case h1a2 => rfl
  case hya2 => intro V hSV; (try dsimp only at hSV); go_simp; (try with_reducible rfl)
  try simp only [Act.put, List.setIfInBounds_toArray, List.set_cons_zero, List.set_cons_succ]
  refine wpAnyH_take (i := 3) (oi := ?oia3) (v := ?va3) ?hia3 (by kernel_rfl) (by kernel_rfl) (by kernel_rfl) ?hQa3 (Or.inl ⟨?h1a3, ?hya3⟩) hHeld ?resta3
  case hia3 => (simp only [List.getElem?_toArray, List.getElem?_cons_succ, List.getElem?_cons_zero]; rfl)
  case hQa3 => exact fun _ _ _ h => h
  case h1a3 => rfl
  case hya3 => intro V hSV; (try dsimp only at hSV); go_simp; (try with_reducible rfl)
  try simp only [Act.put, List.setIfInBounds_toArray, List.set_cons_zero, List.set_cons_succ]
  refine wpAnyH_take (i := 4) (oi := ?oia4) (v := ?va4) ?hia4 (by kernel_rfl) (by kernel_rfl) (by kernel_rfl) ?hQa4 (Or.inl ⟨?h1a4, ?hya4⟩) hHeld ?resta4
  case hia4 => (simp only [List.getElem?_toArray, List.getElem?_cons_succ, List.getElem?_cons_zero]; rfl)
  case hQa4 => exact fun _ _ _ h => h
  case h1a4 => rfl
  case hya4 => intro V hSV; (try dsimp only at hSV); go_simp; (try with_reducible rfl)
  try simp only [Act.put, List.setIfInBounds_toArray, List.set_cons_zero, List.set_cons_succ]
  refine wpAnyH_take (i := 5) (oi := ?oia5) (v := ?va5) ?hia5 (by kernel_rfl) (by kernel_rfl) (by kernel_rfl) ?hQa5 (Or.inl ⟨?h1a5, ?hya5⟩) hHeld ?resta5
  case hia5 => (simp only [List.getElem?_toArray, List.getElem?_cons_succ, List.getElem?_cons_zero]; rfl)
  case hQa5 => exact fun _ _ _ h => h
  case h1a5 => rfl
  case hya5 => intro V hSV; (try dsimp only at hSV); go_simp; (try with_reducible rfl)
  try simp only [Act.put, List.setIfInBounds_toArray, List.set_cons_zero, List.set_cons_succ]
  refine wpAnyH_take (i := 6) (oi := ?oia6) (v := ?va6) ?hia6 (by kernel_rfl) (by kernel_rfl) (by kernel_rfl) ?hQa6 (Or.inl ⟨?h1a6, ?hya6⟩) hHeld ?resta6
  case hia6 => (simp only [List.getElem?_toArray, List.getElem?_cons_succ, List.getElem?_cons_zero]; rfl)
  case hQa6 => exact fun _ _ _ h => h
  case h1a6 => rfl
  case hya6 => intro V hSV; (try dsimp only at hSV); go_simp; (try with_reducible rfl)
  try simp only [Act.put, List.setIfInBounds_toArray, List.set_cons_zero, List.set_cons_succ]
  refine wpAnyH_take (i := 7) (oi := ?oia7) (v := ?va7) ?hia7 (by kernel_rfl) (by kernel_rfl) (by kernel_rfl) ?hQa7 (Or.inl ⟨?h1a7, ?hya7⟩) hHeld ?resta7
  case hia7 => (simp only [List.getElem?_toArray, List.getElem?_cons_succ, List.getElem?_cons_zero]; rfl)
  case hQa7 => exact fun _ _ _ h => h
  case h1a7 => rfl
  case hya7 => intro V hSV; (try dsimp only at hSV); go_simp; (try with_reducible rfl)
  try simp only [Act.put, List.setIfInBounds_toArray, List.set_cons_zero, List.set_cons_succ]
  refine wpAnyH_take (i := 8) (oi := ?oia8) (v := ?va8) ?hia8 (by kernel_rfl) (by kernel_rfl) (by kernel_rfl) ?hQa8 (Or.inl ⟨?h1a8, ?hya8⟩) hHeld ?resta8
  case hia8 => (simp only [List.getElem?_toArray, List.getElem?_cons_succ, List.getElem?_cons_zero]; rfl)
  case hQa8 => exact fun _ _ _ h => h
  case h1a8 => rfl
  case hya8 => intro V hSV; (try dsimp only at hSV); go_simp; (try with_reducible rfl)
  try simp only [Act.put, List.setIfInBounds_toArray, List.set_cons_zero, List.set_cons_succ]
  refine wpAnyH_take (i := 9) (oi := ?oia9) (v := ?va9) ?hia9 (by kernel_rfl) (by kernel_rfl) (by kernel_rfl) ?hQa9 (Or.inl ⟨?h1a9, ?hya9⟩) hHeld ?resta9
  case hia9 => (simp only [List.getElem?_toArray, List.getElem?_cons_succ, List.getElem?_cons_zero]; rfl)
  case hQa9 => exact fun _ _ _ h => h
  case h1a9 => rfl
  case hya9 => intro V hSV; (try dsimp only at hSV); go_simp; (try with_reducible rfl)
  try simp only [Act.put, List.setIfInBounds_toArray, List.set_cons_zero, List.set_cons_succ]
  refine wpAnyH_take (i := 10) (oi := ?oia10) (v := ?va10) ?hia10 (by kernel_rfl) (by kernel_rfl) (by kernel_rfl) ?hQa10 (Or.inl ⟨?h1a10, ?hya10⟩) hHeld ?resta10
  case hia10 => (simp only [List.getElem?_toArray, List.getElem?_cons_succ, List.getElem?_cons_zero]; rfl)
  case hQa10 => exact fun _ _ _ h => h
  case h1a10 => rfl
  case hya10 => intro V hSV; (try dsimp only at hSV); go_simp; (try with_reducible rfl)
  try simp only [Act.put, List.setIfInBounds_toArray, List.set_cons_zero, List.set_cons_succ]
  refine wpAnyH_take (i := 11) (oi := ?oia11) (v := ?va11) ?hia11 (by kernel_rfl) (by kernel_rfl) (by kernel_rfl) ?hQa11 (Or.inl ⟨?h1a11, ?hya11⟩) hHeld ?resta11
  case hia11 => (simp only [List.getElem?_toArray, List.getElem?_cons_succ, List.getElem?_cons_zero]; rfl)
  case hQa11 => exact fun _ _ _ h => h
  case h1a11 => rfl
  case hya11 => intro V hSV; (try dsimp only at hSV); go_simp; (try with_reducible rfl)
  try simp only [Act.put, List.setIfInBounds_toArray, List.set_cons_zero, List.set_cons_succ]
  refine wpAnyH_take (i := 12) (oi := ?oia12) (v := ?va12) ?hia12 (by kernel_rfl) (by kernel_rfl) (by kernel_rfl) ?hQa12 (Or.inl ⟨?h1a12, ?hya12⟩) hHeld ?resta12
  case hia12 => (simp only [List.getElem?_toArray, List.getElem?_cons_succ, List.getElem?_cons_zero]; rfl)
  case hQa12 => exact fun _ _ _ h => h
  case h1a12 => rfl
  case hya12 => intro V hSV; (try dsimp only at hSV); go_simp; (try with_reducible rfl)
  try simp only [Act.put, List.setIfInBounds_toArray, List.set_cons_zero, List.set_cons_succ]
  refine wpAnyH_take (i := 13) (oi := ?oia13) (v := ?va13) ?hia13 (by kernel_rfl) (by kernel_rfl) (by kernel_rfl) ?hQa13 (Or.inl ⟨?h1a13, ?hya13⟩) hHeld ?resta13
  case hia13 => (simp only [List.getElem?_toArray, List.getElem?_cons_succ, List.getElem?_cons_zero]; rfl)
  case hQa13 => exact fun _ _ _ h => h
  case h1a13 => rfl
  case hya13 => intro V hSV; (try dsimp only at hSV); go_simp; (try with_reducible rfl)
  try simp only [Act.put, List.setIfInBounds_toArray, List.set_cons_zero, List.set_cons_succ]
  refine wpAnyH_take (i := 14) (oi := ?oia14) (v := ?va14) ?hia14 (by kernel_rfl) (by kernel_rfl) (by kernel_rfl) ?hQa14 (Or.inl ⟨?h1a14, ?hya14⟩) hHeld ?resta14
  case hia14 => (simp only [List.getElem?_toArray, List.getElem?_cons_succ, List.getElem?_cons_zero]; rfl)
  case hQa14 => exact fun _ _ _ h => h
  case h1a14 => rfl
  case hya14 => intro V hSV; (try dsimp only at hSV); go_simp; (try with_reducible rfl)
  try simp only [Act.put, List.setIfInBounds_toArray, List.set_cons_zero, List.set_cons_succ]
  refine wpAnyH_take (i := 15) (oi := ?oia15) (v := ?va15) ?hia15 (by kernel_rfl) (by kernel_rfl) (by kernel_rfl) ?hQa15 (Or.inl ⟨?h1a15, ?hya15⟩) hHeld ?resta15
  case hia15 => (simp only [List.getElem?_toArray, List.getElem?_cons_succ, List.getElem?_cons_zero]; rfl)
  case hQa15 => exact fun _ _ _ h => h
  case h1a15 => rfl
  case hya15 => intro V hSV; (try dsimp only at hSV); go_simp; (try with_reducible rfl)
  try simp only [Act.put, List.setIfInBounds_toArray, List.set_cons_zero, List.set_cons_succ]
  refine wpAnyH_take (i := 16) (oi := ?oia16) (v := ?va16) ?hia16 (by kernel_rfl) (by kernel_rfl) (by kernel_rfl) ?hQa16 (Or.inl ⟨?h1a16, ?hya16⟩) hHeld ?resta16
  case hia16 => (simp only [List.getElem?_toArray, List.getElem?_cons_succ, List.getElem?_cons_zero]; rfl)
  case hQa16 => exact fun _ _ _ h => h
  case h1a16 => rfl
  case hya16 => intro V hSV; (try dsimp only at hSV); go_simp; (try with_reducible rfl)
  try simp only [Act.put, List.setIfInBounds_toArray, List.set_cons_zero, List.set_cons_succ]
  refine wpAnyH_take (i := 17) (oi := ?oia17) (v := ?va17) ?hia17 (by kernel_rfl) (by kernel_rfl) (by kernel_rfl) ?hQa17 (Or.inl ⟨?h1a17, ?hya17⟩) hHeld ?resta17
  case hia17 => (simp only [List.getElem?_toArray, List.getElem?_cons_succ, List.getElem?_cons_zero]; rfl)
  case hQa17 => exact fun _ _ _ h => h
  case h1a17 => rfl
  case hya17 => intro V hSV; (try dsimp only at hSV); go_simp; (try with_reducible rfl)
  try simp only [Act.put, List.setIfInBounds_toArray, List.set_cons_zero, List.set_cons_succ]
  refine wpAnyH_done (by kernel_rfl) ?_ _
  have HB3 := hide HB2.out.drew
  go_wp2_with fail
  refine (HRS.out _ HB3.out).mono ?_
  rintro e w4 ⟨rfl, hl⟩
  have c16 : w4.cell? ⟨S, 16, none⟩ = some (.int .i64 nb) := hl.1.cell 16
  have HL := hide (hl.of_below HB3.out)
  clear hl
  go_wp2
  go_ret2
  exact ⟨rfl, HL.out⟩

set_option maxRecDepth 20000 in
set_option maxHeartbeats 8000000 in
theorem ssign_spent (lo S D : Nat) (st : DSt) (F : Nat → Prop) (tm k b x t l : Int) (root pub sec rnd : ByteArray) (tot bat nx q bd : Int) (id : ByteArray) (msg : ByteArray) (w : World) (hB : Blk w S (sgC D tm k b x t l root pub sec rnd tot bat nx q bd id false) 188) (hD : DSk lo D st w F) (_hSF : ¬ F S) (htm : st.term = tm) (hm : msg.size ≤ 200) (hsp : nx = tot) :
    Calls Tryz.prog 99 #[.pointer (some ⟨S, 0, none⟩), .string msg] w fun e w' => e = .returned (.tuple #[.string ⟨#[]⟩, .int .i64 10]) ∧ Below w.heap.size w w' := by
  have hSl := hB.lt
  have HOV := hide (isOver_no S D tm w hSl hD.ltD (hB.cell 0) (hB.cell 1) (hB.cell 18) (by rw [← htm]; exact hD.term))
  have e1 : (nx == tot) = true := by simpa using hsp
  have hm2 : (msg.size : Int) ≤ 200 := by omega
  have HS := hide (fun (V : World) (h : Below w.heap.size w V) => (by
    have q1 := hB.on h
    exact ⟨q1.cell 12, q1.cell 14, q1.cell 15, q1.cell 16⟩ : V.cell? ⟨S, 12, none⟩ = some (.int .i64 tot) ∧ V.cell? ⟨S, 14, none⟩ = some (.int .i64 nx) ∧ V.cell? ⟨S, 15, none⟩ = some (.int .i64 q) ∧ V.cell? ⟨S, 16, none⟩ = some (.int .i64 bd)))
  clear hB hD _hSF htm hm hsp
  go_enter Tryz.func99, Tryz.ntmps99
  go_wp2_with fail
  refine HOV.out.mono ?_
  rintro e w1 ⟨rfl, hb1⟩
  have HB1 := hide hb1
  clear hb1
  go_wp2_with fail
  refine wp_region_held_drew (S := fun V => V.cell? ⟨S, 12, none⟩ = some (.int .i64 tot) ∧ V.cell? ⟨S, 14, none⟩ = some (.int .i64 nx) ∧ V.cell? ⟨S, 15, none⟩ = some (.int .i64 q) ∧ V.cell? ⟨S, 16, none⟩ = some (.int .i64 bd)) (by kernel_rfl) (HS.out _ (HB1.out.drew)) (fun hHeld => ?_)
  refine wpAnyH_take (i := 0) (oi := ?oip0) (v := ?vp0) ?hip0 (by kernel_rfl) (by kernel_rfl) (by kernel_rfl) ?hQp0 (Or.inl ⟨?h1p0, ?hyp0⟩) hHeld ?restp0
  case hip0 => (simp only [List.getElem?_toArray, List.getElem?_cons_zero]; rfl)
  case hQp0 => exact fun _ _ _ h => h
  case h1p0 => rfl
  case hyp0 => intro V hSV; (try dsimp only at hSV); go_simp; (try with_reducible rfl)
  try simp only [Act.put, List.setIfInBounds_toArray, List.set_cons_zero, List.set_cons_succ]
  refine wpAnyH_take (i := 1) (oi := ?oip1) (v := ?vp1) ?hip1 (by kernel_rfl) (by kernel_rfl) (by kernel_rfl) ?hQp1 (Or.inl ⟨?h1p1, ?hyp1⟩) hHeld ?restp1
  case hip1 => (simp only [List.getElem?_toArray, List.getElem?_cons_succ, List.getElem?_cons_zero]; rfl)
  case hQp1 => exact fun _ _ _ h => h
  case h1p1 => rfl
  case hyp1 => intro V hSV; (try dsimp only at hSV); go_simp; (try with_reducible rfl)
  try simp only [Act.put, List.setIfInBounds_toArray, List.set_cons_zero, List.set_cons_succ]
  refine wpAnyH_take (i := 2) (oi := ?oip2) (v := ?vp2) ?hip2 (by kernel_rfl) (by kernel_rfl) (by kernel_rfl) ?hQp2 (Or.inl ⟨?h1p2, ?hyp2⟩) hHeld ?restp2
  case hip2 => (simp only [List.getElem?_toArray, List.getElem?_cons_succ, List.getElem?_cons_zero]; rfl)
  case hQp2 => exact fun _ _ _ h => h
  case h1p2 => rfl
  case hyp2 => intro V hSV; (try dsimp only at hSV); go_simp; (try with_reducible rfl)
  try simp only [Act.put, List.setIfInBounds_toArray, List.set_cons_zero, List.set_cons_succ]
  refine wpAnyH_take (i := 3) (oi := ?oip3) (v := ?vp3) ?hip3 (by kernel_rfl) (by kernel_rfl) (by kernel_rfl) ?hQp3 (Or.inl ⟨?h1p3, ?hyp3⟩) hHeld ?restp3
  case hip3 => (simp only [List.getElem?_toArray, List.getElem?_cons_succ, List.getElem?_cons_zero]; rfl)
  case hQp3 => exact fun _ _ _ h => h
  case h1p3 => rfl
  case hyp3 => intro V hSV; (try dsimp only at hSV); go_simp; (try with_reducible rfl)
  try simp only [Act.put, List.setIfInBounds_toArray, List.set_cons_zero, List.set_cons_succ]
  refine wpAnyH_take (i := 4) (oi := ?oip4) (v := ?vp4) ?hip4 (by kernel_rfl) (by kernel_rfl) (by kernel_rfl) ?hQp4 (Or.inl ⟨?h1p4, ?hyp4⟩) hHeld ?restp4
  case hip4 => (simp only [List.getElem?_toArray, List.getElem?_cons_succ, List.getElem?_cons_zero]; rfl)
  case hQp4 => exact fun _ _ _ h => h
  case h1p4 => rfl
  case hyp4 => intro V hSV; (try dsimp only at hSV); go_simp; (try with_reducible rfl)
  try simp only [Act.put, List.setIfInBounds_toArray, List.set_cons_zero, List.set_cons_succ]
  refine wpAnyH_take (i := 5) (oi := ?oip5) (v := ?vp5) ?hip5 (by kernel_rfl) (by kernel_rfl) (by kernel_rfl) ?hQp5 (Or.inl ⟨?h1p5, ?hyp5⟩) hHeld ?restp5
  case hip5 => (simp only [List.getElem?_toArray, List.getElem?_cons_succ, List.getElem?_cons_zero]; rfl)
  case hQp5 => exact fun _ _ _ h => h
  case h1p5 => rfl
  case hyp5 => intro V hSV; (try dsimp only at hSV); go_simp; (try with_reducible rfl)
  try simp only [Act.put, List.setIfInBounds_toArray, List.set_cons_zero, List.set_cons_succ]
  refine wpAnyH_take (i := 6) (oi := ?oip6) (v := ?vp6) ?hip6 (by kernel_rfl) (by kernel_rfl) (by kernel_rfl) ?hQp6 (Or.inl ⟨?h1p6, ?hyp6⟩) hHeld ?restp6
  case hip6 => (simp only [List.getElem?_toArray, List.getElem?_cons_succ, List.getElem?_cons_zero]; rfl)
  case hQp6 => exact fun _ _ _ h => h
  case h1p6 => rfl
  case hyp6 => intro V hSV; (try dsimp only at hSV); go_simp; (try with_reducible rfl)
  try simp only [Act.put, List.setIfInBounds_toArray, List.set_cons_zero, List.set_cons_succ]
  refine wpAnyH_take (i := 7) (oi := ?oip7) (v := ?vp7) ?hip7 (by kernel_rfl) (by kernel_rfl) (by kernel_rfl) ?hQp7 (Or.inl ⟨?h1p7, ?hyp7⟩) hHeld ?restp7
  case hip7 => (simp only [List.getElem?_toArray, List.getElem?_cons_succ, List.getElem?_cons_zero]; rfl)
  case hQp7 => exact fun _ _ _ h => h
  case h1p7 => rfl
  case hyp7 => intro V hSV; (try dsimp only at hSV); go_simp; (try with_reducible rfl)
  try simp only [Act.put, List.setIfInBounds_toArray, List.set_cons_zero, List.set_cons_succ]
  refine wpAnyH_take (i := 8) (oi := ?oip8) (v := ?vp8) ?hip8 (by kernel_rfl) (by kernel_rfl) (by kernel_rfl) ?hQp8 (Or.inl ⟨?h1p8, ?hyp8⟩) hHeld ?restp8
  case hip8 => (simp only [List.getElem?_toArray, List.getElem?_cons_succ, List.getElem?_cons_zero]; rfl)
  case hQp8 => exact fun _ _ _ h => h
  case h1p8 => rfl
  case hyp8 => intro V hSV; (try dsimp only at hSV); go_simp; (try with_reducible rfl)
  try simp only [Act.put, List.setIfInBounds_toArray, List.set_cons_zero, List.set_cons_succ]
  refine wpAnyH_take (i := 9) (oi := ?oip9) (v := ?vp9) ?hip9 (by kernel_rfl) (by kernel_rfl) (by kernel_rfl) ?hQp9 (Or.inl ⟨?h1p9, ?hyp9⟩) hHeld ?restp9
  case hip9 => (simp only [List.getElem?_toArray, List.getElem?_cons_succ, List.getElem?_cons_zero]; rfl)
  case hQp9 => exact fun _ _ _ h => h
  case h1p9 => rfl
  case hyp9 => intro V hSV; (try dsimp only at hSV); go_simp; (try with_reducible rfl)
  try simp only [Act.put, List.setIfInBounds_toArray, List.set_cons_zero, List.set_cons_succ]
  refine wpAnyH_take (i := 10) (oi := ?oip10) (v := ?vp10) ?hip10 (by kernel_rfl) (by kernel_rfl) (by kernel_rfl) ?hQp10 (Or.inl ⟨?h1p10, ?hyp10⟩) hHeld ?restp10
  case hip10 => (simp only [List.getElem?_toArray, List.getElem?_cons_succ, List.getElem?_cons_zero]; rfl)
  case hQp10 => exact fun _ _ _ h => h
  case h1p10 => rfl
  case hyp10 => intro V hSV; (try dsimp only at hSV); go_simp; (try with_reducible rfl)
  try simp only [Act.put, List.setIfInBounds_toArray, List.set_cons_zero, List.set_cons_succ]
  refine wpAnyH_done (by kernel_rfl) ?_ _
  go_wp2_with fail
  refine wp_region_held_drew (S := fun V => V.cell? ⟨S, 12, none⟩ = some (.int .i64 tot) ∧ V.cell? ⟨S, 14, none⟩ = some (.int .i64 nx) ∧ V.cell? ⟨S, 15, none⟩ = some (.int .i64 q) ∧ V.cell? ⟨S, 16, none⟩ = some (.int .i64 bd)) (by kernel_rfl) (HS.out _ (HB1.out.drew.drew)) (fun hHeld => ?_)
  refine wpAnyH_take (i := 0) (oi := ?ois0) (v := ?vs0) ?his0 (by kernel_rfl) (by kernel_rfl) (by kernel_rfl) ?hQs0 (Or.inl ⟨?h1s0, ?hys0⟩) hHeld ?rests0
  case his0 => (simp only [List.getElem?_toArray, List.getElem?_cons_zero]; rfl)
  case hQs0 => exact fun _ _ _ h => h
  case h1s0 => rfl
  case hys0 => intro V hSV; (try dsimp only at hSV); go_simp; (try with_reducible rfl)
  try simp only [Act.put, List.setIfInBounds_toArray, List.set_cons_zero, List.set_cons_succ]
  refine wpAnyH_take (i := 1) (oi := ?ois1) (v := ?vs1) ?his1 (by kernel_rfl) (by kernel_rfl) (by kernel_rfl) ?hQs1 (Or.inl ⟨?h1s1, ?hys1⟩) hHeld ?rests1
  case his1 => (simp only [List.getElem?_toArray, List.getElem?_cons_succ, List.getElem?_cons_zero]; rfl)
  case hQs1 => exact fun _ _ _ h => h
  case h1s1 => rfl
  case hys1 => intro V hSV; (try dsimp only at hSV); go_simp; (try with_reducible rfl)
  try simp only [Act.put, List.setIfInBounds_toArray, List.set_cons_zero, List.set_cons_succ]
  refine wpAnyH_take (i := 2) (oi := ?ois2) (v := ?vs2) ?his2 (by kernel_rfl) (by kernel_rfl) (by kernel_rfl) ?hQs2 (Or.inl ⟨?h1s2, ?hys2⟩) hHeld ?rests2
  case his2 => (simp only [List.getElem?_toArray, List.getElem?_cons_succ, List.getElem?_cons_zero]; rfl)
  case hQs2 => exact fun _ _ _ h => h
  case h1s2 => rfl
  case hys2 => intro V hSV; (try dsimp only at hSV); go_simp; (try with_reducible rfl)
  try simp only [Act.put, List.setIfInBounds_toArray, List.set_cons_zero, List.set_cons_succ]
  refine wpAnyH_take (i := 3) (oi := ?ois3) (v := ?vs3) ?his3 (by kernel_rfl) (by kernel_rfl) (by kernel_rfl) ?hQs3 (Or.inl ⟨?h1s3, ?hys3⟩) hHeld ?rests3
  case his3 => (simp only [List.getElem?_toArray, List.getElem?_cons_succ, List.getElem?_cons_zero]; rfl)
  case hQs3 => exact fun _ _ _ h => h
  case h1s3 => rfl
  case hys3 => intro V hSV; (try dsimp only at hSV); go_simp; (try with_reducible rfl)
  try simp only [Act.put, List.setIfInBounds_toArray, List.set_cons_zero, List.set_cons_succ]
  refine wpAnyH_take (i := 4) (oi := ?ois4) (v := ?vs4) ?his4 (by kernel_rfl) (by kernel_rfl) (by kernel_rfl) ?hQs4 (Or.inl ⟨?h1s4, ?hys4⟩) hHeld ?rests4
  case his4 => (simp only [List.getElem?_toArray, List.getElem?_cons_succ, List.getElem?_cons_zero]; rfl)
  case hQs4 => exact fun _ _ _ h => h
  case h1s4 => rfl
  case hys4 => intro V hSV; (try dsimp only at hSV); go_simp; (try with_reducible rfl)
  try simp only [Act.put, List.setIfInBounds_toArray, List.set_cons_zero, List.set_cons_succ]
  refine wpAnyH_take (i := 5) (oi := ?ois5) (v := ?vs5) ?his5 (by kernel_rfl) (by kernel_rfl) (by kernel_rfl) ?hQs5 (Or.inl ⟨?h1s5, ?hys5⟩) hHeld ?rests5
  case his5 => (simp only [List.getElem?_toArray, List.getElem?_cons_succ, List.getElem?_cons_zero]; rfl)
  case hQs5 => exact fun _ _ _ h => h
  case h1s5 => rfl
  case hys5 => intro V hSV; (try dsimp only at hSV); go_simp; (try with_reducible rfl)
  try simp only [Act.put, List.setIfInBounds_toArray, List.set_cons_zero, List.set_cons_succ]
  refine wpAnyH_take (i := 6) (oi := ?ois6) (v := ?vs6) ?his6 (by kernel_rfl) (by kernel_rfl) (by kernel_rfl) ?hQs6 (Or.inl ⟨?h1s6, ?hys6⟩) hHeld ?rests6
  case his6 => (simp only [List.getElem?_toArray, List.getElem?_cons_succ, List.getElem?_cons_zero]; rfl)
  case hQs6 => exact fun _ _ _ h => h
  case h1s6 => rfl
  case hys6 => intro V hSV; (try dsimp only at hSV); go_simp; (try with_reducible rfl)
  try simp only [Act.put, List.setIfInBounds_toArray, List.set_cons_zero, List.set_cons_succ]
  refine wpAnyH_take (i := 7) (oi := ?ois7) (v := ?vs7) ?his7 (by kernel_rfl) (by kernel_rfl) (by kernel_rfl) ?hQs7 (Or.inl ⟨?h1s7, ?hys7⟩) hHeld ?rests7
  case his7 => (simp only [List.getElem?_toArray, List.getElem?_cons_succ, List.getElem?_cons_zero]; rfl)
  case hQs7 => exact fun _ _ _ h => h
  case h1s7 => rfl
  case hys7 => intro V hSV; (try dsimp only at hSV); go_simp; (try with_reducible rfl)
  try simp only [Act.put, List.setIfInBounds_toArray, List.set_cons_zero, List.set_cons_succ]
  refine wpAnyH_take (i := 8) (oi := ?ois8) (v := ?vs8) ?his8 (by kernel_rfl) (by kernel_rfl) (by kernel_rfl) ?hQs8 (Or.inl ⟨?h1s8, ?hys8⟩) hHeld ?rests8
  case his8 => (simp only [List.getElem?_toArray, List.getElem?_cons_succ, List.getElem?_cons_zero]; rfl)
  case hQs8 => exact fun _ _ _ h => h
  case h1s8 => rfl
  case hys8 => intro V hSV; (try dsimp only at hSV); go_simp; (try with_reducible rfl)
  try simp only [Act.put, List.setIfInBounds_toArray, List.set_cons_zero, List.set_cons_succ]
  refine wpAnyH_take (i := 9) (oi := ?ois9) (v := ?vs9) ?his9 (by kernel_rfl) (by kernel_rfl) (by kernel_rfl) ?hQs9 (Or.inl ⟨?h1s9, ?hys9⟩) hHeld ?rests9
  case his9 => (simp only [List.getElem?_toArray, List.getElem?_cons_succ, List.getElem?_cons_zero]; rfl)
  case hQs9 => exact fun _ _ _ h => h
  case h1s9 => rfl
  case hys9 => intro V hSV; (try dsimp only at hSV); go_simp; (try with_reducible rfl)
  try simp only [Act.put, List.setIfInBounds_toArray, List.set_cons_zero, List.set_cons_succ]
  refine wpAnyH_take (i := 10) (oi := ?ois10) (v := undef) ?his10 (by kernel_rfl) (by kernel_rfl) (by kernel_rfl) ?hQs10 (Or.inr ⟨?h1s10, rfl⟩) hHeld ?rests10
  case his10 => (simp only [List.getElem?_toArray, List.getElem?_cons_succ, List.getElem?_cons_zero]; rfl)
  case hQs10 => exact fun _ _ _ h => h
  case h1s10 => rfl
  try simp only [Act.put, List.setIfInBounds_toArray, List.set_cons_zero, List.set_cons_succ]
  refine wpAnyH_take (i := 11) (oi := ?ois11) (v := undef) ?his11 (by kernel_rfl) (by kernel_rfl) (by kernel_rfl) ?hQs11 (Or.inr ⟨?h1s11, rfl⟩) hHeld ?rests11
  case his11 => (simp only [List.getElem?_toArray, List.getElem?_cons_succ, List.getElem?_cons_zero]; rfl)
  case hQs11 => exact fun _ _ _ h => h
  case h1s11 => rfl
  try simp only [Act.put, List.setIfInBounds_toArray, List.set_cons_zero, List.set_cons_succ]
  refine wpAnyH_take (i := 12) (oi := ?ois12) (v := undef) ?his12 (by kernel_rfl) (by kernel_rfl) (by kernel_rfl) ?hQs12 (Or.inr ⟨?h1s12, rfl⟩) hHeld ?rests12
  case his12 => (simp only [List.getElem?_toArray, List.getElem?_cons_succ, List.getElem?_cons_zero]; rfl)
  case hQs12 => exact fun _ _ _ h => h
  case h1s12 => rfl
  try simp only [Act.put, List.setIfInBounds_toArray, List.set_cons_zero, List.set_cons_succ]
  refine wpAnyH_take (i := 13) (oi := ?ois13) (v := undef) ?his13 (by kernel_rfl) (by kernel_rfl) (by kernel_rfl) ?hQs13 (Or.inr ⟨?h1s13, rfl⟩) hHeld ?rests13
  case his13 => (simp only [List.getElem?_toArray, List.getElem?_cons_succ, List.getElem?_cons_zero]; rfl)
  case hQs13 => exact fun _ _ _ h => h
  case h1s13 => rfl
  try simp only [Act.put, List.setIfInBounds_toArray, List.set_cons_zero, List.set_cons_succ]
  refine wpAnyH_take (i := 14) (oi := ?ois14) (v := undef) ?his14 (by kernel_rfl) (by kernel_rfl) (by kernel_rfl) ?hQs14 (Or.inr ⟨?h1s14, rfl⟩) hHeld ?rests14
  case his14 => (simp only [List.getElem?_toArray, List.getElem?_cons_succ, List.getElem?_cons_zero]; rfl)
  case hQs14 => exact fun _ _ _ h => h
  case h1s14 => rfl
  try simp only [Act.put, List.setIfInBounds_toArray, List.set_cons_zero, List.set_cons_succ]
  refine wpAnyH_take (i := 15) (oi := ?ois15) (v := undef) ?his15 (by kernel_rfl) (by kernel_rfl) (by kernel_rfl) ?hQs15 (Or.inr ⟨?h1s15, rfl⟩) hHeld ?rests15
  case his15 => (simp only [List.getElem?_toArray, List.getElem?_cons_succ, List.getElem?_cons_zero]; rfl)
  case hQs15 => exact fun _ _ _ h => h
  case h1s15 => rfl
  try simp only [Act.put, List.setIfInBounds_toArray, List.set_cons_zero, List.set_cons_succ]
  refine wpAnyH_take (i := 16) (oi := ?ois16) (v := undef) ?his16 (by kernel_rfl) (by kernel_rfl) (by kernel_rfl) ?hQs16 (Or.inr ⟨?h1s16, rfl⟩) hHeld ?rests16
  case his16 => (simp only [List.getElem?_toArray, List.getElem?_cons_succ, List.getElem?_cons_zero]; rfl)
  case hQs16 => exact fun _ _ _ h => h
  case h1s16 => rfl
  try simp only [Act.put, List.setIfInBounds_toArray, List.set_cons_zero, List.set_cons_succ]
  refine wpAnyH_take (i := 17) (oi := ?ois17) (v := undef) ?his17 (by kernel_rfl) (by kernel_rfl) (by kernel_rfl) ?hQs17 (Or.inr ⟨?h1s17, rfl⟩) hHeld ?rests17
  case his17 => (simp only [List.getElem?_toArray, List.getElem?_cons_succ, List.getElem?_cons_zero]; rfl)
  case hQs17 => exact fun _ _ _ h => h
  case h1s17 => rfl
  try simp only [Act.put, List.setIfInBounds_toArray, List.set_cons_zero, List.set_cons_succ]
  refine wpAnyH_take (i := 18) (oi := ?ois18) (v := undef) ?his18 (by kernel_rfl) (by kernel_rfl) (by kernel_rfl) ?hQs18 (Or.inr ⟨?h1s18, rfl⟩) hHeld ?rests18
  case his18 => (simp only [List.getElem?_toArray, List.getElem?_cons_succ, List.getElem?_cons_zero]; rfl)
  case hQs18 => exact fun _ _ _ h => h
  case h1s18 => rfl
  try simp only [Act.put, List.setIfInBounds_toArray, List.set_cons_zero, List.set_cons_succ]
  refine wpAnyH_take (i := 19) (oi := ?ois19) (v := ?vs19) ?his19 (by kernel_rfl) (by kernel_rfl) (by kernel_rfl) ?hQs19 (Or.inl ⟨?h1s19, ?hys19⟩) hHeld ?rests19
  case his19 => (simp only [List.getElem?_toArray, List.getElem?_cons_succ, List.getElem?_cons_zero]; rfl)
  case hQs19 => exact fun _ _ _ h => h
  case h1s19 => rfl
  case hys19 => intro V hSV; (try dsimp only at hSV); go_simp; (try with_reducible rfl)
  try simp only [Act.put, List.setIfInBounds_toArray, List.set_cons_zero, List.set_cons_succ]
  refine wpAnyH_done (by kernel_rfl) ?_ _
  have HB3 := hide HB1.out.drew.drew
  go_wp2
  go_ret2
  exact ⟨rfl, HB3.out⟩

set_option maxRecDepth 20000 in
set_option maxHeartbeats 8000000 in
theorem ssign_more (lo S D : Nat) (st : DSt) (F : Nat → Prop) (tm k b x t l : Int) (root pub sec rnd : ByteArray) (tot bat nx q bd : Int) (id : ByteArray) (msg z : ByteArray) (w : World) (hB : Blk w S (sgC D tm k b x t l root pub sec rnd tot bat nx q bd id false) 188) (hD : DSk lo D st w F) (hSF : ¬ F S) (htm : st.term = tm) (hsp : nx ≠ tot) (hnb : nx ≠ bd) (hv : IntKind.i64.wrap (nx + 1) = nx + 1) (hT : Tn w) (hTB : 1 < lo) (hlS : lo ≤ S) (hlo : lo ≤ w.heap.size) (hm : msg.size ≤ 200) (hSI : ∀ V : World, Tn V → Calls Tryz.prog 171 #[.agg #[.int .i64 k, .int .i64 b, .int .i64 x, .int .i64 t, .int .i64 l, .string root, .string pub], .agg #[.string sec, .string rnd, .string pub], .int .i64 nx, .string msg] V fun e w' => e = .returned (.string z) ∧ Below V.heap.size V w') :
    Calls Tryz.prog 99 #[.pointer (some ⟨S, 0, none⟩), .string msg] w fun e w' => e = .returned (.tuple #[.string z, .int .i64 0]) ∧ SGL lo S D st (sgC D tm k b x t l root pub sec rnd tot bat (nx + 1) q bd id false) F w w' := by
  have hSl := hB.lt
  have HOV := hide (isOver_no S D tm w hSl hD.ltD (hB.cell 0) (hB.cell 1) (hB.cell 18) (by rw [← htm]; exact hD.term))
  have e1 : (nx == tot) = false := by simpa using hsp
  have e2 : (nx == bd) = false := by simpa using hnb
  have hm2 : (msg.size : Int) ≤ 200 := by omega
  have HS := hide (fun (V : World) (h : Below w.heap.size w V) => (by
    have q1 := hB.on h
    exact ⟨q1.cell 12, q1.cell 14, q1.cell 15, q1.cell 16⟩ : V.cell? ⟨S, 12, none⟩ = some (.int .i64 tot) ∧ V.cell? ⟨S, 14, none⟩ = some (.int .i64 nx) ∧ V.cell? ⟨S, 15, none⟩ = some (.int .i64 q) ∧ V.cell? ⟨S, 16, none⟩ = some (.int .i64 bd)))
  have HSI := hide hSI
  have HSL := hide hSl
  have HSF := hide hSF
  have HL0 := hide (SGL.refl hB hD)
  have HT := hide (fun (V : World) (h : SGL lo S D st (sgC D tm k b x t l root pub sec rnd tot bat (nx + 1) q bd id false) F w V) => hT.below (h.low hlS (fun k hk => (hD.lt k hk).1) hlo) hTB)
  clear hB hD hSF htm hm hsp hnb hSI hT hTB hlS hlo hSl
  go_enter Tryz.func99, Tryz.ntmps99
  go_wp2_with fail
  refine HOV.out.mono ?_
  rintro e w1 ⟨rfl, hb1⟩
  have HB1 := hide hb1
  clear hb1
  go_wp2_with fail
  refine wp_region_held_drew (S := fun V => V.cell? ⟨S, 12, none⟩ = some (.int .i64 tot) ∧ V.cell? ⟨S, 14, none⟩ = some (.int .i64 nx) ∧ V.cell? ⟨S, 15, none⟩ = some (.int .i64 q) ∧ V.cell? ⟨S, 16, none⟩ = some (.int .i64 bd)) (by kernel_rfl) (HS.out _ (HB1.out.drew)) (fun hHeld => ?_)
  refine wpAnyH_take (i := 0) (oi := ?oip0) (v := ?vp0) ?hip0 (by kernel_rfl) (by kernel_rfl) (by kernel_rfl) ?hQp0 (Or.inl ⟨?h1p0, ?hyp0⟩) hHeld ?restp0
  case hip0 => (simp only [List.getElem?_toArray, List.getElem?_cons_zero]; rfl)
  case hQp0 => exact fun _ _ _ h => h
  case h1p0 => rfl
  case hyp0 => intro V hSV; (try dsimp only at hSV); go_simp; (try with_reducible rfl)
  try simp only [Act.put, List.setIfInBounds_toArray, List.set_cons_zero, List.set_cons_succ]
  refine wpAnyH_take (i := 1) (oi := ?oip1) (v := ?vp1) ?hip1 (by kernel_rfl) (by kernel_rfl) (by kernel_rfl) ?hQp1 (Or.inl ⟨?h1p1, ?hyp1⟩) hHeld ?restp1
  case hip1 => (simp only [List.getElem?_toArray, List.getElem?_cons_succ, List.getElem?_cons_zero]; rfl)
  case hQp1 => exact fun _ _ _ h => h
  case h1p1 => rfl
  case hyp1 => intro V hSV; (try dsimp only at hSV); go_simp; (try with_reducible rfl)
  try simp only [Act.put, List.setIfInBounds_toArray, List.set_cons_zero, List.set_cons_succ]
  refine wpAnyH_take (i := 2) (oi := ?oip2) (v := ?vp2) ?hip2 (by kernel_rfl) (by kernel_rfl) (by kernel_rfl) ?hQp2 (Or.inl ⟨?h1p2, ?hyp2⟩) hHeld ?restp2
  case hip2 => (simp only [List.getElem?_toArray, List.getElem?_cons_succ, List.getElem?_cons_zero]; rfl)
  case hQp2 => exact fun _ _ _ h => h
  case h1p2 => rfl
  case hyp2 => intro V hSV; (try dsimp only at hSV); go_simp; (try with_reducible rfl)
  try simp only [Act.put, List.setIfInBounds_toArray, List.set_cons_zero, List.set_cons_succ]
  refine wpAnyH_take (i := 3) (oi := ?oip3) (v := ?vp3) ?hip3 (by kernel_rfl) (by kernel_rfl) (by kernel_rfl) ?hQp3 (Or.inl ⟨?h1p3, ?hyp3⟩) hHeld ?restp3
  case hip3 => (simp only [List.getElem?_toArray, List.getElem?_cons_succ, List.getElem?_cons_zero]; rfl)
  case hQp3 => exact fun _ _ _ h => h
  case h1p3 => rfl
  case hyp3 => intro V hSV; (try dsimp only at hSV); go_simp; (try with_reducible rfl)
  try simp only [Act.put, List.setIfInBounds_toArray, List.set_cons_zero, List.set_cons_succ]
  refine wpAnyH_take (i := 4) (oi := ?oip4) (v := ?vp4) ?hip4 (by kernel_rfl) (by kernel_rfl) (by kernel_rfl) ?hQp4 (Or.inl ⟨?h1p4, ?hyp4⟩) hHeld ?restp4
  case hip4 => (simp only [List.getElem?_toArray, List.getElem?_cons_succ, List.getElem?_cons_zero]; rfl)
  case hQp4 => exact fun _ _ _ h => h
  case h1p4 => rfl
  case hyp4 => intro V hSV; (try dsimp only at hSV); go_simp; (try with_reducible rfl)
  try simp only [Act.put, List.setIfInBounds_toArray, List.set_cons_zero, List.set_cons_succ]
  refine wpAnyH_take (i := 5) (oi := ?oip5) (v := ?vp5) ?hip5 (by kernel_rfl) (by kernel_rfl) (by kernel_rfl) ?hQp5 (Or.inl ⟨?h1p5, ?hyp5⟩) hHeld ?restp5
  case hip5 => (simp only [List.getElem?_toArray, List.getElem?_cons_succ, List.getElem?_cons_zero]; rfl)
  case hQp5 => exact fun _ _ _ h => h
  case h1p5 => rfl
  case hyp5 => intro V hSV; (try dsimp only at hSV); go_simp; (try with_reducible rfl)
  try simp only [Act.put, List.setIfInBounds_toArray, List.set_cons_zero, List.set_cons_succ]
  refine wpAnyH_take (i := 6) (oi := ?oip6) (v := ?vp6) ?hip6 (by kernel_rfl) (by kernel_rfl) (by kernel_rfl) ?hQp6 (Or.inl ⟨?h1p6, ?hyp6⟩) hHeld ?restp6
  case hip6 => (simp only [List.getElem?_toArray, List.getElem?_cons_succ, List.getElem?_cons_zero]; rfl)
  case hQp6 => exact fun _ _ _ h => h
  case h1p6 => rfl
  case hyp6 => intro V hSV; (try dsimp only at hSV); go_simp; (try with_reducible rfl)
  try simp only [Act.put, List.setIfInBounds_toArray, List.set_cons_zero, List.set_cons_succ]
  refine wpAnyH_take (i := 7) (oi := ?oip7) (v := ?vp7) ?hip7 (by kernel_rfl) (by kernel_rfl) (by kernel_rfl) ?hQp7 (Or.inl ⟨?h1p7, ?hyp7⟩) hHeld ?restp7
  case hip7 => (simp only [List.getElem?_toArray, List.getElem?_cons_succ, List.getElem?_cons_zero]; rfl)
  case hQp7 => exact fun _ _ _ h => h
  case h1p7 => rfl
  case hyp7 => intro V hSV; (try dsimp only at hSV); go_simp; (try with_reducible rfl)
  try simp only [Act.put, List.setIfInBounds_toArray, List.set_cons_zero, List.set_cons_succ]
  refine wpAnyH_take (i := 8) (oi := ?oip8) (v := ?vp8) ?hip8 (by kernel_rfl) (by kernel_rfl) (by kernel_rfl) ?hQp8 (Or.inl ⟨?h1p8, ?hyp8⟩) hHeld ?restp8
  case hip8 => (simp only [List.getElem?_toArray, List.getElem?_cons_succ, List.getElem?_cons_zero]; rfl)
  case hQp8 => exact fun _ _ _ h => h
  case h1p8 => rfl
  case hyp8 => intro V hSV; (try dsimp only at hSV); go_simp; (try with_reducible rfl)
  try simp only [Act.put, List.setIfInBounds_toArray, List.set_cons_zero, List.set_cons_succ]
  refine wpAnyH_take (i := 9) (oi := ?oip9) (v := ?vp9) ?hip9 (by kernel_rfl) (by kernel_rfl) (by kernel_rfl) ?hQp9 (Or.inl ⟨?h1p9, ?hyp9⟩) hHeld ?restp9
  case hip9 => (simp only [List.getElem?_toArray, List.getElem?_cons_succ, List.getElem?_cons_zero]; rfl)
  case hQp9 => exact fun _ _ _ h => h
  case h1p9 => rfl
  case hyp9 => intro V hSV; (try dsimp only at hSV); go_simp; (try with_reducible rfl)
  try simp only [Act.put, List.setIfInBounds_toArray, List.set_cons_zero, List.set_cons_succ]
  refine wpAnyH_take (i := 10) (oi := ?oip10) (v := ?vp10) ?hip10 (by kernel_rfl) (by kernel_rfl) (by kernel_rfl) ?hQp10 (Or.inl ⟨?h1p10, ?hyp10⟩) hHeld ?restp10
  case hip10 => (simp only [List.getElem?_toArray, List.getElem?_cons_succ, List.getElem?_cons_zero]; rfl)
  case hQp10 => exact fun _ _ _ h => h
  case h1p10 => rfl
  case hyp10 => intro V hSV; (try dsimp only at hSV); go_simp; (try with_reducible rfl)
  try simp only [Act.put, List.setIfInBounds_toArray, List.set_cons_zero, List.set_cons_succ]
  refine wpAnyH_done (by kernel_rfl) ?_ _
  go_wp2_with fail
  refine wp_region_held_drew (S := fun V => V.cell? ⟨S, 12, none⟩ = some (.int .i64 tot) ∧ V.cell? ⟨S, 14, none⟩ = some (.int .i64 nx) ∧ V.cell? ⟨S, 15, none⟩ = some (.int .i64 q) ∧ V.cell? ⟨S, 16, none⟩ = some (.int .i64 bd)) (by kernel_rfl) (HS.out _ (HB1.out.drew.drew)) (fun hHeld => ?_)
  refine wpAnyH_take (i := 0) (oi := ?ois0) (v := ?vs0) ?his0 (by kernel_rfl) (by kernel_rfl) (by kernel_rfl) ?hQs0 (Or.inl ⟨?h1s0, ?hys0⟩) hHeld ?rests0
  case his0 => (simp only [List.getElem?_toArray, List.getElem?_cons_zero]; rfl)
  case hQs0 => exact fun _ _ _ h => h
  case h1s0 => rfl
  case hys0 => intro V hSV; (try dsimp only at hSV); go_simp; (try with_reducible rfl)
  try simp only [Act.put, List.setIfInBounds_toArray, List.set_cons_zero, List.set_cons_succ]
  refine wpAnyH_take (i := 1) (oi := ?ois1) (v := ?vs1) ?his1 (by kernel_rfl) (by kernel_rfl) (by kernel_rfl) ?hQs1 (Or.inl ⟨?h1s1, ?hys1⟩) hHeld ?rests1
  case his1 => (simp only [List.getElem?_toArray, List.getElem?_cons_succ, List.getElem?_cons_zero]; rfl)
  case hQs1 => exact fun _ _ _ h => h
  case h1s1 => rfl
  case hys1 => intro V hSV; (try dsimp only at hSV); go_simp; (try with_reducible rfl)
  try simp only [Act.put, List.setIfInBounds_toArray, List.set_cons_zero, List.set_cons_succ]
  refine wpAnyH_take (i := 2) (oi := ?ois2) (v := ?vs2) ?his2 (by kernel_rfl) (by kernel_rfl) (by kernel_rfl) ?hQs2 (Or.inl ⟨?h1s2, ?hys2⟩) hHeld ?rests2
  case his2 => (simp only [List.getElem?_toArray, List.getElem?_cons_succ, List.getElem?_cons_zero]; rfl)
  case hQs2 => exact fun _ _ _ h => h
  case h1s2 => rfl
  case hys2 => intro V hSV; (try dsimp only at hSV); go_simp; (try with_reducible rfl)
  try simp only [Act.put, List.setIfInBounds_toArray, List.set_cons_zero, List.set_cons_succ]
  refine wpAnyH_take (i := 3) (oi := ?ois3) (v := ?vs3) ?his3 (by kernel_rfl) (by kernel_rfl) (by kernel_rfl) ?hQs3 (Or.inl ⟨?h1s3, ?hys3⟩) hHeld ?rests3
  case his3 => (simp only [List.getElem?_toArray, List.getElem?_cons_succ, List.getElem?_cons_zero]; rfl)
  case hQs3 => exact fun _ _ _ h => h
  case h1s3 => rfl
  case hys3 => intro V hSV; (try dsimp only at hSV); go_simp; (try with_reducible rfl)
  try simp only [Act.put, List.setIfInBounds_toArray, List.set_cons_zero, List.set_cons_succ]
  refine wpAnyH_take (i := 4) (oi := ?ois4) (v := ?vs4) ?his4 (by kernel_rfl) (by kernel_rfl) (by kernel_rfl) ?hQs4 (Or.inl ⟨?h1s4, ?hys4⟩) hHeld ?rests4
  case his4 => (simp only [List.getElem?_toArray, List.getElem?_cons_succ, List.getElem?_cons_zero]; rfl)
  case hQs4 => exact fun _ _ _ h => h
  case h1s4 => rfl
  case hys4 => intro V hSV; (try dsimp only at hSV); go_simp; (try with_reducible rfl)
  try simp only [Act.put, List.setIfInBounds_toArray, List.set_cons_zero, List.set_cons_succ]
  refine wpAnyH_take (i := 5) (oi := ?ois5) (v := ?vs5) ?his5 (by kernel_rfl) (by kernel_rfl) (by kernel_rfl) ?hQs5 (Or.inl ⟨?h1s5, ?hys5⟩) hHeld ?rests5
  case his5 => (simp only [List.getElem?_toArray, List.getElem?_cons_succ, List.getElem?_cons_zero]; rfl)
  case hQs5 => exact fun _ _ _ h => h
  case h1s5 => rfl
  case hys5 => intro V hSV; (try dsimp only at hSV); go_simp; (try with_reducible rfl)
  try simp only [Act.put, List.setIfInBounds_toArray, List.set_cons_zero, List.set_cons_succ]
  refine wpAnyH_take (i := 6) (oi := ?ois6) (v := ?vs6) ?his6 (by kernel_rfl) (by kernel_rfl) (by kernel_rfl) ?hQs6 (Or.inl ⟨?h1s6, ?hys6⟩) hHeld ?rests6
  case his6 => (simp only [List.getElem?_toArray, List.getElem?_cons_succ, List.getElem?_cons_zero]; rfl)
  case hQs6 => exact fun _ _ _ h => h
  case h1s6 => rfl
  case hys6 => intro V hSV; (try dsimp only at hSV); go_simp; (try with_reducible rfl)
  try simp only [Act.put, List.setIfInBounds_toArray, List.set_cons_zero, List.set_cons_succ]
  refine wpAnyH_take (i := 7) (oi := ?ois7) (v := ?vs7) ?his7 (by kernel_rfl) (by kernel_rfl) (by kernel_rfl) ?hQs7 (Or.inl ⟨?h1s7, ?hys7⟩) hHeld ?rests7
  case his7 => (simp only [List.getElem?_toArray, List.getElem?_cons_succ, List.getElem?_cons_zero]; rfl)
  case hQs7 => exact fun _ _ _ h => h
  case h1s7 => rfl
  case hys7 => intro V hSV; (try dsimp only at hSV); go_simp; (try with_reducible rfl)
  try simp only [Act.put, List.setIfInBounds_toArray, List.set_cons_zero, List.set_cons_succ]
  refine wpAnyH_take (i := 8) (oi := ?ois8) (v := ?vs8) ?his8 (by kernel_rfl) (by kernel_rfl) (by kernel_rfl) ?hQs8 (Or.inl ⟨?h1s8, ?hys8⟩) hHeld ?rests8
  case his8 => (simp only [List.getElem?_toArray, List.getElem?_cons_succ, List.getElem?_cons_zero]; rfl)
  case hQs8 => exact fun _ _ _ h => h
  case h1s8 => rfl
  case hys8 => intro V hSV; (try dsimp only at hSV); go_simp; (try with_reducible rfl)
  try simp only [Act.put, List.setIfInBounds_toArray, List.set_cons_zero, List.set_cons_succ]
  refine wpAnyH_take (i := 9) (oi := ?ois9) (v := ?vs9) ?his9 (by kernel_rfl) (by kernel_rfl) (by kernel_rfl) ?hQs9 (Or.inl ⟨?h1s9, ?hys9⟩) hHeld ?rests9
  case his9 => (simp only [List.getElem?_toArray, List.getElem?_cons_succ, List.getElem?_cons_zero]; rfl)
  case hQs9 => exact fun _ _ _ h => h
  case h1s9 => rfl
  case hys9 => intro V hSV; (try dsimp only at hSV); go_simp; (try with_reducible rfl)
  try simp only [Act.put, List.setIfInBounds_toArray, List.set_cons_zero, List.set_cons_succ]
  refine wpAnyH_take (i := 10) (oi := ?ois10) (v := ?vs10) ?his10 (by kernel_rfl) (by kernel_rfl) (by kernel_rfl) ?hQs10 (Or.inl ⟨?h1s10, ?hys10⟩) hHeld ?rests10
  case his10 => (simp only [List.getElem?_toArray, List.getElem?_cons_succ, List.getElem?_cons_zero]; rfl)
  case hQs10 => exact fun _ _ _ h => h
  case h1s10 => rfl
  case hys10 => intro V hSV; (try dsimp only at hSV); go_simp; (try with_reducible rfl)
  try simp only [Act.put, List.setIfInBounds_toArray, List.set_cons_zero, List.set_cons_succ]
  refine wpAnyH_take (i := 11) (oi := ?ois11) (v := ?vs11) ?his11 (by kernel_rfl) (by kernel_rfl) (by kernel_rfl) ?hQs11 (Or.inl ⟨?h1s11, ?hys11⟩) hHeld ?rests11
  case his11 => (simp only [List.getElem?_toArray, List.getElem?_cons_succ, List.getElem?_cons_zero]; rfl)
  case hQs11 => exact fun _ _ _ h => h
  case h1s11 => rfl
  case hys11 => intro V hSV; (try dsimp only at hSV); go_simp; (try with_reducible rfl)
  try simp only [Act.put, List.setIfInBounds_toArray, List.set_cons_zero, List.set_cons_succ]
  refine wpAnyH_take (i := 12) (oi := ?ois12) (v := undef) ?his12 (by kernel_rfl) (by kernel_rfl) (by kernel_rfl) ?hQs12 (Or.inr ⟨?h1s12, rfl⟩) hHeld ?rests12
  case his12 => (simp only [List.getElem?_toArray, List.getElem?_cons_succ, List.getElem?_cons_zero]; rfl)
  case hQs12 => exact fun _ _ _ h => h
  case h1s12 => rfl
  try simp only [Act.put, List.setIfInBounds_toArray, List.set_cons_zero, List.set_cons_succ]
  refine wpAnyH_take (i := 13) (oi := ?ois13) (v := undef) ?his13 (by kernel_rfl) (by kernel_rfl) (by kernel_rfl) ?hQs13 (Or.inr ⟨?h1s13, rfl⟩) hHeld ?rests13
  case his13 => (simp only [List.getElem?_toArray, List.getElem?_cons_succ, List.getElem?_cons_zero]; rfl)
  case hQs13 => exact fun _ _ _ h => h
  case h1s13 => rfl
  try simp only [Act.put, List.setIfInBounds_toArray, List.set_cons_zero, List.set_cons_succ]
  refine wpAnyH_take (i := 14) (oi := ?ois14) (v := undef) ?his14 (by kernel_rfl) (by kernel_rfl) (by kernel_rfl) ?hQs14 (Or.inr ⟨?h1s14, rfl⟩) hHeld ?rests14
  case his14 => (simp only [List.getElem?_toArray, List.getElem?_cons_succ, List.getElem?_cons_zero]; rfl)
  case hQs14 => exact fun _ _ _ h => h
  case h1s14 => rfl
  try simp only [Act.put, List.setIfInBounds_toArray, List.set_cons_zero, List.set_cons_succ]
  refine wpAnyH_take (i := 15) (oi := ?ois15) (v := undef) ?his15 (by kernel_rfl) (by kernel_rfl) (by kernel_rfl) ?hQs15 (Or.inr ⟨?h1s15, rfl⟩) hHeld ?rests15
  case his15 => (simp only [List.getElem?_toArray, List.getElem?_cons_succ, List.getElem?_cons_zero]; rfl)
  case hQs15 => exact fun _ _ _ h => h
  case h1s15 => rfl
  try simp only [Act.put, List.setIfInBounds_toArray, List.set_cons_zero, List.set_cons_succ]
  refine wpAnyH_take (i := 16) (oi := ?ois16) (v := undef) ?his16 (by kernel_rfl) (by kernel_rfl) (by kernel_rfl) ?hQs16 (Or.inr ⟨?h1s16, rfl⟩) hHeld ?rests16
  case his16 => (simp only [List.getElem?_toArray, List.getElem?_cons_succ, List.getElem?_cons_zero]; rfl)
  case hQs16 => exact fun _ _ _ h => h
  case h1s16 => rfl
  try simp only [Act.put, List.setIfInBounds_toArray, List.set_cons_zero, List.set_cons_succ]
  refine wpAnyH_take (i := 17) (oi := ?ois17) (v := undef) ?his17 (by kernel_rfl) (by kernel_rfl) (by kernel_rfl) ?hQs17 (Or.inr ⟨?h1s17, rfl⟩) hHeld ?rests17
  case his17 => (simp only [List.getElem?_toArray, List.getElem?_cons_succ, List.getElem?_cons_zero]; rfl)
  case hQs17 => exact fun _ _ _ h => h
  case h1s17 => rfl
  try simp only [Act.put, List.setIfInBounds_toArray, List.set_cons_zero, List.set_cons_succ]
  refine wpAnyH_take (i := 18) (oi := ?ois18) (v := ?vs18) ?his18 (by kernel_rfl) (by kernel_rfl) (by kernel_rfl) ?hQs18 (Or.inl ⟨?h1s18, ?hys18⟩) hHeld ?rests18
  case his18 => (simp only [List.getElem?_toArray, List.getElem?_cons_succ, List.getElem?_cons_zero]; rfl)
  case hQs18 => exact fun _ _ _ h => h
  case h1s18 => rfl
  case hys18 => intro V hSV; (try dsimp only at hSV); go_simp; (try with_reducible rfl)
  try simp only [Act.put, List.setIfInBounds_toArray, List.set_cons_zero, List.set_cons_succ]
  refine wpAnyH_take (i := 19) (oi := ?ois19) (v := ?vs19) ?his19 (by kernel_rfl) (by kernel_rfl) (by kernel_rfl) ?hQs19 (Or.inl ⟨?h1s19, ?hys19⟩) hHeld ?rests19
  case his19 => (simp only [List.getElem?_toArray, List.getElem?_cons_succ, List.getElem?_cons_zero]; rfl)
  case hQs19 => exact fun _ _ _ h => h
  case h1s19 => rfl
  case hys19 => intro V hSV; (try dsimp only at hSV); go_simp; (try with_reducible rfl)
  try simp only [Act.put, List.setIfInBounds_toArray, List.set_cons_zero, List.set_cons_succ]
  refine wpAnyH_done (by kernel_rfl) ?_ _
  have HL1 := hide (HL0.out.then HB1.out.drew.drew)
  clear HS HB1
  generalize w1.drew.drew = w2 at HL1 ⊢
  have HS9 := hide (fun (V : World) (h : Blk V S (sgC D tm k b x t l root pub sec rnd tot bat (nx + 1) q bd id false) 188) => (⟨h.cell 2, h.cell 3, h.cell 4, h.cell 5, h.cell 6, h.cell 7, h.cell 8, h.cell 9, h.cell 10, h.cell 11⟩ : V.cell? ⟨S, 2, none⟩ = some (.int .i64 k) ∧ V.cell? ⟨S, 3, none⟩ = some (.int .i64 b) ∧ V.cell? ⟨S, 4, none⟩ = some (.int .i64 x) ∧ V.cell? ⟨S, 5, none⟩ = some (.int .i64 t) ∧ V.cell? ⟨S, 6, none⟩ = some (.int .i64 l) ∧ V.cell? ⟨S, 7, none⟩ = some (.string root) ∧ V.cell? ⟨S, 8, none⟩ = some (.string pub) ∧ V.cell? ⟨S, 9, none⟩ = some (.string sec) ∧ V.cell? ⟨S, 10, none⟩ = some (.string rnd) ∧ V.cell? ⟨S, 11, none⟩ = some (.string pub)))
  have c14 : w2.cell? ⟨S, 14, none⟩ = some (.int .i64 nx) := HL1.out.1.cell 14
  have g14 := HL1.out.1.free 14
  have HL9 := hide (HL1.out.set HSL.out HSF.out 14 (.int .i64 (nx + 1)))
  go_wp2_with fail
  generalize w2.setCell ⟨S, 14, none⟩ (.int .i64 (nx + 1)) = W9 at HL9 ⊢
  clear c14 g14
  have hS := HL9.out.then (Below.refl _ W9).drew
  have HT9 := hide (HT.out _ hS)
  go_region_held3 (fun V => V.cell? ⟨S, 2, none⟩ = some (.int .i64 k) ∧ V.cell? ⟨S, 3, none⟩ = some (.int .i64 b) ∧ V.cell? ⟨S, 4, none⟩ = some (.int .i64 x) ∧ V.cell? ⟨S, 5, none⟩ = some (.int .i64 t) ∧ V.cell? ⟨S, 6, none⟩ = some (.int .i64 l) ∧ V.cell? ⟨S, 7, none⟩ = some (.string root) ∧ V.cell? ⟨S, 8, none⟩ = some (.string pub) ∧ V.cell? ⟨S, 9, none⟩ = some (.string sec) ∧ V.cell? ⟨S, 10, none⟩ = some (.string rnd) ∧ V.cell? ⟨S, 11, none⟩ = some (.string pub)) (exact HS9.out _ hS.1) (first | (go_at_call 171; refine (HSI.out _ HT9.out).mono ?_; rintro e wN ⟨rfl, hbN⟩; have hS := hS.then hbN))
  have HX := hide hS
  clear hS
  go_wp2
  go_ret2
  exact ⟨rfl, HX.out⟩

set_option maxRecDepth 20000 in
set_option maxHeartbeats 8000000 in
theorem ssign_res (lo S D : Nat) (st : DSt) (F : Nat → Prop) (tm k b x t l : Int) (root pub sec rnd : ByteArray) (tot bat nx q bd : Int) (id : ByteArray) (msg z : ByteArray) (nb : Int) (s2 : DSt) (w : World) (hB : Blk w S (sgC D tm k b x t l root pub sec rnd tot bat nx q bd id false) 188) (hD : DSk lo D st w F) (hSF : ¬ F S) (htm : st.term = tm) (hsp : nx ≠ tot) (hnb : nx = bd) (hq : q ≠ 2147483647) (hv : IntKind.i64.wrap (nx + 1) = nx + 1) (hT : Tn w) (hTB : 1 < lo) (hlS : lo ≤ S) (hlo : lo ≤ w.heap.size) (hm : msg.size ≤ 200) (hSI : ∀ V : World, Tn V → Calls Tryz.prog 171 #[.agg #[.int .i64 k, .int .i64 b, .int .i64 x, .int .i64 t, .int .i64 l, .string root, .string pub], .agg #[.string sec, .string rnd, .string pub], .int .i64 nx, .string msg] V fun e w' => e = .returned (.string z) ∧ Below V.heap.size V w')
    (hRS : ∀ V : World, Below w.heap.size w V → Calls Tryz.prog 116 #[.pointer (some ⟨S, 0, none⟩), .int .i64 bat] V fun e w' => e = .returned (.int .i64 0) ∧ SGL lo S D s2 (sgC D tm k b x t l root pub sec rnd tot bat nx (q + 1) nb id false) F V w') :
    Calls Tryz.prog 99 #[.pointer (some ⟨S, 0, none⟩), .string msg] w fun e w' => e = .returned (.tuple #[.string z, .int .i64 0]) ∧ SGL lo S D s2 (sgC D tm k b x t l root pub sec rnd tot bat (nx + 1) (q + 1) nb id false) F w w' := by
  have hSl := hB.lt
  have HOV := hide (isOver_no S D tm w hSl hD.ltD (hB.cell 0) (hB.cell 1) (hB.cell 18) (by rw [← htm]; exact hD.term))
  have e1 : (nx == tot) = false := by simpa using hsp
  have e2 : (nx == bd) = true := by simpa using hnb
  have e3 : (q == 2147483647) = false := by simpa using hq
  have hm2 : (msg.size : Int) ≤ 200 := by omega
  have HS := hide (fun (V : World) (h : Below w.heap.size w V) => (by
    have q1 := hB.on h
    exact ⟨q1.cell 12, q1.cell 14, q1.cell 15, q1.cell 16⟩ : V.cell? ⟨S, 12, none⟩ = some (.int .i64 tot) ∧ V.cell? ⟨S, 14, none⟩ = some (.int .i64 nx) ∧ V.cell? ⟨S, 15, none⟩ = some (.int .i64 q) ∧ V.cell? ⟨S, 16, none⟩ = some (.int .i64 bd)))
  have HSI := hide hSI
  have HRS := hide hRS
  have HSL := hide hSl
  have HSF := hide hSF
  have HBK := hide hB
  have HT := hide (fun (V : World) (h : SGL lo S D s2 (sgC D tm k b x t l root pub sec rnd tot bat (nx + 1) (q + 1) nb id false) F w V) => hT.below (h.low hlS (fun k hk => (hD.lt k hk).1) hlo) hTB)
  clear hB hD hSF htm hm hsp hnb hSI hT hTB hlS hlo hSl hRS hq
  go_enter Tryz.func99, Tryz.ntmps99
  go_wp2_with fail
  refine HOV.out.mono ?_
  rintro e w1 ⟨rfl, hb1⟩
  have HB1 := hide hb1
  clear hb1
  go_wp2_with fail
  refine wp_region_held_drew (S := fun V => V.cell? ⟨S, 12, none⟩ = some (.int .i64 tot) ∧ V.cell? ⟨S, 14, none⟩ = some (.int .i64 nx) ∧ V.cell? ⟨S, 15, none⟩ = some (.int .i64 q) ∧ V.cell? ⟨S, 16, none⟩ = some (.int .i64 bd)) (by kernel_rfl) (HS.out _ (HB1.out.drew)) (fun hHeld => ?_)
  refine wpAnyH_take (i := 0) (oi := ?oip0) (v := ?vp0) ?hip0 (by kernel_rfl) (by kernel_rfl) (by kernel_rfl) ?hQp0 (Or.inl ⟨?h1p0, ?hyp0⟩) hHeld ?restp0
  case hip0 => (simp only [List.getElem?_toArray, List.getElem?_cons_zero]; rfl)
  case hQp0 => exact fun _ _ _ h => h
  case h1p0 => rfl
  case hyp0 => intro V hSV; (try dsimp only at hSV); go_simp; (try with_reducible rfl)
  try simp only [Act.put, List.setIfInBounds_toArray, List.set_cons_zero, List.set_cons_succ]
  refine wpAnyH_take (i := 1) (oi := ?oip1) (v := ?vp1) ?hip1 (by kernel_rfl) (by kernel_rfl) (by kernel_rfl) ?hQp1 (Or.inl ⟨?h1p1, ?hyp1⟩) hHeld ?restp1
  case hip1 => (simp only [List.getElem?_toArray, List.getElem?_cons_succ, List.getElem?_cons_zero]; rfl)
  case hQp1 => exact fun _ _ _ h => h
  case h1p1 => rfl
  case hyp1 => intro V hSV; (try dsimp only at hSV); go_simp; (try with_reducible rfl)
  try simp only [Act.put, List.setIfInBounds_toArray, List.set_cons_zero, List.set_cons_succ]
  refine wpAnyH_take (i := 2) (oi := ?oip2) (v := ?vp2) ?hip2 (by kernel_rfl) (by kernel_rfl) (by kernel_rfl) ?hQp2 (Or.inl ⟨?h1p2, ?hyp2⟩) hHeld ?restp2
  case hip2 => (simp only [List.getElem?_toArray, List.getElem?_cons_succ, List.getElem?_cons_zero]; rfl)
  case hQp2 => exact fun _ _ _ h => h
  case h1p2 => rfl
  case hyp2 => intro V hSV; (try dsimp only at hSV); go_simp; (try with_reducible rfl)
  try simp only [Act.put, List.setIfInBounds_toArray, List.set_cons_zero, List.set_cons_succ]
  refine wpAnyH_take (i := 3) (oi := ?oip3) (v := ?vp3) ?hip3 (by kernel_rfl) (by kernel_rfl) (by kernel_rfl) ?hQp3 (Or.inl ⟨?h1p3, ?hyp3⟩) hHeld ?restp3
  case hip3 => (simp only [List.getElem?_toArray, List.getElem?_cons_succ, List.getElem?_cons_zero]; rfl)
  case hQp3 => exact fun _ _ _ h => h
  case h1p3 => rfl
  case hyp3 => intro V hSV; (try dsimp only at hSV); go_simp; (try with_reducible rfl)
  try simp only [Act.put, List.setIfInBounds_toArray, List.set_cons_zero, List.set_cons_succ]
  refine wpAnyH_take (i := 4) (oi := ?oip4) (v := ?vp4) ?hip4 (by kernel_rfl) (by kernel_rfl) (by kernel_rfl) ?hQp4 (Or.inl ⟨?h1p4, ?hyp4⟩) hHeld ?restp4
  case hip4 => (simp only [List.getElem?_toArray, List.getElem?_cons_succ, List.getElem?_cons_zero]; rfl)
  case hQp4 => exact fun _ _ _ h => h
  case h1p4 => rfl
  case hyp4 => intro V hSV; (try dsimp only at hSV); go_simp; (try with_reducible rfl)
  try simp only [Act.put, List.setIfInBounds_toArray, List.set_cons_zero, List.set_cons_succ]
  refine wpAnyH_take (i := 5) (oi := ?oip5) (v := ?vp5) ?hip5 (by kernel_rfl) (by kernel_rfl) (by kernel_rfl) ?hQp5 (Or.inl ⟨?h1p5, ?hyp5⟩) hHeld ?restp5
  case hip5 => (simp only [List.getElem?_toArray, List.getElem?_cons_succ, List.getElem?_cons_zero]; rfl)
  case hQp5 => exact fun _ _ _ h => h
  case h1p5 => rfl
  case hyp5 => intro V hSV; (try dsimp only at hSV); go_simp; (try with_reducible rfl)
  try simp only [Act.put, List.setIfInBounds_toArray, List.set_cons_zero, List.set_cons_succ]
  refine wpAnyH_take (i := 6) (oi := ?oip6) (v := ?vp6) ?hip6 (by kernel_rfl) (by kernel_rfl) (by kernel_rfl) ?hQp6 (Or.inl ⟨?h1p6, ?hyp6⟩) hHeld ?restp6
  case hip6 => (simp only [List.getElem?_toArray, List.getElem?_cons_succ, List.getElem?_cons_zero]; rfl)
  case hQp6 => exact fun _ _ _ h => h
  case h1p6 => rfl
  case hyp6 => intro V hSV; (try dsimp only at hSV); go_simp; (try with_reducible rfl)
  try simp only [Act.put, List.setIfInBounds_toArray, List.set_cons_zero, List.set_cons_succ]
  refine wpAnyH_take (i := 7) (oi := ?oip7) (v := ?vp7) ?hip7 (by kernel_rfl) (by kernel_rfl) (by kernel_rfl) ?hQp7 (Or.inl ⟨?h1p7, ?hyp7⟩) hHeld ?restp7
  case hip7 => (simp only [List.getElem?_toArray, List.getElem?_cons_succ, List.getElem?_cons_zero]; rfl)
  case hQp7 => exact fun _ _ _ h => h
  case h1p7 => rfl
  case hyp7 => intro V hSV; (try dsimp only at hSV); go_simp; (try with_reducible rfl)
  try simp only [Act.put, List.setIfInBounds_toArray, List.set_cons_zero, List.set_cons_succ]
  refine wpAnyH_take (i := 8) (oi := ?oip8) (v := ?vp8) ?hip8 (by kernel_rfl) (by kernel_rfl) (by kernel_rfl) ?hQp8 (Or.inl ⟨?h1p8, ?hyp8⟩) hHeld ?restp8
  case hip8 => (simp only [List.getElem?_toArray, List.getElem?_cons_succ, List.getElem?_cons_zero]; rfl)
  case hQp8 => exact fun _ _ _ h => h
  case h1p8 => rfl
  case hyp8 => intro V hSV; (try dsimp only at hSV); go_simp; (try with_reducible rfl)
  try simp only [Act.put, List.setIfInBounds_toArray, List.set_cons_zero, List.set_cons_succ]
  refine wpAnyH_take (i := 9) (oi := ?oip9) (v := ?vp9) ?hip9 (by kernel_rfl) (by kernel_rfl) (by kernel_rfl) ?hQp9 (Or.inl ⟨?h1p9, ?hyp9⟩) hHeld ?restp9
  case hip9 => (simp only [List.getElem?_toArray, List.getElem?_cons_succ, List.getElem?_cons_zero]; rfl)
  case hQp9 => exact fun _ _ _ h => h
  case h1p9 => rfl
  case hyp9 => intro V hSV; (try dsimp only at hSV); go_simp; (try with_reducible rfl)
  try simp only [Act.put, List.setIfInBounds_toArray, List.set_cons_zero, List.set_cons_succ]
  refine wpAnyH_take (i := 10) (oi := ?oip10) (v := ?vp10) ?hip10 (by kernel_rfl) (by kernel_rfl) (by kernel_rfl) ?hQp10 (Or.inl ⟨?h1p10, ?hyp10⟩) hHeld ?restp10
  case hip10 => (simp only [List.getElem?_toArray, List.getElem?_cons_succ, List.getElem?_cons_zero]; rfl)
  case hQp10 => exact fun _ _ _ h => h
  case h1p10 => rfl
  case hyp10 => intro V hSV; (try dsimp only at hSV); go_simp; (try with_reducible rfl)
  try simp only [Act.put, List.setIfInBounds_toArray, List.set_cons_zero, List.set_cons_succ]
  refine wpAnyH_done (by kernel_rfl) ?_ _
  go_wp2_with fail
  refine wp_region_held_drew (S := fun V => V.cell? ⟨S, 12, none⟩ = some (.int .i64 tot) ∧ V.cell? ⟨S, 14, none⟩ = some (.int .i64 nx) ∧ V.cell? ⟨S, 15, none⟩ = some (.int .i64 q) ∧ V.cell? ⟨S, 16, none⟩ = some (.int .i64 bd)) (by kernel_rfl) (HS.out _ (HB1.out.drew.drew)) (fun hHeld => ?_)
  refine wpAnyH_take (i := 0) (oi := ?ois0) (v := ?vs0) ?his0 (by kernel_rfl) (by kernel_rfl) (by kernel_rfl) ?hQs0 (Or.inl ⟨?h1s0, ?hys0⟩) hHeld ?rests0
  case his0 => (simp only [List.getElem?_toArray, List.getElem?_cons_zero]; rfl)
  case hQs0 => exact fun _ _ _ h => h
  case h1s0 => rfl
  case hys0 => intro V hSV; (try dsimp only at hSV); go_simp; (try with_reducible rfl)
  try simp only [Act.put, List.setIfInBounds_toArray, List.set_cons_zero, List.set_cons_succ]
  refine wpAnyH_take (i := 1) (oi := ?ois1) (v := ?vs1) ?his1 (by kernel_rfl) (by kernel_rfl) (by kernel_rfl) ?hQs1 (Or.inl ⟨?h1s1, ?hys1⟩) hHeld ?rests1
  case his1 => (simp only [List.getElem?_toArray, List.getElem?_cons_succ, List.getElem?_cons_zero]; rfl)
  case hQs1 => exact fun _ _ _ h => h
  case h1s1 => rfl
  case hys1 => intro V hSV; (try dsimp only at hSV); go_simp; (try with_reducible rfl)
  try simp only [Act.put, List.setIfInBounds_toArray, List.set_cons_zero, List.set_cons_succ]
  refine wpAnyH_take (i := 2) (oi := ?ois2) (v := ?vs2) ?his2 (by kernel_rfl) (by kernel_rfl) (by kernel_rfl) ?hQs2 (Or.inl ⟨?h1s2, ?hys2⟩) hHeld ?rests2
  case his2 => (simp only [List.getElem?_toArray, List.getElem?_cons_succ, List.getElem?_cons_zero]; rfl)
  case hQs2 => exact fun _ _ _ h => h
  case h1s2 => rfl
  case hys2 => intro V hSV; (try dsimp only at hSV); go_simp; (try with_reducible rfl)
  try simp only [Act.put, List.setIfInBounds_toArray, List.set_cons_zero, List.set_cons_succ]
  refine wpAnyH_take (i := 3) (oi := ?ois3) (v := ?vs3) ?his3 (by kernel_rfl) (by kernel_rfl) (by kernel_rfl) ?hQs3 (Or.inl ⟨?h1s3, ?hys3⟩) hHeld ?rests3
  case his3 => (simp only [List.getElem?_toArray, List.getElem?_cons_succ, List.getElem?_cons_zero]; rfl)
  case hQs3 => exact fun _ _ _ h => h
  case h1s3 => rfl
  case hys3 => intro V hSV; (try dsimp only at hSV); go_simp; (try with_reducible rfl)
  try simp only [Act.put, List.setIfInBounds_toArray, List.set_cons_zero, List.set_cons_succ]
  refine wpAnyH_take (i := 4) (oi := ?ois4) (v := ?vs4) ?his4 (by kernel_rfl) (by kernel_rfl) (by kernel_rfl) ?hQs4 (Or.inl ⟨?h1s4, ?hys4⟩) hHeld ?rests4
  case his4 => (simp only [List.getElem?_toArray, List.getElem?_cons_succ, List.getElem?_cons_zero]; rfl)
  case hQs4 => exact fun _ _ _ h => h
  case h1s4 => rfl
  case hys4 => intro V hSV; (try dsimp only at hSV); go_simp; (try with_reducible rfl)
  try simp only [Act.put, List.setIfInBounds_toArray, List.set_cons_zero, List.set_cons_succ]
  refine wpAnyH_take (i := 5) (oi := ?ois5) (v := ?vs5) ?his5 (by kernel_rfl) (by kernel_rfl) (by kernel_rfl) ?hQs5 (Or.inl ⟨?h1s5, ?hys5⟩) hHeld ?rests5
  case his5 => (simp only [List.getElem?_toArray, List.getElem?_cons_succ, List.getElem?_cons_zero]; rfl)
  case hQs5 => exact fun _ _ _ h => h
  case h1s5 => rfl
  case hys5 => intro V hSV; (try dsimp only at hSV); go_simp; (try with_reducible rfl)
  try simp only [Act.put, List.setIfInBounds_toArray, List.set_cons_zero, List.set_cons_succ]
  refine wpAnyH_take (i := 6) (oi := ?ois6) (v := ?vs6) ?his6 (by kernel_rfl) (by kernel_rfl) (by kernel_rfl) ?hQs6 (Or.inl ⟨?h1s6, ?hys6⟩) hHeld ?rests6
  case his6 => (simp only [List.getElem?_toArray, List.getElem?_cons_succ, List.getElem?_cons_zero]; rfl)
  case hQs6 => exact fun _ _ _ h => h
  case h1s6 => rfl
  case hys6 => intro V hSV; (try dsimp only at hSV); go_simp; (try with_reducible rfl)
  try simp only [Act.put, List.setIfInBounds_toArray, List.set_cons_zero, List.set_cons_succ]
  refine wpAnyH_take (i := 7) (oi := ?ois7) (v := ?vs7) ?his7 (by kernel_rfl) (by kernel_rfl) (by kernel_rfl) ?hQs7 (Or.inl ⟨?h1s7, ?hys7⟩) hHeld ?rests7
  case his7 => (simp only [List.getElem?_toArray, List.getElem?_cons_succ, List.getElem?_cons_zero]; rfl)
  case hQs7 => exact fun _ _ _ h => h
  case h1s7 => rfl
  case hys7 => intro V hSV; (try dsimp only at hSV); go_simp; (try with_reducible rfl)
  try simp only [Act.put, List.setIfInBounds_toArray, List.set_cons_zero, List.set_cons_succ]
  refine wpAnyH_take (i := 8) (oi := ?ois8) (v := ?vs8) ?his8 (by kernel_rfl) (by kernel_rfl) (by kernel_rfl) ?hQs8 (Or.inl ⟨?h1s8, ?hys8⟩) hHeld ?rests8
  case his8 => (simp only [List.getElem?_toArray, List.getElem?_cons_succ, List.getElem?_cons_zero]; rfl)
  case hQs8 => exact fun _ _ _ h => h
  case h1s8 => rfl
  case hys8 => intro V hSV; (try dsimp only at hSV); go_simp; (try with_reducible rfl)
  try simp only [Act.put, List.setIfInBounds_toArray, List.set_cons_zero, List.set_cons_succ]
  refine wpAnyH_take (i := 9) (oi := ?ois9) (v := ?vs9) ?his9 (by kernel_rfl) (by kernel_rfl) (by kernel_rfl) ?hQs9 (Or.inl ⟨?h1s9, ?hys9⟩) hHeld ?rests9
  case his9 => (simp only [List.getElem?_toArray, List.getElem?_cons_succ, List.getElem?_cons_zero]; rfl)
  case hQs9 => exact fun _ _ _ h => h
  case h1s9 => rfl
  case hys9 => intro V hSV; (try dsimp only at hSV); go_simp; (try with_reducible rfl)
  try simp only [Act.put, List.setIfInBounds_toArray, List.set_cons_zero, List.set_cons_succ]
  refine wpAnyH_take (i := 10) (oi := ?ois10) (v := ?vs10) ?his10 (by kernel_rfl) (by kernel_rfl) (by kernel_rfl) ?hQs10 (Or.inl ⟨?h1s10, ?hys10⟩) hHeld ?rests10
  case his10 => (simp only [List.getElem?_toArray, List.getElem?_cons_succ, List.getElem?_cons_zero]; rfl)
  case hQs10 => exact fun _ _ _ h => h
  case h1s10 => rfl
  case hys10 => intro V hSV; (try dsimp only at hSV); go_simp; (try with_reducible rfl)
  try simp only [Act.put, List.setIfInBounds_toArray, List.set_cons_zero, List.set_cons_succ]
  refine wpAnyH_take (i := 11) (oi := ?ois11) (v := ?vs11) ?his11 (by kernel_rfl) (by kernel_rfl) (by kernel_rfl) ?hQs11 (Or.inl ⟨?h1s11, ?hys11⟩) hHeld ?rests11
  case his11 => (simp only [List.getElem?_toArray, List.getElem?_cons_succ, List.getElem?_cons_zero]; rfl)
  case hQs11 => exact fun _ _ _ h => h
  case h1s11 => rfl
  case hys11 => intro V hSV; (try dsimp only at hSV); go_simp; (try with_reducible rfl)
  try simp only [Act.put, List.setIfInBounds_toArray, List.set_cons_zero, List.set_cons_succ]
  refine wpAnyH_take (i := 12) (oi := ?ois12) (v := ?vs12) ?his12 (by kernel_rfl) (by kernel_rfl) (by kernel_rfl) ?hQs12 (Or.inl ⟨?h1s12, ?hys12⟩) hHeld ?rests12
  case his12 => (simp only [List.getElem?_toArray, List.getElem?_cons_succ, List.getElem?_cons_zero]; rfl)
  case hQs12 => exact fun _ _ _ h => h
  case h1s12 => rfl
  case hys12 => intro V hSV; (try dsimp only at hSV); go_simp; (try with_reducible rfl)
  try simp only [Act.put, List.setIfInBounds_toArray, List.set_cons_zero, List.set_cons_succ]
  refine wpAnyH_take (i := 13) (oi := ?ois13) (v := ?vs13) ?his13 (by kernel_rfl) (by kernel_rfl) (by kernel_rfl) ?hQs13 (Or.inl ⟨?h1s13, ?hys13⟩) hHeld ?rests13
  case his13 => (simp only [List.getElem?_toArray, List.getElem?_cons_succ, List.getElem?_cons_zero]; rfl)
  case hQs13 => exact fun _ _ _ h => h
  case h1s13 => rfl
  case hys13 => intro V hSV; (try dsimp only at hSV); go_simp; (try with_reducible rfl)
  try simp only [Act.put, List.setIfInBounds_toArray, List.set_cons_zero, List.set_cons_succ]
  refine wpAnyH_take (i := 14) (oi := ?ois14) (v := ?vs14) ?his14 (by kernel_rfl) (by kernel_rfl) (by kernel_rfl) ?hQs14 (Or.inl ⟨?h1s14, ?hys14⟩) hHeld ?rests14
  case his14 => (simp only [List.getElem?_toArray, List.getElem?_cons_succ, List.getElem?_cons_zero]; rfl)
  case hQs14 => exact fun _ _ _ h => h
  case h1s14 => rfl
  case hys14 => intro V hSV; (try dsimp only at hSV); go_simp; (try with_reducible rfl)
  try simp only [Act.put, List.setIfInBounds_toArray, List.set_cons_zero, List.set_cons_succ]
  refine wpAnyH_take (i := 15) (oi := ?ois15) (v := ?vs15) ?his15 (by kernel_rfl) (by kernel_rfl) (by kernel_rfl) ?hQs15 (Or.inl ⟨?h1s15, ?hys15⟩) hHeld ?rests15
  case his15 => (simp only [List.getElem?_toArray, List.getElem?_cons_succ, List.getElem?_cons_zero]; rfl)
  case hQs15 => exact fun _ _ _ h => h
  case h1s15 => rfl
  case hys15 => intro V hSV; (try dsimp only at hSV); go_simp; (try with_reducible rfl)
  try simp only [Act.put, List.setIfInBounds_toArray, List.set_cons_zero, List.set_cons_succ]
  refine wpAnyH_take (i := 16) (oi := ?ois16) (v := ?vs16) ?his16 (by kernel_rfl) (by kernel_rfl) (by kernel_rfl) ?hQs16 (Or.inl ⟨?h1s16, ?hys16⟩) hHeld ?rests16
  case his16 => (simp only [List.getElem?_toArray, List.getElem?_cons_succ, List.getElem?_cons_zero]; rfl)
  case hQs16 => exact fun _ _ _ h => h
  case h1s16 => rfl
  case hys16 => intro V hSV; (try dsimp only at hSV); go_simp; (try with_reducible rfl)
  try simp only [Act.put, List.setIfInBounds_toArray, List.set_cons_zero, List.set_cons_succ]
  refine wpAnyH_take (i := 17) (oi := ?ois17) (v := ?vs17) ?his17 (by kernel_rfl) (by kernel_rfl) (by kernel_rfl) ?hQs17 (Or.inl ⟨?h1s17, ?hys17⟩) hHeld ?rests17
  case his17 => (simp only [List.getElem?_toArray, List.getElem?_cons_succ, List.getElem?_cons_zero]; rfl)
  case hQs17 => exact fun _ _ _ h => h
  case h1s17 => rfl
  case hys17 => intro V hSV; (try dsimp only at hSV); go_simp; (try with_reducible rfl)
  try simp only [Act.put, List.setIfInBounds_toArray, List.set_cons_zero, List.set_cons_succ]
  refine wpAnyH_take (i := 18) (oi := ?ois18) (v := ?vs18) ?his18 (by kernel_rfl) (by kernel_rfl) (by kernel_rfl) ?hQs18 (Or.inl ⟨?h1s18, ?hys18⟩) hHeld ?rests18
  case his18 => (simp only [List.getElem?_toArray, List.getElem?_cons_succ, List.getElem?_cons_zero]; rfl)
  case hQs18 => exact fun _ _ _ h => h
  case h1s18 => rfl
  case hys18 => intro V hSV; (try dsimp only at hSV); go_simp; (try with_reducible rfl)
  try simp only [Act.put, List.setIfInBounds_toArray, List.set_cons_zero, List.set_cons_succ]
  refine wpAnyH_take (i := 19) (oi := ?ois19) (v := ?vs19) ?his19 (by kernel_rfl) (by kernel_rfl) (by kernel_rfl) ?hQs19 (Or.inl ⟨?h1s19, ?hys19⟩) hHeld ?rests19
  case his19 => (simp only [List.getElem?_toArray, List.getElem?_cons_succ, List.getElem?_cons_zero]; rfl)
  case hQs19 => exact fun _ _ _ h => h
  case h1s19 => rfl
  case hys19 => intro V hSV; (try dsimp only at hSV); go_simp; (try with_reducible rfl)
  try simp only [Act.put, List.setIfInBounds_toArray, List.set_cons_zero, List.set_cons_succ]
  refine wpAnyH_done (by kernel_rfl) ?_ _
  have HB2 := hide HB1.out.drew.drew
  have c13 : w1.drew.drew.cell? ⟨S, 13, none⟩ = some (.int .i64 bat) := (HBK.out.on HB2.out).cell 13
  clear HS HB1
  generalize w1.drew.drew = w2 at HB2 c13 ⊢
  go_wp2_with fail
  refine (HRS.out _ HB2.out).mono ?_
  rintro e w4 ⟨rfl, hl⟩
  have HL1 := hide (hl.of_below HB2.out)
  clear hl c13
  have HS9 := hide (fun (V : World) (h : Blk V S (sgC D tm k b x t l root pub sec rnd tot bat (nx + 1) (q + 1) nb id false) 188) => (⟨h.cell 2, h.cell 3, h.cell 4, h.cell 5, h.cell 6, h.cell 7, h.cell 8, h.cell 9, h.cell 10, h.cell 11⟩ : V.cell? ⟨S, 2, none⟩ = some (.int .i64 k) ∧ V.cell? ⟨S, 3, none⟩ = some (.int .i64 b) ∧ V.cell? ⟨S, 4, none⟩ = some (.int .i64 x) ∧ V.cell? ⟨S, 5, none⟩ = some (.int .i64 t) ∧ V.cell? ⟨S, 6, none⟩ = some (.int .i64 l) ∧ V.cell? ⟨S, 7, none⟩ = some (.string root) ∧ V.cell? ⟨S, 8, none⟩ = some (.string pub) ∧ V.cell? ⟨S, 9, none⟩ = some (.string sec) ∧ V.cell? ⟨S, 10, none⟩ = some (.string rnd) ∧ V.cell? ⟨S, 11, none⟩ = some (.string pub)))
  have c14 : w4.cell? ⟨S, 14, none⟩ = some (.int .i64 nx) := HL1.out.1.cell 14
  have g14 := HL1.out.1.free 14
  have HL9 := hide (HL1.out.set HSL.out HSF.out 14 (.int .i64 (nx + 1)))
  go_wp2_with fail
  generalize w4.setCell ⟨S, 14, none⟩ (.int .i64 (nx + 1)) = W9 at HL9 ⊢
  clear c14 g14
  have hS := HL9.out.then (Below.refl _ W9).drew
  have HT9 := hide (HT.out _ hS)
  go_region_held3 (fun V => V.cell? ⟨S, 2, none⟩ = some (.int .i64 k) ∧ V.cell? ⟨S, 3, none⟩ = some (.int .i64 b) ∧ V.cell? ⟨S, 4, none⟩ = some (.int .i64 x) ∧ V.cell? ⟨S, 5, none⟩ = some (.int .i64 t) ∧ V.cell? ⟨S, 6, none⟩ = some (.int .i64 l) ∧ V.cell? ⟨S, 7, none⟩ = some (.string root) ∧ V.cell? ⟨S, 8, none⟩ = some (.string pub) ∧ V.cell? ⟨S, 9, none⟩ = some (.string sec) ∧ V.cell? ⟨S, 10, none⟩ = some (.string rnd) ∧ V.cell? ⟨S, 11, none⟩ = some (.string pub)) (exact HS9.out _ hS.1) (first | (go_at_call 171; refine (HSI.out _ HT9.out).mono ?_; rintro e wN ⟨rfl, hbN⟩; have hS := hS.then hbN))
  have HX := hide hS
  clear hS
  go_wp2
  go_ret2
  exact ⟨rfl, HX.out⟩
end Go.Proofs.YtgaoeoijdpdjiabGreatDoor
