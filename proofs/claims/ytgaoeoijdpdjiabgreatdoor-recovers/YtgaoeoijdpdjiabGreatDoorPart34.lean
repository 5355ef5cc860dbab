/-
  Reserve and Sign of a signer. A signer begins, where nothing fails.
-/
import Derived.Test.YtgaoeoijdpdjiabGreatDoorPart6
import Derived.Test.YtgaoeoijdpdjiabGreatDoorPart33
import Derived.Test.YtgaoeoijdpdjiabGreatDoorPart28
namespace Go.Proofs.YtgaoeoijdpdjiabGreatDoor
open Go.RowKit
/-- What a signer's call leaves: the signer, the disk; all else is as it was. -/
def SGL (lo S D : Nat) (st : DSt) (vs : List Value) (F : Nat → Prop) (w w' : World) : Prop := Blk w' S vs 188 ∧ ∃ F', DSk lo D st w' F' ∧ Kept (fun k => k = S ∨ F k) w w' ∧ ∀ k, F' k → F k ∨ w.heap.size ≤ k
section
variable {lo S D : Nat} {st : DSt} {vs : List Value} {F : Nat → Prop} {w w' w2 : World}
theorem SGL.then (h : SGL lo S D st vs F w w') (hb : Below w'.heap.size w' w2) : SGL lo S D st vs F w w2 := by
  obtain ⟨h1, F', h2, h3, h4⟩ := h
  exact ⟨h1.on hb, F', h2.below hb, h3.after hb, h4⟩
theorem SGL.of_below (hb : Below w.heap.size w w') (h : SGL lo S D st vs F w' w2) : SGL lo S D st vs F w w2 := by
  obtain ⟨h1, F', h2, h3, h4⟩ := h
  refine ⟨h1, F', h2, (Kept.of_below (F := fun k => k = S ∨ F k) hb).trans h3 (fun i hi => .inl hi), fun i hi => ?_⟩
  rcases h4 i hi with h | h
  · exact .inl h
  · exact .inr (Nat.le_trans hb.size h)
theorem SGL.refl (hB : Blk w S vs 188) (hD : DSk lo D st w F) : SGL lo S D st vs F w w := ⟨hB, F, hD, Kept.refl _ _, fun _ hk => .inl hk⟩
theorem SGL.low (h : SGL lo S D st vs F w w') (hS : lo ≤ S) (hF : ∀ k, F k → lo ≤ k) (hlo : lo ≤ w.heap.size) : Below lo w w' := by
  obtain ⟨h1, F', h2, h3, h4⟩ := h
  refine h3.below (fun k hk => ?_) hlo
  rcases hk with rfl | hk
  · exact hS
  · exact hF k hk
/-- One cell of the signer is laid anew. -/
theorem SGL.set (h : SGL lo S D st vs F w w') (hSl : S < w.heap.size) (hSF : ¬ F S) (i : Nat) (v : Value) : SGL lo S D st (vs.set i v) F w (w'.setCell ⟨S, i, none⟩ v) := by
  obtain ⟨h1, F', h2, h3, h4⟩ := h
  refine ⟨h1.set i v, F', h2.kept (kept_set w' ⟨S, i, none⟩ v) (fun k hk e => ?_), h3.setCell (.inl (.inl rfl)) v, h4⟩
  have e' : k = S := e
  subst e'
  rcases h4 k hk with h | h
  · exact hSF h
  · omega
end
set_option maxRecDepth 20000 in
set_option maxHeartbeats 4000000 in
theorem sreserve_spent (lo S D : Nat) (st : DSt) (F : Nat → Prop) (tm k b x t l : Int) (root pub sec rnd : ByteArray) (tot bat nx q bd : Int) (id : ByteArray) (m : Int) (w : World) (hB : Blk w S (sgC D tm k b x t l root pub sec rnd tot bat nx q bd id false) 188) (hD : DSk lo D st w F) (_hSF : ¬ F S) (htm : st.term = tm) (h1 : 1 ≤ m) (h2 : m ≤ 64) (hsp : bd = tot) :
    Calls Tryz.prog 72 #[.pointer (some ⟨S, 0, none⟩), .int .i64 m] w fun e w' => e = .returned (.tuple #[.int .i64 0, .int .i64 10]) ∧ Below w.heap.size w w' := by
  have hSl := hB.lt
  have HOV := hide (isOver_no S D tm w hSl hD.ltD (hB.cell 0) (hB.cell 1) (hB.cell 18) (by rw [← htm]; exact hD.term))
  have HBA := hide (fun V : World => batch_yes m V h1 h2)
  have e1 : (bd == tot) = true := by simpa using hsp
  have HS := hide (fun (V : World) (h : Below w.heap.size w V) => (by
    have q1 := hB.on h
    exact ⟨q1.cell 12, q1.cell 15, q1.cell 16⟩ : V.cell? ⟨S, 12, none⟩ = some (.int .i64 tot) ∧ V.cell? ⟨S, 15, none⟩ = some (.int .i64 q) ∧ V.cell? ⟨S, 16, none⟩ = some (.int .i64 bd)))
  clear hB hD _hSF htm h1 h2 hsp
  go_enter Tryz.func72, Tryz.ntmps72
  go_wp2_with fail
  refine HOV.out.mono ?_
  rintro e w1 ⟨rfl, hb1⟩
  have HB1 := hide hb1
  clear hb1
  go_wp2_with fail
  refine (HBA.out _).mono ?_
  rintro e w2 ⟨rfl, hb2⟩
  have HB2 := hide (heldB HB1.out hb2 (Nat.le_refl _))
  clear hb2
  go_wp2_with fail
  refine wp_region_held_drew (S := fun V => V.cell? ⟨S, 12, none⟩ = some (.int .i64 tot) ∧ V.cell? ⟨S, 15, none⟩ = some (.int .i64 q) ∧ V.cell? ⟨S, 16, none⟩ = some (.int .i64 bd)) (by kernel_rfl) (HS.out _ (HB2.out.drew)) (fun hHeld => ?_)
  refine tk 0 hHeld (h := ?_)
  refine tk 1 hHeld (h := ?_)
  refine tk 2 hHeld (h := ?_)
  refine tk 3 hHeld (h := ?_)
  refine tk 4 hHeld (h := ?_)
  refine tk 5 hHeld (h := ?_)
  refine tk 6 hHeld (h := ?_)
  refine tk 7 hHeld (h := ?_)
  refine tk 8 hHeld (h := ?_)
  refine tk 9 hHeld (h := ?_)
  refine tk 10 hHeld (h := ?_)
  refine sk 11 hHeld (h := ?_)
  refine sk 12 hHeld (h := ?_)
  refine sk 13 hHeld (h := ?_)
  refine sk 14 hHeld (h := ?_)
  refine sk 15 hHeld (h := ?_)
  refine sk 16 hHeld (h := ?_)
  refine tk 17 hHeld (h := ?_)
  refine wpAnyH_done (by kernel_rfl) ?_ _
  have HB3 := hide HB2.out.drew
  go_wp2
  go_ret2
  exact ⟨rfl, HB3.out⟩
set_option maxRecDepth 20000 in
set_option maxHeartbeats 4000000 in
theorem sreserve_yes (lo S D : Nat) (st : DSt) (F : Nat → Prop) (tm k b x t l : Int) (root pub sec rnd : ByteArray) (tot bat nx q bd : Int) (id : ByteArray) (m nb : Int) (s2 : DSt) (w : World) (hB : Blk w S (sgC D tm k b x t l root pub sec rnd tot bat nx q bd id false) 188) (hD : DSk lo D st w F) (_hSF : ¬ F S) (htm : st.term = tm) (h1 : 1 ≤ m) (h2 : m ≤ 64) (hsp : bd ≠ tot) (hq : q ≠ 2147483647)
    (hRS : ∀ V : World, Below w.heap.size w V → Calls Tryz.prog 116 #[.pointer (some ⟨S, 0, none⟩), .int .i64 m] V fun e w' => e = .returned (.int .i64 0) ∧ SGL lo S D s2 (sgC D tm k b x t l root pub sec rnd tot bat nx (q + 1) nb id false) F V w') :
    Calls Tryz.prog 72 #[.pointer (some ⟨S, 0, none⟩), .int .i64 m] w fun e w' => e = .returned (.tuple #[.int .i64 nb, .int .i64 0]) ∧ SGL lo S D s2 (sgC D tm k b x t l root pub sec rnd tot bat nx (q + 1) nb id false) F w w' := by
  have hSl := hB.lt
  have HOV := hide (isOver_no S D tm w hSl hD.ltD (hB.cell 0) (hB.cell 1) (hB.cell 18) (by rw [← htm]; exact hD.term))
  have HBA := hide (fun V : World => batch_yes m V h1 h2)
  have e1 : (bd == tot) = false := by simpa using hsp
  have e2 : (q == 2147483647) = false := by simpa using hq
  have HRS := hide hRS
  have HS := hide (fun (V : World) (h : Below w.heap.size w V) => (by
    have q1 := hB.on h
    exact ⟨q1.cell 12, q1.cell 15, q1.cell 16⟩ : V.cell? ⟨S, 12, none⟩ = some (.int .i64 tot) ∧ V.cell? ⟨S, 15, none⟩ = some (.int .i64 q) ∧ V.cell? ⟨S, 16, none⟩ = some (.int .i64 bd)))
  clear hB hD _hSF htm h1 h2 hsp hq hRS
  go_enter Tryz.func72, Tryz.ntmps72
  go_wp2_with fail
  refine HOV.out.mono ?_
  rintro e w1 ⟨rfl, hb1⟩
  have HB1 := hide hb1
  clear hb1
  go_wp2_with fail
  refine (HBA.out _).mono ?_
  rintro e w2 ⟨rfl, hb2⟩
  have HB2 := hide (heldB HB1.out hb2 (Nat.le_refl _))
  clear hb2
  go_wp2_with fail
  refine wp_region_held_drew (S := fun V => V.cell? ⟨S, 12, none⟩ = some (.int .i64 tot) ∧ V.cell? ⟨S, 15, none⟩ = some (.int .i64 q) ∧ V.cell? ⟨S, 16, none⟩ = some (.int .i64 bd)) (by kernel_rfl) (HS.out _ (HB2.out.drew)) (fun hHeld => ?_)
  refine tk 0 hHeld (h := ?_)
  refine tk 1 hHeld (h := ?_)
  refine tk 2 hHeld (h := ?_)
  refine tk 3 hHeld (h := ?_)
  refine tk 4 hHeld (h := ?_)
  refine tk 5 hHeld (h := ?_)
  refine tk 6 hHeld (h := ?_)
  refine tk 7 hHeld (h := ?_)
  refine tk 8 hHeld (h := ?_)
  refine tk 9 hHeld (h := ?_)
  refine tk 10 hHeld (h := ?_)
  refine tk 11 hHeld (h := ?_)
  refine tk 12 hHeld (h := ?_)
  refine tk 13 hHeld (h := ?_)
  refine tk 14 hHeld (h := ?_)
  refine tk 15 hHeld (h := ?_)
  refine tk 16 hHeld (h := ?_)
  refine tk 17 hHeld (h := ?_)
  refine wpAnyH_done (by kernel_rfl) ?_ _
  have HB3 := hide HB2.out.drew
  go_wp2_with fail
  refine (HRS.out _ HB3.out).mono ?_
  rintro e w4 ⟨rfl, hl⟩
  have c16 : w4.cell? ⟨S, 16, none⟩ = some (.int .i64 nb) := hl.1.cell 16
  have HL := hide (hl.of_below HB3.out)
  clear hl
  go_wp2
  go_ret2
  exact ⟨rfl, HL.out⟩
set_option maxRecDepth 20000 in
set_option maxHeartbeats 8000000 in
theorem ssign_spent (lo S D : Nat) (st : DSt) (F : Nat → Prop) (tm k b x t l : Int) (root pub sec rnd : ByteArray) (tot bat nx q bd : Int) (id : ByteArray) (msg : ByteArray) (w : World) (hB : Blk w S (sgC D tm k b x t l root pub sec rnd tot bat nx q bd id false) 188) (hD : DSk lo D st w F) (_hSF : ¬ F S) (htm : st.term = tm) (hm : msg.size ≤ 200) (hsp : nx = tot) :
    Calls Tryz.prog 99 #[.pointer (some ⟨S, 0, none⟩), .string msg] w fun e w' => e = .returned (.tuple #[.string ⟨#[]⟩, .int .i64 10]) ∧ Below w.heap.size w w' := by
  have hSl := hB.lt
  have HOV := hide (isOver_no S D tm w hSl hD.ltD (hB.cell 0) (hB.cell 1) (hB.cell 18) (by rw [← htm]; exact hD.term))
  have e1 : (nx == tot) = true := by simpa using hsp
  have hm2 : (msg.size : Int) ≤ 200 := by omega
  have HS := hide (fun (V : World) (h : Below w.heap.size w V) => (by
    have q1 := hB.on h
    exact ⟨q1.cell 12, q1.cell 14, q1.cell 15, q1.cell 16⟩ : V.cell? ⟨S, 12, none⟩ = some (.int .i64 tot) ∧ V.cell? ⟨S, 14, none⟩ = some (.int .i64 nx) ∧ V.cell? ⟨S, 15, none⟩ = some (.int .i64 q) ∧ V.cell? ⟨S, 16, none⟩ = some (.int .i64 bd)))
  clear hB hD _hSF htm hm hsp
  go_enter Tryz.func99, Tryz.ntmps99
  go_wp2_with fail
  refine HOV.out.mono ?_
  rintro e w1 ⟨rfl, hb1⟩
  have HB1 := hide hb1
  clear hb1
  go_wp2_with fail
  refine wp_region_held_drew (S := fun V => V.cell? ⟨S, 12, none⟩ = some (.int .i64 tot) ∧ V.cell? ⟨S, 14, none⟩ = some (.int .i64 nx) ∧ V.cell? ⟨S, 15, none⟩ = some (.int .i64 q) ∧ V.cell? ⟨S, 16, none⟩ = some (.int .i64 bd)) (by kernel_rfl) (HS.out _ (HB1.out.drew)) (fun hHeld => ?_)
  refine tk 0 hHeld (h := ?_)
  refine tk 1 hHeld (h := ?_)
  refine tk 2 hHeld (h := ?_)
  refine tk 3 hHeld (h := ?_)
  refine tk 4 hHeld (h := ?_)
  refine tk 5 hHeld (h := ?_)
  refine tk 6 hHeld (h := ?_)
  refine tk 7 hHeld (h := ?_)
  refine tk 8 hHeld (h := ?_)
  refine tk 9 hHeld (h := ?_)
  refine tk 10 hHeld (h := ?_)
  refine wpAnyH_done (by kernel_rfl) ?_ _
  go_wp2_with fail
  refine wp_region_held_drew (S := fun V => V.cell? ⟨S, 12, none⟩ = some (.int .i64 tot) ∧ V.cell? ⟨S, 14, none⟩ = some (.int .i64 nx) ∧ V.cell? ⟨S, 15, none⟩ = some (.int .i64 q) ∧ V.cell? ⟨S, 16, none⟩ = some (.int .i64 bd)) (by kernel_rfl) (HS.out _ (HB1.out.drew.drew)) (fun hHeld => ?_)
  refine tk 0 hHeld (h := ?_)
  refine tk 1 hHeld (h := ?_)
  refine tk 2 hHeld (h := ?_)
  refine tk 3 hHeld (h := ?_)
  refine tk 4 hHeld (h := ?_)
  refine tk 5 hHeld (h := ?_)
  refine tk 6 hHeld (h := ?_)
  refine tk 7 hHeld (h := ?_)
  refine tk 8 hHeld (h := ?_)
  refine tk 9 hHeld (h := ?_)
  refine sk 10 hHeld (h := ?_)
  refine sk 11 hHeld (h := ?_)
  refine sk 12 hHeld (h := ?_)
  refine sk 13 hHeld (h := ?_)
  refine sk 14 hHeld (h := ?_)
  refine sk 15 hHeld (h := ?_)
  refine sk 16 hHeld (h := ?_)
  refine sk 17 hHeld (h := ?_)
  refine sk 18 hHeld (h := ?_)
  refine tk 19 hHeld (h := ?_)
  refine wpAnyH_done (by kernel_rfl) ?_ _
  have HB3 := hide HB1.out.drew.drew
  go_wp2
  go_ret2
  exact ⟨rfl, HB3.out⟩
set_option maxRecDepth 20000 in
set_option maxHeartbeats 8000000 in
theorem ssign_more (lo S D : Nat) (st : DSt) (F : Nat → Prop) (tm k b x t l : Int) (root pub sec rnd : ByteArray) (tot bat nx q bd : Int) (id : ByteArray) (msg z : ByteArray) (w : World) (hB : Blk w S (sgC D tm k b x t l root pub sec rnd tot bat nx q bd id false) 188) (hD : DSk lo D st w F) (hSF : ¬ F S) (htm : st.term = tm) (hsp : nx ≠ tot) (hnb : nx ≠ bd) (hv : IntKind.i64.wrap (nx + 1) = nx + 1) (hT : Tn w) (hTB : 1 < lo) (hlS : lo ≤ S) (hlo : lo ≤ w.heap.size) (hm : msg.size ≤ 200) (hSI : ∀ V : World, Tn V → Calls Tryz.prog 171 #[.agg #[.int .i64 k, .int .i64 b, .int .i64 x, .int .i64 t, .int .i64 l, .string root, .string pub], .agg #[.string sec, .string rnd, .string pub], .int .i64 nx, .string msg] V fun e w' => e = .returned (.string z) ∧ Below V.heap.size V w') :
    Calls Tryz.prog 99 #[.pointer (some ⟨S, 0, none⟩), .string msg] w fun e w' => e = .returned (.tuple #[.string z, .int .i64 0]) ∧ SGL lo S D st (sgC D tm k b x t l root pub sec rnd tot bat (nx + 1) q bd id false) F w w' := by
  have hSl := hB.lt
  have HOV := hide (isOver_no S D tm w hSl hD.ltD (hB.cell 0) (hB.cell 1) (hB.cell 18) (by rw [← htm]; exact hD.term))
  have e1 : (nx == tot) = false := by simpa using hsp
  have e2 : (nx == bd) = false := by simpa using hnb
  have hm2 : (msg.size : Int) ≤ 200 := by omega
  have HS := hide (fun (V : World) (h : Below w.heap.size w V) => (by
    have q1 := hB.on h
    exact ⟨q1.cell 12, q1.cell 14, q1.cell 15, q1.cell 16⟩ : V.cell? ⟨S, 12, none⟩ = some (.int .i64 tot) ∧ V.cell? ⟨S, 14, none⟩ = some (.int .i64 nx) ∧ V.cell? ⟨S, 15, none⟩ = some (.int .i64 q) ∧ V.cell? ⟨S, 16, none⟩ = some (.int .i64 bd)))
  have HSI := hide hSI
  have HSL := hide hSl
  have HSF := hide hSF
  have HL0 := hide (SGL.refl hB hD)
  have HT := hide (fun (V : World) (h : SGL lo S D st (sgC D tm k b x t l root pub sec rnd tot bat (nx + 1) q bd id false) F w V) => hT.below (h.low hlS (fun k hk => (hD.lt k hk).1) hlo) hTB)
  clear hB hD hSF htm hm hsp hnb hSI hT hTB hlS hlo hSl
  go_enter Tryz.func99, Tryz.ntmps99
  go_wp2_with fail
  refine HOV.out.mono ?_
  rintro e w1 ⟨rfl, hb1⟩
  have HB1 := hide hb1
  clear hb1
  go_wp2_with fail
  refine wp_region_held_drew (S := fun V => V.cell? ⟨S, 12, none⟩ = some (.int .i64 tot) ∧ V.cell? ⟨S, 14, none⟩ = some (.int .i64 nx) ∧ V.cell? ⟨S, 15, none⟩ = some (.int .i64 q) ∧ V.cell? ⟨S, 16, none⟩ = some (.int .i64 bd)) (by kernel_rfl) (HS.out _ (HB1.out.drew)) (fun hHeld => ?_)
  refine tk 0 hHeld (h := ?_)
  refine tk 1 hHeld (h := ?_)
  refine tk 2 hHeld (h := ?_)
  refine tk 3 hHeld (h := ?_)
  refine tk 4 hHeld (h := ?_)
  refine tk 5 hHeld (h := ?_)
  refine tk 6 hHeld (h := ?_)
  refine tk 7 hHeld (h := ?_)
  refine tk 8 hHeld (h := ?_)
  refine tk 9 hHeld (h := ?_)
  refine tk 10 hHeld (h := ?_)
  refine wpAnyH_done (by kernel_rfl) ?_ _
  go_wp2_with fail
  refine wp_region_held_drew (S := fun V => V.cell? ⟨S, 12, none⟩ = some (.int .i64 tot) ∧ V.cell? ⟨S, 14, none⟩ = some (.int .i64 nx) ∧ V.cell? ⟨S, 15, none⟩ = some (.int .i64 q) ∧ V.cell? ⟨S, 16, none⟩ = some (.int .i64 bd)) (by kernel_rfl) (HS.out _ (HB1.out.drew.drew)) (fun hHeld => ?_)
  refine tk 0 hHeld (h := ?_)
  refine tk 1 hHeld (h := ?_)
  refine tk 2 hHeld (h := ?_)
  refine tk 3 hHeld (h := ?_)
  refine tk 4 hHeld (h := ?_)
  refine tk 5 hHeld (h := ?_)
  refine tk 6 hHeld (h := ?_)
  refine tk 7 hHeld (h := ?_)
  refine tk 8 hHeld (h := ?_)
  refine tk 9 hHeld (h := ?_)
  refine tk 10 hHeld (h := ?_)
  refine tk 11 hHeld (h := ?_)
  refine sk 12 hHeld (h := ?_)
  refine sk 13 hHeld (h := ?_)
  refine sk 14 hHeld (h := ?_)
  refine sk 15 hHeld (h := ?_)
  refine sk 16 hHeld (h := ?_)
  refine sk 17 hHeld (h := ?_)
  refine tk 18 hHeld (h := ?_)
  refine tk 19 hHeld (h := ?_)
  refine wpAnyH_done (by kernel_rfl) ?_ _
  have HL1 := hide (HL0.out.then HB1.out.drew.drew)
  clear HS HB1
  generalize w1.drew.drew = w2 at HL1 ⊢
  have HS9 := hide (fun (V : World) (h : Blk V S (sgC D tm k b x t l root pub sec rnd tot bat (nx + 1) q bd id false) 188) => (⟨h.cell 2, h.cell 3, h.cell 4, h.cell 5, h.cell 6, h.cell 7, h.cell 8, h.cell 9, h.cell 10, h.cell 11⟩ : V.cell? ⟨S, 2, none⟩ = some (.int .i64 k) ∧ V.cell? ⟨S, 3, none⟩ = some (.int .i64 b) ∧ V.cell? ⟨S, 4, none⟩ = some (.int .i64 x) ∧ V.cell? ⟨S, 5, none⟩ = some (.int .i64 t) ∧ V.cell? ⟨S, 6, none⟩ = some (.int .i64 l) ∧ V.cell? ⟨S, 7, none⟩ = some (.string root) ∧ V.cell? ⟨S, 8, none⟩ = some (.string pub) ∧ V.cell? ⟨S, 9, none⟩ = some (.string sec) ∧ V.cell? ⟨S, 10, none⟩ = some (.string rnd) ∧ V.cell? ⟨S, 11, none⟩ = some (.string pub)))
  have c14 : w2.cell? ⟨S, 14, none⟩ = some (.int .i64 nx) := HL1.out.1.cell 14
  have g14 := HL1.out.1.free 14
  have HL9 := hide (HL1.out.set HSL.out HSF.out 14 (.int .i64 (nx + 1)))
  go_wp2_with fail
  generalize w2.setCell ⟨S, 14, none⟩ (.int .i64 (nx + 1)) = W9 at HL9 ⊢
  clear c14 g14
  have hS := HL9.out.then (Below.refl _ W9).drew
  have HT9 := hide (HT.out _ hS)
  go_region_held3 (fun V => V.cell? ⟨S, 2, none⟩ = some (.int .i64 k) ∧ V.cell? ⟨S, 3, none⟩ = some (.int .i64 b) ∧ V.cell? ⟨S, 4, none⟩ = some (.int .i64 x) ∧ V.cell? ⟨S, 5, none⟩ = some (.int .i64 t) ∧ V.cell? ⟨S, 6, none⟩ = some (.int .i64 l) ∧ V.cell? ⟨S, 7, none⟩ = some (.string root) ∧ V.cell? ⟨S, 8, none⟩ = some (.string pub) ∧ V.cell? ⟨S, 9, none⟩ = some (.string sec) ∧ V.cell? ⟨S, 10, none⟩ = some (.string rnd) ∧ V.cell? ⟨S, 11, none⟩ = some (.string pub)) (exact HS9.out _ hS.1) (first | (go_at_call 171; refine (HSI.out _ HT9.out).mono ?_; rintro e wN ⟨rfl, hbN⟩; have hS := hS.then hbN))
  have HX := hide hS
  clear hS
  go_wp2
  go_ret2
  exact ⟨rfl, HX.out⟩
set_option maxRecDepth 20000 in
set_option maxHeartbeats 8000000 in
theorem ssign_res (lo S D : Nat) (st : DSt) (F : Nat → Prop) (tm k b x t l : Int) (root pub sec rnd : ByteArray) (tot bat nx q bd : Int) (id : ByteArray) (msg z : ByteArray) (nb : Int) (s2 : DSt) (w : World) (hB : Blk w S (sgC D tm k b x t l root pub sec rnd tot bat nx q bd id false) 188) (hD : DSk lo D st w F) (hSF : ¬ F S) (htm : st.term = tm) (hsp : nx ≠ tot) (hnb : nx = bd) (hq : q ≠ 2147483647) (hv : IntKind.i64.wrap (nx + 1) = nx + 1) (hT : Tn w) (hTB : 1 < lo) (hlS : lo ≤ S) (hlo : lo ≤ w.heap.size) (hm : msg.size ≤ 200) (hSI : ∀ V : World, Tn V → Calls Tryz.prog 171 #[.agg #[.int .i64 k, .int .i64 b, .int .i64 x, .int .i64 t, .int .i64 l, .string root, .string pub], .agg #[.string sec, .string rnd, .string pub], .int .i64 nx, .string msg] V fun e w' => e = .returned (.string z) ∧ Below V.heap.size V w')
    (hRS : ∀ V : World, Below w.heap.size w V → Calls Tryz.prog 116 #[.pointer (some ⟨S, 0, none⟩), .int .i64 bat] V fun e w' => e = .returned (.int .i64 0) ∧ SGL lo S D s2 (sgC D tm k b x t l root pub sec rnd tot bat nx (q + 1) nb id false) F V w') :
    Calls Tryz.prog 99 #[.pointer (some ⟨S, 0, none⟩), .string msg] w fun e w' => e = .returned (.tuple #[.string z, .int .i64 0]) ∧ SGL lo S D s2 (sgC D tm k b x t l root pub sec rnd tot bat (nx + 1) (q + 1) nb id false) F w w' := by
  have hSl := hB.lt
  have HOV := hide (isOver_no S D tm w hSl hD.ltD (hB.cell 0) (hB.cell 1) (hB.cell 18) (by rw [← htm]; exact hD.term))
  have e1 : (nx == tot) = false := by simpa using hsp
  have e2 : (nx == bd) = true := by simpa using hnb
  have e3 : (q == 2147483647) = false := by simpa using hq
  have hm2 : (msg.size : Int) ≤ 200 := by omega
  have HS := hide (fun (V : World) (h : Below w.heap.size w V) => (by
    have q1 := hB.on h
    exact ⟨q1.cell 12, q1.cell 14, q1.cell 15, q1.cell 16⟩ : V.cell? ⟨S, 12, none⟩ = some (.int .i64 tot) ∧ V.cell? ⟨S, 14, none⟩ = some (.int .i64 nx) ∧ V.cell? ⟨S, 15, none⟩ = some (.int .i64 q) ∧ V.cell? ⟨S, 16, none⟩ = some (.int .i64 bd)))
  have HSI := hide hSI
  have HRS := hide hRS
  have HSL := hide hSl
  have HSF := hide hSF
  have HBK := hide hB
  have HT := hide (fun (V : World) (h : SGL lo S D s2 (sgC D tm k b x t l root pub sec rnd tot bat (nx + 1) (q + 1) nb id false) F w V) => hT.below (h.low hlS (fun k hk => (hD.lt k hk).1) hlo) hTB)
  clear hB hD hSF htm hm hsp hnb hSI hT hTB hlS hlo hSl hRS hq
  go_enter Tryz.func99, Tryz.ntmps99
  go_wp2_with fail
  refine HOV.out.mono ?_
  rintro e w1 ⟨rfl, hb1⟩
  have HB1 := hide hb1
  clear hb1
  go_wp2_with fail
  refine wp_region_held_drew (S := fun V => V.cell? ⟨S, 12, none⟩ = some (.int .i64 tot) ∧ V.cell? ⟨S, 14, none⟩ = some (.int .i64 nx) ∧ V.cell? ⟨S, 15, none⟩ = some (.int .i64 q) ∧ V.cell? ⟨S, 16, none⟩ = some (.int .i64 bd)) (by kernel_rfl) (HS.out _ (HB1.out.drew)) (fun hHeld => ?_)
  refine tk 0 hHeld (h := ?_)
  refine tk 1 hHeld (h := ?_)
  refine tk 2 hHeld (h := ?_)
  refine tk 3 hHeld (h := ?_)
  refine tk 4 hHeld (h := ?_)
  refine tk 5 hHeld (h := ?_)
  refine tk 6 hHeld (h := ?_)
  refine tk 7 hHeld (h := ?_)
  refine tk 8 hHeld (h := ?_)
  refine tk 9 hHeld (h := ?_)
  refine tk 10 hHeld (h := ?_)
  refine wpAnyH_done (by kernel_rfl) ?_ _
  go_wp2_with fail
  refine wp_region_held_drew (S := fun V => V.cell? ⟨S, 12, none⟩ = some (.int .i64 tot) ∧ V.cell? ⟨S, 14, none⟩ = some (.int .i64 nx) ∧ V.cell? ⟨S, 15, none⟩ = some (.int .i64 q) ∧ V.cell? ⟨S, 16, none⟩ = some (.int .i64 bd)) (by kernel_rfl) (HS.out _ (HB1.out.drew.drew)) (fun hHeld => ?_)
  refine tk 0 hHeld (h := ?_)
  refine tk 1 hHeld (h := ?_)
  refine tk 2 hHeld (h := ?_)
  refine tk 3 hHeld (h := ?_)
  refine tk 4 hHeld (h := ?_)
  refine tk 5 hHeld (h := ?_)
  refine tk 6 hHeld (h := ?_)
  refine tk 7 hHeld (h := ?_)
  refine tk 8 hHeld (h := ?_)
  refine tk 9 hHeld (h := ?_)
  refine tk 10 hHeld (h := ?_)
  refine tk 11 hHeld (h := ?_)
  refine tk 12 hHeld (h := ?_)
  refine tk 13 hHeld (h := ?_)
  refine tk 14 hHeld (h := ?_)
  refine tk 15 hHeld (h := ?_)
  refine tk 16 hHeld (h := ?_)
  refine tk 17 hHeld (h := ?_)
  refine tk 18 hHeld (h := ?_)
  refine tk 19 hHeld (h := ?_)
  refine wpAnyH_done (by kernel_rfl) ?_ _
  have HB2 := hide HB1.out.drew.drew
  have c13 : w1.drew.drew.cell? ⟨S, 13, none⟩ = some (.int .i64 bat) := (HBK.out.on HB2.out).cell 13
  clear HS HB1
  generalize w1.drew.drew = w2 at HB2 c13 ⊢
  go_wp2_with fail
  refine (HRS.out _ HB2.out).mono ?_
  rintro e w4 ⟨rfl, hl⟩
  have HL1 := hide (hl.of_below HB2.out)
  clear hl c13
  have HS9 := hide (fun (V : World) (h : Blk V S (sgC D tm k b x t l root pub sec rnd tot bat (nx + 1) (q + 1) nb id false) 188) => (⟨h.cell 2, h.cell 3, h.cell 4, h.cell 5, h.cell 6, h.cell 7, h.cell 8, h.cell 9, h.cell 10, h.cell 11⟩ : V.cell? ⟨S, 2, none⟩ = some (.int .i64 k) ∧ V.cell? ⟨S, 3, none⟩ = some (.int .i64 b) ∧ V.cell? ⟨S, 4, none⟩ = some (.int .i64 x) ∧ V.cell? ⟨S, 5, none⟩ = some (.int .i64 t) ∧ V.cell? ⟨S, 6, none⟩ = some (.int .i64 l) ∧ V.cell? ⟨S, 7, none⟩ = some (.string root) ∧ V.cell? ⟨S, 8, none⟩ = some (.string pub) ∧ V.cell? ⟨S, 9, none⟩ = some (.string sec) ∧ V.cell? ⟨S, 10, none⟩ = some (.string rnd) ∧ V.cell? ⟨S, 11, none⟩ = some (.string pub)))
  have c14 : w4.cell? ⟨S, 14, none⟩ = some (.int .i64 nx) := HL1.out.1.cell 14
  have g14 := HL1.out.1.free 14
  have HL9 := hide (HL1.out.set HSL.out HSF.out 14 (.int .i64 (nx + 1)))
  go_wp2_with fail
  generalize w4.setCell ⟨S, 14, none⟩ (.int .i64 (nx + 1)) = W9 at HL9 ⊢
  clear c14 g14
  have hS := HL9.out.then (Below.refl _ W9).drew
  have HT9 := hide (HT.out _ hS)
  go_region_held3 (fun V => V.cell? ⟨S, 2, none⟩ = some (.int .i64 k) ∧ V.cell? ⟨S, 3, none⟩ = some (.int .i64 b) ∧ V.cell? ⟨S, 4, none⟩ = some (.int .i64 x) ∧ V.cell? ⟨S, 5, none⟩ = some (.int .i64 t) ∧ V.cell? ⟨S, 6, none⟩ = some (.int .i64 l) ∧ V.cell? ⟨S, 7, none⟩ = some (.string root) ∧ V.cell? ⟨S, 8, none⟩ = some (.string pub) ∧ V.cell? ⟨S, 9, none⟩ = some (.string sec) ∧ V.cell? ⟨S, 10, none⟩ = some (.string rnd) ∧ V.cell? ⟨S, 11, none⟩ = some (.string pub)) (exact HS9.out _ hS.1) (first | (go_at_call 171; refine (HSI.out _ HT9.out).mono ?_; rintro e wN ⟨rfl, hbN⟩; have hS := hS.then hbN))
  have HX := hide hS
  clear hS
  go_wp2
  go_ret2
  exact ⟨rfl, HX.out⟩
end Go.Proofs.YtgaoeoijdpdjiabGreatDoor

namespace Go.Proofs.YtgaoeoijdpdjiabGreatDoor
open Go.RowKit
/-- What the steps leave: what was found out, the disk; all else is as it was. -/
def OPL (lo O D : Nat) (st : DSt) (vs : List Value) (F : Nat → Prop) (w w' : World) : Prop := Blk w' O vs 246 ∧ ∃ F', DSk lo D st w' F' ∧ Kept (fun k => k = O ∨ F k) w w' ∧ ∀ k, F' k → F k ∨ w.heap.size ≤ k
theorem Kept.blk {F : Nat → Prop} {w w' : World} (k : Kept F w w') {g : Nat} {vs : List Value} {T : TypeId} (h : Blk w g vs T) (hn : ¬ F g) : Blk w' g vs T := by
  unfold Blk at h ⊢
  rw [k.block g (Blk.lt h) hn]; exact h
end Go.Proofs.YtgaoeoijdpdjiabGreatDoor
