/-
  A signer that is over; Reserve and Sign that refuse. Reserve and Sign where the reservation fails; a message that is too long; no Seq left. A reservation that fails: the record is not laid, or it is not synced.
-/
import Derived.Test.YtgaoeoijdpdjiabGreatDoorPart6
import Derived.Test.YtgaoeoijdpdjiabGreatDoorPart34
import Derived.Test.YtgaoeoijdpdjiabGreatDoorPart33
namespace Go.Proofs.YtgaoeoijdpdjiabGreatDoor
open Go.RowKit
set_option maxRecDepth 20000 in
set_option maxHeartbeats 2000000 in
theorem isOver_yes (S D : Nat) (tm tm2 : Int) (ov : Bool) (w : World) (hS : S < w.heap.size) (hD : D < w.heap.size) (h0 : w.cell? ⟨S, 0, none⟩ = some (.pointer (some ⟨D, 0, none⟩))) (h1 : w.cell? ⟨S, 1, none⟩ = some (.int .i64 tm)) (h18 : w.cell? ⟨S, 18, none⟩ = some (.bool ov)) (h5 : w.cell? ⟨D, 5, none⟩ = some (.int .i64 tm2)) (ho : ov = true ∨ tm ≠ tm2) :
    Calls Tryz.prog 114 #[.pointer (some ⟨S, 0, none⟩)] w fun e w' => e = .returned (.bool true) ∧ Below w.heap.size w w' := by
  have HT := hide (fun (V : World) (hb : Below w.heap.size w V) => term_on D tm2 V ((hb.cell (p := ⟨D, 5, none⟩) hD).trans h5))
  clear h5 hD
  cases ov
  · have e1 : (tm != tm2) = true := by simpa using ho
    clear ho
    have HS := hide (fun (V : World) (hb : Below w.heap.size w V) => (⟨(hb.cell (p := ⟨S, 0, none⟩) hS).trans h0, (hb.cell (p := ⟨S, 1, none⟩) hS).trans h1, (hb.cell (p := ⟨S, 18, none⟩) hS).trans h18⟩ : V.cell? ⟨S, 0, none⟩ = some (.pointer (some ⟨D, 0, none⟩)) ∧ V.cell? ⟨S, 1, none⟩ = some (.int .i64 tm) ∧ V.cell? ⟨S, 18, none⟩ = some (.bool false)))
    clear h0 h1 h18 hS
    go_enter Tryz.func114, Tryz.ntmps114
    go_wp2_with fail
    refine wp_region_held_drew (S := fun V => V.cell? ⟨S, 0, none⟩ = some (.pointer (some ⟨D, 0, none⟩)) ∧ V.cell? ⟨S, 1, none⟩ = some (.int .i64 tm) ∧ V.cell? ⟨S, 18, none⟩ = some (.bool false)) (by kernel_rfl) (HS.out _ ((Below.refl w.heap.size w).drew)) (fun hHeld => ?_)
    refine tk 0 hHeld (h := ?_)
    refine tk 1 hHeld (h := ?_)
    refine tk 2 hHeld (h := ?_)
    refine tk 3 hHeld (h := ?_)
    refine tk 4 hHeld (h := ?_)
    refine tk 5 hHeld (h := ?_)
    refine tk 6 hHeld (h := ?_)
    refine tk 7 hHeld (h := ?_)
    refine tk 8 hHeld (h := ?_)
    refine tk 9 hHeld (h := ?_)
    refine tk 10 hHeld (h := ?_)
    refine tk 11 hHeld (h := ?_)
    refine tk 12 hHeld (h := ?_)
    refine wpAnyH_ready (rs := [13]) (by kernel_rfl) (by simp) ?_
    refine AllReadyH.cons (o := ?ob13) ?hob13 (fun K hK => ?hsb13) AllReadyH.nil
    case hob13 => (simp only [List.getElem?_toArray, List.getElem?_cons_succ, List.getElem?_cons_zero]; rfl)
    go_simp
    go_at_call 181
    refine (HT.out _ (Below.refl w.heap.size w).drew).mono ?_
    rintro e w1 ⟨rfl, hb1⟩
    have HB1 := hide (heldB (Below.refl w.heap.size w).drew hb1 (Nat.le_refl _))
    clear hb1
    try go_wp2_with fail
    refine hK.out _ _ (HS.out _ (HB1.out)) (fun hHeld => ?_)
    clear hK K
    try simp only [Act.put, List.setIfInBounds_toArray, List.set_cons_zero, List.set_cons_succ]
    refine tk 14 hHeld (h := ?_)
    refine tk 15 hHeld (h := ?_)
    refine tk 16 hHeld (h := ?_)
    refine wpAnyH_done (by kernel_rfl) ?_ _
    clear hHeld
    go_wp2
    go_ret
    exact ⟨rfl, HB1.out⟩
  · clear ho
    have HS := hide (fun (V : World) (hb : Below w.heap.size w V) => (⟨(hb.cell (p := ⟨S, 0, none⟩) hS).trans h0, (hb.cell (p := ⟨S, 1, none⟩) hS).trans h1, (hb.cell (p := ⟨S, 18, none⟩) hS).trans h18⟩ : V.cell? ⟨S, 0, none⟩ = some (.pointer (some ⟨D, 0, none⟩)) ∧ V.cell? ⟨S, 1, none⟩ = some (.int .i64 tm) ∧ V.cell? ⟨S, 18, none⟩ = some (.bool true)))
    clear h0 h1 h18 hS
    go_enter Tryz.func114, Tryz.ntmps114
    go_wp2_with fail
    refine wp_region_held_drew (S := fun V => V.cell? ⟨S, 0, none⟩ = some (.pointer (some ⟨D, 0, none⟩)) ∧ V.cell? ⟨S, 1, none⟩ = some (.int .i64 tm) ∧ V.cell? ⟨S, 18, none⟩ = some (.bool true)) (by kernel_rfl) (HS.out _ ((Below.refl w.heap.size w).drew)) (fun hHeld => ?_)
    refine tk 0 hHeld (h := ?_)
    refine tk 1 hHeld (h := ?_)
    refine tk 2 hHeld (h := ?_)
    refine tk 3 hHeld (h := ?_)
    refine tk 4 hHeld (h := ?_)
    refine sk 5 hHeld (h := ?_)
    refine sk 6 hHeld (h := ?_)
    refine sk 7 hHeld (h := ?_)
    refine sk 8 hHeld (h := ?_)
    refine sk 9 hHeld (h := ?_)
    refine sk 10 hHeld (h := ?_)
    refine sk 11 hHeld (h := ?_)
    refine sk 12 hHeld (h := ?_)
    refine sk 13 hHeld (h := ?_)
    refine sk 14 hHeld (h := ?_)
    refine tk 15 hHeld (h := ?_)
    refine tk 16 hHeld (h := ?_)
    refine wpAnyH_done (by kernel_rfl) ?_ _
    clear hHeld
    go_wp2
    go_ret
    exact ⟨rfl, (Below.refl w.heap.size w).drew⟩
set_option maxRecDepth 20000 in
theorem sreserve_over (S D : Nat) (tm2 : Int) (tm k b x t l : Int) (root pub sec rnd : ByteArray) (tot bat nx q bd : Int) (id : ByteArray) (ov : Bool) (m : Int) (w : World) (hB : Blk w S (sgC D tm k b x t l root pub sec rnd tot bat nx q bd id ov) 188) (hD : D < w.heap.size) (h5 : w.cell? ⟨D, 5, none⟩ = some (.int .i64 tm2)) (ho : ov = true ∨ tm ≠ tm2) :
    Calls Tryz.prog 72 #[.pointer (some ⟨S, 0, none⟩), .int .i64 m] w fun e w' => e = .returned (.tuple #[.int .i64 0, .int .i64 9]) ∧ Below w.heap.size w w' := by
  have HOV := hide (isOver_yes S D tm tm2 ov w hB.lt hD (hB.cell 0) (hB.cell 1) (hB.cell 18) h5 ho)
  clear hB hD h5 ho
  go_enter Tryz.func72, Tryz.ntmps72
  go_wp2_with fail
  refine HOV.out.mono ?_
  rintro e w1 ⟨rfl, hb1⟩
  have HB1 := hide hb1
  clear hb1
  go_wp2
  go_ret2
  exact ⟨rfl, HB1.out⟩
set_option maxRecDepth 20000 in
theorem ssign_over (S D : Nat) (tm2 : Int) (tm k b x t l : Int) (root pub sec rnd : ByteArray) (tot bat nx q bd : Int) (id : ByteArray) (ov : Bool) (msg : ByteArray) (w : World) (hB : Blk w S (sgC D tm k b x t l root pub sec rnd tot bat nx q bd id ov) 188) (hD : D < w.heap.size) (h5 : w.cell? ⟨D, 5, none⟩ = some (.int .i64 tm2)) (ho : ov = true ∨ tm ≠ tm2) :
    Calls Tryz.prog 99 #[.pointer (some ⟨S, 0, none⟩), .string msg] w fun e w' => e = .returned (.tuple #[.string ⟨#[]⟩, .int .i64 9]) ∧ Below w.heap.size w w' := by
  have HOV := hide (isOver_yes S D tm tm2 ov w hB.lt hD (hB.cell 0) (hB.cell 1) (hB.cell 18) h5 ho)
  clear hB hD h5 ho
  go_enter Tryz.func99, Tryz.ntmps99
  go_wp2_with fail
  refine HOV.out.mono ?_
  rintro e w1 ⟨rfl, hb1⟩
  have HB1 := hide hb1
  clear hb1
  go_wp2
  go_ret2
  exact ⟨rfl, HB1.out⟩
end Go.Proofs.YtgaoeoijdpdjiabGreatDoor

namespace Go.Proofs.YtgaoeoijdpdjiabGreatDoor
open Go.RowKit
set_option maxRecDepth 20000 in
set_option maxHeartbeats 4000000 in
theorem sreserve_fail (lo S D : Nat) (st : DSt) (F : Nat → Prop) (tm k b x t l : Int) (root pub sec rnd : ByteArray) (tot bat nx q bd : Int) (id : ByteArray) (m c : Int) (s2 : DSt) (hc : c ≠ 0) (w : World) (hB : Blk w S (sgC D tm k b x t l root pub sec rnd tot bat nx q bd id false) 188) (hD : DSk lo D st w F) (_hSF : ¬ F S) (htm : st.term = tm) (h1 : 1 ≤ m) (h2 : m ≤ 64) (hsp : bd ≠ tot) (hq : q ≠ 2147483647)
    (hRS : ∀ V : World, Below w.heap.size w V → Calls Tryz.prog 116 #[.pointer (some ⟨S, 0, none⟩), .int .i64 m] V fun e w' => e = .returned (.int .i64 c) ∧ SGL lo S D s2 (sgC D tm k b x t l root pub sec rnd tot bat nx q bd id true) F V w') :
    Calls Tryz.prog 72 #[.pointer (some ⟨S, 0, none⟩), .int .i64 m] w fun e w' => e = .returned (.tuple #[.int .i64 0, .int .i64 c]) ∧ SGL lo S D s2 (sgC D tm k b x t l root pub sec rnd tot bat nx q bd id true) F w w' := by
  have hSl := hB.lt
  have HOV := hide (isOver_no S D tm w hSl hD.ltD (hB.cell 0) (hB.cell 1) (hB.cell 18) (by rw [← htm]; exact hD.term))
  have HBA := hide (fun V : World => batch_yes m V h1 h2)
  have e1 : (bd == tot) = false := by simpa using hsp
  have e2 : (q == 2147483647) = false := by simpa using hq
  have HRS := hide hRS
  have e8 : (c == 0) = false := by simpa using hc
  have e9 : (c != 0) = true := by simpa using hc
  have HS := hide (fun (V : World) (h : Below w.heap.size w V) => (by
    have q1 := hB.on h
    exact ⟨q1.cell 12, q1.cell 15, q1.cell 16⟩ : V.cell? ⟨S, 12, none⟩ = some (.int .i64 tot) ∧ V.cell? ⟨S, 15, none⟩ = some (.int .i64 q) ∧ V.cell? ⟨S, 16, none⟩ = some (.int .i64 bd)))
  clear hB hD _hSF htm h1 h2 hsp hq hRS hc
  go_enter Tryz.func72, Tryz.ntmps72
  go_wp2_with fail
  refine HOV.out.mono ?_
  rintro e w1 ⟨rfl, hb1⟩
  have HB1 := hide hb1
  clear hb1
  go_wp2_with fail
  refine (HBA.out _).mono ?_
  rintro e w2 ⟨rfl, hb2⟩
  have HB2 := hide (heldB HB1.out hb2 (Nat.le_refl _))
  clear hb2
  go_wp2_with fail
  refine wp_region_held_drew (S := fun V => V.cell? ⟨S, 12, none⟩ = some (.int .i64 tot) ∧ V.cell? ⟨S, 15, none⟩ = some (.int .i64 q) ∧ V.cell? ⟨S, 16, none⟩ = some (.int .i64 bd)) (by kernel_rfl) (HS.out _ (HB2.out.drew)) (fun hHeld => ?_)
  refine tk 0 hHeld (h := ?_)
  refine tk 1 hHeld (h := ?_)
  refine tk 2 hHeld (h := ?_)
  refine tk 3 hHeld (h := ?_)
  refine tk 4 hHeld (h := ?_)
  refine tk 5 hHeld (h := ?_)
  refine tk 6 hHeld (h := ?_)
  refine tk 7 hHeld (h := ?_)
  refine tk 8 hHeld (h := ?_)
  refine tk 9 hHeld (h := ?_)
  refine tk 10 hHeld (h := ?_)
  refine tk 11 hHeld (h := ?_)
  refine tk 12 hHeld (h := ?_)
  refine tk 13 hHeld (h := ?_)
  refine tk 14 hHeld (h := ?_)
  refine tk 15 hHeld (h := ?_)
  refine tk 16 hHeld (h := ?_)
  refine tk 17 hHeld (h := ?_)
  refine wpAnyH_done (by kernel_rfl) ?_ _
  have HB3 := hide HB2.out.drew
  go_wp2_with fail
  refine (HRS.out _ HB3.out).mono ?_
  rintro e w4 ⟨rfl, hl⟩
  have HL := hide (hl.of_below HB3.out)
  clear hl
  go_wp2
  go_ret2
  exact ⟨rfl, HL.out⟩
set_option maxRecDepth 20000 in
set_option maxHeartbeats 8000000 in
theorem ssign_fail (lo S D : Nat) (st : DSt) (F : Nat → Prop) (tm k b x t l : Int) (root pub sec rnd : ByteArray) (tot bat nx q bd : Int) (id : ByteArray) (msg : ByteArray) (c : Int) (s2 : DSt) (hc : c ≠ 0) (w : World) (hB : Blk w S (sgC D tm k b x t l root pub sec rnd tot bat nx q bd id false) 188) (hD : DSk lo D st w F) (_hSF : ¬ F S) (htm : st.term = tm) (hsp : nx ≠ tot) (hnb : nx = bd) (hq : q ≠ 2147483647) (hm : msg.size ≤ 200)
    (hRS : ∀ V : World, Below w.heap.size w V → Calls Tryz.prog 116 #[.pointer (some ⟨S, 0, none⟩), .int .i64 bat] V fun e w' => e = .returned (.int .i64 c) ∧ SGL lo S D s2 (sgC D tm k b x t l root pub sec rnd tot bat nx q bd id true) F V w') :
    Calls Tryz.prog 99 #[.pointer (some ⟨S, 0, none⟩), .string msg] w fun e w' => e = .returned (.tuple #[.string ⟨#[]⟩, .int .i64 c]) ∧ SGL lo S D s2 (sgC D tm k b x t l root pub sec rnd tot bat nx q bd id true) F w w' := by
  have hSl := hB.lt
  have HOV := hide (isOver_no S D tm w hSl hD.ltD (hB.cell 0) (hB.cell 1) (hB.cell 18) (by rw [← htm]; exact hD.term))
  have e1 : (nx == tot) = false := by simpa using hsp
  have e2 : (nx == bd) = true := by simpa using hnb
  have e3 : (q == 2147483647) = false := by simpa using hq
  have hm2 : (msg.size : Int) ≤ 200 := by omega
  have HS := hide (fun (V : World) (h : Below w.heap.size w V) => (by
    have q1 := hB.on h
    exact ⟨q1.cell 12, q1.cell 14, q1.cell 15, q1.cell 16⟩ : V.cell? ⟨S, 12, none⟩ = some (.int .i64 tot) ∧ V.cell? ⟨S, 14, none⟩ = some (.int .i64 nx) ∧ V.cell? ⟨S, 15, none⟩ = some (.int .i64 q) ∧ V.cell? ⟨S, 16, none⟩ = some (.int .i64 bd)))
  have HRS := hide hRS
  have e8 : (c == 0) = false := by simpa using hc
  have e9 : (c != 0) = true := by simpa using hc
  have HBK := hide hB
  clear hB hD _hSF htm hm hsp hnb hSl hRS hq hc
  go_enter Tryz.func99, Tryz.ntmps99
  go_wp2_with fail
  refine HOV.out.mono ?_
  rintro e w1 ⟨rfl, hb1⟩
  have HB1 := hide hb1
  clear hb1
  go_wp2_with fail
  refine wp_region_held_drew (S := fun V => V.cell? ⟨S, 12, none⟩ = some (.int .i64 tot) ∧ V.cell? ⟨S, 14, none⟩ = some (.int .i64 nx) ∧ V.cell? ⟨S, 15, none⟩ = some (.int .i64 q) ∧ V.cell? ⟨S, 16, none⟩ = some (.int .i64 bd)) (by kernel_rfl) (HS.out _ (HB1.out.drew)) (fun hHeld => ?_)
  refine tk 0 hHeld (h := ?_)
  refine tk 1 hHeld (h := ?_)
  refine tk 2 hHeld (h := ?_)
  refine tk 3 hHeld (h := ?_)
  refine tk 4 hHeld (h := ?_)
  refine tk 5 hHeld (h := ?_)
  refine tk 6 hHeld (h := ?_)
  refine tk 7 hHeld (h := ?_)
  refine tk 8 hHeld (h := ?_)
  refine tk 9 hHeld (h := ?_)
  refine tk 10 hHeld (h := ?_)
  refine wpAnyH_done (by kernel_rfl) ?_ _
  go_wp2_with fail
  refine wp_region_held_drew (S := fun V => V.cell? ⟨S, 12, none⟩ = some (.int .i64 tot) ∧ V.cell? ⟨S, 14, none⟩ = some (.int .i64 nx) ∧ V.cell? ⟨S, 15, none⟩ = some (.int .i64 q) ∧ V.cell? ⟨S, 16, none⟩ = some (.int .i64 bd)) (by kernel_rfl) (HS.out _ (HB1.out.drew.drew)) (fun hHeld => ?_)
  refine tk 0 hHeld (h := ?_)
  refine tk 1 hHeld (h := ?_)
  refine tk 2 hHeld (h := ?_)
  refine tk 3 hHeld (h := ?_)
  refine tk 4 hHeld (h := ?_)
  refine tk 5 hHeld (h := ?_)
  refine tk 6 hHeld (h := ?_)
  refine tk 7 hHeld (h := ?_)
  refine tk 8 hHeld (h := ?_)
  refine tk 9 hHeld (h := ?_)
  refine tk 10 hHeld (h := ?_)
  refine tk 11 hHeld (h := ?_)
  refine tk 12 hHeld (h := ?_)
  refine tk 13 hHeld (h := ?_)
  refine tk 14 hHeld (h := ?_)
  refine tk 15 hHeld (h := ?_)
  refine tk 16 hHeld (h := ?_)
  refine tk 17 hHeld (h := ?_)
  refine tk 18 hHeld (h := ?_)
  refine tk 19 hHeld (h := ?_)
  refine wpAnyH_done (by kernel_rfl) ?_ _
  have HB2 := hide HB1.out.drew.drew
  have c13 : w1.drew.drew.cell? ⟨S, 13, none⟩ = some (.int .i64 bat) := (HBK.out.on HB2.out).cell 13
  clear HS HB1
  generalize w1.drew.drew = w2 at HB2 c13 ⊢
  go_wp2_with fail
  refine (HRS.out _ HB2.out).mono ?_
  rintro e w4 ⟨rfl, hl⟩
  have HL1 := hide (hl.of_below HB2.out)
  clear hl c13
  go_wp2
  go_ret2
  exact ⟨rfl, HL1.out⟩
end Go.Proofs.YtgaoeoijdpdjiabGreatDoor

namespace Go.Proofs.YtgaoeoijdpdjiabGreatDoor
open Go.RowKit
set_option maxRecDepth 20000 in
set_option maxHeartbeats 8000000 in
theorem reserve_nolay (lo S D : Nat) (st : DSt) (F : Nat → Prop) (tm k b x t l : Int) (root pub sec rnd : ByteArray) (tot bat nx q bd : Int) (id : ByteArray) (ov : Bool) (m q2 nb c : Int) (w : World) (hc : c ≠ 0)
    (hB : Blk w S (sgC D tm k b x t l root pub sec rnd tot bat nx q bd id ov) 188) (hD : DSk lo D st w F) (hSF : ¬ F S) (hlo : lo ≤ w.heap.size) (hw : 0 ≤ st.writes) (hw2 : st.writes < 9223372036854775806)
    (hR : RecR (q + 1) nb id) (hq2 : Int.tmod (q + 1) 2 = q2) (hv2 : IntKind.i64.wrap q2 = q2) (hq : IntKind.i64.wrap (q + 1) = q + 1) (hbm : IntKind.i64.wrap (bd + m) = bd + m) (hnb : (if tot < bd + m then tot else bd + m) = nb)
    (ha1 : wrAns st q2 (sealS (q + 1) nb id) = c) :
    Calls Tryz.prog 116 #[.pointer (some ⟨S, 0, none⟩), .int .i64 m] w fun e w' => e = .returned (.int .i64 c) ∧ Blk w' S (sgC D tm k b x t l root pub sec rnd tot bat nx q bd id true) 188 ∧ ∃ F', DSk lo D (wrSt st q2 (sealS (q + 1) nb id)) w' F' ∧ Kept (fun k => k = S ∨ F k) w w' ∧ ∀ k, F' k → F k ∨ w.heap.size ≤ k := by
  have hmin : ∀ (ts : Array TypeId) (ty : TypeId) (V : World), (Builtin.min_ ts ty #[.int .i64 (bd + m), .int .i64 tot]).run Tryz.prog V = .ok (.int .i64 nb) V := by
    intro ts ty V
    rw [run_min_int2, hnb]
  obtain ⟨W0, hW⟩ : ∃ W0, (w.alloc (.cells #[.pointer (some ⟨S, 0, none⟩)] 127)).alloc (.cells #[.bool false] 4) = W0 := ⟨_, rfl⟩
  have HB0 := hide (show Below w.heap.size w W0 by subst hW; exact ((Below.refl _ _).alloc (Nat.le_refl _) _).alloc (by simp) _)
  have HR0 := hide (show Blk W0 w.heap.size [.pointer (some ⟨S, 0, none⟩)] 127 by rw [← hW]; exact (Blk.new w _ _).alloc _)
  have HR1 := hide (show Blk W0 (w.heap.size + 1) [.bool false] 4 by
    rw [← hW]
    have h := Blk.new (w.alloc (.cells #[.pointer (some ⟨S, 0, none⟩)] 127)) [.bool false] 4
    simp only [World.size_alloc] at h
    exact h)
  have HSB := hide (hB.on HB0.out)
  have HSL := hide hB.lt
  have HS := hide (fun (V : World) (h : Below W0.heap.size W0 V) => (by
    have q0 := HR0.out.on h
    have q1 := HSB.out.on h
    exact ⟨q0.cell 0, q1.cell 12, q1.cell 15, q1.cell 16, q1.cell 17⟩ : V.cell? ⟨w.heap.size, 0, none⟩ = some (.pointer (some ⟨S, 0, none⟩)) ∧ V.cell? ⟨S, 12, none⟩ = some (.int .i64 tot) ∧ V.cell? ⟨S, 15, none⟩ = some (.int .i64 q) ∧ V.cell? ⟨S, 16, none⟩ = some (.int .i64 bd) ∧ V.cell? ⟨S, 17, none⟩ = some (.string id)))
  have HWE := hide hW
  have HDK := hide (hD.below HB0.out)
  have hc1 : (c == 0) = false := by simpa using hc
  have hc2 : (c != 0) = true := by simpa using hc
  have hmf : ∀ (fn : Fn) (first cap : Array Value) (w : World), (Instr.makeFunc fn first cap).run Tryz.prog w = .ok (.func fn first cap) w := fun _ _ _ _ => rfl
  have HP := hide (And.intro hD (And.intro hSF (And.intro hlo (And.intro hw (And.intro hw2 (And.intro hR (And.intro hq2 (And.intro hv2 ha1))))))))
  clear hW hB hD hSF hlo hw hw2 hR hq2 hv2 hnb ha1
  go_enter_defers Tryz.func116, Tryz.ntmps116
  go_wp2_with fail
  rw [HWE.out]
  refine wp_region_noPanic ?_
  refine wp_region_held_drew (S := fun V => V.cell? ⟨w.heap.size, 0, none⟩ = some (.pointer (some ⟨S, 0, none⟩)) ∧ V.cell? ⟨S, 12, none⟩ = some (.int .i64 tot) ∧ V.cell? ⟨S, 15, none⟩ = some (.int .i64 q) ∧ V.cell? ⟨S, 16, none⟩ = some (.int .i64 bd) ∧ V.cell? ⟨S, 17, none⟩ = some (.string id)) (by kernel_rfl) (HS.out _ ((Below.refl W0.heap.size W0).drew)) (fun hHeld => ?_)
  refine tk 0 hHeld (h := ?_)
  refine tk 1 hHeld (h := ?_)
  refine tk 2 hHeld (h := ?_)
  refine tk 3 hHeld (h := ?_)
  refine tk 4 hHeld (h := ?_)
  refine tk 5 hHeld (h := ?_)
  refine tk 6 hHeld (h := ?_)
  refine tk 7 hHeld (h := ?_)
  refine tk 8 hHeld (h := ?_)
  refine tk 9 hHeld (h := ?_)
  refine tk 10 hHeld (h := ?_)
  refine tk 11 hHeld (h := ?_)
  refine tk 12 hHeld (h := ?_)
  refine tk 13 hHeld (h := ?_)
  refine tk 14 hHeld (h := ?_)
  refine tk 15 hHeld (h := ?_)
  refine tk 16 hHeld (h := ?_)
  refine tk 17 hHeld (h := ?_)
  refine tk 18 hHeld (h := ?_)
  refine tk 19 hHeld (h := ?_)
  refine tk 20 hHeld (h := ?_)
  refine tk 21 hHeld (h := ?_)
  refine tk 22 hHeld (h := ?_)
  refine tk 23 hHeld (h := ?_)
  refine wpAnyH_ready (rs := [24]) (by kernel_rfl) (by simp) ?_
  refine AllReadyH.cons (o := ?oa24) ?hoa24 (fun K hK => ?hsa24) AllReadyH.nil
  case hoa24 => (simp only [List.getElem?_toArray, List.getElem?_cons_succ, List.getElem?_cons_zero]; rfl)
  go_simp
  refine hK.out _ _ (HS.out _ ((Below.refl W0.heap.size W0).drew.alloc (Nat.le_refl _) _)) (fun hHeld => ?_)
  clear hK K
  try simp only [Act.put, List.setIfInBounds_toArray, List.set_cons_zero, List.set_cons_succ]
  obtain ⟨VA, hVA⟩ : ∃ VA, (W0.alloc (.cells #[.int .i64 0, .int .i64 0, .string ⟨#[]⟩] 186)).drew = VA := ⟨_, rfl⟩
  have HVB := hide (show Blk VA W0.heap.size [.int .i64 0, .int .i64 0, .string ⟨#[]⟩] 186 by rw [← hVA]; exact Blk.new W0 [.int .i64 0, .int .i64 0, .string ⟨#[]⟩] 186)
  have HVL := hide (show Below W0.heap.size W0 VA by rw [← hVA]; exact ((Below.refl W0.heap.size W0).alloc (Nat.le_refl _) _).drew)
  rw [hVA]
  clear hVA
  have r0 := HVB.out.cell 0
  have f0 := HVB.out.free 0
  have r1 := HVB.out.cell 1
  have f1 := HVB.out.free 1
  have r2 := HVB.out.cell 2
  have f2 := HVB.out.free 2
  simp only [List.getElem?_cons_zero, List.getElem?_cons_succ] at r0 r1 r2
  refine wpAnyH_ready (rs := [25]) (by kernel_rfl) (by simp) ?_
  refine AllReadyH.cons (o := ?oa25) ?hoa25 (fun K hK => ?hsa25) AllReadyH.nil
  case hoa25 => (simp only [List.getElem?_toArray, List.getElem?_cons_succ, List.getElem?_cons_zero]; rfl)
  go_simp
  refine hK.out _ _ (HS.out _ ((((HVL.out).setCell (p := ⟨W0.heap.size, 0, none⟩) (Nat.le_refl _) (.int .i64 (q + 1))).setCell (p := ⟨W0.heap.size, 1, none⟩) (Nat.le_refl _) (.int .i64 nb)).setCell (p := ⟨W0.heap.size, 2, none⟩) (Nat.le_refl _) (.string id))) (fun hHeld => ?_)
  clear hK K
  try simp only [Act.put, List.setIfInBounds_toArray, List.set_cons_zero, List.set_cons_succ]
  refine wpAnyH_done (by kernel_rfl) ?_ _
  refine NoPanic.normal ?_
  have HB3 := hide ((((HVL.out).setCell (p := ⟨W0.heap.size, 0, none⟩) (Nat.le_refl _) (.int .i64 (q + 1))).setCell (p := ⟨W0.heap.size, 1, none⟩) (Nat.le_refl _) (.int .i64 nb)).setCell (p := ⟨W0.heap.size, 2, none⟩) (Nat.le_refl _) (.string id))
  have HR2 := hide (((HVB.out.set 0 (.int .i64 (q + 1))).set 1 (.int .i64 nb)).set 2 (.string id))
  clear r0 r1 r2 f0 f1 f2 hHeld HVB HVL
  generalize ((VA.setCell ⟨W0.heap.size, 0, none⟩ (.int .i64 (q + 1))).setCell ⟨W0.heap.size, 1, none⟩ (.int .i64 nb)).setCell ⟨W0.heap.size, 2, none⟩ (.string id) = W3 at HB3 HR2 ⊢
  simp only [List.set_cons_zero, List.set_cons_succ] at HR2
  obtain ⟨hD, hSF, hlo, hw, hw2, hR, hq2, hv2, ha1⟩ := HP.out
  have hS0 : w.heap.size ≤ W0.heap.size := HB0.out.size
  have hz1 : w.heap.size + 1 < W0.heap.size := HR1.out.lt
  have hSl := HSL.out
  have HFW := hide (fun i hi => (hD.lt i hi).2 : ∀ i, F i → i < w.heap.size)
  have HD3 := hide (HDK.out.below HB3.out)
  have HA0 := hide (HR0.out.on HB3.out)
  have HA1 := hide (HR1.out.on HB3.out)
  have HAS := hide (HSB.out.on HB3.out)
  have HLAY := hide (jlay_any lo D st F (q + 1) nb q2 id W3.drew (HD3.out.below (Below.refl _ _).drew) (Nat.le_trans hlo (Nat.le_trans hS0 HB3.out.size)) hw (by omega) hR hq2 hv2)
  rw [ha1] at HLAY
  have HFS := hide hSF
  have HS4 := hide (fun (V : World) (h0 : Blk V w.heap.size [.pointer (some ⟨S, 0, none⟩)] 127) (h1 : Blk V S (sgC D tm k b x t l root pub sec rnd tot bat nx q bd id ov) 188) (h2 : Blk V W0.heap.size [.int .i64 (q + 1), .int .i64 nb, .string id] 186) => (⟨h0.cell 0, h1.cell 0, h2.cell 0, h2.cell 1, h2.cell 2⟩ : V.cell? ⟨w.heap.size, 0, none⟩ = some (.pointer (some ⟨S, 0, none⟩)) ∧ V.cell? ⟨S, 0, none⟩ = some (.pointer (some ⟨D, 0, none⟩)) ∧ V.cell? ⟨W0.heap.size, 0, none⟩ = some (.int .i64 (q + 1)) ∧ V.cell? ⟨W0.heap.size, 1, none⟩ = some (.int .i64 nb) ∧ V.cell? ⟨W0.heap.size, 2, none⟩ = some (.string id)))
  have HLE := hide (And.intro hS0 (And.intro hz1 hSl))
  have c00 := HA0.out.cell 0
  have c30 := HR2.out.cell 0
  clear c00 c30 HP hD hSF hlo hw hw2 hR hq2 hv2 ha1 hS0 hz1 hSl HS hq hbm hmin
  have hS : DL lo D st F W3 W3.drew := (DL.refl HD3.out).then (Below.refl _ _).drew
  go_wp2_with fail
  go_region_held3 (fun V => V.cell? ⟨w.heap.size, 0, none⟩ = some (.pointer (some ⟨S, 0, none⟩)) ∧ V.cell? ⟨S, 0, none⟩ = some (.pointer (some ⟨D, 0, none⟩)) ∧ V.cell? ⟨W0.heap.size, 0, none⟩ = some (.int .i64 (q + 1)) ∧ V.cell? ⟨W0.heap.size, 1, none⟩ = some (.int .i64 nb) ∧ V.cell? ⟨W0.heap.size, 2, none⟩ = some (.string id)) (exact HS4.out _ (hS.blk HA0.out (fun h => by have := HFW.out _ h; omega)) (hS.blk HAS.out HFS.out) (hS.blk HR2.out (fun h => by have := HFW.out _ h; have := HLE.out.1; omega))) (first | (go_at_call 183; refine HLAY.out.mono ?_; rintro e w4 ⟨rfl, hl4⟩; have hS := DL.of_below (Below.refl W3.heap.size W3).drew hl4 (fun i hi => (HD3.out.lt i hi).2)))
  have HA0' := hide (hS.blk HA0.out (fun h => by have := HFW.out _ h; omega))
  have HA1' := hide (hS.blk HA1.out (fun h => by have := HFW.out _ h; omega))
  have HAS' := hide (hS.blk HAS.out HFS.out)
  have HR2' := hide (hS.blk HR2.out (fun h => by have := HFW.out _ h; have := HLE.out.1; omega))
  obtain ⟨F1, hd1, hk1, hf1⟩ := hS
  have HX1 := hide (And.intro hk1 hf1)
  have HD1 := hide hd1
  clear hk1 hf1 hd1 hl4
  have m2 : w.heap.size ≠ S := by have := HLE.out; omega
  go_wp2
  have KS := (kept_set w4 ⟨S, 18, none⟩ (.bool true)).mono (G := fun k => k = S) (fun _ _ e => e)
  refine leaves_cons (f := 184) (args := #[.pointer (some ⟨w.heap.size + 1, 0, none⟩), .pointer (some ⟨w.heap.size, 0, none⟩)]) (by simp) (by simp [go_sem]) ?_
  refine (resv_deferred S w.heap.size (w.heap.size + 1) false (.bool ov) .returning _ (HA0'.out.cell 0) (HA1'.out.cell 0) (HAS'.out.cell 18) (HAS'.out.free 18)).mono ?_
  rintro e u' w'' ⟨rfl, rfl, rfl⟩
  refine ⟨_, results_tmp rfl _ _ _, rfl, HAS'.out.set 18 (.bool true), ?_⟩
  have z3 := HB3.out.size
  have hle := HLE.out
  refine ⟨F1, HD1.out.kept KS (fun k hk e => ?_), ?_, fun k hk => ?_⟩
  · have e' : k = S := e
    subst e'
    rcases HX1.out.2 _ hk with h | h
    · exact HFS.out h
    · omega
  · exact ((Kept.of_below (F := fun k => k = S ∨ F k) (HB0.out.trans (HB3.out.mono HB0.out.size))).trans HX1.out.1 (fun i hi => .inl (.inr hi))).trans KS (fun i hi => .inl (.inl hi))
  · rcases HX1.out.2 k hk with h | h
    · exact .inl h
    · exact .inr (by omega)
set_option maxRecDepth 20000 in
set_option maxHeartbeats 8000000 in
theorem reserve_nosync (lo S D : Nat) (st : DSt) (F : Nat → Prop) (tm k b x t l : Int) (root pub sec rnd : ByteArray) (tot bat nx q bd : Int) (id : ByteArray) (ov : Bool) (m q2 nb c : Int) (w : World) (hc : c ≠ 0)
    (hB : Blk w S (sgC D tm k b x t l root pub sec rnd tot bat nx q bd id ov) 188) (hD : DSk lo D st w F) (hSF : ¬ F S) (hlo : lo ≤ w.heap.size) (hw : 0 ≤ st.writes) (hw2 : st.writes < 9223372036854775806) (hy : 0 ≤ st.syncs) (hy2 : st.syncs < 9223372036854775807)
    (hR : RecR (q + 1) nb id) (hq2 : Int.tmod (q + 1) 2 = q2) (hv2 : IntKind.i64.wrap q2 = q2) (hq : IntKind.i64.wrap (q + 1) = q + 1) (hbm : IntKind.i64.wrap (bd + m) = bd + m) (hnb : (if tot < bd + m then tot else bd + m) = nb)
    (ha1 : wrAns st q2 (sealS (q + 1) nb id) = 0) (hys : (wrSt st q2 (sealS (q + 1) nb id)).syncs = st.syncs) (ha2 : syAns (wrSt st q2 (sealS (q + 1) nb id)) = c) :
    Calls Tryz.prog 116 #[.pointer (some ⟨S, 0, none⟩), .int .i64 m] w fun e w' => e = .returned (.int .i64 c) ∧ Blk w' S (sgC D tm k b x t l root pub sec rnd tot bat nx q bd id true) 188 ∧ ∃ F', DSk lo D (sySt (wrSt st q2 (sealS (q + 1) nb id))) w' F' ∧ Kept (fun k => k = S ∨ F k) w w' ∧ ∀ k, F' k → F k ∨ w.heap.size ≤ k := by
  have hmin : ∀ (ts : Array TypeId) (ty : TypeId) (V : World), (Builtin.min_ ts ty #[.int .i64 (bd + m), .int .i64 tot]).run Tryz.prog V = .ok (.int .i64 nb) V := by
    intro ts ty V
    rw [run_min_int2, hnb]
  obtain ⟨W0, hW⟩ : ∃ W0, (w.alloc (.cells #[.pointer (some ⟨S, 0, none⟩)] 127)).alloc (.cells #[.bool false] 4) = W0 := ⟨_, rfl⟩
  have HB0 := hide (show Below w.heap.size w W0 by subst hW; exact ((Below.refl _ _).alloc (Nat.le_refl _) _).alloc (by simp) _)
  have HR0 := hide (show Blk W0 w.heap.size [.pointer (some ⟨S, 0, none⟩)] 127 by rw [← hW]; exact (Blk.new w _ _).alloc _)
  have HR1 := hide (show Blk W0 (w.heap.size + 1) [.bool false] 4 by
    rw [← hW]
    have h := Blk.new (w.alloc (.cells #[.pointer (some ⟨S, 0, none⟩)] 127)) [.bool false] 4
    simp only [World.size_alloc] at h
    exact h)
  have HSB := hide (hB.on HB0.out)
  have HSL := hide hB.lt
  have HS := hide (fun (V : World) (h : Below W0.heap.size W0 V) => (by
    have q0 := HR0.out.on h
    have q1 := HSB.out.on h
    exact ⟨q0.cell 0, q1.cell 12, q1.cell 15, q1.cell 16, q1.cell 17⟩ : V.cell? ⟨w.heap.size, 0, none⟩ = some (.pointer (some ⟨S, 0, none⟩)) ∧ V.cell? ⟨S, 12, none⟩ = some (.int .i64 tot) ∧ V.cell? ⟨S, 15, none⟩ = some (.int .i64 q) ∧ V.cell? ⟨S, 16, none⟩ = some (.int .i64 bd) ∧ V.cell? ⟨S, 17, none⟩ = some (.string id)))
  have HWE := hide hW
  have HDK := hide (hD.below HB0.out)
  have hc1 : (c == 0) = false := by simpa using hc
  have hc2 : (c != 0) = true := by simpa using hc
  have hmf : ∀ (fn : Fn) (first cap : Array Value) (w : World), (Instr.makeFunc fn first cap).run Tryz.prog w = .ok (.func fn first cap) w := fun _ _ _ _ => rfl
  have HP := hide (And.intro hD (And.intro hSF (And.intro hlo (And.intro hw (And.intro hw2 (And.intro hy (And.intro hy2 (And.intro hR (And.intro hq2 (And.intro hv2 (And.intro ha1 (And.intro hys ha2))))))))))))
  clear hW hB hD hSF hlo hw hw2 hy hy2 hR hq2 hv2 hnb ha1 hys ha2
  go_enter_defers Tryz.func116, Tryz.ntmps116
  go_wp2_with fail
  rw [HWE.out]
  refine wp_region_noPanic ?_
  refine wp_region_held_drew (S := fun V => V.cell? ⟨w.heap.size, 0, none⟩ = some (.pointer (some ⟨S, 0, none⟩)) ∧ V.cell? ⟨S, 12, none⟩ = some (.int .i64 tot) ∧ V.cell? ⟨S, 15, none⟩ = some (.int .i64 q) ∧ V.cell? ⟨S, 16, none⟩ = some (.int .i64 bd) ∧ V.cell? ⟨S, 17, none⟩ = some (.string id)) (by kernel_rfl) (HS.out _ ((Below.refl W0.heap.size W0).drew)) (fun hHeld => ?_)
  refine tk 0 hHeld (h := ?_)
  refine tk 1 hHeld (h := ?_)
  refine tk 2 hHeld (h := ?_)
  refine tk 3 hHeld (h := ?_)
  refine tk 4 hHeld (h := ?_)
  refine tk 5 hHeld (h := ?_)
  refine tk 6 hHeld (h := ?_)
  refine tk 7 hHeld (h := ?_)
  refine tk 8 hHeld (h := ?_)
  refine tk 9 hHeld (h := ?_)
  refine tk 10 hHeld (h := ?_)
  refine tk 11 hHeld (h := ?_)
  refine tk 12 hHeld (h := ?_)
  refine tk 13 hHeld (h := ?_)
  refine tk 14 hHeld (h := ?_)
  refine tk 15 hHeld (h := ?_)
  refine tk 16 hHeld (h := ?_)
  refine tk 17 hHeld (h := ?_)
  refine tk 18 hHeld (h := ?_)
  refine tk 19 hHeld (h := ?_)
  refine tk 20 hHeld (h := ?_)
  refine tk 21 hHeld (h := ?_)
  refine tk 22 hHeld (h := ?_)
  refine tk 23 hHeld (h := ?_)
  refine wpAnyH_ready (rs := [24]) (by kernel_rfl) (by simp) ?_
  refine AllReadyH.cons (o := ?oa24) ?hoa24 (fun K hK => ?hsa24) AllReadyH.nil
  case hoa24 => (simp only [List.getElem?_toArray, List.getElem?_cons_succ, List.getElem?_cons_zero]; rfl)
  go_simp
  refine hK.out _ _ (HS.out _ ((Below.refl W0.heap.size W0).drew.alloc (Nat.le_refl _) _)) (fun hHeld => ?_)
  clear hK K
  try simp only [Act.put, List.setIfInBounds_toArray, List.set_cons_zero, List.set_cons_succ]
  obtain ⟨VA, hVA⟩ : ∃ VA, (W0.alloc (.cells #[.int .i64 0, .int .i64 0, .string ⟨#[]⟩] 186)).drew = VA := ⟨_, rfl⟩
  have HVB := hide (show Blk VA W0.heap.size [.int .i64 0, .int .i64 0, .string ⟨#[]⟩] 186 by rw [← hVA]; exact Blk.new W0 [.int .i64 0, .int .i64 0, .string ⟨#[]⟩] 186)
  have HVL := hide (show Below W0.heap.size W0 VA by rw [← hVA]; exact ((Below.refl W0.heap.size W0).alloc (Nat.le_refl _) _).drew)
  rw [hVA]
  clear hVA
  have r0 := HVB.out.cell 0
  have f0 := HVB.out.free 0
  have r1 := HVB.out.cell 1
  have f1 := HVB.out.free 1
  have r2 := HVB.out.cell 2
  have f2 := HVB.out.free 2
  simp only [List.getElem?_cons_zero, List.getElem?_cons_succ] at r0 r1 r2
  refine wpAnyH_ready (rs := [25]) (by kernel_rfl) (by simp) ?_
  refine AllReadyH.cons (o := ?oa25) ?hoa25 (fun K hK => ?hsa25) AllReadyH.nil
  case hoa25 => (simp only [List.getElem?_toArray, List.getElem?_cons_succ, List.getElem?_cons_zero]; rfl)
  go_simp
  refine hK.out _ _ (HS.out _ ((((HVL.out).setCell (p := ⟨W0.heap.size, 0, none⟩) (Nat.le_refl _) (.int .i64 (q + 1))).setCell (p := ⟨W0.heap.size, 1, none⟩) (Nat.le_refl _) (.int .i64 nb)).setCell (p := ⟨W0.heap.size, 2, none⟩) (Nat.le_refl _) (.string id))) (fun hHeld => ?_)
  clear hK K
  try simp only [Act.put, List.setIfInBounds_toArray, List.set_cons_zero, List.set_cons_succ]
  refine wpAnyH_done (by kernel_rfl) ?_ _
  refine NoPanic.normal ?_
  have HB3 := hide ((((HVL.out).setCell (p := ⟨W0.heap.size, 0, none⟩) (Nat.le_refl _) (.int .i64 (q + 1))).setCell (p := ⟨W0.heap.size, 1, none⟩) (Nat.le_refl _) (.int .i64 nb)).setCell (p := ⟨W0.heap.size, 2, none⟩) (Nat.le_refl _) (.string id))
  have HR2 := hide (((HVB.out.set 0 (.int .i64 (q + 1))).set 1 (.int .i64 nb)).set 2 (.string id))
  clear r0 r1 r2 f0 f1 f2 hHeld HVB HVL
  generalize ((VA.setCell ⟨W0.heap.size, 0, none⟩ (.int .i64 (q + 1))).setCell ⟨W0.heap.size, 1, none⟩ (.int .i64 nb)).setCell ⟨W0.heap.size, 2, none⟩ (.string id) = W3 at HB3 HR2 ⊢
  simp only [List.set_cons_zero, List.set_cons_succ] at HR2
  obtain ⟨hD, hSF, hlo, hw, hw2, hy, hy2, hR, hq2, hv2, ha1, hys, ha2⟩ := HP.out
  have hS0 : w.heap.size ≤ W0.heap.size := HB0.out.size
  have hz1 : w.heap.size + 1 < W0.heap.size := HR1.out.lt
  have hSl := HSL.out
  have HFW := hide (fun i hi => (hD.lt i hi).2 : ∀ i, F i → i < w.heap.size)
  have HD3 := hide (HDK.out.below HB3.out)
  have HA0 := hide (HR0.out.on HB3.out)
  have HA1 := hide (HR1.out.on HB3.out)
  have HAS := hide (HSB.out.on HB3.out)
  have HLAY := hide (jlay_any lo D st F (q + 1) nb q2 id W3.drew (HD3.out.below (Below.refl _ _).drew) (Nat.le_trans hlo (Nat.le_trans hS0 HB3.out.size)) hw (by omega) hR hq2 hv2)
  rw [ha1] at HLAY
  have HSY := hide (fun (F1 : Nat → Prop) (V : World) (h : DSk lo D (wrSt st q2 (sealS (q + 1) nb id)) V F1) => dsync_any lo D _ F1 V h (by rw [hys]; exact hy) (by rw [hys]; exact hy2))
  rw [ha2] at HSY
  have HFS := hide hSF
  have HS4 := hide (fun (V : World) (h0 : Blk V w.heap.size [.pointer (some ⟨S, 0, none⟩)] 127) (h1 : Blk V S (sgC D tm k b x t l root pub sec rnd tot bat nx q bd id ov) 188) (h2 : Blk V W0.heap.size [.int .i64 (q + 1), .int .i64 nb, .string id] 186) => (⟨h0.cell 0, h1.cell 0, h2.cell 0, h2.cell 1, h2.cell 2⟩ : V.cell? ⟨w.heap.size, 0, none⟩ = some (.pointer (some ⟨S, 0, none⟩)) ∧ V.cell? ⟨S, 0, none⟩ = some (.pointer (some ⟨D, 0, none⟩)) ∧ V.cell? ⟨W0.heap.size, 0, none⟩ = some (.int .i64 (q + 1)) ∧ V.cell? ⟨W0.heap.size, 1, none⟩ = some (.int .i64 nb) ∧ V.cell? ⟨W0.heap.size, 2, none⟩ = some (.string id)))
  have HLE := hide (And.intro hS0 (And.intro hz1 hSl))
  have c00 := HA0.out.cell 0
  have c30 := HR2.out.cell 0
  clear c00 c30 HP hD hSF hlo hw hw2 hy hy2 hR hq2 hv2 ha1 hys ha2 hS0 hz1 hSl HS hq hbm hmin
  have hS : DL lo D st F W3 W3.drew := (DL.refl HD3.out).then (Below.refl _ _).drew
  go_wp2_with fail
  go_region_held3 (fun V => V.cell? ⟨w.heap.size, 0, none⟩ = some (.pointer (some ⟨S, 0, none⟩)) ∧ V.cell? ⟨S, 0, none⟩ = some (.pointer (some ⟨D, 0, none⟩)) ∧ V.cell? ⟨W0.heap.size, 0, none⟩ = some (.int .i64 (q + 1)) ∧ V.cell? ⟨W0.heap.size, 1, none⟩ = some (.int .i64 nb) ∧ V.cell? ⟨W0.heap.size, 2, none⟩ = some (.string id)) (exact HS4.out _ (hS.blk HA0.out (fun h => by have := HFW.out _ h; omega)) (hS.blk HAS.out HFS.out) (hS.blk HR2.out (fun h => by have := HFW.out _ h; have := HLE.out.1; omega))) (first | (go_at_call 183; refine HLAY.out.mono ?_; rintro e w4 ⟨rfl, hl4⟩; have hS := DL.of_below (Below.refl W3.heap.size W3).drew hl4 (fun i hi => (HD3.out.lt i hi).2)))
  have HA0' := hide (hS.blk HA0.out (fun h => by have := HFW.out _ h; omega))
  have HA1' := hide (hS.blk HA1.out (fun h => by have := HFW.out _ h; omega))
  have HAS' := hide (hS.blk HAS.out HFS.out)
  have HR2' := hide (hS.blk HR2.out (fun h => by have := HFW.out _ h; have := HLE.out.1; omega))
  obtain ⟨F1, hd1, hk1, hf1⟩ := hS
  have HX1 := hide (And.intro hk1 hf1)
  have HD1 := hide hd1
  clear hk1 hf1 hd1 hl4
  have a0 : w4.cell? ⟨w.heap.size, 0, none⟩ = some (.pointer (some ⟨S, 0, none⟩)) := HA0'.out.cell 0
  have a1 : w4.cell? ⟨S, 0, none⟩ = some (.pointer (some ⟨D, 0, none⟩)) := HAS'.out.cell 0
  go_wp2_with fail
  refine (HSY.out F1 w4 HD1.out).mono ?_
  rintro e w5 ⟨rfl, hl5⟩
  clear a0 a1
  have HN0 := hide (fun h => by (rcases HX1.out.2 _ h with h | h); (have := HFW.out _ h; omega); (have := HLE.out; have := HB3.out.size; omega) : ¬ F1 w.heap.size)
  have HN1 := hide (fun h => by (rcases HX1.out.2 _ h with h | h); (have := HFW.out _ h; omega); (have := HLE.out; have := HB3.out.size; omega) : ¬ F1 (w.heap.size + 1))
  have HN2 := hide (fun h => by (rcases HX1.out.2 _ h with h | h); (have := HFW.out _ h; have := HLE.out; omega); (have := HR2.out.lt; omega) : ¬ F1 W0.heap.size)
  have HNS := hide (fun h => by (rcases HX1.out.2 _ h with h | h); exact HFS.out h; (have := HLE.out; have := HB3.out.size; omega) : ¬ F1 S)
  have HB0' := hide (hl5.blk HA0'.out HN0.out)
  have HB1' := hide (hl5.blk HA1'.out HN1.out)
  have HBS' := hide (hl5.blk HAS'.out HNS.out)
  have HB2' := hide (hl5.blk HR2'.out HN2.out)
  have HL5 := hide hl5
  clear hl5
  have n1 : ¬ S = w.heap.size + 1 := by have := HLE.out; omega
  have m2 : w.heap.size ≠ S := by have := HLE.out; omega
  go_wp2
  have KS := (kept_set w5 ⟨S, 18, none⟩ (.bool true)).mono (G := fun k => k = S) (fun _ _ e => e)
  refine leaves_cons (f := 184) (args := #[.pointer (some ⟨w.heap.size + 1, 0, none⟩), .pointer (some ⟨w.heap.size, 0, none⟩)]) (by simp) (by simp [go_sem]) ?_
  refine (resv_deferred S w.heap.size (w.heap.size + 1) false (.bool ov) .returning _ (HB0'.out.cell 0) (HB1'.out.cell 0) (HBS'.out.cell 18) (HBS'.out.free 18)).mono ?_
  rintro e u' w'' ⟨rfl, rfl, rfl⟩
  refine ⟨_, results_tmp rfl _ _ _, rfl, HBS'.out.set 18 (.bool true), ?_⟩
  obtain ⟨F2, d2, k2, f2⟩ := HL5.out
  have nf : ∀ k, F2 k → F k ∨ W3.heap.size ≤ k := fun k hk => by
    rcases f2 k hk with h | h
    · exact HX1.out.2 k h
    · exact .inr (Nat.le_trans HX1.out.1.size h)
  have z3 := HB3.out.size
  have hle := HLE.out
  refine ⟨F2, d2.kept KS (fun k hk e => ?_), ?_, fun k hk => ?_⟩
  · have e' : k = S := e
    subst e'
    rcases nf _ hk with h | h
    · exact HFS.out h
    · omega
  · refine ((((Kept.of_below (F := fun k => k = S ∨ F k) (HB0.out.trans (HB3.out.mono HB0.out.size))).trans HX1.out.1 (fun i hi => .inl (.inr hi))).trans k2 (fun i hi => ?_))).trans KS (fun i hi => .inl (.inl hi))
    rcases HX1.out.2 i hi with h | h
    · exact .inl (.inr h)
    · exact .inr (by omega)
  · rcases nf k hk with h | h
    · exact .inl h
    · exact .inr (by omega)
end Go.Proofs.YtgaoeoijdpdjiabGreatDoor
