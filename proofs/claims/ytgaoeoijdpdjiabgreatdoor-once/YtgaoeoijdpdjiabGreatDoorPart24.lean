/-
  A reservation.
-/
import Derived.Test.YtgaoeoijdpdjiabGreatDoorPart3
import Derived.Test.YtgaoeoijdpdjiabGreatDoorPart15
import Derived.Test.YtgaoeoijdpdjiabGreatDoorPart23
namespace Go.Proofs.YtgaoeoijdpdjiabGreatDoor
open Go.RowKit

set_option maxRecDepth 20000 in
set_option maxHeartbeats 8000000 in
theorem reserve_yes (lo S D : Nat) (st : DSt) (F : Nat → Prop) (tm k b x t l : Int) (root pub sec rnd : ByteArray) (tot bat nx q bd : Int) (id : ByteArray) (ov : Bool) (m q2 nb : Int) (w : World)
    (hB : Blk w S (sgC D tm k b x t l root pub sec rnd tot bat nx q bd id ov) 188) (hD : DSk lo D st w F) (hSF : ¬ F S) (hlo : lo ≤ w.heap.size) (hw : 0 ≤ st.writes) (hw2 : st.writes < 9223372036854775806) (hy : 0 ≤ st.syncs) (hy2 : st.syncs < 9223372036854775807)
    (hR : RecR (q + 1) nb id) (hq2 : Int.tmod (q + 1) 2 = q2) (hv2 : IntKind.i64.wrap q2 = q2) (hq : IntKind.i64.wrap (q + 1) = q + 1) (hbm : IntKind.i64.wrap (bd + m) = bd + m) (hnb : (if tot < bd + m then tot else bd + m) = nb)
    (ha1 : wrAns st q2 (sealS (q + 1) nb id) = 0) (hys : (wrSt st q2 (sealS (q + 1) nb id)).syncs = st.syncs) (ha2 : syAns (wrSt st q2 (sealS (q + 1) nb id)) = 0) :
    Calls Tryz.prog 116 #[.pointer (some ⟨S, 0, none⟩), .int .i64 m] w fun e w' => e = .returned (.int .i64 0) ∧ Blk w' S (sgC D tm k b x t l root pub sec rnd tot bat nx (q + 1) nb id false) 188 ∧ ∃ F', DSk lo D (sySt (wrSt st q2 (sealS (q + 1) nb id))) w' F' ∧ Kept (fun k => k = S ∨ F k) w w' ∧ ∀ k, F' k → F k ∨ w.heap.size ≤ k := by
  have hmin : ∀ (ts : Array TypeId) (ty : TypeId) (V : World), (Builtin.min_ ts ty #[.int .i64 (bd + m), .int .i64 tot]).run Tryz.prog V = .ok (.int .i64 nb) V := by
    intro ts ty V
    rw [run_min_int2, hnb]
  obtain ⟨W0, hW⟩ : ∃ W0, (w.alloc (.cells #[.pointer (some ⟨S, 0, none⟩)] 127)).alloc (.cells #[.bool false] 4) = W0 := ⟨_, rfl⟩
  have HB0 := hide (show Below w.heap.size w W0 by subst hW; exact ((Below.refl _ _).alloc (Nat.le_refl _) _).alloc (by simp) _)
  have HR0 := hide (show Blk W0 w.heap.size [.pointer (some ⟨S, 0, none⟩)] 127 by rw [← hW]; exact (Blk.new w _ _).alloc _)
  have HR1 := hide (show Blk W0 (w.heap.size + 1) [.bool false] 4 by
    rw [← hW]
    have h := Blk.new (w.alloc (.cells #[.pointer (some ⟨S, 0, none⟩)] 127)) [.bool false] 4
    simp only [World.size_alloc] at h
    exact h)
  have HSB := hide (hB.on HB0.out)
  have HSL := hide hB.lt
  have HS := hide (fun (V : World) (h : Below W0.heap.size W0 V) => (by
    have q0 := HR0.out.on h
    have q1 := HSB.out.on h
    exact ⟨q0.cell 0, q1.cell 12, q1.cell 15, q1.cell 16, q1.cell 17⟩ : V.cell? ⟨w.heap.size, 0, none⟩ = some (.pointer (some ⟨S, 0, none⟩)) ∧ V.cell? ⟨S, 12, none⟩ = some (.int .i64 tot) ∧ V.cell? ⟨S, 15, none⟩ = some (.int .i64 q) ∧ V.cell? ⟨S, 16, none⟩ = some (.int .i64 bd) ∧ V.cell? ⟨S, 17, none⟩ = some (.string id)))
  have HWE := hide hW
  have HDK := hide (hD.below HB0.out)
  have hmf : ∀ (fn : Fn) (first cap : Array Value) (w : World), (Instr.makeFunc fn first cap).run Tryz.prog w = .ok (.func fn first cap) w := fun _ _ _ _ => rfl
  have HP := hide (And.intro hD (And.intro hSF (And.intro hlo (And.intro hw (And.intro hw2 (And.intro hy (And.intro hy2 (And.intro hR (And.intro hq2 (And.intro hv2 (And.intro ha1 (And.intro hys ha2))))))))))))
  clear hW hB hD hSF hlo hw hw2 hy hy2 hR hq2 hv2 hnb ha1 hys ha2
  go_enter_defers Tryz.func116, Tryz.ntmps116
  go_wp2_with fail
  rw [HWE.out]
  refine wp_region_noPanic ?_
  refine wp_region_held_drew (S := fun V => V.cell? ⟨w.heap.size, 0, none⟩ = some (.pointer (some ⟨S, 0, none⟩)) ∧ V.cell? ⟨S, 12, none⟩ = some (.int .i64 tot) ∧ V.cell? ⟨S, 15, none⟩ = some (.int .i64 q) ∧ V.cell? ⟨S, 16, none⟩ = some (.int .i64 bd) ∧ V.cell? ⟨S, 17, none⟩ = some (.string id)) (by kernel_rfl) (HS.out _ ((Below.refl W0.heap.size W0).drew)) (fun hHeld => ?_)
  refine tk 0 hHeld (h := ?_)
  refine tk 1 hHeld (h := ?_)
  refine tk 2 hHeld (h := ?_)
  refine tk 3 hHeld (h := ?_)
  refine tk 4 hHeld (h := ?_)
  refine tk 5 hHeld (h := ?_)
  refine tk 6 hHeld (h := ?_)
  refine tk 7 hHeld (h := ?_)
  refine tk 8 hHeld (h := ?_)
  refine tk 9 hHeld (h := ?_)
  refine tk 10 hHeld (h := ?_)
  refine tk 11 hHeld (h := ?_)
  refine tk 12 hHeld (h := ?_)
  refine tk 13 hHeld (h := ?_)
  refine tk 14 hHeld (h := ?_)
  refine tk 15 hHeld (h := ?_)
  refine tk 16 hHeld (h := ?_)
  refine tk 17 hHeld (h := ?_)
  refine tk 18 hHeld (h := ?_)
  refine tk 19 hHeld (h := ?_)
  refine tk 20 hHeld (h := ?_)
  refine tk 21 hHeld (h := ?_)
  refine tk 22 hHeld (h := ?_)
  refine tk 23 hHeld (h := ?_)
  refine wpAnyH_ready (rs := [24]) (by kernel_rfl) (by simp) ?_
  refine AllReadyH.cons (o := ?oa24) ?hoa24 (fun K hK => ?hsa24) AllReadyH.nil
  case hoa24 => (simp only [List.getElem?_toArray, List.getElem?_cons_succ, List.getElem?_cons_zero]; rfl)
  go_simp
  refine hK.out _ _ (HS.out _ ((Below.refl W0.heap.size W0).drew.alloc (Nat.le_refl _) _)) (fun hHeld => ?_)
  clear hK K
  try simp only [Act.put, List.setIfInBounds_toArray, List.set_cons_zero, List.set_cons_succ]
  obtain ⟨VA, hVA⟩ : ∃ VA, (W0.alloc (.cells #[.int .i64 0, .int .i64 0, .string ⟨#[]⟩] 186)).drew = VA := ⟨_, rfl⟩
  have HVB := hide (show Blk VA W0.heap.size [.int .i64 0, .int .i64 0, .string ⟨#[]⟩] 186 by rw [← hVA]; exact Blk.new W0 [.int .i64 0, .int .i64 0, .string ⟨#[]⟩] 186)
  have HVL := hide (show Below W0.heap.size W0 VA by rw [← hVA]; exact ((Below.refl W0.heap.size W0).alloc (Nat.le_refl _) _).drew)
  rw [hVA]
  clear hVA
  have r0 := HVB.out.cell 0
  have f0 := HVB.out.free 0
  have r1 := HVB.out.cell 1
  have f1 := HVB.out.free 1
  have r2 := HVB.out.cell 2
  have f2 := HVB.out.free 2
  simp only [List.getElem?_cons_zero, List.getElem?_cons_succ] at r0 r1 r2
  refine wpAnyH_ready (rs := [25]) (by kernel_rfl) (by simp) ?_
  refine AllReadyH.cons (o := ?oa25) ?hoa25 (fun K hK => ?hsa25) AllReadyH.nil
  case hoa25 => (simp only [List.getElem?_toArray, List.getElem?_cons_succ, List.getElem?_cons_zero]; rfl)
  go_simp
  refine hK.out _ _ (HS.out _ ((((HVL.out).setCell (p := ⟨W0.heap.size, 0, none⟩) (Nat.le_refl _) (.int .i64 (q + 1))).setCell (p := ⟨W0.heap.size, 1, none⟩) (Nat.le_refl _) (.int .i64 nb)).setCell (p := ⟨W0.heap.size, 2, none⟩) (Nat.le_refl _) (.string id))) (fun hHeld => ?_)
  clear hK K
  try simp only [Act.put, List.setIfInBounds_toArray, List.set_cons_zero, List.set_cons_succ]
  refine wpAnyH_done (by kernel_rfl) ?_ _
  refine NoPanic.normal ?_
  have HB3 := hide ((((HVL.out).setCell (p := ⟨W0.heap.size, 0, none⟩) (Nat.le_refl _) (.int .i64 (q + 1))).setCell (p := ⟨W0.heap.size, 1, none⟩) (Nat.le_refl _) (.int .i64 nb)).setCell (p := ⟨W0.heap.size, 2, none⟩) (Nat.le_refl _) (.string id))
  have HR2 := hide (((HVB.out.set 0 (.int .i64 (q + 1))).set 1 (.int .i64 nb)).set 2 (.string id))
  clear r0 r1 r2 f0 f1 f2 hHeld HVB HVL
  generalize ((VA.setCell ⟨W0.heap.size, 0, none⟩ (.int .i64 (q + 1))).setCell ⟨W0.heap.size, 1, none⟩ (.int .i64 nb)).setCell ⟨W0.heap.size, 2, none⟩ (.string id) = W3 at HB3 HR2 ⊢
  simp only [List.set_cons_zero, List.set_cons_succ] at HR2
  obtain ⟨hD, hSF, hlo, hw, hw2, hy, hy2, hR, hq2, hv2, ha1, hys, ha2⟩ := HP.out
  have hS0 : w.heap.size ≤ W0.heap.size := HB0.out.size
  have hz1 : w.heap.size + 1 < W0.heap.size := HR1.out.lt
  have hSl := HSL.out
  have HFW := hide (fun i hi => (hD.lt i hi).2 : ∀ i, F i → i < w.heap.size)
  have HD3 := hide (HDK.out.below HB3.out)
  have HA0 := hide (HR0.out.on HB3.out)
  have HA1 := hide (HR1.out.on HB3.out)
  have HAS := hide (HSB.out.on HB3.out)
  have HLAY := hide (jlay_any lo D st F (q + 1) nb q2 id W3.drew (HD3.out.below (Below.refl _ _).drew) (Nat.le_trans hlo (Nat.le_trans hS0 HB3.out.size)) hw (by omega) hR hq2 hv2)
  rw [ha1] at HLAY
  have HSY := hide (fun (F1 : Nat → Prop) (V : World) (h : DSk lo D (wrSt st q2 (sealS (q + 1) nb id)) V F1) => dsync_any lo D _ F1 V h (by rw [hys]; exact hy) (by rw [hys]; exact hy2))
  rw [ha2] at HSY
  have HFS := hide hSF
  have HS4 := hide (fun (V : World) (h0 : Blk V w.heap.size [.pointer (some ⟨S, 0, none⟩)] 127) (h1 : Blk V S (sgC D tm k b x t l root pub sec rnd tot bat nx q bd id ov) 188) (h2 : Blk V W0.heap.size [.int .i64 (q + 1), .int .i64 nb, .string id] 186) => (⟨h0.cell 0, h1.cell 0, h2.cell 0, h2.cell 1, h2.cell 2⟩ : V.cell? ⟨w.heap.size, 0, none⟩ = some (.pointer (some ⟨S, 0, none⟩)) ∧ V.cell? ⟨S, 0, none⟩ = some (.pointer (some ⟨D, 0, none⟩)) ∧ V.cell? ⟨W0.heap.size, 0, none⟩ = some (.int .i64 (q + 1)) ∧ V.cell? ⟨W0.heap.size, 1, none⟩ = some (.int .i64 nb) ∧ V.cell? ⟨W0.heap.size, 2, none⟩ = some (.string id)))
  have HLE := hide (And.intro hS0 (And.intro hz1 hSl))
  have c00 := HA0.out.cell 0
  have c30 := HR2.out.cell 0
  clear c00 c30 HP hD hSF hlo hw hw2 hy hy2 hR hq2 hv2 ha1 hys ha2 hS0 hz1 hSl HS hq hbm hmin
  have hS : DL lo D st F W3 W3.drew := (DL.refl HD3.out).then (Below.refl _ _).drew
  go_wp2_with fail
  go_region_held3 (fun V => V.cell? ⟨w.heap.size, 0, none⟩ = some (.pointer (some ⟨S, 0, none⟩)) ∧ V.cell? ⟨S, 0, none⟩ = some (.pointer (some ⟨D, 0, none⟩)) ∧ V.cell? ⟨W0.heap.size, 0, none⟩ = some (.int .i64 (q + 1)) ∧ V.cell? ⟨W0.heap.size, 1, none⟩ = some (.int .i64 nb) ∧ V.cell? ⟨W0.heap.size, 2, none⟩ = some (.string id)) (exact HS4.out _ (hS.blk HA0.out (fun h => by have := HFW.out _ h; omega)) (hS.blk HAS.out HFS.out) (hS.blk HR2.out (fun h => by have := HFW.out _ h; have := HLE.out.1; omega))) (first | (go_at_call 183; refine HLAY.out.mono ?_; rintro e w4 ⟨rfl, hl4⟩; have hS := DL.of_below (Below.refl W3.heap.size W3).drew hl4 (fun i hi => (HD3.out.lt i hi).2)))
  have HA0' := hide (hS.blk HA0.out (fun h => by have := HFW.out _ h; omega))
  have HA1' := hide (hS.blk HA1.out (fun h => by have := HFW.out _ h; omega))
  have HAS' := hide (hS.blk HAS.out HFS.out)
  have HR2' := hide (hS.blk HR2.out (fun h => by have := HFW.out _ h; have := HLE.out.1; omega))
  obtain ⟨F1, hd1, hk1, hf1⟩ := hS
  have HX1 := hide (And.intro hk1 hf1)
  have HD1 := hide hd1
  clear hk1 hf1 hd1 hl4
  have a0 : w4.cell? ⟨w.heap.size, 0, none⟩ = some (.pointer (some ⟨S, 0, none⟩)) := HA0'.out.cell 0
  have a1 : w4.cell? ⟨S, 0, none⟩ = some (.pointer (some ⟨D, 0, none⟩)) := HAS'.out.cell 0
  go_wp2_with fail
  refine (HSY.out F1 w4 HD1.out).mono ?_
  rintro e w5 ⟨rfl, hl5⟩
  clear a0 a1
  have HN0 := hide (fun h => by (rcases HX1.out.2 _ h with h | h); (have := HFW.out _ h; omega); (have := HLE.out; have := HB3.out.size; omega) : ¬ F1 w.heap.size)
  have HN1 := hide (fun h => by (rcases HX1.out.2 _ h with h | h); (have := HFW.out _ h; omega); (have := HLE.out; have := HB3.out.size; omega) : ¬ F1 (w.heap.size + 1))
  have HN2 := hide (fun h => by (rcases HX1.out.2 _ h with h | h); (have := HFW.out _ h; have := HLE.out; omega); (have := HR2.out.lt; omega) : ¬ F1 W0.heap.size)
  have HNS := hide (fun h => by (rcases HX1.out.2 _ h with h | h); exact HFS.out h; (have := HLE.out; have := HB3.out.size; omega) : ¬ F1 S)
  have HB0' := hide (hl5.blk HA0'.out HN0.out)
  have HB1' := hide (hl5.blk HA1'.out HN1.out)
  have HBS' := hide (hl5.blk HAS'.out HNS.out)
  have HB2' := hide (hl5.blk HR2'.out HN2.out)
  have HL5 := hide hl5
  clear hl5
  have a0 : w5.cell? ⟨w.heap.size, 0, none⟩ = some (.pointer (some ⟨S, 0, none⟩)) := HB0'.out.cell 0
  have a1 : w5.cell? ⟨w.heap.size + 1, 0, none⟩ = some (.bool false) := HB1'.out.cell 0
  have a2 : w5.frozen? ⟨w.heap.size + 1, 0, none⟩ = false := HB1'.out.free 0
  have b0 : w5.cell? ⟨W0.heap.size, 0, none⟩ = some (.int .i64 (q + 1)) := HB2'.out.cell 0
  have b1 : w5.cell? ⟨W0.heap.size, 1, none⟩ = some (.int .i64 nb) := HB2'.out.cell 1
  have b2 : w5.cell? ⟨W0.heap.size, 2, none⟩ = some (.string id) := HB2'.out.cell 2
  have s5 : w5.cell? ⟨S, 15, none⟩ = some (.int .i64 q) := HBS'.out.cell 15
  have s6 : w5.cell? ⟨S, 16, none⟩ = some (.int .i64 bd) := HBS'.out.cell 16
  have s7 : w5.cell? ⟨S, 17, none⟩ = some (.string id) := HBS'.out.cell 17
  have g5 := HBS'.out.free 15
  have g6 := HBS'.out.free 16
  have g7 := HBS'.out.free 17
  have n1 : ¬ S = w.heap.size + 1 := by have := HLE.out; omega
  have n2 : ¬ W0.heap.size = w.heap.size + 1 := by have := HLE.out; omega
  have n3 : ¬ w.heap.size + 1 = S := by have := HLE.out; omega
  have n4 : ¬ w.heap.size + 1 = W0.heap.size := by have := HLE.out; omega
  go_wp2
  clear a0 a1 a2 b0 b1 b2 s5 s6 s7 g5 g6 g7
  have m1 : w.heap.size ≠ w.heap.size + 1 := by omega
  have m2 : w.heap.size ≠ S := by have := HLE.out; omega
  have q0 := (((HB0'.out.other (a := ⟨w.heap.size + 1, 0, none⟩) (.bool true) m1).other (a := ⟨S, 15, none⟩) (.int .i64 (q + 1)) m2).other (a := ⟨S, 16, none⟩) (.int .i64 nb) m2).other (a := ⟨S, 17, none⟩) (.string id) m2
  have q1 := (((HB1'.out.set 0 (.bool true)).other (a := ⟨S, 15, none⟩) (.int .i64 (q + 1)) n3).other (a := ⟨S, 16, none⟩) (.int .i64 nb) n3).other (a := ⟨S, 17, none⟩) (.string id) n3
  have qS := (((HBS'.out.other (a := ⟨w.heap.size + 1, 0, none⟩) (.bool true) n1).set 15 (.int .i64 (q + 1))).set 16 (.int .i64 nb)).set 17 (.string id)
  have KS := (((kept_set w5 ⟨w.heap.size + 1, 0, none⟩ (.bool true)).mono (G := fun k => k = w.heap.size + 1 ∨ k = S) (fun _ _ e => .inl e)).setCell (p := ⟨S, 15, none⟩) (.inl (.inr rfl)) (.int .i64 (q + 1))).setCell (p := ⟨S, 16, none⟩) (.inl (.inr rfl)) (.int .i64 nb)
  have KS := (KS.setCell (p := ⟨S, 17, none⟩) (.inl (.inr rfl)) (.string id)).setCell (p := ⟨S, 18, none⟩) (.inl (.inr rfl)) (.bool false)
  refine leaves_cons (f := 184) (args := #[.pointer (some ⟨w.heap.size + 1, 0, none⟩), .pointer (some ⟨w.heap.size, 0, none⟩)]) (by simp) (by simp [go_sem]) ?_
  refine (resv_deferred S w.heap.size (w.heap.size + 1) true (.bool ov) .returning _ (q0.cell 0) (q1.cell 0) (qS.cell 18) (qS.free 18)).mono ?_
  rintro e u' w'' ⟨rfl, rfl, rfl⟩
  refine ⟨_, results_tmp rfl _ _ _, rfl, qS.set 18 (.bool false), ?_⟩
  obtain ⟨F2, d2, k2, f2⟩ := HL5.out
  have nf : ∀ k, F2 k → F k ∨ W3.heap.size ≤ k := fun k hk => by
    rcases f2 k hk with h | h
    · exact HX1.out.2 k h
    · exact .inr (Nat.le_trans HX1.out.1.size h)
  have z3 := HB3.out.size
  have hle := HLE.out
  refine ⟨F2, d2.kept KS (fun k hk => ?_), ?_, fun k hk => ?_⟩
  · rintro (rfl | rfl)
    · rcases nf _ hk with h | h
      · have := HFW.out _ h; omega
      · omega
    · rcases nf _ hk with h | h
      · exact HFS.out h
      · omega
  · refine ((((Kept.of_below (F := fun k => k = S ∨ F k) (HB0.out.trans (HB3.out.mono HB0.out.size))).trans HX1.out.1 (fun i hi => .inl (.inr hi))).trans k2 (fun i hi => ?_))).trans KS (fun i hi => ?_)
    · rcases HX1.out.2 i hi with h | h
      · exact .inl (.inr h)
      · exact .inr (by omega)
    · rcases hi with rfl | rfl
      · exact .inr (by omega)
      · exact .inl (.inl rfl)
  · rcases nf k hk with h | h
    · exact .inl h
    · exact .inr (by omega)
end Go.Proofs.YtgaoeoijdpdjiabGreatDoor
