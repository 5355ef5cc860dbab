/-
  The steps of Make, over any disk: what they answer, what they leave. The statement's own inOrder, behind the last signature.
-/
import Derived.Test.YtgaoeoijdpdjiabGreatDoorPart31
namespace Go.Proofs.YtgaoeoijdpdjiabGreatDoor
open Go.RowKit

def mkT (st : DSt) (id : ByteArray) : DSt := wrSt (opS st 3) 1 (sealS 1 0 id)
/-- What Make's steps answer, and what the disk is then. -/
def mkAns (st : DSt) (id : ByteArray) : Int := if syAns st ≠ 0 then syAns st else if (opR0 st).2 ≠ 0 then (opR0 st).2 else if (opR1 st).2 ≠ 0 then (opR1 st).2 else if opL st 3 ≠ [] then 7 else if wrAns (opS st 3) 1 (sealS 1 0 id) ≠ 0 then wrAns (opS st 3) 1 (sealS 1 0 id) else syAns (mkT st id)
def mkSt (st : DSt) (id : ByteArray) : DSt := if syAns st ≠ 0 then opS st 1 else if (opR0 st).2 ≠ 0 then opS st 2 else if (opR1 st).2 ≠ 0 then opS st 3 else if opL st 3 ≠ [] then opS st 3 else if wrAns (opS st 3) 1 (sealS 1 0 id) ≠ 0 then mkT st id else sySt (mkT st id)

def mkStJ (st : DSt) (id : ByteArray) : Nat → DSt
  | 0 => opS st 0
  | 1 => opS st 1
  | 2 => opS st 2
  | 3 => opS st 3
  | 4 => opS st 3
  | 5 => mkT st id
  | _ => sySt (mkT st id)
def mkLJ (st : DSt) : Nat → List Rec
  | 0 => []
  | 1 => []
  | 2 => opL st 2
  | _ => opL st 3

/-- Behind so many steps that did not refuse. -/
def MKI (lo O SB D : Nat) (T : TypeId) (st : DSt) (id : ByteArray) (tot : Int) (F : Nat → Prop) (V : World) (j : Nat) (V' : World) : Prop :=
  (1 ≤ j → syAns st = 0) ∧ (2 ≤ j → (opR0 st).2 = 0) ∧ (3 ≤ j → (opR1 st).2 = 0) ∧ (4 ≤ j → opL st 3 = []) ∧ (5 ≤ j → wrAns (opS st 3) 1 (sealS 1 0 id) = 0) ∧ (6 ≤ j → syAns (mkT st id) = 0) ∧
  ∃ F' fv, OPG lo O SB D T mkV (mkStJ st id j) id tot (mkLJ st j) (if j ≤ 4 then ⟨0, 0, ⟨#[]⟩⟩ else ⟨1, 0, id⟩) F V V' F' fv

theorem mdone_any (lo O SB D : Nat) (T : TypeId) (st : DSt) (F : Nat → Prop) (id : ByteArray) (tot : Int) (V : World) (hD : DSk lo D st V F) (hOb : Blk V O (opC D id tot (.slice none 0 0) 0 0 ⟨#[]⟩) 246) (hSb : Blk V SB mkV T) (nO : ¬ F O) (nS : ¬ F SB) (hlo : lo ≤ V.heap.size) (hOS : SB ≠ O) (hid : id.size = 8) (y0 : 0 ≤ st.syncs) (y1 : st.syncs < 9223372036854775807)
    (r0 : 0 ≤ (opS st 3).writes) (r1 : (opS st 3).writes < 9223372036854775807) (y2 : 0 ≤ (mkT st id).syncs) (y3 : (mkT st id).syncs < 9223372036854775807) :
    Calls Tryz.prog 180 #[.pointer (some ⟨O, 0, none⟩), .slice (some ⟨SB, 0, none⟩) 6 6] V fun e w' => e = .returned (.int .i64 (mkAns st id)) ∧
      ((mkAns st id = 0 → ∃ fv, OPL lo O D (mkSt st id) (opC D id tot fv 1 0 id) F V w') ∧ ∃ F2, DSk lo D (mkSt st id) w' F2 ∧ Kept (fun k => k = O ∨ F k) V w' ∧ ∀ k, F2 k → F k ∨ V.heap.size ≤ k) := by
  have hO := hOb.lt
  have hS := hSb.lt
  refine (done_on mkF 6 O SB (MKI lo O SB D T st id tot F V) (fun c V' => c = mkAns st id ∧ c ≠ 0 ∧ ∃ F2, DSk lo D (mkSt st id) V' F2 ∧ Kept (fun k => k = O ∨ F k) V V' ∧ ∀ k, F2 k → F k ∨ V.heap.size ≤ k) V rfl (by decide) ?_ ?_ ?_ ?_).mono ?_
  · refine ⟨fun h => by omega, fun h => by omega, fun h => by omega, fun h => by omega, fun h => by omega, fun h => by omega, F, .slice none 0 0, hD, World.ownsRow_nil _ _ _ _, hOb, hSb, Kept.refl _ _, fun k hk => .inl hk, fun k e => by simp [Value.ownBlock] at e⟩
  · intro j f hf args V'
    have hj : j < 6 := by have := (List.getElem?_eq_some_iff.1 hf).1; simpa [mkF] using this
    rcases j with _ | _ | _ | _ | _ | _ | j
    · cases hf; exact enter_f _ _ Tryz.func107 (by kernel_rfl) (by kernel_rfl) args V'
    · cases hf; exact enter_f _ _ Tryz.func108 (by kernel_rfl) (by kernel_rfl) args V'
    · cases hf; exact enter_f _ _ Tryz.func109 (by kernel_rfl) (by kernel_rfl) args V'
    · cases hf; exact enter_f _ _ Tryz.func110 (by kernel_rfl) (by kernel_rfl) args V'
    · cases hf; exact enter_f _ _ Tryz.func111 (by kernel_rfl) (by kernel_rfl) args V'
    · cases hf; exact enter_f _ _ Tryz.func107 (by kernel_rfl) (by kernel_rfl) args V'
    · omega
  · rintro j f V' ⟨_, _, _, _, _, _, F', fv, h⟩ hf
    rw [h.s.cell j, mkV, List.getElem?_map, hf]
    rfl
  · rintro j f V' ⟨i1, i2, i3, i4, i5, i6, F', fv, h⟩ hf
    have hj : j < 6 := by have := (List.getElem?_eq_some_iff.1 hf).1; simpa [mkF] using this
    rcases j with _ | _ | _ | _ | _ | _ | j
    · cases hf
      refine (g_sync h hO nO hS nS y0 y1).mono ?_
      rintro e w' ⟨c, rfl, hc, F2, h2⟩
      have hc' : c = syAns st := hc
      refine ⟨c, rfl, fun h0 => ⟨fun _ => hc'.symm.trans h0, fun h => by omega, fun h => by omega, fun h => by omega, fun h => by omega, fun h => by omega, F2, fv, h2⟩, fun hn => ?_⟩
      have hn' : syAns st ≠ 0 := by rw [← hc']; exact hn
      exact ⟨by rw [mkAns, if_pos hn']; exact hc', hn, F2, by rw [mkSt, if_pos hn']; exact h2.k, h2.kept, h2.foot⟩
    · cases hf
      have q1 := i1 (by omega)
      refine (oreadEven_on (fun c w' => (c = 0 → MKI lo O SB D T st id tot F V 2 w') ∧ (c ≠ 0 → (c = mkAns st id ∧ c ≠ 0 ∧ ∃ F2, DSk lo D (mkSt st id) w' F2 ∧ Kept (fun k => k = O ∨ F k) V w' ∧ ∀ k, F2 k → F k ∨ V.heap.size ≤ k))) O V' ?_).mono (fun e w' h => h)
      by_cases hc : (opR0 st).2 = 0
      · refine (g_read_yes h hO nO hS nS hOS hlo (by show (mkLJ st 1).length ≤ 100; simp [mkLJ]) 0 (opR0 st).1 (by show opR0 st = _; rw [← hc])).mono ?_
        rintro e w' ⟨rfl, F2, fv2, h2⟩
        exact ⟨0, rfl, fun _ => ⟨fun _ => q1, fun _ => hc, fun h => by omega, fun h => by omega, fun h => by omega, fun h => by omega, F2, fv2, h2⟩, fun h => absurd rfl h⟩
      · refine (g_read_no h hO nO hS nS 0 (opR0 st).2 (opR0 st).1 rfl hc).mono ?_
        rintro e w' ⟨rfl, F2, h2⟩
        exact ⟨_, rfl, fun h => absurd h hc, fun _ => ⟨by rw [mkAns, if_neg (fun h => h q1), if_pos hc], hc, F2, by rw [mkSt, if_neg (fun h => h q1), if_pos hc]; exact h2.k, h2.kept, h2.foot⟩⟩
    · cases hf
      have q1 := i1 (by omega)
      have q2 := i2 (by omega)
      refine (oreadOdd_on (fun c w' => (c = 0 → MKI lo O SB D T st id tot F V 3 w') ∧ (c ≠ 0 → (c = mkAns st id ∧ c ≠ 0 ∧ ∃ F2, DSk lo D (mkSt st id) w' F2 ∧ Kept (fun k => k = O ∨ F k) V w' ∧ ∀ k, F2 k → F k ∨ V.heap.size ≤ k))) O V' ?_).mono (fun e w' h => h)
      by_cases hc : (opR1 st).2 = 0
      · refine (g_read_yes h hO nO hS nS hOS hlo (by have := foundR_len [] (opR0 st).1; show (foundR [] (opR0 st).1).length ≤ 100; simp only [List.length_nil] at this; omega) 1 (opR1 st).1 (by show opR1 st = _; rw [← hc])).mono ?_
        rintro e w' ⟨rfl, F2, fv2, h2⟩
        exact ⟨0, rfl, fun _ => ⟨fun _ => q1, fun _ => q2, fun _ => hc, fun h => by omega, fun h => by omega, fun h => by omega, F2, fv2, h2⟩, fun h => absurd rfl h⟩
      · refine (g_read_no h hO nO hS nS 1 (opR1 st).2 (opR1 st).1 rfl hc).mono ?_
        rintro e w' ⟨rfl, F2, h2⟩
        exact ⟨_, rfl, fun h => absurd h hc, fun _ => ⟨by rw [mkAns, if_neg (fun h => h q1), if_neg (fun h => h q2), if_pos hc], hc, F2, by rw [mkSt, if_neg (fun h => h q1), if_neg (fun h => h q2), if_pos hc]; exact h2.k, h2.kept, h2.foot⟩⟩
    · cases hf
      have q1 := i1 (by omega)
      have q2 := i2 (by omega)
      have q3 := i3 (by omega)
      refine (g_refuse h).mono ?_
      rintro e w' ⟨c, rfl, hcc, rfl⟩
      rcases hcc with ⟨rfl, hl⟩ | ⟨rfl, hl⟩
      · exact ⟨0, rfl, fun _ => ⟨fun _ => q1, fun _ => q2, fun _ => q3, fun _ => hl, fun h => by omega, fun h => by omega, F', fv, h⟩, fun h => absurd rfl h⟩
      · have hl' : opL st 3 ≠ [] := hl
        exact ⟨7, rfl, fun h => by omega, fun _ => ⟨by rw [mkAns, if_neg (fun h => h q1), if_neg (fun h => h q2), if_neg (fun h => h q3), if_pos hl'], by decide, F', by rw [mkSt, if_neg (fun h => h q1), if_neg (fun h => h q2), if_neg (fun h => h q3), if_pos hl']; exact h.k, h.kept, h.foot⟩⟩
    · cases hf
      have q1 := i1 (by omega)
      have q2 := i2 (by omega)
      have q3 := i3 (by omega)
      have q4 := i4 (by omega)
      refine (g_lay (st := opS st 3) (L := opL st 3) (lq0 := 0) (lb0 := 0) (ld0 := ⟨#[]⟩) h hO nO hS nS hOS hlo hid r0 r1).mono ?_
      rintro e w' ⟨c, rfl, hc, F2, h2⟩
      refine ⟨c, rfl, fun h0 => ⟨fun _ => q1, fun _ => q2, fun _ => q3, fun _ => q4, fun _ => hc.symm.trans h0, fun h => by omega, F2, fv, h2⟩, fun hn => ?_⟩
      have hn' : wrAns (opS st 3) 1 (sealS 1 0 id) ≠ 0 := by rw [← hc]; exact hn
      exact ⟨by rw [mkAns, if_neg (fun h => h q1), if_neg (fun h => h q2), if_neg (fun h => h q3), if_neg (fun h => h q4), if_pos hn']; exact hc, hn, F2, by rw [mkSt, if_neg (fun h => h q1), if_neg (fun h => h q2), if_neg (fun h => h q3), if_neg (fun h => h q4), if_pos hn']; exact h2.k, h2.kept, h2.foot⟩
    · cases hf
      have q1 := i1 (by omega)
      have q2 := i2 (by omega)
      have q3 := i3 (by omega)
      have q4 := i4 (by omega)
      have q5 := i5 (by omega)
      refine (g_sync (st := mkT st id) h hO nO hS nS y2 y3).mono ?_
      rintro e w' ⟨c, rfl, hc, F2, h2⟩
      refine ⟨c, rfl, fun h0 => ⟨fun _ => q1, fun _ => q2, fun _ => q3, fun _ => q4, fun _ => q5, fun _ => hc.symm.trans h0, F2, fv, h2⟩, fun hn => ?_⟩
      exact ⟨by rw [mkAns, if_neg (fun h => h q1), if_neg (fun h => h q2), if_neg (fun h => h q3), if_neg (fun h => h q4), if_neg (fun h => h q5)]; exact hc, hn, F2, by rw [mkSt, if_neg (fun h => h q1), if_neg (fun h => h q2), if_neg (fun h => h q3), if_neg (fun h => h q4), if_neg (fun h => h q5)]; exact h2.k, h2.kept, h2.foot⟩
    · omega
  · rintro e w' ⟨c, rfl, h0, h1⟩
    by_cases hc : c = 0
    · subst hc
      obtain ⟨i1, i2, i3, i4, i5, i6, F', fv, h⟩ := h0 rfl
      have eA : mkAns st id = 0 := by rw [mkAns, if_neg (fun h => h (i1 (by omega))), if_neg (fun h => h (i2 (by omega))), if_neg (fun h => h (i3 (by omega))), if_neg (fun h => h (i4 (by omega))), if_neg (fun h => h (i5 (by omega)))]; exact i6 (by omega)
      have eS : mkSt st id = sySt (mkT st id) := by rw [mkSt, if_neg (fun h => h (i1 (by omega))), if_neg (fun h => h (i2 (by omega))), if_neg (fun h => h (i3 (by omega))), if_neg (fun h => h (i4 (by omega))), if_neg (fun h => h (i5 (by omega)))]
      rw [eA, eS]
      exact ⟨rfl, fun _ => ⟨fv, h.o, F', h.k, h.kept, h.foot⟩, F', h.k, h.kept, h.foot⟩
    · obtain ⟨rfl, hn, h2⟩ := h1 hc
      exact ⟨rfl, fun h => absurd h hn, h2⟩
end Go.Proofs.YtgaoeoijdpdjiabGreatDoor

namespace Go.Proofs.YtgaoeoijdpdjiabGreatDoor
open Go.RowKit

theorem iol_comp {lo SD D G S : Nat} {s2 : DSt} {v2 : List Value} {F F1 : Nat → Prop} {w w' w2 : World} (b : Kept (fun k => k = S ∨ F k) w w') (c : ∀ k, F1 k → F k ∨ w.heap.size ≤ k) (k : IOL lo SD D G S s2 v2 F1 w' w2) : IOL lo SD D G S s2 v2 F w w2 := by
  obtain ⟨F2, a2, b2, c2⟩ := k
  refine ⟨F2, a2, b.trans b2 (fun i hi => ?_), fun i hi => ?_⟩
  · rcases hi with rfl | hi
    · exact .inl (.inl rfl)
    · rcases c i hi with h | h
      · exact .inl (.inr h)
      · exact .inr h
  · rcases c2 i hi with h | h
    · exact c i h
    · exact .inr (Nat.le_trans b.size h)

set_option maxRecDepth 20000 in
set_option maxHeartbeats 4000000 in
theorem inOrder_spent (lo SD D G S : Nat) (st : DSt) (vs : List Value) (F : Nat → Prop) (k b x t l tot : Int) (kk : Nat) (msg : ByteArray) (w : World) (hI : IOS lo SD D G S st vs F w) (hkk : tot ≤ (kk : Int)) (htr : st.trouble = 0)
    (hTo : ∀ V : World, Calls Tryz.prog 29 #[.agg #[.int .i64 k, .int .i64 b, .int .i64 x, .int .i64 t, .int .i64 l]] V fun e w' => e = .returned (.int .i64 tot) ∧ Below V.heap.size V w')
    (hSp : ∀ (V : World) (F' : Nat → Prop), IOS lo SD D G S { st with trouble := 1 } vs F' V → Calls Tryz.prog 52 #[.pointer (some ⟨G, 0, none⟩), .string msg] V fun e w' => e = .returned (.tuple #[.string ⟨#[]⟩, .int .i64 10]) ∧ Below V.heap.size V w') :
    Calls Tryz.prog 27 #[.agg #[.int .i64 k, .int .i64 b, .int .i64 x, .int .i64 t, .int .i64 l], .pointer (some ⟨SD, 0, none⟩), .pointer (some ⟨G, 0, none⟩), .int .i64 kk, .string msg] w fun e w' => e = .returned (.bool true) ∧ IOL lo SD D G S st vs F w w' := by
  obtain ⟨W0, hW⟩ : ∃ W0, w.alloc (.cells #[.int .i64 k, .int .i64 b, .int .i64 x, .int .i64 t, .int .i64 l] 26) = W0 := ⟨_, rfl⟩
  have HB := hide (show Below w.heap.size w W0 by subst hW; exact (Below.refl _ _).alloc (Nat.le_refl _) _)
  have HC := hide (show Blk W0 w.heap.size [.int .i64 k, .int .i64 b, .int .i64 x, .int .i64 t, .int .i64 l] 26 by rw [← hW]; exact Blk.new w _ _)
  have HI := hide hI
  have HTO := hide hTo
  have HSP := hide hSp
  have hn1 := hI.k.ok.lo
  have HCN := hide (fun (V : World) (F' : Nat → Prop) (h : IOS lo SD D G S st vs F' V) => ioCount lo SD D G S st vs F' V h)
  have HTR := hide (fun (V : World) (h : IOS lo SD D G S st vs F V) => ioTrouble lo SD D G S st vs F 1 V h (by decide) (by decide))
  have HRD := hide (fun (V : World) (F' : Nat → Prop) (h : IOS lo SD D G S { st with trouble := 1 } vs F' V) => ioRead lo SD D G S _ vs F' 0 V h)
  have h01 : (0 : Int) ≤ 0 ∧ (0 : Int) < ((({ st with trouble := 1 } : DSt)).n : Int) := ⟨Int.le_refl _, by show (0 : Int) < (st.n : Int); omega⟩
  have ea : rdAns { st with trouble := 1 } 0 = (⟨#[]⟩, 5) := by
    rw [rdAns, if_neg (fun h => h h01), if_pos rfl]
  have eb : rdSt { st with trouble := 1 } 0 = st := by
    rw [rdSt, if_neg (fun h => h h01)]
    show ({ st with trouble := tick 1 } : DSt) = st
    rw [show tick 1 = st.trouble by rw [htr]; decide]
  rw [ea, eb] at HRD
  have HWE := hide hW
  generalize st.writes = wr1 at HCN
  generalize st.syncs = sy1 at HCN
  generalize st.pend.length = pe1 at HCN
  generalize ({ st with trouble := 1 } : DSt) = s1 at HSP HTR HRD
  clear hI hW hTo hSp hn1 ea eb htr
  go_enter Tryz.func27, Tryz.ntmps27
  go_wp2_with fail
  rw [HWE.out]
  refine (HCN.out _ F (HI.out.below HB.out)).mono ?_
  rintro e w1 ⟨rfl, hb1⟩
  obtain ⟨W1, hW1⟩ : ∃ W1, w1.alloc (.cells #[.int .i64 wr1, .int .i64 sy1, .int .i64 pe1] 137) = W1 := ⟨_, rfl⟩
  obtain ⟨CB, hCB⟩ : ∃ CB, w1.heap.size = CB := ⟨_, rfl⟩
  have HB1 := hide (show Below W0.heap.size W0 W1 by rw [← hW1]; exact hb1.alloc hb1.size _)
  have HCB := hide (show Blk W1 CB [.int .i64 wr1, .int .i64 sy1, .int .i64 pe1] 137 by rw [← hW1, ← hCB]; exact Blk.new w1 _ _)
  have HCW := hide (show w.heap.size ≤ CB by rw [← hCB]; exact Nat.le_trans HB.out.size hb1.size)
  have HC1 := hide (HC.out.on HB1.out)
  have HW1 := hide hW1
  have HCE := hide hCB
  have c0 : W1.cell? ⟨w.heap.size, 0, none⟩ = some (.int .i64 k) := HC1.out.cell 0
  have c1 : W1.cell? ⟨w.heap.size, 1, none⟩ = some (.int .i64 b) := HC1.out.cell 1
  have c2 : W1.cell? ⟨w.heap.size, 2, none⟩ = some (.int .i64 x) := HC1.out.cell 2
  have c3 : W1.cell? ⟨w.heap.size, 3, none⟩ = some (.int .i64 t) := HC1.out.cell 3
  have c4 : W1.cell? ⟨w.heap.size, 4, none⟩ = some (.int .i64 l) := HC1.out.cell 4
  rw [← hW1] at c0 c1 c2 c3 c4
  clear hb1 hW1 hCB
  go_wp2_with fail
  rw [HW1.out, HCE.out]
  refine (HTO.out _).mono ?_
  rintro e w2 ⟨rfl, hb2⟩
  have HB2 := hide (HB.out.trans ((HB1.out.trans (hb2.mono HB1.out.size)).mono HB.out.size))
  have HCB2 := hide (HCB.out.on hb2)
  clear hb2 c0 c1 c2 c3 c4
  go_wp2_with fail
  refine (HTR.out _ (HI.out.below HB2.out)).mono ?_
  rintro e w3 ⟨rfl, hl3⟩
  have hnS : CB ≠ S := by have := HI.out.s.lt; have := HCW.out; omega
  have hnF : ¬ F CB := fun h => by have := (HI.out.k.lt _ h).2; have := HCW.out; omega
  have HCB3 := hide (hl3.blk HCB2.out hnS hnF)
  obtain ⟨F3, a3, b3, d3⟩ := hl3
  have hnF3 : ¬ F3 CB := fun h => by
    rcases d3 _ h with h | h
    · exact hnF h
    · have := HCB2.out.lt; omega
  have HI3 := hide a3
  have HX3 := hide (And.intro b3 d3)
  have HNN := hide (And.intro hnS hnF3)
  clear a3 b3 d3 hnS hnF hnF3
  go_wp2_with fail
  refine (HSP.out _ F3 HI3.out).mono ?_
  rintro e w4 ⟨rfl, hb4⟩
  have HI4 := hide (HI3.out.below hb4)
  have HCB4 := hide (HCB3.out.on hb4)
  have HK4 := hide (HX3.out.1.after hb4)
  clear hb4
  go_wp2_with fail
  refine (HRD.out _ F3 HI4.out).mono ?_
  rintro e w5 ⟨rfl, hl5⟩
  have HCB5 := hide (hl5.blk HCB4.out HNN.out.1 HNN.out.2)
  have HL5 := hide ((iol_comp HK4.out HX3.out.2 hl5).of_below HB2.out)
  clear hl5
  go_wp2_with fail
  obtain ⟨F5, HI5⟩ : ∃ F5, Hid (IOS lo SD D G S st vs F5 w5) := by
    obtain ⟨F5, a, b, c⟩ := HL5.out
    exact ⟨F5, a⟩
  refine (HCN.out _ F5 HI5.out).mono ?_
  rintro e w6 ⟨rfl, hb6⟩
  have HL6 := hide ((HL5.out.then hb6).then ((Below.refl _ w6).alloc (Nat.le_refl _) (.cells #[.int .i64 wr1, .int .i64 sy1, .int .i64 pe1] 137)))
  obtain ⟨W6, hW6⟩ : ∃ W6, w6.alloc (.cells #[.int .i64 wr1, .int .i64 sy1, .int .i64 pe1] 137) = W6 := ⟨_, rfl⟩
  obtain ⟨CC, hCC⟩ : ∃ CC, w6.heap.size = CC := ⟨_, rfl⟩
  have HCC := hide (show Blk W6 CC [.int .i64 wr1, .int .i64 sy1, .int .i64 pe1] 137 by rw [← hW6, ← hCC]; exact Blk.new w6 _ _)
  have HCB6 := hide (show Blk W6 CB [.int .i64 wr1, .int .i64 sy1, .int .i64 pe1] 137 by rw [← hW6]; exact (HCB5.out.on hb6).alloc _)
  rw [hW6] at HL6
  have e0 : W6.cell? ⟨CC, 0, none⟩ = some (.int .i64 wr1) := HCC.out.cell 0
  have e1 : W6.cell? ⟨CC, 1, none⟩ = some (.int .i64 sy1) := HCC.out.cell 1
  have e2 : W6.cell? ⟨CC, 2, none⟩ = some (.int .i64 pe1) := HCC.out.cell 2
  have g0 : W6.cell? ⟨CB, 0, none⟩ = some (.int .i64 wr1) := HCB6.out.cell 0
  have g1 : W6.cell? ⟨CB, 1, none⟩ = some (.int .i64 sy1) := HCB6.out.cell 1
  have g2 : W6.cell? ⟨CB, 2, none⟩ = some (.int .i64 pe1) := HCB6.out.cell 2
  rw [← hW6] at e0 e1 e2 g0 g1 g2
  rw [← hCC] at e0 e1 e2
  have HW6 := hide hW6
  clear hb6 hW6 hCC
  go_wp2
  rw [HW6.out]
  go_ret
  exact ⟨rfl, HL6.out⟩
end Go.Proofs.YtgaoeoijdpdjiabGreatDoor
