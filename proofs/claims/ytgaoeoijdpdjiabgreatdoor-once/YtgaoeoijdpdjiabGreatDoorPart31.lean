/-
  The steps of Open, over any disk: what they answer, what they leave. The statement's own inOrder. A crash of the disk.
-/
import Derived.Test.YtgaoeoijdpdjiabGreatDoorPart30
import Derived.Test.YtgaoeoijdpdjiabGreatDoorPart27
import Derived.Test.YtgaoeoijdpdjiabGreatDoorPart16
namespace Go.Proofs.YtgaoeoijdpdjiabGreatDoor
open Go.RowKit

/-- The states of the disk, what the sectors read, what is found. -/
def opS (st : DSt) : Nat → DSt
  | 0 => st
  | 1 => sySt st
  | 2 => rdSt (sySt st) 0
  | _ => rdSt (rdSt (sySt st) 0) 1
def opR0 (st : DSt) : ByteArray × Int := rdAns (sySt st) 0
def opR1 (st : DSt) : ByteArray × Int := rdAns (rdSt (sySt st) 0) 1
def opL (st : DSt) : Nat → List Rec
  | 0 => []
  | 1 => []
  | 2 => foundR [] (opR0 st).1
  | _ => foundR (foundR [] (opR0 st).1) (opR1 st).1
def opT (st : DSt) (id : ByteArray) (tot : Int) : Rec := takeJ id tot ⟨0, 0, ⟨#[]⟩⟩ (opL st 3) (opL st 3).length
/-- What Open's steps answer, and what the disk is then. -/
def opAns (st : DSt) (id : ByteArray) (tot : Int) : Int := if syAns st ≠ 0 then syAns st else if (opR0 st).2 ≠ 0 then (opR0 st).2 else if (opR1 st).2 ≠ 0 then (opR1 st).2 else if (opT st id tot).q = 0 then 8 else 0
def opSt (st : DSt) : DSt := if syAns st ≠ 0 then opS st 1 else if (opR0 st).2 ≠ 0 then opS st 2 else opS st 3

theorem foundR_len (L : List Rec) (x : ByteArray) : (foundR L x).length ≤ L.length + 1 := by
  unfold foundR
  split <;> simp
theorem opL_len (st : DSt) : (opL st 3).length ≤ 2 := by
  have h0 := foundR_len [] (opR0 st).1
  have h1 := foundR_len (foundR [] (opR0 st).1) (opR1 st).1
  simp only [List.length_nil] at h0
  show (foundR (foundR [] (opR0 st).1) (opR1 st).1).length ≤ 2
  omega

def opF : List Nat := [107, 108, 109, 172]
def opV : List Value := opF.map fun f => .func (.func f) #[] #[]

/-- Behind so many steps that did not refuse. -/
def OPI (lo O SB D : Nat) (T : TypeId) (st : DSt) (id : ByteArray) (tot : Int) (F : Nat → Prop) (V : World) (j : Nat) (V' : World) : Prop :=
  (1 ≤ j → syAns st = 0) ∧ (2 ≤ j → (opR0 st).2 = 0) ∧ (3 ≤ j → (opR1 st).2 = 0) ∧ (4 ≤ j → (opT st id tot).q ≠ 0) ∧
  ∃ F' fv, OPG lo O SB D T opV (opS st j) id tot (opL st j) (if j ≤ 3 then ⟨0, 0, ⟨#[]⟩⟩ else opT st id tot) F V V' F' fv

theorem odone_any (lo O SB D : Nat) (T : TypeId) (st : DSt) (F : Nat → Prop) (id : ByteArray) (tot : Int) (V : World) (hD : DSk lo D st V F) (hOb : Blk V O (opC D id tot (.slice none 0 0) 0 0 ⟨#[]⟩) 246) (hSb : Blk V SB opV T) (nO : ¬ F O) (nS : ¬ F SB) (hlo : lo ≤ V.heap.size) (hOS : SB ≠ O) (y0 : 0 ≤ st.syncs) (y1 : st.syncs < 9223372036854775807) :
    Calls Tryz.prog 180 #[.pointer (some ⟨O, 0, none⟩), .slice (some ⟨SB, 0, none⟩) 4 4] V fun e w' => e = .returned (.int .i64 (opAns st id tot)) ∧
      ((opAns st id tot = 0 → ∃ fv, OPL lo O D (opSt st) (opC D id tot fv (opT st id tot).q (opT st id tot).b (opT st id tot).d) F V w') ∧ ∃ F2, DSk lo D (opSt st) w' F2 ∧ Kept (fun k => k = O ∨ F k) V w' ∧ ∀ k, F2 k → F k ∨ V.heap.size ≤ k) := by
  have hO := hOb.lt
  have hS := hSb.lt
  refine (done_on opF 4 O SB (OPI lo O SB D T st id tot F V) (fun c V' => c = opAns st id tot ∧ c ≠ 0 ∧ ∃ F2, DSk lo D (opSt st) V' F2 ∧ Kept (fun k => k = O ∨ F k) V V' ∧ ∀ k, F2 k → F k ∨ V.heap.size ≤ k) V rfl (by decide) ?_ ?_ ?_ ?_).mono ?_
  · refine ⟨fun h => by omega, fun h => by omega, fun h => by omega, fun h => by omega, F, .slice none 0 0, hD, World.ownsRow_nil _ _ _ _, hOb, hSb, Kept.refl _ _, fun k hk => .inl hk, fun k e => by simp [Value.ownBlock] at e⟩
  · intro j f hf args V'
    have hj : j < 4 := by have := (List.getElem?_eq_some_iff.1 hf).1; simpa [opF] using this
    rcases j with _ | _ | _ | _ | j
    · cases hf; exact enter_f _ _ Tryz.func107 (by kernel_rfl) (by kernel_rfl) args V'
    · cases hf; exact enter_f _ _ Tryz.func108 (by kernel_rfl) (by kernel_rfl) args V'
    · cases hf; exact enter_f _ _ Tryz.func109 (by kernel_rfl) (by kernel_rfl) args V'
    · cases hf; exact enter_f _ _ Tryz.func172 (by kernel_rfl) (by kernel_rfl) args V'
    · omega
  · rintro j f V' ⟨_, _, _, _, F', fv, h⟩ hf
    rw [h.s.cell j, opV, List.getElem?_map, hf]
    rfl
  · rintro j f V' ⟨i1, i2, i3, i4, F', fv, h⟩ hf
    have hj : j < 4 := by have := (List.getElem?_eq_some_iff.1 hf).1; simpa [opF] using this
    rcases j with _ | _ | _ | _ | j
    · cases hf
      refine (g_sync h hO nO hS nS y0 y1).mono ?_
      rintro e w' ⟨c, rfl, hc, F2, h2⟩
      refine ⟨c, rfl, fun h0 => ⟨fun _ => hc.symm.trans h0, fun h => by omega, fun h => by omega, fun h => by omega, F2, fv, h2⟩, fun hn => ?_⟩
      have hc' : c = syAns st := hc
      have hn' : syAns st ≠ 0 := by rw [← hc']; exact hn
      exact ⟨by rw [opAns, if_pos hn']; exact hc, hn, F2, by rw [opSt, if_pos hn']; exact h2.k, h2.kept, h2.foot⟩
    · cases hf
      have q1 := i1 (by omega)
      refine (oreadEven_on (fun c w' => (c = 0 → OPI lo O SB D T st id tot F V 2 w') ∧ (c ≠ 0 → (c = opAns st id tot ∧ c ≠ 0 ∧ ∃ F2, DSk lo D (opSt st) w' F2 ∧ Kept (fun k => k = O ∨ F k) V w' ∧ ∀ k, F2 k → F k ∨ V.heap.size ≤ k))) O V' ?_).mono (fun e w' h => h)
      by_cases hc : (opR0 st).2 = 0
      · refine (g_read_yes h hO nO hS nS hOS hlo (by show (opL st 1).length ≤ 100; simp [opL]) 0 (opR0 st).1 (by show opR0 st = _; rw [← hc])).mono ?_
        rintro e w' ⟨rfl, F2, fv2, h2⟩
        exact ⟨0, rfl, fun _ => ⟨fun _ => q1, fun _ => hc, fun h => by omega, fun h => by omega, F2, fv2, h2⟩, fun h => absurd rfl h⟩
      · refine (g_read_no h hO nO hS nS 0 (opR0 st).2 (opR0 st).1 rfl hc).mono ?_
        rintro e w' ⟨rfl, F2, h2⟩
        exact ⟨_, rfl, fun h => absurd h hc, fun _ => ⟨by rw [opAns, if_neg (fun h => h q1), if_pos hc], hc, F2, by rw [opSt, if_neg (fun h => h q1), if_pos hc]; exact h2.k, h2.kept, h2.foot⟩⟩
    · cases hf
      have q1 := i1 (by omega)
      have q2 := i2 (by omega)
      refine (oreadOdd_on (fun c w' => (c = 0 → OPI lo O SB D T st id tot F V 3 w') ∧ (c ≠ 0 → (c = opAns st id tot ∧ c ≠ 0 ∧ ∃ F2, DSk lo D (opSt st) w' F2 ∧ Kept (fun k => k = O ∨ F k) V w' ∧ ∀ k, F2 k → F k ∨ V.heap.size ≤ k))) O V' ?_).mono (fun e w' h => h)
      by_cases hc : (opR1 st).2 = 0
      · refine (g_read_yes h hO nO hS nS hOS hlo (by have := foundR_len [] (opR0 st).1; show (foundR [] (opR0 st).1).length ≤ 100; simp only [List.length_nil] at this; omega) 1 (opR1 st).1 (by show opR1 st = _; rw [← hc])).mono ?_
        rintro e w' ⟨rfl, F2, fv2, h2⟩
        exact ⟨0, rfl, fun _ => ⟨fun _ => q1, fun _ => q2, fun _ => hc, fun h => by omega, F2, fv2, h2⟩, fun h => absurd rfl h⟩
      · refine (g_read_no h hO nO hS nS 1 (opR1 st).2 (opR1 st).1 rfl hc).mono ?_
        rintro e w' ⟨rfl, F2, h2⟩
        exact ⟨_, rfl, fun h => absurd h hc, fun _ => ⟨by rw [opAns, if_neg (fun h => h q1), if_neg (fun h => h q2), if_pos hc], hc, F2, by rw [opSt, if_neg (fun h => h q1), if_neg (fun h => h q2)]; exact h2.k, h2.kept, h2.foot⟩⟩
    · cases hf
      have q1 := i1 (by omega)
      have q2 := i2 (by omega)
      have q3 := i3 (by omega)
      refine (g_take (L := opL st 3) (st := opS st 3) h hO nO hOS (Nat.le_trans (opL_len st) (by decide))).mono ?_
      rintro e w' ⟨c, rfl, hcc, h2⟩
      have eS : opSt st = opS st 3 := by rw [opSt, if_neg (fun h => h q1), if_neg (fun h => h q2)]
      rcases hcc with ⟨rfl, hq⟩ | ⟨rfl, hq⟩
      · refine ⟨8, rfl, fun h => by omega, fun _ => ⟨?_, by decide, F', by rw [eS]; exact h2.k, h2.kept, h2.foot⟩⟩
        rw [opAns, if_neg (fun h => h q1), if_neg (fun h => h q2), if_neg (fun h => h q3), if_pos (show (opT st id tot).q = 0 from hq)]
      · exact ⟨0, rfl, fun _ => ⟨fun _ => q1, fun _ => q2, fun _ => q3, fun _ => hq, F', fv, h2⟩, fun h => absurd rfl h⟩
    · omega
  · rintro e w' ⟨c, rfl, h0, h1⟩
    by_cases hc : c = 0
    · subst hc
      obtain ⟨i1, i2, i3, i4, F', fv, h⟩ := h0 rfl
      have eA : opAns st id tot = 0 := by rw [opAns, if_neg (fun h => h (i1 (by omega))), if_neg (fun h => h (i2 (by omega))), if_neg (fun h => h (i3 (by omega))), if_neg (i4 (by omega))]
      have eS : opSt st = opS st 3 := by rw [opSt, if_neg (fun h => h (i1 (by omega))), if_neg (fun h => h (i2 (by omega)))]
      rw [eA, eS]
      exact ⟨rfl, fun _ => ⟨fv, h.o, F', h.k, h.kept, h.foot⟩, F', h.k, h.kept, h.foot⟩
    · obtain ⟨rfl, hn, h2⟩ := h1 hc
      exact ⟨rfl, fun h => absurd h hn, h2⟩
end Go.Proofs.YtgaoeoijdpdjiabGreatDoor

namespace Go.Proofs.YtgaoeoijdpdjiabGreatDoor
open Go.RowKit

set_option maxRecDepth 20000 in
set_option maxHeartbeats 4000000 in
theorem inOrder_more (lo SD D G S : Nat) (st s2 : DSt) (vs v2 : List Value) (F : Nat → Prop) (k b x t l tot : Int) (kk : Nat) (msg z key : ByteArray) (w : World) (hI : IOS lo SD D G S st vs F w) (hT : Tn w) (hTB : 1 < lo) (hlo : lo ≤ w.heap.size) (hkk : (kk : Int) < tot)
    (hTo : ∀ V : World, Calls Tryz.prog 29 #[.agg #[.int .i64 k, .int .i64 b, .int .i64 x, .int .i64 t, .int .i64 l]] V fun e w' => e = .returned (.int .i64 tot) ∧ Below V.heap.size V w')
    (hSi : ∀ V : World, Below w.heap.size w V → Calls Tryz.prog 52 #[.pointer (some ⟨G, 0, none⟩), .string msg] V fun e w' => e = .returned (.tuple #[.string z, .int .i64 0]) ∧ IOL lo SD D G S s2 v2 F V w')
    (hKe : ∀ (V : World) (F' : Nat → Prop), IOS lo SD D G S s2 v2 F' V → Calls Tryz.prog 51 #[.pointer (some ⟨G, 0, none⟩)] V fun e w' => e = .returned (.string key) ∧ Below V.heap.size V w')
    (hVe : ∀ V : World, Tn V → Calls Tryz.prog 44 #[.string key, .string msg, .string z] V fun e w' => e = .returned (.int .i64 0) ∧ Below V.heap.size V w')
    (hz : 4 ≤ z.size) (hval : valN z 0 4 = kk) (hp : s2.pend.length = 0) (hw1 : IntKind.i64.wrap (s2.writes - st.writes) = s2.writes - st.writes) (hw2 : s2.writes - st.writes ≤ 1) :
    Calls Tryz.prog 27 #[.agg #[.int .i64 k, .int .i64 b, .int .i64 x, .int .i64 t, .int .i64 l], .pointer (some ⟨SD, 0, none⟩), .pointer (some ⟨G, 0, none⟩), .int .i64 kk, .string msg] w fun e w' => e = .returned (.bool true) ∧ IOL lo SD D G S s2 v2 F w w' := by
  obtain ⟨W0, hW⟩ : ∃ W0, w.alloc (.cells #[.int .i64 k, .int .i64 b, .int .i64 x, .int .i64 t, .int .i64 l] 26) = W0 := ⟨_, rfl⟩
  have HB := hide (show Below w.heap.size w W0 by subst hW; exact (Below.refl _ _).alloc (Nat.le_refl _) _)
  have HC := hide (show Blk W0 w.heap.size [.int .i64 k, .int .i64 b, .int .i64 x, .int .i64 t, .int .i64 l] 26 by rw [← hW]; exact Blk.new w _ _)
  have HI := hide hI
  have HTO := hide hTo
  have HSI := hide hSi
  have HKE := hide hKe
  have HVE := hide hVe
  have HV := hide (fun V : World => kvalue_on z V hz)
  rw [hval] at HV
  have HCN := hide (ioCount lo SD D G S st vs F W0 (hI.below HB.out))
  have HCN2 := hide (fun (V : World) (F' : Nat → Prop) (h : IOS lo SD D G S s2 v2 F' V) => ioCount lo SD D G S s2 v2 F' V h)
  rw [hp] at HCN2
  have HP := hide (And.intro hT (And.intro hTB hlo))
  have hz4 : (4 : Int) ≤ (z.size : Int) := by omega
  have HWE := hide hW
  generalize st.writes = wr1 at *
  generalize s2.writes = wr2 at *
  generalize st.syncs = sy1 at *
  generalize s2.syncs = sy2 at *
  generalize st.pend.length = pe1 at *
  clear hI hW hTo hSi hKe hVe hz hval hp hT hTB hlo
  go_enter Tryz.func27, Tryz.ntmps27
  go_wp2_with fail
  rw [HWE.out]
  refine HCN.out.mono ?_
  rintro e w1 ⟨rfl, hb1⟩
  obtain ⟨W1, hW1⟩ : ∃ W1, w1.alloc (.cells #[.int .i64 wr1, .int .i64 sy1, .int .i64 pe1] 137) = W1 := ⟨_, rfl⟩
  obtain ⟨CB, hCB⟩ : ∃ CB, w1.heap.size = CB := ⟨_, rfl⟩
  have HB1 := hide (show Below W0.heap.size W0 W1 by rw [← hW1]; exact hb1.alloc hb1.size _)
  have HCB := hide (show Blk W1 CB [.int .i64 wr1, .int .i64 sy1, .int .i64 pe1] 137 by rw [← hW1, ← hCB]; exact Blk.new w1 _ _)
  have HCW := hide (show w.heap.size ≤ CB by rw [← hCB]; exact Nat.le_trans HB.out.size hb1.size)
  have HC1 := hide (HC.out.on HB1.out)
  have HW1 := hide hW1
  have HCE := hide hCB
  have c0 : W1.cell? ⟨w.heap.size, 0, none⟩ = some (.int .i64 k) := HC1.out.cell 0
  have c1 : W1.cell? ⟨w.heap.size, 1, none⟩ = some (.int .i64 b) := HC1.out.cell 1
  have c2 : W1.cell? ⟨w.heap.size, 2, none⟩ = some (.int .i64 x) := HC1.out.cell 2
  have c3 : W1.cell? ⟨w.heap.size, 3, none⟩ = some (.int .i64 t) := HC1.out.cell 3
  have c4 : W1.cell? ⟨w.heap.size, 4, none⟩ = some (.int .i64 l) := HC1.out.cell 4
  rw [← hW1] at c0 c1 c2 c3 c4
  clear hb1 hW1 hCB
  go_wp2_with fail
  rw [HW1.out, HCE.out]
  refine (HTO.out _).mono ?_
  rintro e w2 ⟨rfl, hb2⟩
  have HB2 := hide (HB.out.trans ((HB1.out.trans (hb2.mono HB1.out.size)).mono HB.out.size))
  have HCB2 := hide (HCB.out.on hb2)
  clear hb2 c0 c1 c2 c3 c4
  go_wp2_with fail
  refine (HSI.out _ HB2.out).mono ?_
  rintro e w3 ⟨rfl, hl3⟩
  have hnS : CB ≠ S := by have := HI.out.s.lt; have := HCW.out; omega
  have hnF : ¬ F CB := fun h => by have := (HI.out.k.lt _ h).2; have := HCW.out; omega
  have HCB3 := hide (hl3.blk HCB2.out hnS hnF)
  have HL3 := hide (hl3.of_below HB2.out)
  clear hl3 hnS hnF
  go_wp2_with fail
  refine (HV.out _).mono ?_
  rintro e w4 ⟨rfl, hb4⟩
  have HL4 := hide (HL3.out.then hb4)
  have HCB4 := hide (HCB3.out.on hb4)
  clear hb4
  go_wp2_with fail
  obtain ⟨F4, HI4, HK4, HF4⟩ : ∃ F4, Hid (IOS lo SD D G S s2 v2 F4 w4) ∧ Hid (Kept (fun k => k = S ∨ F k) w w4) ∧ Hid (∀ k, F4 k → F k ∨ w.heap.size ≤ k) := by
    obtain ⟨F4, a, b, c⟩ := HL4.out
    exact ⟨F4, a, b, c⟩
  refine (HCN2.out _ F4 HI4.out).mono ?_
  rintro e w5 ⟨rfl, hb5⟩
  obtain ⟨W5, hW5⟩ : ∃ W5, w5.alloc (.cells #[.int .i64 wr2, .int .i64 sy2, .int .i64 0] 137) = W5 := ⟨_, rfl⟩
  obtain ⟨CC, hCC⟩ : ∃ CC, w5.heap.size = CC := ⟨_, rfl⟩
  have HB5 := hide (show Below w4.heap.size w4 W5 by rw [← hW5]; exact hb5.alloc hb5.size _)
  have HCC := hide (show Blk W5 CC [.int .i64 wr2, .int .i64 sy2, .int .i64 0] 137 by rw [← hW5, ← hCC]; exact Blk.new w5 _ _)
  have HCB5 := hide (HCB4.out.on HB5.out)
  have HW5 := hide hW5
  have HCCE := hide hCC
  clear hb5 hW5 hCC
  go_wp2_with fail
  try simp only [Int.ofNat_zero, Int.natCast_zero, Nat.cast_ofNat]
  rw [HW5.out, HCCE.out]
  refine (HKE.out _ F4 (HI4.out.below HB5.out)).mono ?_
  rintro e w6 ⟨rfl, hb6⟩
  have HB6 := hide (heldB HB5.out hb6 (Nat.le_refl _))
  have HCC6 := hide (HCC.out.on hb6)
  have HCB6 := hide (HCB5.out.on hb6)
  have HL6 := hide (HL4.out.then HB6.out)
  have HT6 := hide (HP.out.1.below (HL6.out.low HI.out.ls (fun k hk => (HI.out.k.lt k hk).1) HP.out.2.2) HP.out.2.1)
  clear hb6
  go_wp2_with fail
  refine (HVE.out _ HT6.out).mono ?_
  rintro e w7 ⟨rfl, hb7⟩
  have HL7 := hide (HL6.out.then hb7)
  have e0 : w7.cell? ⟨CC, 0, none⟩ = some (.int .i64 wr2) := (HCC6.out.on hb7).cell 0
  have e2 : w7.cell? ⟨CC, 2, none⟩ = some (.int .i64 0) := (HCC6.out.on hb7).cell 2
  have e3 : w7.cell? ⟨CB, 0, none⟩ = some (.int .i64 wr1) := (HCB6.out.on hb7).cell 0
  clear hb7
  go_wp2
  go_ret
  exact ⟨rfl, HL7.out⟩
end Go.Proofs.YtgaoeoijdpdjiabGreatDoor

namespace Go.Proofs.YtgaoeoijdpdjiabGreatDoor
open Go.RowKit

theorem dcrash_any (lo D : Nat) (st : DSt) (F : Nat → Prop) (kv : Value) (K : List Bool) (w : World) (h : DSk lo D st w F) (hK : BoolsAt w kv K) (hKL : K.length ≤ maxLen) (hKF : ∀ b o l c, kv = .slice (some ⟨b, o, none⟩) l c → 0 < l → b < w.heap.size ∧ ¬ F b) (hw : 0 ≤ st.term) (hw2 : st.term < 9223372036854775807) :
    Calls Tryz.prog 102 #[.pointer (some ⟨D, 0, none⟩), kv] w fun e w' => e = .returned (.tuple #[]) ∧ DL lo D (crSt st K) F w w' := by
  obtain ⟨E, pv, hd, rfl⟩ := h
  refine (crash_any lo D E pv st kv K w hd hK hKL hKF hw hw2).mono ?_
  rintro e w' ⟨rfl, a, b⟩
  exact ⟨rfl, dl_mk a b (fun k e => by simp [Value.ownBlock] at e)⟩

set_option maxRecDepth 20000 in
theorem skCrash_on (SD D : Nat) (a : Option Addr) (n c : Nat) (Q : World → Prop) (w : World) (hG : Blk w SD [.pointer (some ⟨D, 0, none⟩)] 135)
    (h : Calls Tryz.prog 102 #[.pointer (some ⟨D, 0, none⟩), .slice a n c] w fun e w' => e = .returned (.tuple #[]) ∧ Q w') :
    Calls Tryz.prog 60 #[.pointer (some ⟨SD, 0, none⟩), .slice a n c] w fun e w' => e = .returned (.tuple #[]) ∧ Q w' := by
  have H := hide h
  have c0 : w.cell? ⟨SD, 0, none⟩ = some (.pointer (some ⟨D, 0, none⟩)) := hG.cell 0
  clear h hG
  go_enter Tryz.func60, Tryz.ntmps60
  go_wp2_with fail
  refine H.out.mono ?_
  rintro e w1 ⟨rfl, hq⟩
  have HQ := hide hq
  clear hq
  go_wp2
  go_end0
  exact ⟨rfl, HQ.out⟩
end Go.Proofs.YtgaoeoijdpdjiabGreatDoor
