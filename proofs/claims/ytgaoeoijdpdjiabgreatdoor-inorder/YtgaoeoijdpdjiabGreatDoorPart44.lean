/-
  The statement's own inOrder.
-/
import Derived.Test.YtgaoeoijdpdjiabGreatDoorPart43
import Derived.Test.YtgaoeoijdpdjiabGreatDoorPart29
namespace Go.Proofs.YtgaoeoijdpdjiabGreatDoor
open Go.RowKit

set_option maxRecDepth 20000 in
set_option maxHeartbeats 4000000 in
theorem inOrder_more (lo SD D G S : Nat) (st s2 : DSt) (vs v2 : List Value) (F : Nat → Prop) (k b x t l tot : Int) (kk : Nat) (msg z key : ByteArray) (w : World) (hI : IOS lo SD D G S st vs F w) (hT : Tn w) (hTB : 1 < lo) (hlo : lo ≤ w.heap.size) (hkk : (kk : Int) < tot)
    (hTo : ∀ V : World, Calls Tryz.prog 29 #[.agg #[.int .i64 k, .int .i64 b, .int .i64 x, .int .i64 t, .int .i64 l]] V fun e w' => e = .returned (.int .i64 tot) ∧ Below V.heap.size V w')
    (hSi : ∀ V : World, Below w.heap.size w V → Calls Tryz.prog 52 #[.pointer (some ⟨G, 0, none⟩), .string msg] V fun e w' => e = .returned (.tuple #[.string z, .int .i64 0]) ∧ IOL lo SD D G S s2 v2 F V w')
    (hKe : ∀ (V : World) (F' : Nat → Prop), IOS lo SD D G S s2 v2 F' V → Calls Tryz.prog 51 #[.pointer (some ⟨G, 0, none⟩)] V fun e w' => e = .returned (.string key) ∧ Below V.heap.size V w')
    (hVe : ∀ V : World, Tn V → Calls Tryz.prog 44 #[.string key, .string msg, .string z] V fun e w' => e = .returned (.int .i64 0) ∧ Below V.heap.size V w')
    (hz : 4 ≤ z.size) (hval : valN z 0 4 = kk) (hp : s2.pend.length = 0) (hw1 : IntKind.i64.wrap (s2.writes - st.writes) = s2.writes - st.writes) (hw2 : s2.writes - st.writes ≤ 1) :
    Calls Tryz.prog 27 #[.agg #[.int .i64 k, .int .i64 b, .int .i64 x, .int .i64 t, .int .i64 l], .pointer (some ⟨SD, 0, none⟩), .pointer (some ⟨G, 0, none⟩), .int .i64 kk, .string msg] w fun e w' => e = .returned (.bool true) ∧ IOL lo SD D G S s2 v2 F w w' := by
  obtain ⟨W0, hW⟩ : ∃ W0, w.alloc (.cells #[.int .i64 k, .int .i64 b, .int .i64 x, .int .i64 t, .int .i64 l] 26) = W0 := ⟨_, rfl⟩
  have HB := hide (show Below w.heap.size w W0 by subst hW; exact (Below.refl _ _).alloc (Nat.le_refl _) _)
  have HC := hide (show Blk W0 w.heap.size [.int .i64 k, .int .i64 b, .int .i64 x, .int .i64 t, .int .i64 l] 26 by rw [← hW]; exact Blk.new w _ _)
  have HI := hide hI
  have HTO := hide hTo
  have HSI := hide hSi
  have HKE := hide hKe
  have HVE := hide hVe
  have HV := hide (fun V : World => kvalue_on z V hz)
  rw [hval] at HV
  have HCN := hide (ioCount lo SD D G S st vs F W0 (hI.below HB.out))
  have HCN2 := hide (fun (V : World) (F' : Nat → Prop) (h : IOS lo SD D G S s2 v2 F' V) => ioCount lo SD D G S s2 v2 F' V h)
  rw [hp] at HCN2
  have HP := hide (And.intro hT (And.intro hTB hlo))
  have hz4 : (4 : Int) ≤ (z.size : Int) := by omega
  have HWE := hide hW
  generalize st.writes = wr1 at *
  generalize s2.writes = wr2 at *
  generalize st.syncs = sy1 at *
  generalize s2.syncs = sy2 at *
  generalize st.pend.length = pe1 at *
  clear hI hW hTo hSi hKe hVe hz hval hp hT hTB hlo
  go_enter Tryz.func27, Tryz.ntmps27
  go_wp2_with fail
  rw [HWE.out]
  refine HCN.out.mono ?_
  rintro e w1 ⟨rfl, hb1⟩
  obtain ⟨W1, hW1⟩ : ∃ W1, w1.alloc (.cells #[.int .i64 wr1, .int .i64 sy1, .int .i64 pe1] 137) = W1 := ⟨_, rfl⟩
  obtain ⟨CB, hCB⟩ : ∃ CB, w1.heap.size = CB := ⟨_, rfl⟩
  have HB1 := hide (show Below W0.heap.size W0 W1 by rw [← hW1]; exact hb1.alloc hb1.size _)
  have HCB := hide (show Blk W1 CB [.int .i64 wr1, .int .i64 sy1, .int .i64 pe1] 137 by rw [← hW1, ← hCB]; exact Blk.new w1 _ _)
  have HCW := hide (show w.heap.size ≤ CB by rw [← hCB]; exact Nat.le_trans HB.out.size hb1.size)
  have HC1 := hide (HC.out.on HB1.out)
  have HW1 := hide hW1
  have HCE := hide hCB
  have c0 : W1.cell? ⟨w.heap.size, 0, none⟩ = some (.int .i64 k) := HC1.out.cell 0
  have c1 : W1.cell? ⟨w.heap.size, 1, none⟩ = some (.int .i64 b) := HC1.out.cell 1
  have c2 : W1.cell? ⟨w.heap.size, 2, none⟩ = some (.int .i64 x) := HC1.out.cell 2
  have c3 : W1.cell? ⟨w.heap.size, 3, none⟩ = some (.int .i64 t) := HC1.out.cell 3
  have c4 : W1.cell? ⟨w.heap.size, 4, none⟩ = some (.int .i64 l) := HC1.out.cell 4
  rw [← hW1] at c0 c1 c2 c3 c4
  clear hb1 hW1 hCB
  go_wp2_with fail
  rw [HW1.out, HCE.out]
  refine (HTO.out _).mono ?_
  rintro e w2 ⟨rfl, hb2⟩
  have HB2 := hide (HB.out.trans ((HB1.out.trans (hb2.mono HB1.out.size)).mono HB.out.size))
  have HCB2 := hide (HCB.out.on hb2)
  clear hb2 c0 c1 c2 c3 c4
  go_wp2_with fail
  refine (HSI.out _ HB2.out).mono ?_
  rintro e w3 ⟨rfl, hl3⟩
  have hnS : CB ≠ S := by have := HI.out.s.lt; have := HCW.out; omega
  have hnF : ¬ F CB := fun h => by have := (HI.out.k.lt _ h).2; have := HCW.out; omega
  have HCB3 := hide (hl3.blk HCB2.out hnS hnF)
  have HL3 := hide (hl3.of_below HB2.out)
  clear hl3 hnS hnF
  go_wp2_with fail
  refine (HV.out _).mono ?_
  rintro e w4 ⟨rfl, hb4⟩
  have HL4 := hide (HL3.out.then hb4)
  have HCB4 := hide (HCB3.out.on hb4)
  clear hb4
  go_wp2_with fail
  obtain ⟨F4, HI4, HK4, HF4⟩ : ∃ F4, Hid (IOS lo SD D G S s2 v2 F4 w4) ∧ Hid (Kept (fun k => k = S ∨ F k) w w4) ∧ Hid (∀ k, F4 k → F k ∨ w.heap.size ≤ k) := by
    obtain ⟨F4, a, b, c⟩ := HL4.out
    exact ⟨F4, a, b, c⟩
  refine (HCN2.out _ F4 HI4.out).mono ?_
  rintro e w5 ⟨rfl, hb5⟩
  obtain ⟨W5, hW5⟩ : ∃ W5, w5.alloc (.cells #[.int .i64 wr2, .int .i64 sy2, .int .i64 0] 137) = W5 := ⟨_, rfl⟩
  obtain ⟨CC, hCC⟩ : ∃ CC, w5.heap.size = CC := ⟨_, rfl⟩
  have HB5 := hide (show Below w4.heap.size w4 W5 by rw [← hW5]; exact hb5.alloc hb5.size _)
  have HCC := hide (show Blk W5 CC [.int .i64 wr2, .int .i64 sy2, .int .i64 0] 137 by rw [← hW5, ← hCC]; exact Blk.new w5 _ _)
  have HCB5 := hide (HCB4.out.on HB5.out)
  have HW5 := hide hW5
  have HCCE := hide hCC
  clear hb5 hW5 hCC
  go_wp2_with fail
  try simp only [Int.ofNat_zero, Int.natCast_zero, Nat.cast_ofNat]
  rw [HW5.out, HCCE.out]
  refine (HKE.out _ F4 (HI4.out.below HB5.out)).mono ?_
  rintro e w6 ⟨rfl, hb6⟩
  have HB6 := hide (heldB HB5.out hb6 (Nat.le_refl _))
  have HCC6 := hide (HCC.out.on hb6)
  have HCB6 := hide (HCB5.out.on hb6)
  have HL6 := hide (HL4.out.then HB6.out)
  have HT6 := hide (HP.out.1.below (HL6.out.low HI.out.ls (fun k hk => (HI.out.k.lt k hk).1) HP.out.2.2) HP.out.2.1)
  clear hb6
  go_wp2_with fail
  refine (HVE.out _ HT6.out).mono ?_
  rintro e w7 ⟨rfl, hb7⟩
  have HL7 := hide (HL6.out.then hb7)
  have e0 : w7.cell? ⟨CC, 0, none⟩ = some (.int .i64 wr2) := (HCC6.out.on hb7).cell 0
  have e2 : w7.cell? ⟨CC, 2, none⟩ = some (.int .i64 0) := (HCC6.out.on hb7).cell 2
  have e3 : w7.cell? ⟨CB, 0, none⟩ = some (.int .i64 wr1) := (HCB6.out.on hb7).cell 0
  clear hb7
  go_wp2
  go_ret
  exact ⟨rfl, HL7.out⟩
end Go.Proofs.YtgaoeoijdpdjiabGreatDoor
