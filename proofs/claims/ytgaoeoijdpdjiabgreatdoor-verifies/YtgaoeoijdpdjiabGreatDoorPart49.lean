/-
  The statement Verifies answers true.
-/
import Derived.Test.YtgaoeoijdpdjiabGreatDoorPart48
import Derived.Test.YtgaoeoijdpdjiabGreatDoorPart47
import Derived.Test.YtgaoeoijdpdjiabGreatDoorPart35
namespace Go.Proofs.YtgaoeoijdpdjiabGreatDoor
open Go.RowKit

set_option maxRecDepth 20000 in
set_option maxHeartbeats 4000000 in
theorem verifiesLaw_true (k b x t l idx : Int) (rnd : ByteArray) (sp : Option Addr) (n c : Nat) (xs : List ByteArray) (key msg sig : ByteArray) (w : World) (hT : Tn w) (hP : StrsAt w sp n c xs) (hN : xs.length ≤ 8796093022208) :
    Calls Tryz.prog 4 #[.agg #[.int .i64 k, .int .i64 b, .int .i64 x, .int .i64 t, .int .i64 l], .agg #[.int .i64 idx, .string rnd, .slice sp n c], .string key, .string msg, .string sig] w fun r w' => r = .returned (.bool true) ∧ Below w.heap.size w w' := by
  obtain ⟨W0, hW⟩ : ∃ W0, ((w.alloc (.cells #[.int .i64 k, .int .i64 b, .int .i64 x, .int .i64 t, .int .i64 l] 26)).alloc (.cells #[.int .i64 idx, .string rnd, .slice sp n c] 29)).alloc (.cells #[.slice none 0 0, .slice none 0 0, .slice none 0 0] 35) = W0 := ⟨_, rfl⟩
  have HK := hide (show Blk W0 w.heap.size [.int .i64 k, .int .i64 b, .int .i64 x, .int .i64 t, .int .i64 l] 26 by rw [← hW]; exact ((Blk.new w _ _).alloc _).alloc _)
  have HPA := hide (show Blk W0 (w.heap.size + 1) [.int .i64 idx, .string rnd, .slice sp n c] 29 by
    rw [← hW]
    have h := (Blk.new (w.alloc (.cells #[.int .i64 k, .int .i64 b, .int .i64 x, .int .i64 t, .int .i64 l] 26)) [.int .i64 idx, .string rnd, .slice sp n c] 29).alloc (.cells #[.slice none 0 0, .slice none 0 0, .slice none 0 0] 35)
    simp only [World.size_alloc] at h
    exact h)
  have HBO := hide (show W0.heap[w.heap.size + 1 + 1]? = some (.cells #[.slice none 0 0, .slice none 0 0, .slice none 0 0] 35 (0, 0)) by
    rw [← hW]
    have h := heap_alloc_new ((w.alloc (.cells #[.int .i64 k, .int .i64 b, .int .i64 x, .int .i64 t, .int .i64 l] 26)).alloc (.cells #[.int .i64 idx, .string rnd, .slice sp n c] 29)) (.cells #[.slice none 0 0, .slice none 0 0, .slice none 0 0] 35)
    simp only [World.size_alloc] at h
    exact h)
  have hz : W0.heap.size = w.heap.size + 1 + 1 + 1 := by subst hW; simp
  have HB := hide (show Below w.heap.size w W0 by subst hW; exact (((Below.refl _ _).alloc (Nat.le_refl _) _).alloc (by simp) _).alloc (by simp; omega) _)
  have HBU := hide (fun (V : World) (h : Below (w.heap.size + 1 + 1) W0 V) => HB.out.trans (h.mono (by omega)))
  have HS := hide (fun (V : World) (h : Below (w.heap.size + 1 + 1) W0 V) => (by
    have q1 := HK.out.below h (by omega)
    have q2 := HPA.out.below h (by omega)
    exact ⟨q1.cell 0, q1.cell 1, q1.cell 2, q1.cell 3, q1.cell 4, q2.cell 0, q2.cell 1, q2.cell 2⟩ : V.cell? ⟨w.heap.size, 0, none⟩ = some (.int .i64 k) ∧ V.cell? ⟨w.heap.size, 1, none⟩ = some (.int .i64 b) ∧ V.cell? ⟨w.heap.size, 2, none⟩ = some (.int .i64 x) ∧ V.cell? ⟨w.heap.size, 3, none⟩ = some (.int .i64 t) ∧ V.cell? ⟨w.heap.size, 4, none⟩ = some (.int .i64 l) ∧ V.cell? ⟨w.heap.size + 1, 0, none⟩ = some (.int .i64 idx) ∧ V.cell? ⟨w.heap.size + 1, 1, none⟩ = some (.string rnd) ∧ V.cell? ⟨w.heap.size + 1, 2, none⟩ = some (.slice sp n c)))
  have K0 := hide (show BookT W0 (w.heap.size + 1 + 1 + 1) (w.heap.size + 1 + 1) (.slice none 0 0) [] from ⟨HBO.out, World.ownsRow_nil _ _ _ _, fun i s hs => by simp at hs, by simp⟩)
  have HSP := hide (fun (v : Value) (S : List Value) (V : World) => splits_any (w.heap.size + 1 + 1) (w.heap.size + 1 + 1 + 1) (w.heap.size + 1 + 1) v S k b x t l sig V)
  have HJ := hide (fun (V : World) (h : Below (w.heap.size + 1 + 1) W0 V) => joins_any k b x t l idx rnd sp n c xs V (hP.on (HBU.out V h)) hN)
  have HV := hide (fun (V : World) (h : Below (w.heap.size + 1 + 1) W0 V) => verifies_any key msg sig V (hT.on (HBU.out V h)))
  have HS0 := hide (HSP.out _ _ W0 K0.out rfl (by simp) (by omega) (by omega) (by omega) (by omega))
  obtain ⟨c0, c1, c2, c3, c4, d0, d1, d2⟩ := HS.out W0 (Below.refl _ _)
  have HWE := hide hW
  clear hW hP hN hT HBO
  go_enter Tryz.func4, Tryz.ntmps4
  go_wp2_with fail
  rw [HWE.out]
  refine HS0.out.mono ?_
  rintro r w1 ⟨rfl, v1, S1, k1, s1, hb1, _, z1⟩
  have K1 := hide k1
  have HB1 := hide hb1
  have HS1 := hide (show S1.length = 4 by rw [s1]; rfl)
  clear k1 hb1 s1 HS0 HWE c0 c1 c2 c3 c4 d0 d1 d2
  obtain ⟨c0, c1, c2, c3, c4, d0, d1, d2⟩ := HS.out w1 HB1.out
  have HJ1 := hide (HJ.out w1 HB1.out)
  go_wp2_with fail
  refine HJ1.out.mono ?_
  rintro r w2 ⟨rfl, hb2⟩
  have HB2 := hide (HB1.out.trans (hb2.mono (by omega)))
  have K2 := hide (K1.out.below hb2)
  have z2 : w1.heap.size ≤ w2.heap.size := hb2.size
  clear hb2 HJ1 HB1 K1 c0 c1 c2 c3 c4 d0 d1 d2
  have HV2 := hide (HV.out w2 HB2.out)
  go_wp2_with fail
  refine HV2.out.mono ?_
  rintro r w3 ⟨rfl, hb3⟩
  have HB3 := hide (HB2.out.trans (hb3.mono (by omega)))
  have K3 := hide (K2.out.below hb3)
  have z3 : w2.heap.size ≤ w3.heap.size := hb3.size
  clear hb3 HV2 HB2 K2
  obtain ⟨c0, c1, c2, c3, c4, d0, d1, d2⟩ := HS.out w3 HB3.out
  have HS3 := hide (HSP.out v1 S1 w3 K3.out (by rw [HS1.out]) (by rw [HS1.out]; decide) (by omega) (by omega) (by omega) (by omega))
  go_wp2_with fail
  refine HS3.out.mono ?_
  rintro r w4 ⟨rfl, v4, S4, k4, s4, hb4, _, z4⟩
  have HB4 := hide (HB3.out.trans hb4)
  have HL := hide (looksT_any _ _ v4 S4 w4 k4 (by rw [s4, HS1.out]; decide))
  clear k4 s4 hb4 c0 c1 c2 c3 c4 d0 d1 d2 HS3
  go_wp2_with fail
  refine HL.out.mono ?_
  rintro r w5 ⟨rfl, hb5⟩
  have HB5 := hide (HBU.out _ (HB4.out.trans (hb5.mono (by omega))))
  clear hb5 HL
  go_wp2
  go_ret
  exact ⟨rfl, HB5.out⟩
end Go.Proofs.YtgaoeoijdpdjiabGreatDoor
