/-
  The statement's own place: a chain's place that is right, out of any numbers. The program's Join and Node. The program's spotOf. The statement's own sown: seeds that are right, out of any texts.
-/
import Derived.Test.YtgaoeoijdpdjiaaDoorPart35
import Derived.Test.YtgaoeoijdpdjiaaDoorPart4
import Derived.Test.YtgaoeoijdpdjiaaDoorPart36
import Derived.Test.YtgaoeoijdpdjiaaDoorPart22
namespace Go.Proofs.YtgaoeoijdpdjiaaDoor
open Go.RowKit

theorem wrap64_pow (d : Nat) (h : d ≤ 12) : wrap64 (2 ^ d) = ((2 ^ d : Nat) : Int) := by
  have : d = 0 ∨ d = 1 ∨ d = 2 ∨ d = 3 ∨ d = 4 ∨ d = 5 ∨ d = 6 ∨ d = 7 ∨ d = 8 ∨ d = 9 ∨ d = 10 ∨ d = 11 ∨ d = 12 := by omega
  rcases this with rfl | rfl | rfl | rfl | rfl | rfl | rfl | rfl | rfl | rfl | rfl | rfl | rfl <;> decide +kernel

set_option maxRecDepth 20000 in
set_option maxHeartbeats 4000000 in
theorem place_on (k b x : Int) (t l q d ch : Nat) (p0 p1 p2 p3 : Int) (w : World) (h2 : t ≤ 4) (h3 : 1 ≤ l) (h4 : l ≤ 3) (hq : pickZ p0 l = (q : Int)) (hql : q < l) (hd : d = t * (l - 1 - q)) (hc1 : 1 ≤ ch) (hc2 : ch ≤ 64)
    (i0 : Int64 p0) (i1 : Int64 p1) (i2 : Int64 p2) (i3 : Int64 p3)
    (hL : ∀ V : World, Calls Tryd.prog 29 #[.agg #[.int .i64 k, .int .i64 b, .int .i64 x, .int .i64 t, .int .i64 l]] V fun e w' => e = .returned (.int .i64 ((2 ^ t : Nat) : Int)) ∧ Below V.heap.size V w')
    (hC : ∀ V : World, Calls Tryd.prog 30 #[.agg #[.int .i64 k, .int .i64 b, .int .i64 x, .int .i64 t, .int .i64 l]] V fun e w' => e = .returned (.int .i64 ch) ∧ Below V.heap.size V w') :
    Calls Tryd.prog 12 #[.agg #[.int .i64 k, .int .i64 b, .int .i64 x, .int .i64 t, .int .i64 l], .agg #[.int .i64 p0, .int .i64 p1, .int .i64 p2, .int .i64 p3]] w fun e w' => e = .returned (.agg #[.int .i64 q, .int .i64 (pickZ p1 ((2 ^ d : Nat) : Int)), .int .i64 (pickZ p2 ((2 ^ t : Nat) : Int)), .int .i64 (pickZ p3 ch)]) ∧ Below w.heap.size w w' := by
  have hdl : d ≤ 8 := by
    rw [hd]
    exact Nat.le_trans (Nat.mul_le_mul h2 (show l - 1 - q ≤ 2 by omega)) (by decide)
  have hM1 : 1 ≤ 2 ^ d := Nat.one_le_two_pow
  have hM2 : 2 ^ d ≤ 256 := Nat.le_trans (Nat.pow_le_pow_right (by decide) hdl) (by decide)
  have hL1 : 1 ≤ 2 ^ t := Nat.one_le_two_pow
  have hL2 : 2 ^ t ≤ 16 := Nat.le_trans (Nat.pow_le_pow_right (by decide) h2) (by decide)
  have hw1 : IntKind.i64.wrap ((t : Int) * ((l : Int) - 1 - (q : Int))) = (d : Int) := by
    have e : (t : Int) * ((l : Int) - 1 - (q : Int)) = (d : Int) := by rw [hd, Int.natCast_mul]; congr 1; omega
    rw [e, IntKind.wrap_i64] <;> omega
  have hw2 : wrap64 (2 ^ d) = ((2 ^ d : Nat) : Int) := wrap64_pow d (by omega)
  obtain ⟨M, hM⟩ : ∃ M : Nat, 2 ^ d = M := ⟨_, rfl⟩
  obtain ⟨L, hLL⟩ : ∃ L : Nat, 2 ^ t = L := ⟨_, rfl⟩
  rw [hM] at hM1 hM2 hw2 ⊢
  rw [hLL] at hL1 hL2 hL ⊢
  have HP0 := hide (fun V : World => (by have h := pick_any p0 l V (by omega) (by omega) i0.1 i0.2; rw [hq] at h; exact h : Calls Tryd.prog 14 #[.int .i64 p0, .int .i64 l] V fun e w' => e = .returned (.int .i64 q) ∧ w' = V))
  have HP1 := hide (fun V : World => pick_any p1 (M : Int) V (by omega) (by omega) i1.1 i1.2)
  have HP2 := hide (fun V : World => pick_any p2 (L : Int) V (by omega) (by omega) i2.1 i2.2)
  have HP3 := hide (fun V : World => pick_any p3 ch V (by omega) (by omega) i3.1 i3.2)
  have HL := hide hL
  have HC := hide hC
  clear hL hC hq hd hM hLL
  generalize pickZ p1 (M : Int) = z1 at *
  generalize pickZ p2 (L : Int) = z2 at *
  generalize pickZ p3 (ch : Int) = z3 at *
  obtain ⟨W0, hW⟩ : ∃ W0, ((w.alloc (.cells #[.int .i64 k, .int .i64 b, .int .i64 x, .int .i64 t, .int .i64 l] 25)).alloc (.cells #[.int .i64 p0, .int .i64 p1, .int .i64 p2, .int .i64 p3] 27)).alloc (.cells #[.int .i64 0, .int .i64 0, .int .i64 0, .int .i64 0] 27) = W0 := ⟨_, rfl⟩
  have HF := hide (show FiveC w.heap.size W0 k b x t l by subst hW; refine ⟨?_, ?_, ?_, ?_, ?_⟩ <;> simp [go_sem])
  have HP := hide (show FourC (w.heap.size + 1) W0 p0 p1 p2 p3 by subst hW; refine ⟨?_, ?_, ?_, ?_⟩ <;> simp [go_sem])
  have HB := hide (show Below w.heap.size w W0 by subst hW; exact (((Below.refl _ _).alloc (Nat.le_refl _) _).alloc (by simp) _).alloc (by simp; omega) _)
  have HR := hide (show Blk W0 (w.heap.size + 2) [.int .i64 0, .int .i64 0, .int .i64 0, .int .i64 0] 27 by
    subst hW
    have h := Blk.new ((w.alloc (.cells #[.int .i64 k, .int .i64 b, .int .i64 x, .int .i64 t, .int .i64 l] 25)).alloc (.cells #[.int .i64 p0, .int .i64 p1, .int .i64 p2, .int .i64 p3] 27)) [.int .i64 0, .int .i64 0, .int .i64 0, .int .i64 0] 27
    simp only [World.size_alloc] at h
    exact h)
  have hz : W0.heap.size ≤ w.heap.size + 3 := by subst hW; simp
  have hz' : w.heap.size + 3 ≤ W0.heap.size := by subst hW; simp
  have HS := hide (fun (V : World) (h : Below W0.heap.size W0 V) => (by
    obtain ⟨c0, c1, c2, c3, c4⟩ := HF.out.below h (by omega)
    obtain ⟨d0, d1, d2, d3⟩ := HP.out.below h (by omega)
    exact ⟨c0, c1, c2, c3, c4, d0, d1, d2, d3⟩ : V.cell? ⟨w.heap.size, 0, none⟩ = some (.int .i64 k) ∧ V.cell? ⟨w.heap.size, 1, none⟩ = some (.int .i64 b) ∧ V.cell? ⟨w.heap.size, 2, none⟩ = some (.int .i64 x) ∧ V.cell? ⟨w.heap.size, 3, none⟩ = some (.int .i64 t) ∧ V.cell? ⟨w.heap.size, 4, none⟩ = some (.int .i64 l) ∧ V.cell? ⟨w.heap.size + 1, 0, none⟩ = some (.int .i64 p0) ∧ V.cell? ⟨w.heap.size + 1, 1, none⟩ = some (.int .i64 p1) ∧ V.cell? ⟨w.heap.size + 1, 2, none⟩ = some (.int .i64 p2) ∧ V.cell? ⟨w.heap.size + 1, 3, none⟩ = some (.int .i64 p3)))
  obtain ⟨c0, c1, c2, c3, c4, d0, d1, d2, d3⟩ := HS.out W0 (Below.refl _ _)
  have HWE := hide hW
  clear hW
  go_enter Tryd.func12, Tryd.ntmps12
  go_wp2_with fail
  rw [HWE.out]
  refine (HP0.out _).mono ?_
  rintro e w1 ⟨rfl, hw⟩
  obtain rfl := hw.symm
  clear hw
  go_wp2_with fail
  refine (HP1.out _).mono ?_
  rintro e w1 ⟨rfl, hw⟩
  obtain rfl := hw.symm
  clear hw
  clear c0 c1 c2 c3 c4 d0 d1 d2 d3
  go_wp2_with fail
  go_region_held3 (fun V => V.cell? ⟨w.heap.size, 0, none⟩ = some (.int .i64 k) ∧ V.cell? ⟨w.heap.size, 1, none⟩ = some (.int .i64 b) ∧ V.cell? ⟨w.heap.size, 2, none⟩ = some (.int .i64 x) ∧ V.cell? ⟨w.heap.size, 3, none⟩ = some (.int .i64 t) ∧ V.cell? ⟨w.heap.size, 4, none⟩ = some (.int .i64 l) ∧ V.cell? ⟨w.heap.size + 1, 0, none⟩ = some (.int .i64 p0) ∧ V.cell? ⟨w.heap.size + 1, 1, none⟩ = some (.int .i64 p1) ∧ V.cell? ⟨w.heap.size + 1, 2, none⟩ = some (.int .i64 p2) ∧ V.cell? ⟨w.heap.size + 1, 3, none⟩ = some (.int .i64 p3)) (first | exact HS.out _ hS1 | exact HS.out _ (Below.refl W0.heap.size W0).drew) (first | (go_at_call 29; refine (HL.out _).mono ?_; rintro e w1 ⟨rfl, hb1⟩; have hS1 := heldB (Below.refl W0.heap.size W0).drew hb1 (Nat.le_refl _)) | (go_at_call 14; refine (HP2.out _).mono ?_; rintro e w2 ⟨rfl, hw⟩; obtain rfl := hw.symm; clear hw))
  have HB1 := hide hS1
  clear hS1 hb1
  go_wp2_with fail
  go_region_held3 (fun V => V.cell? ⟨w.heap.size, 0, none⟩ = some (.int .i64 k) ∧ V.cell? ⟨w.heap.size, 1, none⟩ = some (.int .i64 b) ∧ V.cell? ⟨w.heap.size, 2, none⟩ = some (.int .i64 x) ∧ V.cell? ⟨w.heap.size, 3, none⟩ = some (.int .i64 t) ∧ V.cell? ⟨w.heap.size, 4, none⟩ = some (.int .i64 l) ∧ V.cell? ⟨w.heap.size + 1, 0, none⟩ = some (.int .i64 p0) ∧ V.cell? ⟨w.heap.size + 1, 1, none⟩ = some (.int .i64 p1) ∧ V.cell? ⟨w.heap.size + 1, 2, none⟩ = some (.int .i64 p2) ∧ V.cell? ⟨w.heap.size + 1, 3, none⟩ = some (.int .i64 p3)) (first | exact HS.out _ hS2 | exact HS.out _ HB1.out.drew) (first | (go_at_call 30; refine (HC.out _).mono ?_; rintro e w3 ⟨rfl, hb2⟩; have hS2 := heldB HB1.out.drew hb2 (Nat.le_refl _)) | (go_at_call 14; refine (HP3.out _).mono ?_; rintro e w4 ⟨rfl, hw⟩; obtain rfl := hw.symm; clear hw))
  have HB2 := hide hS2
  have HR2 := hide (HR.out.below hS2 (by omega))
  clear hS2 hb2 HB1
  have r0 := HR2.out.cell 0
  have r1 := HR2.out.cell 1
  have r2 := HR2.out.cell 2
  have r3 := HR2.out.cell 3
  have f0 := HR2.out.free 0
  have f1 := HR2.out.free 1
  have f2 := HR2.out.free 2
  have f3 := HR2.out.free 3
  simp only [List.getElem?_cons_zero, List.getElem?_cons_succ] at r0 r1 r2 r3
  go_wp2
  refine bodyPost_ret (v := .agg #[.int .i64 q, .int .i64 z1, .int .i64 z2, .int .i64 z3]) (by simp [results, Tryd.results12, go_sem, r0, r1, r2, r3]) rfl ⟨rfl, ?_⟩
  have HBB := HB.out.trans (HB2.out.mono (by omega))
  iterate 4 refine Below.setCell ?_ (by simp <;> omega) _
  exact HBB
end Go.Proofs.YtgaoeoijdpdjiaaDoor

namespace Go.Proofs.YtgaoeoijdpdjiaaDoor
open Go.RowKit

set_option maxRecDepth 20000 in
set_option maxHeartbeats 4000000 in
theorem tjoin_any (k b x t l : Int) (sec rnd pub : ByteArray) (p0 p1 p2 p3 h j : Int) (ch : Nat) (y z : ByteArray) (w : World) (hk : k = 1 ∨ k = 2) (h1 : 1 ≤ b) (h2 : b ≤ 16) (hp : pub.size ≤ 16) (hy : y.size ≤ 16) (hz : z.size ≤ 16) (hT : Tn w) :
    Calls Tryd.prog 100 #[.agg #[.int .i64 k, .int .i64 b, .int .i64 x, .int .i64 t, .int .i64 l, .string sec, .string rnd, .string pub, .int .i64 p0, .int .i64 p1, .int .i64 p2, .int .i64 p3, .int .i64 ch], .int .i64 h, .int .i64 j, .string y, .string z] w fun e w' => e = .returned (.string (joinS k b pub p0 p1 h j y z)) ∧ Below w.heap.size w w' := by
  have HJ := hide (fun (V : World) (hV : Tn V) => sjoin_any k b x t l pub p0 p1 p2 p3 h j y z V hk h1 h2 hp hy hz hV)
  have HT := hide (hT.alloc (.cells #[.int .i64 k, .int .i64 b, .int .i64 x, .int .i64 t, .int .i64 l, .string sec, .string rnd, .string pub, .int .i64 p0, .int .i64 p1, .int .i64 p2, .int .i64 p3, .int .i64 ch] 95))
  clear hT
  go_enter Tryd.func100, Tryd.ntmps100
  go_wp2_with fail
  refine (HJ.out _ HT.out).mono ?_
  rintro e w1 ⟨rfl, hb1⟩
  have HB1 := hide (((Below.refl w.heap.size w).alloc (Nat.le_refl _) _).trans (hb1.mono (by simp)))
  clear hb1
  go_wp2
  go_ret
  exact ⟨rfl, HB1.out⟩

end Go.Proofs.YtgaoeoijdpdjiaaDoor

namespace Go.Proofs.YtgaoeoijdpdjiaaDoor
open Go.RowKit

set_option maxRecDepth 20000 in
theorem spotOf_any (k b x t l : Int) (sec rnd pub sd : ByteArray) (p0 p1 p2 p3 ch F i : Int) (w : World) :
    Calls Tryd.prog 113 #[.agg #[.int .i64 k, .int .i64 b, .int .i64 x, .int .i64 t, .int .i64 l, .string sec, .string rnd, .string pub, .int .i64 p0, .int .i64 p1, .int .i64 p2, .int .i64 p3, .int .i64 ch], .string sd, .int .i64 F, .int .i64 i] w fun e w' => e = .returned (.agg #[.int .i64 k, .int .i64 b, .int .i64 x, .int .i64 t, .int .i64 l, .string sd, .int .i64 p0, .int .i64 p1, .int .i64 F, .int .i64 i]) ∧ Below w.heap.size w w' := by
  go_enter Tryd.func113, Tryd.ntmps113
  go_wp2
  refine bodyPost_ret (v := .agg #[.int .i64 k, .int .i64 b, .int .i64 x, .int .i64 t, .int .i64 l, .string sd, .int .i64 p0, .int .i64 p1, .int .i64 F, .int .i64 i]) (by simp [results, Tryd.results113, go_sem]) rfl ⟨rfl, ?_⟩
  first
    | exact (((Below.refl _ _).alloc (Nat.le_refl _) _).alloc (by simp) _).alloc (by simp; omega) _
    | (repeat refine Below.setCell ?_ (by simp <;> omega) _
       exact (((Below.refl _ _).alloc (Nat.le_refl _) _).alloc (by simp) _).alloc (by simp; omega) _)
end Go.Proofs.YtgaoeoijdpdjiaaDoor

namespace Go.Proofs.YtgaoeoijdpdjiaaDoor
open Go.RowKit

set_option maxRecDepth 20000 in
set_option maxHeartbeats 4000000 in
theorem sown_any (k x t l : Int) (b : Nat) (sec rnd pub : ByteArray) (w : World) (hb : b ≤ 16) (m1 : sec.size ≤ maxLen) (m2 : rnd.size ≤ maxLen) (m3 : pub.size ≤ maxLen) :
    Calls Tryd.prog 11 #[.agg #[.int .i64 k, .int .i64 b, .int .i64 x, .int .i64 t, .int .i64 l], .agg #[.string sec, .string rnd, .string pub]] w fun e w' => e = .returned (.agg #[.string (someB sec b), .string (someB rnd b), .string (someB pub b)]) ∧ Below w.heap.size w w' := by
  obtain ⟨W0, hW⟩ : ∃ W0, ((w.alloc (.cells #[.int .i64 k, .int .i64 b, .int .i64 x, .int .i64 t, .int .i64 l] 25)).alloc (.cells #[.string sec, .string rnd, .string pub] 33)).alloc (.cells #[.string ⟨#[]⟩, .string ⟨#[]⟩, .string ⟨#[]⟩] 33) = W0 := ⟨_, rfl⟩
  have HF := hide (show FiveC w.heap.size W0 k b x t l by subst hW; refine ⟨?_, ?_, ?_, ?_, ?_⟩ <;> simp [go_sem])
  have HSE := hide (show W0.cell? ⟨w.heap.size + 1, 0, none⟩ = some (.string sec) ∧ W0.cell? ⟨w.heap.size + 1, 1, none⟩ = some (.string rnd) ∧ W0.cell? ⟨w.heap.size + 1, 2, none⟩ = some (.string pub) by subst hW; refine ⟨?_, ?_, ?_⟩ <;> simp [go_sem])
  have HB := hide (show Below w.heap.size w W0 by subst hW; exact (((Below.refl _ _).alloc (Nat.le_refl _) _).alloc (by simp) _).alloc (by simp; omega) _)
  have hz : W0.heap.size ≤ w.heap.size + 3 := by subst hW; simp
  have hz' : w.heap.size + 3 ≤ W0.heap.size := by subst hW; simp
  have HBK := hide (show Blk W0 (w.heap.size + 1 + 1) [.string ⟨#[]⟩, .string ⟨#[]⟩, .string ⟨#[]⟩] 33 by
    subst hW
    have h := Blk.new ((w.alloc (.cells #[.int .i64 k, .int .i64 b, .int .i64 x, .int .i64 t, .int .i64 l] 25)).alloc (.cells #[.string sec, .string rnd, .string pub] 33)) [.string ⟨#[]⟩, .string ⟨#[]⟩, .string ⟨#[]⟩] 33
    simp only [World.size_alloc] at h
    exact h)
  have HS := hide (fun (V : World) (h : Below (w.heap.size + 1 + 1) W0 V) => (by
    obtain ⟨_, c1, _, _, _⟩ := HF.out.below h (by omega)
    exact ⟨c1, (h.cell (p := ⟨w.heap.size + 1, 0, none⟩) (by show w.heap.size + 1 < _; omega)).trans HSE.out.1, (h.cell (p := ⟨w.heap.size + 1, 1, none⟩) (by show w.heap.size + 1 < _; omega)).trans HSE.out.2.1, (h.cell (p := ⟨w.heap.size + 1, 2, none⟩) (by show w.heap.size + 1 < _; omega)).trans HSE.out.2.2⟩ : V.cell? ⟨w.heap.size, 1, none⟩ = some (.int .i64 b) ∧ V.cell? ⟨w.heap.size + 1, 0, none⟩ = some (.string sec) ∧ V.cell? ⟨w.heap.size + 1, 1, none⟩ = some (.string rnd) ∧ V.cell? ⟨w.heap.size + 1, 2, none⟩ = some (.string pub)))
  have H1 := hide (fun V : World => someN_any sec b V m1 (by omega))
  have H2 := hide (fun V : World => someN_any rnd b V m2 (by omega))
  have H3 := hide (fun V : World => someN_any pub b V m3 (by omega))
  clear m1 m2 m3
  have HWE := hide hW
  clear hW
  go_enter Tryd.func11, Tryd.ntmps11
  go_wp2_with fail
  rw [HWE.out]
  refine wp_region_held_drew (S := fun V => V.cell? ⟨w.heap.size, 1, none⟩ = some (.int .i64 b) ∧ V.cell? ⟨w.heap.size + 1, 0, none⟩ = some (.string sec) ∧ V.cell? ⟨w.heap.size + 1, 1, none⟩ = some (.string rnd) ∧ V.cell? ⟨w.heap.size + 1, 2, none⟩ = some (.string pub)) (by kernel_rfl) (HS.out _ ((Below.refl W0.heap.size W0).drew.mono (by omega))) (fun hHeld => ?_)
  refine wpAnyH_take (i := 0) (oi := ?oia0) (v := ?va0) ?hia0 (by kernel_rfl) (by kernel_rfl) (by kernel_rfl) ?hQa0 (Or.inl ⟨?h1a0, ?hya0⟩) hHeld ?resta0
  case hia0 => (simp only [List.getElem?_toArray, List.getElem?_cons_zero]; rfl)
  case hQa0 => exact fun _ _ _ h => h
  case h1a0 => rfl
  case hya0 => intro V hSV; (try dsimp only at hSV); go_simp; (try with_reducible rfl)
  try simp only [Act.put, List.setIfInBounds_toArray, List.set_cons_zero, List.set_cons_succ]
  refine wpAnyH_take (i := 1) (oi := ?oia1) (v := ?va1) ?hia1 (by kernel_rfl) (by kernel_rfl) (by kernel_rfl) ?hQa1 (Or.inl ⟨?h1a1, ?hya1⟩) hHeld ?resta1
  case hia1 => (simp only [List.getElem?_toArray, List.getElem?_cons_succ, List.getElem?_cons_zero]; rfl)
  case hQa1 => exact fun _ _ _ h => h
  case h1a1 => rfl
  case hya1 => intro V hSV; (try dsimp only at hSV); go_simp; (try with_reducible rfl)
  try simp only [Act.put, List.setIfInBounds_toArray, List.set_cons_zero, List.set_cons_succ]
  refine wpAnyH_take (i := 2) (oi := ?oia2) (v := ?va2) ?hia2 (by kernel_rfl) (by kernel_rfl) (by kernel_rfl) ?hQa2 (Or.inl ⟨?h1a2, ?hya2⟩) hHeld ?resta2
  case hia2 => (simp only [List.getElem?_toArray, List.getElem?_cons_succ, List.getElem?_cons_zero]; rfl)
  case hQa2 => exact fun _ _ _ h => h
  case h1a2 => rfl
  case hya2 => intro V hSV; (try dsimp only at hSV); go_simp; (try with_reducible rfl)
  try simp only [Act.put, List.setIfInBounds_toArray, List.set_cons_zero, List.set_cons_succ]
  refine wpAnyH_take (i := 3) (oi := ?oia3) (v := ?va3) ?hia3 (by kernel_rfl) (by kernel_rfl) (by kernel_rfl) ?hQa3 (Or.inl ⟨?h1a3, ?hya3⟩) hHeld ?resta3
  case hia3 => (simp only [List.getElem?_toArray, List.getElem?_cons_succ, List.getElem?_cons_zero]; rfl)
  case hQa3 => exact fun _ _ _ h => h
  case h1a3 => rfl
  case hya3 => intro V hSV; (try dsimp only at hSV); go_simp; (try with_reducible rfl)
  try simp only [Act.put, List.setIfInBounds_toArray, List.set_cons_zero, List.set_cons_succ]
  refine wpAnyH_take (i := 5) (oi := ?oia5) (v := ?va5) ?hia5 (by kernel_rfl) (by kernel_rfl) (by kernel_rfl) ?hQa5 (Or.inl ⟨?h1a5, ?hya5⟩) hHeld ?resta5
  case hia5 => (simp only [List.getElem?_toArray, List.getElem?_cons_succ, List.getElem?_cons_zero]; rfl)
  case hQa5 => exact fun _ _ _ h => h
  case h1a5 => rfl
  case hya5 => intro V hSV; (try dsimp only at hSV); go_simp; (try with_reducible rfl)
  try simp only [Act.put, List.setIfInBounds_toArray, List.set_cons_zero, List.set_cons_succ]
  refine wpAnyH_take (i := 6) (oi := ?oia6) (v := ?va6) ?hia6 (by kernel_rfl) (by kernel_rfl) (by kernel_rfl) ?hQa6 (Or.inl ⟨?h1a6, ?hya6⟩) hHeld ?resta6
  case hia6 => (simp only [List.getElem?_toArray, List.getElem?_cons_succ, List.getElem?_cons_zero]; rfl)
  case hQa6 => exact fun _ _ _ h => h
  case h1a6 => rfl
  case hya6 => intro V hSV; (try dsimp only at hSV); go_simp; (try with_reducible rfl)
  try simp only [Act.put, List.setIfInBounds_toArray, List.set_cons_zero, List.set_cons_succ]
  refine wpAnyH_take (i := 7) (oi := ?oia7) (v := ?va7) ?hia7 (by kernel_rfl) (by kernel_rfl) (by kernel_rfl) ?hQa7 (Or.inl ⟨?h1a7, ?hya7⟩) hHeld ?resta7
  case hia7 => (simp only [List.getElem?_toArray, List.getElem?_cons_succ, List.getElem?_cons_zero]; rfl)
  case hQa7 => exact fun _ _ _ h => h
  case h1a7 => rfl
  case hya7 => intro V hSV; (try dsimp only at hSV); go_simp; (try with_reducible rfl)
  try simp only [Act.put, List.setIfInBounds_toArray, List.set_cons_zero, List.set_cons_succ]
  refine wpAnyH_take (i := 8) (oi := ?oia8) (v := ?va8) ?hia8 (by kernel_rfl) (by kernel_rfl) (by kernel_rfl) ?hQa8 (Or.inl ⟨?h1a8, ?hya8⟩) hHeld ?resta8
  case hia8 => (simp only [List.getElem?_toArray, List.getElem?_cons_succ, List.getElem?_cons_zero]; rfl)
  case hQa8 => exact fun _ _ _ h => h
  case h1a8 => rfl
  case hya8 => intro V hSV; (try dsimp only at hSV); go_simp; (try with_reducible rfl)
  try simp only [Act.put, List.setIfInBounds_toArray, List.set_cons_zero, List.set_cons_succ]
  refine wpAnyH_take (i := 10) (oi := ?oia10) (v := ?va10) ?hia10 (by kernel_rfl) (by kernel_rfl) (by kernel_rfl) ?hQa10 (Or.inl ⟨?h1a10, ?hya10⟩) hHeld ?resta10
  case hia10 => (simp only [List.getElem?_toArray, List.getElem?_cons_succ, List.getElem?_cons_zero]; rfl)
  case hQa10 => exact fun _ _ _ h => h
  case h1a10 => rfl
  case hya10 => intro V hSV; (try dsimp only at hSV); go_simp; (try with_reducible rfl)
  try simp only [Act.put, List.setIfInBounds_toArray, List.set_cons_zero, List.set_cons_succ]
  refine wpAnyH_take (i := 11) (oi := ?oia11) (v := ?va11) ?hia11 (by kernel_rfl) (by kernel_rfl) (by kernel_rfl) ?hQa11 (Or.inl ⟨?h1a11, ?hya11⟩) hHeld ?resta11
  case hia11 => (simp only [List.getElem?_toArray, List.getElem?_cons_succ, List.getElem?_cons_zero]; rfl)
  case hQa11 => exact fun _ _ _ h => h
  case h1a11 => rfl
  case hya11 => intro V hSV; (try dsimp only at hSV); go_simp; (try with_reducible rfl)
  try simp only [Act.put, List.setIfInBounds_toArray, List.set_cons_zero, List.set_cons_succ]
  refine wpAnyH_take (i := 12) (oi := ?oia12) (v := ?va12) ?hia12 (by kernel_rfl) (by kernel_rfl) (by kernel_rfl) ?hQa12 (Or.inl ⟨?h1a12, ?hya12⟩) hHeld ?resta12
  case hia12 => (simp only [List.getElem?_toArray, List.getElem?_cons_succ, List.getElem?_cons_zero]; rfl)
  case hQa12 => exact fun _ _ _ h => h
  case h1a12 => rfl
  case hya12 => intro V hSV; (try dsimp only at hSV); go_simp; (try with_reducible rfl)
  try simp only [Act.put, List.setIfInBounds_toArray, List.set_cons_zero, List.set_cons_succ]
  refine wpAnyH_take (i := 13) (oi := ?oia13) (v := ?va13) ?hia13 (by kernel_rfl) (by kernel_rfl) (by kernel_rfl) ?hQa13 (Or.inl ⟨?h1a13, ?hya13⟩) hHeld ?resta13
  case hia13 => (simp only [List.getElem?_toArray, List.getElem?_cons_succ, List.getElem?_cons_zero]; rfl)
  case hQa13 => exact fun _ _ _ h => h
  case h1a13 => rfl
  case hya13 => intro V hSV; (try dsimp only at hSV); go_simp; (try with_reducible rfl)
  try simp only [Act.put, List.setIfInBounds_toArray, List.set_cons_zero, List.set_cons_succ]
  refine wpAnyH_ready (rs := [4]) (by kernel_rfl) (by simp) ?_
  refine AllReadyH.cons (o := ?oa4) ?hoa4 (fun K hK => ?hsa4) AllReadyH.nil
  case hoa4 => (simp only [List.getElem?_toArray, List.getElem?_cons_succ, List.getElem?_cons_zero]; rfl)
  go_simp
  go_at_call 16
  refine (H1.out _).mono ?_
  rintro e w1 ⟨rfl, hb1⟩
  have hS1 := heldB (Below.refl W0.heap.size W0).drew hb1 (Nat.le_refl _)
  have HB1 := hide hS1
  clear hb1 hS1
  try go_wp2_with fail
  refine hK.out _ _ (HS.out _ (HB1.out.mono (by omega))) (fun hHeld => ?_)
  clear hK K
  try simp only [Act.put, List.setIfInBounds_toArray, List.set_cons_zero, List.set_cons_succ]
  refine wpAnyH_ready (rs := [9]) (by kernel_rfl) (by simp) ?_
  refine AllReadyH.cons (o := ?oa9) ?hoa9 (fun K hK => ?hsa9) AllReadyH.nil
  case hoa9 => (simp only [List.getElem?_toArray, List.getElem?_cons_succ, List.getElem?_cons_zero]; rfl)
  go_simp
  go_at_call 16
  refine (H2.out _).mono ?_
  rintro e w2 ⟨rfl, hb2⟩
  have hS2 := heldB HB1.out hb2 (Nat.le_refl _)
  have HB2 := hide hS2
  clear hb2 hS2
  try go_wp2_with fail
  refine hK.out _ _ (HS.out _ (HB2.out.mono (by omega))) (fun hHeld => ?_)
  clear hK K
  try simp only [Act.put, List.setIfInBounds_toArray, List.set_cons_zero, List.set_cons_succ]
  refine wpAnyH_ready (rs := [14]) (by kernel_rfl) (by simp) ?_
  refine AllReadyH.cons (o := ?oa14) ?hoa14 (fun K hK => ?hsa14) AllReadyH.nil
  case hoa14 => (simp only [List.getElem?_toArray, List.getElem?_cons_succ, List.getElem?_cons_zero]; rfl)
  go_simp
  go_at_call 16
  refine (H3.out _).mono ?_
  rintro e w3 ⟨rfl, hb3⟩
  have hS3 := heldB HB2.out hb3 (Nat.le_refl _)
  have HB3 := hide hS3
  have HK3 := hide (HBK.out.below hS3 (by omega))
  clear hb3 hS3
  try go_wp2_with fail
  refine hK.out _ _ (HS.out _ (HB3.out.mono (by omega))) (fun hHeld => ?_)
  clear hK K
  try simp only [Act.put, List.setIfInBounds_toArray, List.set_cons_zero, List.set_cons_succ]
  refine wpAnyH_take (i := 15) (oi := ?oia15) (v := ?va15) ?hia15 (by kernel_rfl) (by kernel_rfl) (by kernel_rfl) ?hQa15 (Or.inl ⟨?h1a15, ?hya15⟩) hHeld ?resta15
  case hia15 => (simp only [List.getElem?_toArray, List.getElem?_cons_succ, List.getElem?_cons_zero]; rfl)
  case hQa15 => exact fun _ _ _ h => h
  case h1a15 => rfl
  case hya15 => intro V hSV; (try dsimp only at hSV); go_simp; (try with_reducible rfl)
  try simp only [Act.put, List.setIfInBounds_toArray, List.set_cons_zero, List.set_cons_succ]
  have r0 := HK3.out.cell 0
  have r1 := HK3.out.cell 1
  have r2 := HK3.out.cell 2
  have f0 := HK3.out.free 0
  have f1 := HK3.out.free 1
  have f2 := HK3.out.free 2
  simp only [List.getElem?_cons_zero, List.getElem?_cons_succ] at r0 r1 r2
  refine wpAnyH_ready (rs := [16]) (by kernel_rfl) (by simp) ?_
  refine AllReadyH.cons (o := ?oa16) ?hoa16 (fun K hK => ?hsa16) AllReadyH.nil
  case hoa16 => (simp only [List.getElem?_toArray, List.getElem?_cons_succ, List.getElem?_cons_zero]; rfl)
  go_simp
  refine hK.out _ _ (HS.out _ ((((HB3.out.mono (by omega)).setCell (by simp <;> omega) _).setCell (by simp <;> omega) _).setCell (by simp <;> omega) _)) (fun hHeld => ?_)
  clear hK K
  try simp only [Act.put, List.setIfInBounds_toArray, List.set_cons_zero, List.set_cons_succ]
  refine wpAnyH_done (by kernel_rfl) ?_ _
  go_wp2
  refine bodyPost_ret (v := .agg #[.string (someB sec b), .string (someB rnd b), .string (someB pub b)]) (by simp [results, Tryd.results11, go_sem, r0, r1, r2]) rfl ⟨rfl, ?_⟩
  have HBB := HB.out.trans (HB3.out.mono (by omega))
  iterate 3 refine Below.setCell ?_ (by simp <;> omega) _
  exact HBB
end Go.Proofs.YtgaoeoijdpdjiaaDoor
