/-
  The hall writes a sector beyond the journal.
-/
import Derived.Test.YtgaoeoijdpdjiabGreatDoorPart3
import Derived.Test.YtgaoeoijdpdjiabGreatDoorPart40
namespace Go.Proofs.YtgaoeoijdpdjiabGreatDoor
open Go.RowKit

set_option maxRecDepth 20000 in
set_option maxHeartbeats 2000000 in
theorem disk_write (H SD : Nat) (k b x t l : Int) (s1 s2 s3 o1 o2 o3 : ByteArray) (sv bv gv : Value) (kd a bb : Int) (tx : ByteArray) (ka : Option Addr) (kn kc : Nat) (n : Nat) (F : Nat → Prop) (Q : World → Prop) (w : World) (hH : Blk w H (hallC SD k b x t l s1 s2 s3 o1 o2 o3 sv bv gv) 65) (hk1 : -9223372036854775808 ≤ kd) (hk2 : kd ≤ 9223372036854775807) (hk : pickZ kd 9 = 7) (ha1 : -9223372036854775808 ≤ a) (ha2 : a ≤ 9223372036854775807) (hts : tx.size ≤ maxLen) (m : Nat) (hn : n = m + 2) (hm : 1 ≤ m) (hm2 : m ≤ 6) (p : Nat) (hp : pickZ a m = p) (hp2 : p < m) (nH : ¬ F H) (hF : ∀ i, F i → i < w.heap.size) (hC : ∀ V : World, Below w.heap.size w V → Calls Tryz.prog 62 #[.pointer (some ⟨SD, 0, none⟩), .int .i64 (2 + (p : Int)), .string (someB tx 32)] V fun e w' => (∃ c, e = .returned (.int .i64 c)) ∧ Kept F V w' ∧ Q w') :
    Calls Tryz.prog 56 #[.pointer (some ⟨H, 0, none⟩), .agg #[.int .i64 kd, .int .i64 a, .int .i64 bb, .string tx, .slice ka kn kc], .int .i64 n] w fun e w' => e = .returned (.bool true) ∧ Q w' := by
  obtain ⟨W0, hW⟩ : ∃ W0, w.alloc (.cells #[.int .i64 kd, .int .i64 a, .int .i64 bb, .string tx, .slice ka kn kc] 53) = W0 := ⟨_, rfl⟩
  have HB := hide (show Below w.heap.size w W0 by subst hW; exact (Below.refl _ _).alloc (Nat.le_refl _) _)
  have HH0 := hide (hH.on HB.out)
  have HSB := hide (show Blk W0 w.heap.size [.int .i64 kd, .int .i64 a, .int .i64 bb, .string tx, .slice ka kn kc] 53 by subst hW; exact Blk.new w _ _)
  have HP := hide (pickN_any kd 9 W0 (by decide) (by decide) hk1 hk2)
  rw [hk] at HP
  have c0 : W0.cell? ⟨w.heap.size, 0, none⟩ = some (.int .i64 kd) := HSB.out.cell 0
  have HS := hide (fun (V : World) (h : ∃ U, Below W0.heap.size W0 U ∧ Kept F U V) => (by
    obtain ⟨U, hb, hk⟩ := h
    have q1 := HH0.out.on hb
    have q2 := HSB.out.on hb
    have l2 := q2.lt
    have nS : ¬ F w.heap.size := fun e => by have := hF _ e; omega
    exact ⟨(hk.cell (p := ⟨H, 11, none⟩) q1.lt nH).trans (q1.cell 11), (hk.cell (p := ⟨w.heap.size, 1, none⟩) l2 nS).trans (q2.cell 1), (hk.cell (p := ⟨w.heap.size, 2, none⟩) l2 nS).trans (q2.cell 2), (hk.cell (p := ⟨w.heap.size, 3, none⟩) l2 nS).trans (q2.cell 3), (hk.cell (p := ⟨w.heap.size, 4, none⟩) l2 nS).trans (q2.cell 4)⟩ : V.cell? ⟨H, 11, none⟩ = some (.pointer (some ⟨SD, 0, none⟩)) ∧ V.cell? ⟨w.heap.size, 1, none⟩ = some (.int .i64 a) ∧ V.cell? ⟨w.heap.size, 2, none⟩ = some (.int .i64 bb) ∧ V.cell? ⟨w.heap.size, 3, none⟩ = some (.string tx) ∧ V.cell? ⟨w.heap.size, 4, none⟩ = some (.slice ka kn kc)))
  have HC := hide (fun (V : World) (h : Below W0.heap.size W0 V) => hC V (HB.out.trans (h.mono HB.out.size)))
  have HPA := hide (fun V : World => pickN_any a m V (by omega) (by omega) ha1 ha2)
  rw [hp] at HPA
  have HSO := hide (fun V : World => someN_any tx 32 V hts (by decide))
  have hn3 : decide ((2 : Int) < (n : Int)) = true := decide_eq_true (by omega)
  have hn4 : decide (2 < n) = true := decide_eq_true (by omega)
  have hn5 : ((n : Int) - 2) = (m : Int) := by omega
  have hmw : IntKind.i64.wrap (m : Int) = (m : Int) := by rw [IntKind.wrap_i64] <;> omega
  have hpw : IntKind.i64.wrap (2 + (p : Int)) = 2 + (p : Int) := by rw [IntKind.wrap_i64] <;> omega
  have hn8 : (n : Int) ≤ 8 := by omega
  have hn0 : (0 : Int) ≤ (n : Int) := by omega
  generalize someB tx 32 = sx at HSO HC
  have HWE := hide hW
  clear hW hH hk1 hk2 hk nH hF hC ha1 ha2 hts hn hm hm2 hp hp2
  go_enter Tryz.func56, Tryz.ntmps56
  go_wp2_with fail
  rw [HWE.out]
  refine HP.out.mono ?_
  rintro e w1 ⟨rfl, hw1⟩
  subst w1
  clear c0
  go_wp2_with fail
  refine wp_region_held_drew (S := fun V => V.cell? ⟨H, 11, none⟩ = some (.pointer (some ⟨SD, 0, none⟩)) ∧ V.cell? ⟨w.heap.size, 1, none⟩ = some (.int .i64 a) ∧ V.cell? ⟨w.heap.size, 2, none⟩ = some (.int .i64 bb) ∧ V.cell? ⟨w.heap.size, 3, none⟩ = some (.string tx) ∧ V.cell? ⟨w.heap.size, 4, none⟩ = some (.slice ka kn kc)) (by kernel_rfl) (HS.out _ (⟨_, (Below.refl W0.heap.size W0).drew, Kept.refl _ _⟩)) (fun hHeld => ?_)
  refine tk 0 hHeld (h := ?_)
  refine tk 1 hHeld (h := ?_)
  refine tk 2 hHeld (h := ?_)
  refine tk 3 hHeld (h := ?_)
  refine tk 4 hHeld (h := ?_)
  refine tk 5 hHeld (h := ?_)
  refine tk 6 hHeld (h := ?_)
  refine tk 7 hHeld (h := ?_)
  refine tk 10 hHeld (h := ?_)
  refine tk 11 hHeld (h := ?_)
  refine wpAnyH_ready (rs := [8]) (by kernel_rfl) (by simp) ?_
  refine AllReadyH.cons (o := ?oa8) ?hoa8 (fun K hK => ?hsa8) AllReadyH.nil
  case hoa8 => (simp only [List.getElem?_toArray, List.getElem?_cons_succ, List.getElem?_cons_zero]; rfl)
  go_simp
  go_at_call 17
  refine (HPA.out _).mono ?_
  rintro e w3 ⟨rfl, hw3⟩
  subst hw3
  try go_wp2_with fail
  refine hK.out _ _ (HS.out _ (⟨_, (Below.refl W0.heap.size W0).drew, Kept.refl _ _⟩)) (fun hHeld => ?_)
  clear hK K
  try simp only [Act.put, List.setIfInBounds_toArray, List.set_cons_zero, List.set_cons_succ]
  refine tk 9 hHeld (h := ?_)
  refine wpAnyH_ready (rs := [12]) (by kernel_rfl) (by simp) ?_
  refine AllReadyH.cons (o := ?oa12) ?hoa12 (fun K hK => ?hsa12) AllReadyH.nil
  case hoa12 => (simp only [List.getElem?_toArray, List.getElem?_cons_succ, List.getElem?_cons_zero]; rfl)
  go_simp
  go_at_call 49
  refine (HSO.out _).mono ?_
  rintro e w5 ⟨rfl, hb5⟩
  have HB5 := hide (heldB (Below.refl W0.heap.size W0).drew hb5 (Nat.le_refl _))
  clear hb5
  try go_wp2_with fail
  refine hK.out _ _ (HS.out _ (⟨_, HB5.out, Kept.refl _ _⟩)) (fun hHeld => ?_)
  clear hK K
  try simp only [Act.put, List.setIfInBounds_toArray, List.set_cons_zero, List.set_cons_succ]
  refine wpAnyH_ready (rs := [13]) (by kernel_rfl) (by simp) ?_
  refine AllReadyH.cons (o := ?oa13) ?hoa13 (fun K hK => ?hsa13) AllReadyH.nil
  case hoa13 => (simp only [List.getElem?_toArray, List.getElem?_cons_succ, List.getElem?_cons_zero]; rfl)
  go_simp
  go_at_call 62
  refine (HC.out _ HB5.out).mono ?_
  rintro e w4 ⟨⟨c, rfl⟩, hk4, hq4⟩
  have HK4 := hide hk4
  have HQ4 := hide hq4
  clear hk4 hq4
  try go_wp2_with fail
  refine hK.out _ _ (HS.out _ (⟨_, HB5.out, HK4.out⟩)) (fun hHeld => ?_)
  clear hK K
  try simp only [Act.put, List.setIfInBounds_toArray, List.set_cons_zero, List.set_cons_succ]
  refine wpAnyH_done (by kernel_rfl) ?_ _
  clear hHeld
  go_wp2
  go_ret
  exact ⟨rfl, HQ4.out⟩

end Go.Proofs.YtgaoeoijdpdjiabGreatDoor
