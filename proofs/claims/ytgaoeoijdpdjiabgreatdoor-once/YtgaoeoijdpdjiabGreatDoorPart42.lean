/-
  One step of the script.
-/
import Derived.Test.YtgaoeoijdpdjiabGreatDoorPart3
import Derived.Test.YtgaoeoijdpdjiabGreatDoorPart41
import Derived.Test.YtgaoeoijdpdjiabGreatDoorPart39
namespace Go.Proofs.YtgaoeoijdpdjiabGreatDoor
open Go.RowKit

set_option maxRecDepth 20000 in
set_option maxHeartbeats 2000000 in
theorem step_make (H SD : Nat) (k b x t l : Int) (s1 s2 s3 o1 o2 o3 : ByteArray) (sv bv gv : Value) (kd a bb : Int) (tx : ByteArray) (ka : Option Addr) (kn kc : Nat) (n bt : Nat) (F : Nat → Prop) (QM : Option Addr → Int → World → Prop) (Q : World → Prop) (w : World) (hH : Blk w H (hallC SD k b x t l s1 s2 s3 o1 o2 o3 sv bv gv) 65) (hk1 : -9223372036854775808 ≤ kd) (hk2 : kd ≤ 9223372036854775807) (hb1 : -9223372036854775808 ≤ bb) (hb2 : bb ≤ 9223372036854775807) (hbt : pickZ bb 64 = bt) (hbt2 : bt < 64) (hk : pickZ kd 9 = 0) (ha1 : -9223372036854775808 ≤ a) (ha2 : a ≤ 9223372036854775807) (nH : ¬ F H) (hF : ∀ i, F i → i < w.heap.size)
    (hMk : ∀ (V : World) (z1 z2 z3 : ByteArray), Below w.heap.size w V → (z1 = s1 ∧ z2 = s2 ∧ z3 = s3 ∨ z1 = o1 ∧ z2 = o2 ∧ z3 = o3) → Calls Tryz.prog 23 #[.pointer (some ⟨SD, 0, none⟩), .agg #[.int .i64 k, .int .i64 b, .int .i64 x, .int .i64 t, .int .i64 l], .agg #[.string z1, .string z2, .string z3], .int .i64 ((bt : Int) + 1)] V fun e w' => ∃ r c, e = .returned (.tuple #[.pointer r, .int .i64 c]) ∧ Kept F V w' ∧ QM r c w')
    (hCa : ∀ (V : World) (r : Option Addr) (c : Int), QM r c V → Calls Tryz.prog 24 #[.pointer (some ⟨H, 0, none⟩), .pointer r, .int .i64 c, .int .i64 ((bt : Int) + 1)] V fun e w' => e = .returned (.bool true) ∧ Q w') :
    Calls Tryz.prog 19 #[.pointer (some ⟨H, 0, none⟩), .agg #[.int .i64 kd, .int .i64 a, .int .i64 bb, .string tx, .slice ka kn kc], .int .i64 n] w fun e w' => e = .returned (.bool true) ∧ Q w' := by
  obtain ⟨W0, hW⟩ : ∃ W0, w.alloc (.cells #[.int .i64 kd, .int .i64 a, .int .i64 bb, .string tx, .slice ka kn kc] 53) = W0 := ⟨_, rfl⟩
  have HB := hide (show Below w.heap.size w W0 by subst hW; exact (Below.refl _ _).alloc (Nat.le_refl _) _)
  have HH0 := hide (hH.on HB.out)
  have HSB := hide (show Blk W0 w.heap.size [.int .i64 kd, .int .i64 a, .int .i64 bb, .string tx, .slice ka kn kc] 53 by subst hW; exact Blk.new w _ _)
  have HP := hide (pickN_any kd 9 W0 (by decide) (by decide) hk1 hk2)
  have HPB := hide (pickN_any bb 64 W0 (by decide) (by decide) hb1 hb2)
  rw [hbt] at HPB
  have hbw : IntKind.i64.wrap ((bt : Int) + 1) = (bt : Int) + 1 := by rw [IntKind.wrap_i64] <;> omega
  have c0 : W0.cell? ⟨w.heap.size, 0, none⟩ = some (.int .i64 kd) := HSB.out.cell 0
  have c2 : W0.cell? ⟨w.heap.size, 2, none⟩ = some (.int .i64 bb) := HSB.out.cell 2
  rw [hk] at HP
  have HS := hide (fun (V : World) (h : ∃ U, Below W0.heap.size W0 U ∧ Kept F U V) => (by
    obtain ⟨U, hb, hk⟩ := h
    have q1 := HH0.out.on hb
    have q2 := HSB.out.on hb
    have l2 := q2.lt
    have nS : ¬ F w.heap.size := fun e => by have := hF _ e; omega
    exact ⟨(hk.cell (p := ⟨H, 0, none⟩) q1.lt nH).trans (q1.cell 0), (hk.cell (p := ⟨H, 1, none⟩) q1.lt nH).trans (q1.cell 1), (hk.cell (p := ⟨H, 2, none⟩) q1.lt nH).trans (q1.cell 2), (hk.cell (p := ⟨H, 3, none⟩) q1.lt nH).trans (q1.cell 3), (hk.cell (p := ⟨H, 4, none⟩) q1.lt nH).trans (q1.cell 4), (hk.cell (p := ⟨H, 11, none⟩) q1.lt nH).trans (q1.cell 11), (hk.cell (p := ⟨w.heap.size, 0, none⟩) l2 nS).trans (q2.cell 0), (hk.cell (p := ⟨w.heap.size, 1, none⟩) l2 nS).trans (q2.cell 1), (hk.cell (p := ⟨w.heap.size, 2, none⟩) l2 nS).trans (q2.cell 2), (hk.cell (p := ⟨w.heap.size, 3, none⟩) l2 nS).trans (q2.cell 3), (hk.cell (p := ⟨w.heap.size, 4, none⟩) l2 nS).trans (q2.cell 4)⟩ : V.cell? ⟨H, 0, none⟩ = some (.int .i64 k) ∧ V.cell? ⟨H, 1, none⟩ = some (.int .i64 b) ∧ V.cell? ⟨H, 2, none⟩ = some (.int .i64 x) ∧ V.cell? ⟨H, 3, none⟩ = some (.int .i64 t) ∧ V.cell? ⟨H, 4, none⟩ = some (.int .i64 l) ∧ V.cell? ⟨H, 11, none⟩ = some (.pointer (some ⟨SD, 0, none⟩)) ∧ V.cell? ⟨w.heap.size, 0, none⟩ = some (.int .i64 kd) ∧ V.cell? ⟨w.heap.size, 1, none⟩ = some (.int .i64 a) ∧ V.cell? ⟨w.heap.size, 2, none⟩ = some (.int .i64 bb) ∧ V.cell? ⟨w.heap.size, 3, none⟩ = some (.string tx) ∧ V.cell? ⟨w.heap.size, 4, none⟩ = some (.slice ka kn kc)))
  have HMK := hide (fun (V : World) (z1 z2 z3 : ByteArray) (h : Below W0.heap.size W0 V) => hMk V z1 z2 z3 (HB.out.trans (h.mono HB.out.size)))
  have HCA := hide hCa
  have HSE := hide (fun (V : World) (h : Below W0.heap.size W0 V) => (by
    refine (seeded_on H SD k b x t l s1 s2 s3 o1 o2 o3 sv bv gv kd a bb tx ka kn kc V (HH0.out.on h) ha1 ha2).mono ?_
    rintro e w' ⟨he | he, hb⟩
    · exact ⟨⟨s1, s2, s3, .inl ⟨rfl, rfl, rfl⟩, he⟩, hb⟩
    · exact ⟨⟨o1, o2, o3, .inr ⟨rfl, rfl, rfl⟩, he⟩, hb⟩ : Calls Tryz.prog 54 #[.pointer (some ⟨H, 0, none⟩), .agg #[.int .i64 kd, .int .i64 a, .int .i64 bb, .string tx, .slice ka kn kc]] V fun e w' => (∃ z1 z2 z3, (z1 = s1 ∧ z2 = s2 ∧ z3 = s3 ∨ z1 = o1 ∧ z2 = o2 ∧ z3 = o3) ∧ e = .returned (.agg #[.string z1, .string z2, .string z3])) ∧ Below V.heap.size V w'))
  have HWE := hide hW
  clear hW hH hk1 hk2 hb1 hb2 hbt hbt2 hk nH hF hMk hCa ha1 ha2
  go_enter Tryz.func19, Tryz.ntmps19
  go_wp2_with fail
  rw [HWE.out]
  refine HPB.out.mono ?_
  rintro e w1 ⟨rfl, hw1⟩
  subst w1
  go_wp2_with fail
  refine HP.out.mono ?_
  rintro e w1 ⟨rfl, hw1⟩
  subst w1
  clear c0 c2
  go_wp2_with fail
  refine wp_region_held_drew (S := fun V => V.cell? ⟨H, 0, none⟩ = some (.int .i64 k) ∧ V.cell? ⟨H, 1, none⟩ = some (.int .i64 b) ∧ V.cell? ⟨H, 2, none⟩ = some (.int .i64 x) ∧ V.cell? ⟨H, 3, none⟩ = some (.int .i64 t) ∧ V.cell? ⟨H, 4, none⟩ = some (.int .i64 l) ∧ V.cell? ⟨H, 11, none⟩ = some (.pointer (some ⟨SD, 0, none⟩)) ∧ V.cell? ⟨w.heap.size, 0, none⟩ = some (.int .i64 kd) ∧ V.cell? ⟨w.heap.size, 1, none⟩ = some (.int .i64 a) ∧ V.cell? ⟨w.heap.size, 2, none⟩ = some (.int .i64 bb) ∧ V.cell? ⟨w.heap.size, 3, none⟩ = some (.string tx) ∧ V.cell? ⟨w.heap.size, 4, none⟩ = some (.slice ka kn kc)) (by kernel_rfl) (HS.out _ (⟨_, (Below.refl W0.heap.size W0).drew, Kept.refl _ _⟩)) (fun hHeld => ?_)
  refine tk 0 hHeld (h := ?_)
  refine tk 1 hHeld (h := ?_)
  refine tk 2 hHeld (h := ?_)
  refine tk 3 hHeld (h := ?_)
  refine tk 4 hHeld (h := ?_)
  refine tk 5 hHeld (h := ?_)
  refine tk 6 hHeld (h := ?_)
  refine tk 7 hHeld (h := ?_)
  refine tk 8 hHeld (h := ?_)
  refine tk 9 hHeld (h := ?_)
  refine tk 11 hHeld (h := ?_)
  refine wpAnyH_ready (rs := [10]) (by kernel_rfl) (by simp) ?_
  refine AllReadyH.cons (o := ?oa10) ?hoa10 (fun K hK => ?hsa10) AllReadyH.nil
  case hoa10 => (simp only [List.getElem?_toArray, List.getElem?_cons_succ, List.getElem?_cons_zero]; rfl)
  go_simp
  go_at_call 54
  refine (HSE.out _ ((Below.refl W0.heap.size W0).drew)).mono ?_
  rintro e w5 ⟨⟨z1, z2, z3, hz, rfl⟩, hb5⟩
  have HZ := hide hz
  have HB5 := hide (heldB (Below.refl W0.heap.size W0).drew hb5 (Nat.le_refl _))
  clear hb5 hz
  try go_wp2_with fail
  refine hK.out _ _ (HS.out _ (⟨_, HB5.out, Kept.refl _ _⟩)) (fun hHeld => ?_)
  clear hK K
  try simp only [Act.put, List.setIfInBounds_toArray, List.set_cons_zero, List.set_cons_succ]
  refine wpAnyH_ready (rs := [12]) (by kernel_rfl) (by simp) ?_
  refine AllReadyH.cons (o := ?oa12) ?hoa12 (fun K hK => ?hsa12) AllReadyH.nil
  case hoa12 => (simp only [List.getElem?_toArray, List.getElem?_cons_succ, List.getElem?_cons_zero]; rfl)
  go_simp
  go_at_call 23
  refine (HMK.out _ _ _ _ HB5.out HZ.out).mono ?_
  rintro e w4 ⟨r4, c4, rfl, hk4, hq4⟩
  have HK4 := hide hk4
  have HQ4 := hide hq4
  clear hk4 hq4
  try go_wp2_with fail
  refine hK.out _ _ (HS.out _ (⟨_, HB5.out, HK4.out⟩)) (fun hHeld => ?_)
  clear hK K
  try simp only [Act.put, List.setIfInBounds_toArray, List.set_cons_zero, List.set_cons_succ]
  refine tk 13 hHeld (h := ?_)
  refine tk 14 hHeld (h := ?_)
  refine tk 15 hHeld (h := ?_)
  refine tk 16 hHeld (h := ?_)
  refine tk 17 hHeld (h := ?_)
  refine wpAnyH_done (by kernel_rfl) ?_ _
  clear hHeld
  have HC4 := hide (HCA.out _ _ _ HQ4.out)
  go_wp2_with fail
  refine HC4.out.mono ?_
  rintro e w6 ⟨rfl, hq6⟩
  have HQ6 := hide hq6
  clear hq6
  go_wp2
  go_ret
  exact ⟨rfl, HQ6.out⟩

set_option maxRecDepth 20000 in
set_option maxHeartbeats 2000000 in
theorem step_open (H SD : Nat) (k b x t l : Int) (s1 s2 s3 o1 o2 o3 : ByteArray) (sv bv gv : Value) (kd a bb : Int) (tx : ByteArray) (ka : Option Addr) (kn kc : Nat) (n bt : Nat) (F : Nat → Prop) (QM : Option Addr → Int → World → Prop) (Q : World → Prop) (w : World) (hH : Blk w H (hallC SD k b x t l s1 s2 s3 o1 o2 o3 sv bv gv) 65) (hk1 : -9223372036854775808 ≤ kd) (hk2 : kd ≤ 9223372036854775807) (hb1 : -9223372036854775808 ≤ bb) (hb2 : bb ≤ 9223372036854775807) (hbt : pickZ bb 64 = bt) (hbt2 : bt < 64) (hk : pickZ kd 9 = 1) (ha1 : -9223372036854775808 ≤ a) (ha2 : a ≤ 9223372036854775807) (nH : ¬ F H) (hF : ∀ i, F i → i < w.heap.size)
    (hMk : ∀ (V : World) (z1 z2 z3 : ByteArray), Below w.heap.size w V → (z1 = s1 ∧ z2 = s2 ∧ z3 = s3 ∨ z1 = o1 ∧ z2 = o2 ∧ z3 = o3) → Calls Tryz.prog 55 #[.pointer (some ⟨SD, 0, none⟩), .agg #[.int .i64 k, .int .i64 b, .int .i64 x, .int .i64 t, .int .i64 l], .agg #[.string z1, .string z2, .string z3], .int .i64 ((bt : Int) + 1)] V fun e w' => ∃ r c, e = .returned (.tuple #[.pointer r, .int .i64 c]) ∧ Kept F V w' ∧ QM r c w')
    (hCa : ∀ (V : World) (r : Option Addr) (c : Int), QM r c V → Calls Tryz.prog 24 #[.pointer (some ⟨H, 0, none⟩), .pointer r, .int .i64 c, .int .i64 ((bt : Int) + 1)] V fun e w' => e = .returned (.bool true) ∧ Q w') :
    Calls Tryz.prog 19 #[.pointer (some ⟨H, 0, none⟩), .agg #[.int .i64 kd, .int .i64 a, .int .i64 bb, .string tx, .slice ka kn kc], .int .i64 n] w fun e w' => e = .returned (.bool true) ∧ Q w' := by
  obtain ⟨W0, hW⟩ : ∃ W0, w.alloc (.cells #[.int .i64 kd, .int .i64 a, .int .i64 bb, .string tx, .slice ka kn kc] 53) = W0 := ⟨_, rfl⟩
  have HB := hide (show Below w.heap.size w W0 by subst hW; exact (Below.refl _ _).alloc (Nat.le_refl _) _)
  have HH0 := hide (hH.on HB.out)
  have HSB := hide (show Blk W0 w.heap.size [.int .i64 kd, .int .i64 a, .int .i64 bb, .string tx, .slice ka kn kc] 53 by subst hW; exact Blk.new w _ _)
  have HP := hide (pickN_any kd 9 W0 (by decide) (by decide) hk1 hk2)
  have HPB := hide (pickN_any bb 64 W0 (by decide) (by decide) hb1 hb2)
  rw [hbt] at HPB
  have hbw : IntKind.i64.wrap ((bt : Int) + 1) = (bt : Int) + 1 := by rw [IntKind.wrap_i64] <;> omega
  have c0 : W0.cell? ⟨w.heap.size, 0, none⟩ = some (.int .i64 kd) := HSB.out.cell 0
  have c2 : W0.cell? ⟨w.heap.size, 2, none⟩ = some (.int .i64 bb) := HSB.out.cell 2
  rw [hk] at HP
  have HS := hide (fun (V : World) (h : ∃ U, Below W0.heap.size W0 U ∧ Kept F U V) => (by
    obtain ⟨U, hb, hk⟩ := h
    have q1 := HH0.out.on hb
    have q2 := HSB.out.on hb
    have l2 := q2.lt
    have nS : ¬ F w.heap.size := fun e => by have := hF _ e; omega
    exact ⟨(hk.cell (p := ⟨H, 0, none⟩) q1.lt nH).trans (q1.cell 0), (hk.cell (p := ⟨H, 1, none⟩) q1.lt nH).trans (q1.cell 1), (hk.cell (p := ⟨H, 2, none⟩) q1.lt nH).trans (q1.cell 2), (hk.cell (p := ⟨H, 3, none⟩) q1.lt nH).trans (q1.cell 3), (hk.cell (p := ⟨H, 4, none⟩) q1.lt nH).trans (q1.cell 4), (hk.cell (p := ⟨H, 11, none⟩) q1.lt nH).trans (q1.cell 11), (hk.cell (p := ⟨w.heap.size, 0, none⟩) l2 nS).trans (q2.cell 0), (hk.cell (p := ⟨w.heap.size, 1, none⟩) l2 nS).trans (q2.cell 1), (hk.cell (p := ⟨w.heap.size, 2, none⟩) l2 nS).trans (q2.cell 2), (hk.cell (p := ⟨w.heap.size, 3, none⟩) l2 nS).trans (q2.cell 3), (hk.cell (p := ⟨w.heap.size, 4, none⟩) l2 nS).trans (q2.cell 4)⟩ : V.cell? ⟨H, 0, none⟩ = some (.int .i64 k) ∧ V.cell? ⟨H, 1, none⟩ = some (.int .i64 b) ∧ V.cell? ⟨H, 2, none⟩ = some (.int .i64 x) ∧ V.cell? ⟨H, 3, none⟩ = some (.int .i64 t) ∧ V.cell? ⟨H, 4, none⟩ = some (.int .i64 l) ∧ V.cell? ⟨H, 11, none⟩ = some (.pointer (some ⟨SD, 0, none⟩)) ∧ V.cell? ⟨w.heap.size, 0, none⟩ = some (.int .i64 kd) ∧ V.cell? ⟨w.heap.size, 1, none⟩ = some (.int .i64 a) ∧ V.cell? ⟨w.heap.size, 2, none⟩ = some (.int .i64 bb) ∧ V.cell? ⟨w.heap.size, 3, none⟩ = some (.string tx) ∧ V.cell? ⟨w.heap.size, 4, none⟩ = some (.slice ka kn kc)))
  have HMK := hide (fun (V : World) (z1 z2 z3 : ByteArray) (h : Below W0.heap.size W0 V) => hMk V z1 z2 z3 (HB.out.trans (h.mono HB.out.size)))
  have HCA := hide hCa
  have HSE := hide (fun (V : World) (h : Below W0.heap.size W0 V) => (by
    refine (seeded_on H SD k b x t l s1 s2 s3 o1 o2 o3 sv bv gv kd a bb tx ka kn kc V (HH0.out.on h) ha1 ha2).mono ?_
    rintro e w' ⟨he | he, hb⟩
    · exact ⟨⟨s1, s2, s3, .inl ⟨rfl, rfl, rfl⟩, he⟩, hb⟩
    · exact ⟨⟨o1, o2, o3, .inr ⟨rfl, rfl, rfl⟩, he⟩, hb⟩ : Calls Tryz.prog 54 #[.pointer (some ⟨H, 0, none⟩), .agg #[.int .i64 kd, .int .i64 a, .int .i64 bb, .string tx, .slice ka kn kc]] V fun e w' => (∃ z1 z2 z3, (z1 = s1 ∧ z2 = s2 ∧ z3 = s3 ∨ z1 = o1 ∧ z2 = o2 ∧ z3 = o3) ∧ e = .returned (.agg #[.string z1, .string z2, .string z3])) ∧ Below V.heap.size V w'))
  have HWE := hide hW
  clear hW hH hk1 hk2 hb1 hb2 hbt hbt2 hk nH hF hMk hCa ha1 ha2
  go_enter Tryz.func19, Tryz.ntmps19
  go_wp2_with fail
  rw [HWE.out]
  refine HPB.out.mono ?_
  rintro e w1 ⟨rfl, hw1⟩
  subst w1
  go_wp2_with fail
  refine HP.out.mono ?_
  rintro e w1 ⟨rfl, hw1⟩
  subst w1
  clear c0 c2
  go_wp2_with fail
  refine wp_region_held_drew (S := fun V => V.cell? ⟨H, 0, none⟩ = some (.int .i64 k) ∧ V.cell? ⟨H, 1, none⟩ = some (.int .i64 b) ∧ V.cell? ⟨H, 2, none⟩ = some (.int .i64 x) ∧ V.cell? ⟨H, 3, none⟩ = some (.int .i64 t) ∧ V.cell? ⟨H, 4, none⟩ = some (.int .i64 l) ∧ V.cell? ⟨H, 11, none⟩ = some (.pointer (some ⟨SD, 0, none⟩)) ∧ V.cell? ⟨w.heap.size, 0, none⟩ = some (.int .i64 kd) ∧ V.cell? ⟨w.heap.size, 1, none⟩ = some (.int .i64 a) ∧ V.cell? ⟨w.heap.size, 2, none⟩ = some (.int .i64 bb) ∧ V.cell? ⟨w.heap.size, 3, none⟩ = some (.string tx) ∧ V.cell? ⟨w.heap.size, 4, none⟩ = some (.slice ka kn kc)) (by kernel_rfl) (HS.out _ (⟨_, (Below.refl W0.heap.size W0).drew, Kept.refl _ _⟩)) (fun hHeld => ?_)
  refine tk 0 hHeld (h := ?_)
  refine tk 1 hHeld (h := ?_)
  refine tk 2 hHeld (h := ?_)
  refine tk 3 hHeld (h := ?_)
  refine tk 4 hHeld (h := ?_)
  refine tk 5 hHeld (h := ?_)
  refine tk 6 hHeld (h := ?_)
  refine tk 7 hHeld (h := ?_)
  refine tk 8 hHeld (h := ?_)
  refine tk 9 hHeld (h := ?_)
  refine tk 11 hHeld (h := ?_)
  refine wpAnyH_ready (rs := [10]) (by kernel_rfl) (by simp) ?_
  refine AllReadyH.cons (o := ?oa10) ?hoa10 (fun K hK => ?hsa10) AllReadyH.nil
  case hoa10 => (simp only [List.getElem?_toArray, List.getElem?_cons_succ, List.getElem?_cons_zero]; rfl)
  go_simp
  go_at_call 54
  refine (HSE.out _ ((Below.refl W0.heap.size W0).drew)).mono ?_
  rintro e w5 ⟨⟨z1, z2, z3, hz, rfl⟩, hb5⟩
  have HZ := hide hz
  have HB5 := hide (heldB (Below.refl W0.heap.size W0).drew hb5 (Nat.le_refl _))
  clear hb5 hz
  try go_wp2_with fail
  refine hK.out _ _ (HS.out _ (⟨_, HB5.out, Kept.refl _ _⟩)) (fun hHeld => ?_)
  clear hK K
  try simp only [Act.put, List.setIfInBounds_toArray, List.set_cons_zero, List.set_cons_succ]
  refine wpAnyH_ready (rs := [12]) (by kernel_rfl) (by simp) ?_
  refine AllReadyH.cons (o := ?oa12) ?hoa12 (fun K hK => ?hsa12) AllReadyH.nil
  case hoa12 => (simp only [List.getElem?_toArray, List.getElem?_cons_succ, List.getElem?_cons_zero]; rfl)
  go_simp
  go_at_call 55
  refine (HMK.out _ _ _ _ HB5.out HZ.out).mono ?_
  rintro e w4 ⟨r4, c4, rfl, hk4, hq4⟩
  have HK4 := hide hk4
  have HQ4 := hide hq4
  clear hk4 hq4
  try go_wp2_with fail
  refine hK.out _ _ (HS.out _ (⟨_, HB5.out, HK4.out⟩)) (fun hHeld => ?_)
  clear hK K
  try simp only [Act.put, List.setIfInBounds_toArray, List.set_cons_zero, List.set_cons_succ]
  refine tk 13 hHeld (h := ?_)
  refine tk 14 hHeld (h := ?_)
  refine tk 15 hHeld (h := ?_)
  refine tk 16 hHeld (h := ?_)
  refine tk 17 hHeld (h := ?_)
  refine wpAnyH_done (by kernel_rfl) ?_ _
  clear hHeld
  have HC4 := hide (HCA.out _ _ _ HQ4.out)
  go_wp2_with fail
  refine HC4.out.mono ?_
  rintro e w6 ⟨rfl, hq6⟩
  have HQ6 := hide hq6
  clear hq6
  go_wp2
  go_ret
  exact ⟨rfl, HQ6.out⟩

set_option maxRecDepth 20000 in
set_option maxHeartbeats 2000000 in
theorem step_disk (H SD : Nat) (k b x t l : Int) (s1 s2 s3 o1 o2 o3 : ByteArray) (sv bv gv : Value) (kd a bb : Int) (tx : ByteArray) (ka : Option Addr) (kn kc : Nat) (n bt : Nat) (Q : World → Prop) (w : World) (hH : Blk w H (hallC SD k b x t l s1 s2 s3 o1 o2 o3 sv bv gv) 65) (hk1 : -9223372036854775808 ≤ kd) (hk2 : kd ≤ 9223372036854775807) (hb1 : -9223372036854775808 ≤ bb) (hb2 : bb ≤ 9223372036854775807) (hbt : pickZ bb 64 = bt) (hbt2 : bt < 64) (c : Nat) (hk : pickZ kd 9 = c) (hc : 3 < c) (hc9 : c < 9)
    (hD : ∀ V : World, Below w.heap.size w V → Calls Tryz.prog 56 #[.pointer (some ⟨H, 0, none⟩), .agg #[.int .i64 kd, .int .i64 a, .int .i64 bb, .string tx, .slice ka kn kc], .int .i64 n] V fun e w' => e = .returned (.bool true) ∧ Q w') :
    Calls Tryz.prog 19 #[.pointer (some ⟨H, 0, none⟩), .agg #[.int .i64 kd, .int .i64 a, .int .i64 bb, .string tx, .slice ka kn kc], .int .i64 n] w fun e w' => e = .returned (.bool true) ∧ Q w' := by
  obtain ⟨W0, hW⟩ : ∃ W0, w.alloc (.cells #[.int .i64 kd, .int .i64 a, .int .i64 bb, .string tx, .slice ka kn kc] 53) = W0 := ⟨_, rfl⟩
  have HB := hide (show Below w.heap.size w W0 by subst hW; exact (Below.refl _ _).alloc (Nat.le_refl _) _)
  have HH0 := hide (hH.on HB.out)
  have HSB := hide (show Blk W0 w.heap.size [.int .i64 kd, .int .i64 a, .int .i64 bb, .string tx, .slice ka kn kc] 53 by subst hW; exact Blk.new w _ _)
  have HP := hide (pickN_any kd 9 W0 (by decide) (by decide) hk1 hk2)
  have HPB := hide (pickN_any bb 64 W0 (by decide) (by decide) hb1 hb2)
  rw [hbt] at HPB
  have hbw : IntKind.i64.wrap ((bt : Int) + 1) = (bt : Int) + 1 := by rw [IntKind.wrap_i64] <;> omega
  have c0 : W0.cell? ⟨w.heap.size, 0, none⟩ = some (.int .i64 kd) := HSB.out.cell 0
  have c2 : W0.cell? ⟨w.heap.size, 2, none⟩ = some (.int .i64 bb) := HSB.out.cell 2
  rw [hk] at HP
  have HD := hide (hD W0 HB.out)
  have g0 : ((c : Int) == 0) = false := by rw [beq_eq_false_iff_ne]; omega
  have g1 : ((c : Int) == 1) = false := by rw [beq_eq_false_iff_ne]; omega
  have g3 : decide ((3 : Int) < (c : Int)) = true := decide_eq_true (by omega)
  have c1 : W0.cell? ⟨w.heap.size, 1, none⟩ = some (.int .i64 a) := HSB.out.cell 1
  have c3 : W0.cell? ⟨w.heap.size, 3, none⟩ = some (.string tx) := HSB.out.cell 3
  have c4 : W0.cell? ⟨w.heap.size, 4, none⟩ = some (.slice ka kn kc) := HSB.out.cell 4
  obtain ⟨cz, hcz⟩ : ∃ cz : Int, (c : Int) = cz := ⟨_, rfl⟩
  rw [hcz] at HP g0 g1 g3
  have HWE := hide hW
  clear hW hH hk1 hk2 hb1 hb2 hbt hbt2 hk hc hc9 hD hcz
  go_enter Tryz.func19, Tryz.ntmps19
  go_wp2_with fail
  rw [HWE.out]
  refine HPB.out.mono ?_
  rintro e w1 ⟨rfl, hw1⟩
  subst w1
  go_wp2_with fail
  refine HP.out.mono ?_
  rintro e w1 ⟨rfl, hw1⟩
  subst w1
  go_wp2_with fail
  refine HD.out.mono ?_
  rintro e w6 ⟨rfl, hq6⟩
  have HQ6 := hide hq6
  clear hq6 c0 c1 c2 c3 c4
  go_wp2
  go_ret
  exact ⟨rfl, HQ6.out⟩

set_option maxRecDepth 20000 in
set_option maxHeartbeats 2000000 in
theorem step_none2 (H SD : Nat) (k b x t l : Int) (s1 s2 s3 o1 o2 o3 : ByteArray) (sa : Option Addr) (ns sc : Nat) (bv gv : Value) (kd a bb : Int) (tx : ByteArray) (ka : Option Addr) (kn kc : Nat) (n bt : Nat) (w : World) (hH : Blk w H (hallC SD k b x t l s1 s2 s3 o1 o2 o3 (.slice sa ns sc) bv gv) 65) (hk1 : -9223372036854775808 ≤ kd) (hk2 : kd ≤ 9223372036854775807) (hb1 : -9223372036854775808 ≤ bb) (hb2 : bb ≤ 9223372036854775807) (hbt : pickZ bb 64 = bt) (hbt2 : bt < 64) (hk : pickZ kd 9 = 2) (hns : ns = 0) :
    Calls Tryz.prog 19 #[.pointer (some ⟨H, 0, none⟩), .agg #[.int .i64 kd, .int .i64 a, .int .i64 bb, .string tx, .slice ka kn kc], .int .i64 n] w fun e w' => e = .returned (.bool true) ∧ Below w.heap.size w w' := by
  obtain ⟨W0, hW⟩ : ∃ W0, w.alloc (.cells #[.int .i64 kd, .int .i64 a, .int .i64 bb, .string tx, .slice ka kn kc] 53) = W0 := ⟨_, rfl⟩
  have HB := hide (show Below w.heap.size w W0 by subst hW; exact (Below.refl _ _).alloc (Nat.le_refl _) _)
  have HH0 := hide (hH.on HB.out)
  have HSB := hide (show Blk W0 w.heap.size [.int .i64 kd, .int .i64 a, .int .i64 bb, .string tx, .slice ka kn kc] 53 by subst hW; exact Blk.new w _ _)
  have HP := hide (pickN_any kd 9 W0 (by decide) (by decide) hk1 hk2)
  have HPB := hide (pickN_any bb 64 W0 (by decide) (by decide) hb1 hb2)
  rw [hbt] at HPB
  have hbw : IntKind.i64.wrap ((bt : Int) + 1) = (bt : Int) + 1 := by rw [IntKind.wrap_i64] <;> omega
  have c0 : W0.cell? ⟨w.heap.size, 0, none⟩ = some (.int .i64 kd) := HSB.out.cell 0
  have c2 : W0.cell? ⟨w.heap.size, 2, none⟩ = some (.int .i64 bb) := HSB.out.cell 2
  rw [hk] at HP
  subst hns
  have c12 : W0.cell? ⟨H, 12, none⟩ = some (.slice sa 0 sc) := HH0.out.cell 12
  have HWE := hide hW
  clear hW hH hk1 hk2 hb1 hb2 hbt hbt2 hk
  go_enter Tryz.func19, Tryz.ntmps19
  go_wp2_with fail
  rw [HWE.out]
  refine HPB.out.mono ?_
  rintro e w1 ⟨rfl, hw1⟩
  subst w1
  go_wp2_with fail
  refine HP.out.mono ?_
  rintro e w1 ⟨rfl, hw1⟩
  subst w1
  clear c0 c2
  go_wp2
  go_ret
  exact ⟨rfl, HB.out⟩

set_option maxRecDepth 20000 in
set_option maxHeartbeats 2000000 in
theorem step_none3 (H SD : Nat) (k b x t l : Int) (s1 s2 s3 o1 o2 o3 : ByteArray) (sa : Option Addr) (ns sc : Nat) (bv gv : Value) (kd a bb : Int) (tx : ByteArray) (ka : Option Addr) (kn kc : Nat) (n bt : Nat) (w : World) (hH : Blk w H (hallC SD k b x t l s1 s2 s3 o1 o2 o3 (.slice sa ns sc) bv gv) 65) (hk1 : -9223372036854775808 ≤ kd) (hk2 : kd ≤ 9223372036854775807) (hb1 : -9223372036854775808 ≤ bb) (hb2 : bb ≤ 9223372036854775807) (hbt : pickZ bb 64 = bt) (hbt2 : bt < 64) (hk : pickZ kd 9 = 3) (hns : ns = 0) :
    Calls Tryz.prog 19 #[.pointer (some ⟨H, 0, none⟩), .agg #[.int .i64 kd, .int .i64 a, .int .i64 bb, .string tx, .slice ka kn kc], .int .i64 n] w fun e w' => e = .returned (.bool true) ∧ Below w.heap.size w w' := by
  obtain ⟨W0, hW⟩ : ∃ W0, w.alloc (.cells #[.int .i64 kd, .int .i64 a, .int .i64 bb, .string tx, .slice ka kn kc] 53) = W0 := ⟨_, rfl⟩
  have HB := hide (show Below w.heap.size w W0 by subst hW; exact (Below.refl _ _).alloc (Nat.le_refl _) _)
  have HH0 := hide (hH.on HB.out)
  have HSB := hide (show Blk W0 w.heap.size [.int .i64 kd, .int .i64 a, .int .i64 bb, .string tx, .slice ka kn kc] 53 by subst hW; exact Blk.new w _ _)
  have HP := hide (pickN_any kd 9 W0 (by decide) (by decide) hk1 hk2)
  have HPB := hide (pickN_any bb 64 W0 (by decide) (by decide) hb1 hb2)
  rw [hbt] at HPB
  have hbw : IntKind.i64.wrap ((bt : Int) + 1) = (bt : Int) + 1 := by rw [IntKind.wrap_i64] <;> omega
  have c0 : W0.cell? ⟨w.heap.size, 0, none⟩ = some (.int .i64 kd) := HSB.out.cell 0
  have c2 : W0.cell? ⟨w.heap.size, 2, none⟩ = some (.int .i64 bb) := HSB.out.cell 2
  rw [hk] at HP
  subst hns
  have c12 : W0.cell? ⟨H, 12, none⟩ = some (.slice sa 0 sc) := HH0.out.cell 12
  have HWE := hide hW
  clear hW hH hk1 hk2 hb1 hb2 hbt hbt2 hk
  go_enter Tryz.func19, Tryz.ntmps19
  go_wp2_with fail
  rw [HWE.out]
  refine HPB.out.mono ?_
  rintro e w1 ⟨rfl, hw1⟩
  subst w1
  go_wp2_with fail
  refine HP.out.mono ?_
  rintro e w1 ⟨rfl, hw1⟩
  subst w1
  clear c0 c2
  go_wp2
  go_ret
  exact ⟨rfl, HB.out⟩

set_option maxRecDepth 20000 in
set_option maxHeartbeats 2000000 in
theorem step_reserve (H SD : Nat) (k b x t l : Int) (s1 s2 s3 o1 o2 o3 : ByteArray) (g ns sc G i : Nat) (bv gv : Value) (kd a bb : Int) (tx : ByteArray) (ka : Option Addr) (kn kc : Nat) (n bt : Nat) (Q : World → Prop) (w : World) (hH : Blk w H (hallC SD k b x t l s1 s2 s3 o1 o2 o3 (.slice (some ⟨g, 0, none⟩) ns sc) bv gv) 65) (hk1 : -9223372036854775808 ≤ kd) (hk2 : kd ≤ 9223372036854775807) (hb1 : -9223372036854775808 ≤ bb) (hb2 : bb ≤ 9223372036854775807) (hbt : pickZ bb 64 = bt) (hbt2 : bt < 64) (hk : pickZ kd 9 = 3) (ha1 : -9223372036854775808 ≤ a) (ha2 : a ≤ 9223372036854775807) (hns : ns ≤ 2199023255552) (hi : pickZ a ns = i) (hi2 : i < ns) (hsc : ns ≤ sc) (hgl : g < w.heap.size) (hgc : w.cell? ⟨g, i, none⟩ = some (.pointer (some ⟨G, 0, none⟩)))
    (hR : ∀ V : World, Below w.heap.size w V → Calls Tryz.prog 31 #[.pointer (some ⟨G, 0, none⟩), .int .i64 ((bt : Int) + 1)] V fun e w' => (∃ u c, e = .returned (.tuple #[.int .i64 u, .int .i64 c])) ∧ Q w') :
    Calls Tryz.prog 19 #[.pointer (some ⟨H, 0, none⟩), .agg #[.int .i64 kd, .int .i64 a, .int .i64 bb, .string tx, .slice ka kn kc], .int .i64 n] w fun e w' => e = .returned (.bool true) ∧ Q w' := by
  obtain ⟨W0, hW⟩ : ∃ W0, w.alloc (.cells #[.int .i64 kd, .int .i64 a, .int .i64 bb, .string tx, .slice ka kn kc] 53) = W0 := ⟨_, rfl⟩
  have HB := hide (show Below w.heap.size w W0 by subst hW; exact (Below.refl _ _).alloc (Nat.le_refl _) _)
  have HH0 := hide (hH.on HB.out)
  have HSB := hide (show Blk W0 w.heap.size [.int .i64 kd, .int .i64 a, .int .i64 bb, .string tx, .slice ka kn kc] 53 by subst hW; exact Blk.new w _ _)
  have HP := hide (pickN_any kd 9 W0 (by decide) (by decide) hk1 hk2)
  have HPB := hide (pickN_any bb 64 W0 (by decide) (by decide) hb1 hb2)
  rw [hbt] at HPB
  have hbw : IntKind.i64.wrap ((bt : Int) + 1) = (bt : Int) + 1 := by rw [IntKind.wrap_i64] <;> omega
  have c0 : W0.cell? ⟨w.heap.size, 0, none⟩ = some (.int .i64 kd) := HSB.out.cell 0
  have c2 : W0.cell? ⟨w.heap.size, 2, none⟩ = some (.int .i64 bb) := HSB.out.cell 2
  rw [hk] at HP
  have HS := hide (fun (V : World) (hb : Below W0.heap.size W0 V) => (by
    have q1 := HH0.out.on hb
    have q2 := HSB.out.on hb
    exact ⟨q1.cell 12, ((HB.out.trans (hb.mono HB.out.size)).cell (p := ⟨g, i, none⟩) hgl).trans hgc, q2.cell 1⟩ : V.cell? ⟨H, 12, none⟩ = some (.slice (some ⟨g, 0, none⟩) ns sc) ∧ V.cell? ⟨g, i, none⟩ = some (.pointer (some ⟨G, 0, none⟩)) ∧ V.cell? ⟨w.heap.size, 1, none⟩ = some (.int .i64 a)))
  have HPA := hide (fun V : World => pickN_any a ns V (by omega) (by omega) ha1 ha2)
  rw [hi] at HPA
  have HBW := hide (fun (V : World) (h : Below W0.heap.size W0 V) => HB.out.trans (h.mono HB.out.size))
  have c12 : W0.cell? ⟨H, 12, none⟩ = some (.slice (some ⟨g, 0, none⟩) ns sc) := HH0.out.cell 12
  have hnz : ((ns : Int) == 0) = false := by rw [beq_eq_false_iff_ne]; omega
  have hnz2 : ns ≠ 0 := by omega
  have hi3 : (i : Int) < (ns : Int) := by omega
  have hi5 : i < sc := by omega
  have HC := hide (hR _ (HBW.out _ ((Below.refl W0.heap.size W0).drew)))
  have HWE := hide hW
  clear hW hH hk1 hk2 hb1 hb2 hbt hbt2 hk ha1 ha2 hns hi hi2 hsc hgl hgc hR
  go_enter Tryz.func19, Tryz.ntmps19
  go_wp2_with fail
  rw [HWE.out]
  refine HPB.out.mono ?_
  rintro e w1 ⟨rfl, hw1⟩
  subst w1
  go_wp2_with fail
  refine HP.out.mono ?_
  rintro e w1 ⟨rfl, hw1⟩
  subst w1
  clear c0 c2
  go_wp2_with fail
  refine wp_region_held_drew (S := fun V => V.cell? ⟨H, 12, none⟩ = some (.slice (some ⟨g, 0, none⟩) ns sc) ∧ V.cell? ⟨g, i, none⟩ = some (.pointer (some ⟨G, 0, none⟩)) ∧ V.cell? ⟨w.heap.size, 1, none⟩ = some (.int .i64 a)) (by kernel_rfl) (HS.out _ ((Below.refl W0.heap.size W0).drew)) (fun hHeld => ?_)
  refine tk 0 hHeld (h := ?_)
  refine tk 1 hHeld (h := ?_)
  refine tk 2 hHeld (h := ?_)
  refine tk 3 hHeld (h := ?_)
  refine tk 4 hHeld (h := ?_)
  refine tk 5 hHeld (h := ?_)
  refine tk 6 hHeld (h := ?_)
  refine tk 7 hHeld (h := ?_)
  refine tk 8 hHeld (h := ?_)
  refine tk 9 hHeld (h := ?_)
  refine tk 10 hHeld (h := ?_)
  refine wpAnyH_ready (rs := [11]) (by kernel_rfl) (by simp) ?_
  refine AllReadyH.cons (o := ?oa11) ?hoa11 (fun K hK => ?hsa11) AllReadyH.nil
  case hoa11 => (simp only [List.getElem?_toArray, List.getElem?_cons_succ, List.getElem?_cons_zero]; rfl)
  go_simp
  go_at_call 17
  refine (HPA.out _).mono ?_
  rintro e w3 ⟨rfl, hw3⟩
  subst hw3
  try go_wp2_with fail
  refine hK.out _ _ (HS.out _ ((Below.refl W0.heap.size W0).drew)) (fun hHeld => ?_)
  clear hK K
  try simp only [Act.put, List.setIfInBounds_toArray, List.set_cons_zero, List.set_cons_succ]
  refine tk 12 hHeld (h := ?_)
  refine tk 13 hHeld (h := ?_)
  refine tk 14 hHeld (h := ?_)
  refine wpAnyH_done (by kernel_rfl) ?_ _
  clear hHeld
  go_wp2_with fail
  refine HC.out.mono ?_
  rintro e w6 ⟨⟨u, c, rfl⟩, hq6⟩
  have HQ6 := hide hq6
  clear hq6 c12
  go_wp2
  go_ret
  exact ⟨rfl, HQ6.out⟩

set_option maxRecDepth 20000 in
set_option maxHeartbeats 2000000 in
theorem step_sign (H SD : Nat) (k b x t l : Int) (s1 s2 s3 o1 o2 o3 : ByteArray) (g ns sc G i : Nat) (bv gv : Value) (kd a bb : Int) (tx : ByteArray) (ka : Option Addr) (kn kc : Nat) (n bt : Nat) (Q : World → Prop) (w : World) (hH : Blk w H (hallC SD k b x t l s1 s2 s3 o1 o2 o3 (.slice (some ⟨g, 0, none⟩) ns sc) bv gv) 65) (hk1 : -9223372036854775808 ≤ kd) (hk2 : kd ≤ 9223372036854775807) (hb1 : -9223372036854775808 ≤ bb) (hb2 : bb ≤ 9223372036854775807) (hbt : pickZ bb 64 = bt) (hbt2 : bt < 64) (hk : pickZ kd 9 = 2) (ha1 : -9223372036854775808 ≤ a) (ha2 : a ≤ 9223372036854775807) (hns : ns ≤ 2199023255552) (hi : pickZ a ns = i) (hi2 : i < ns) (hsc : ns ≤ sc) (hgl : g < w.heap.size) (hgc : w.cell? ⟨g, i, none⟩ = some (.pointer (some ⟨G, 0, none⟩)))
    (hR : ∀ V : World, Below w.heap.size w V → Calls Tryz.prog 57 #[.pointer (some ⟨H, 0, none⟩), .pointer (some ⟨G, 0, none⟩), .string (upS tx 200)] V fun e w' => e = .returned (.bool true) ∧ Q w') :
    Calls Tryz.prog 19 #[.pointer (some ⟨H, 0, none⟩), .agg #[.int .i64 kd, .int .i64 a, .int .i64 bb, .string tx, .slice ka kn kc], .int .i64 n] w fun e w' => e = .returned (.bool true) ∧ Q w' := by
  obtain ⟨W0, hW⟩ : ∃ W0, w.alloc (.cells #[.int .i64 kd, .int .i64 a, .int .i64 bb, .string tx, .slice ka kn kc] 53) = W0 := ⟨_, rfl⟩
  have HB := hide (show Below w.heap.size w W0 by subst hW; exact (Below.refl _ _).alloc (Nat.le_refl _) _)
  have HH0 := hide (hH.on HB.out)
  have HSB := hide (show Blk W0 w.heap.size [.int .i64 kd, .int .i64 a, .int .i64 bb, .string tx, .slice ka kn kc] 53 by subst hW; exact Blk.new w _ _)
  have HP := hide (pickN_any kd 9 W0 (by decide) (by decide) hk1 hk2)
  have HPB := hide (pickN_any bb 64 W0 (by decide) (by decide) hb1 hb2)
  rw [hbt] at HPB
  have hbw : IntKind.i64.wrap ((bt : Int) + 1) = (bt : Int) + 1 := by rw [IntKind.wrap_i64] <;> omega
  have c0 : W0.cell? ⟨w.heap.size, 0, none⟩ = some (.int .i64 kd) := HSB.out.cell 0
  have c2 : W0.cell? ⟨w.heap.size, 2, none⟩ = some (.int .i64 bb) := HSB.out.cell 2
  rw [hk] at HP
  have HS := hide (fun (V : World) (hb : Below W0.heap.size W0 V) => (by
    have q1 := HH0.out.on hb
    have q2 := HSB.out.on hb
    exact ⟨q1.cell 12, ((HB.out.trans (hb.mono HB.out.size)).cell (p := ⟨g, i, none⟩) hgl).trans hgc, q2.cell 1⟩ : V.cell? ⟨H, 12, none⟩ = some (.slice (some ⟨g, 0, none⟩) ns sc) ∧ V.cell? ⟨g, i, none⟩ = some (.pointer (some ⟨G, 0, none⟩)) ∧ V.cell? ⟨w.heap.size, 1, none⟩ = some (.int .i64 a)))
  have HPA := hide (fun V : World => pickN_any a ns V (by omega) (by omega) ha1 ha2)
  rw [hi] at HPA
  have HBW := hide (fun (V : World) (h : Below W0.heap.size W0 V) => HB.out.trans (h.mono HB.out.size))
  have c12 : W0.cell? ⟨H, 12, none⟩ = some (.slice (some ⟨g, 0, none⟩) ns sc) := HH0.out.cell 12
  have hnz : ((ns : Int) == 0) = false := by rw [beq_eq_false_iff_ne]; omega
  have hnz2 : ns ≠ 0 := by omega
  have hi3 : (i : Int) < (ns : Int) := by omega
  have hi5 : i < sc := by omega
  have HC := hide (hR _ (HBW.out _ ((Below.refl W0.heap.size W0).drew)))
  have HUP := hide (fun V : World => upTo_any tx 200 V)
  have HC3 := hide (show W0.drew.cell? ⟨w.heap.size, 3, none⟩ = some (.string tx) from HSB.out.cell 3)
  have HWE := hide hW
  clear hW hH hk1 hk2 hb1 hb2 hbt hbt2 hk ha1 ha2 hns hi hi2 hsc hgl hgc hR
  go_enter Tryz.func19, Tryz.ntmps19
  go_wp2_with fail
  rw [HWE.out]
  refine HPB.out.mono ?_
  rintro e w1 ⟨rfl, hw1⟩
  subst w1
  go_wp2_with fail
  refine HP.out.mono ?_
  rintro e w1 ⟨rfl, hw1⟩
  subst w1
  clear c0 c2
  go_wp2_with fail
  refine wp_region_held_drew (S := fun V => V.cell? ⟨H, 12, none⟩ = some (.slice (some ⟨g, 0, none⟩) ns sc) ∧ V.cell? ⟨g, i, none⟩ = some (.pointer (some ⟨G, 0, none⟩)) ∧ V.cell? ⟨w.heap.size, 1, none⟩ = some (.int .i64 a)) (by kernel_rfl) (HS.out _ ((Below.refl W0.heap.size W0).drew)) (fun hHeld => ?_)
  refine tk 0 hHeld (h := ?_)
  refine tk 1 hHeld (h := ?_)
  refine tk 2 hHeld (h := ?_)
  refine tk 3 hHeld (h := ?_)
  refine tk 4 hHeld (h := ?_)
  refine tk 5 hHeld (h := ?_)
  refine tk 6 hHeld (h := ?_)
  refine tk 7 hHeld (h := ?_)
  refine tk 8 hHeld (h := ?_)
  refine tk 9 hHeld (h := ?_)
  refine tk 10 hHeld (h := ?_)
  refine wpAnyH_ready (rs := [11]) (by kernel_rfl) (by simp) ?_
  refine AllReadyH.cons (o := ?oa11) ?hoa11 (fun K hK => ?hsa11) AllReadyH.nil
  case hoa11 => (simp only [List.getElem?_toArray, List.getElem?_cons_succ, List.getElem?_cons_zero]; rfl)
  go_simp
  go_at_call 17
  refine (HPA.out _).mono ?_
  rintro e w3 ⟨rfl, hw3⟩
  subst hw3
  try go_wp2_with fail
  refine hK.out _ _ (HS.out _ ((Below.refl W0.heap.size W0).drew)) (fun hHeld => ?_)
  clear hK K
  try simp only [Act.put, List.setIfInBounds_toArray, List.set_cons_zero, List.set_cons_succ]
  refine tk 12 hHeld (h := ?_)
  refine tk 13 hHeld (h := ?_)
  refine tk 14 hHeld (h := ?_)
  refine wpAnyH_done (by kernel_rfl) ?_ _
  clear hHeld
  have c3 := HC3.out
  go_wp2_with fail
  refine (HUP.out _).mono ?_
  rintro e w5 ⟨rfl, hw5⟩
  subst w5
  generalize upS tx 200 = ux at HC ⊢
  go_wp2_with fail
  refine HC.out.mono ?_
  rintro e w6 ⟨rfl, hq6⟩
  have HQ6 := hide hq6
  clear hq6 c12 c3
  go_wp2
  go_ret
  exact ⟨rfl, HQ6.out⟩
end Go.Proofs.YtgaoeoijdpdjiabGreatDoor
