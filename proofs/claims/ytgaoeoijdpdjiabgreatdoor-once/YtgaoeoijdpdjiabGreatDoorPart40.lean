/-
  The hall's steps on its disk.
-/
import Derived.Test.YtgaoeoijdpdjiabGreatDoorPart3
import Derived.Test.YtgaoeoijdpdjiabGreatDoorPart39
import Derived.Test.YtgaoeoijdpdjiabGreatDoorPart5
namespace Go.Proofs.YtgaoeoijdpdjiabGreatDoor
open Go.RowKit

set_option maxRecDepth 20000 in
set_option maxHeartbeats 2000000 in
theorem disk_crash (H SD : Nat) (k b x t l : Int) (s1 s2 s3 o1 o2 o3 : ByteArray) (sv bv gv : Value) (kd a bb : Int) (tx : ByteArray) (ka : Option Addr) (kn kc : Nat) (n : Nat) (F : Nat → Prop) (Q : World → Prop) (w : World) (hH : Blk w H (hallC SD k b x t l s1 s2 s3 o1 o2 o3 sv bv gv) 65) (hk1 : -9223372036854775808 ≤ kd) (hk2 : kd ≤ 9223372036854775807) (hk : pickZ kd 9 = 4) (nH : ¬ F H) (hF : ∀ i, F i → i < w.heap.size) (hC : ∀ V : World, Below w.heap.size w V → Calls Tryz.prog 60 #[.pointer (some ⟨SD, 0, none⟩), .slice ka kn kc] V fun e w' => e = .returned (.tuple #[]) ∧ Kept F V w' ∧ Q w') :
    Calls Tryz.prog 56 #[.pointer (some ⟨H, 0, none⟩), .agg #[.int .i64 kd, .int .i64 a, .int .i64 bb, .string tx, .slice ka kn kc], .int .i64 n] w fun e w' => e = .returned (.bool true) ∧ Q w' := by
  obtain ⟨W0, hW⟩ : ∃ W0, w.alloc (.cells #[.int .i64 kd, .int .i64 a, .int .i64 bb, .string tx, .slice ka kn kc] 53) = W0 := ⟨_, rfl⟩
  have HB := hide (show Below w.heap.size w W0 by subst hW; exact (Below.refl _ _).alloc (Nat.le_refl _) _)
  have HH0 := hide (hH.on HB.out)
  have HSB := hide (show Blk W0 w.heap.size [.int .i64 kd, .int .i64 a, .int .i64 bb, .string tx, .slice ka kn kc] 53 by subst hW; exact Blk.new w _ _)
  have HP := hide (pickN_any kd 9 W0 (by decide) (by decide) hk1 hk2)
  rw [hk] at HP
  have c0 : W0.cell? ⟨w.heap.size, 0, none⟩ = some (.int .i64 kd) := HSB.out.cell 0
  have HS := hide (fun (V : World) (h : ∃ U, Below W0.heap.size W0 U ∧ Kept F U V) => (by
    obtain ⟨U, hb, hk⟩ := h
    have q1 := HH0.out.on hb
    have q2 := HSB.out.on hb
    have l2 := q2.lt
    have nS : ¬ F w.heap.size := fun e => by have := hF _ e; omega
    exact ⟨(hk.cell (p := ⟨H, 11, none⟩) q1.lt nH).trans (q1.cell 11), (hk.cell (p := ⟨w.heap.size, 1, none⟩) l2 nS).trans (q2.cell 1), (hk.cell (p := ⟨w.heap.size, 2, none⟩) l2 nS).trans (q2.cell 2), (hk.cell (p := ⟨w.heap.size, 3, none⟩) l2 nS).trans (q2.cell 3), (hk.cell (p := ⟨w.heap.size, 4, none⟩) l2 nS).trans (q2.cell 4)⟩ : V.cell? ⟨H, 11, none⟩ = some (.pointer (some ⟨SD, 0, none⟩)) ∧ V.cell? ⟨w.heap.size, 1, none⟩ = some (.int .i64 a) ∧ V.cell? ⟨w.heap.size, 2, none⟩ = some (.int .i64 bb) ∧ V.cell? ⟨w.heap.size, 3, none⟩ = some (.string tx) ∧ V.cell? ⟨w.heap.size, 4, none⟩ = some (.slice ka kn kc)))
  have HC := hide (fun (V : World) (h : Below W0.heap.size W0 V) => hC V (HB.out.trans (h.mono HB.out.size)))
  have HWE := hide hW
  clear hW hH hk1 hk2 hk nH hF hC
  go_enter Tryz.func56, Tryz.ntmps56
  go_wp2_with fail
  rw [HWE.out]
  refine HP.out.mono ?_
  rintro e w1 ⟨rfl, hw1⟩
  subst w1
  clear c0
  go_wp2_with fail
  refine wp_region_held_drew (S := fun V => V.cell? ⟨H, 11, none⟩ = some (.pointer (some ⟨SD, 0, none⟩)) ∧ V.cell? ⟨w.heap.size, 1, none⟩ = some (.int .i64 a) ∧ V.cell? ⟨w.heap.size, 2, none⟩ = some (.int .i64 bb) ∧ V.cell? ⟨w.heap.size, 3, none⟩ = some (.string tx) ∧ V.cell? ⟨w.heap.size, 4, none⟩ = some (.slice ka kn kc)) (by kernel_rfl) (HS.out _ (⟨_, (Below.refl W0.heap.size W0).drew, Kept.refl _ _⟩)) (fun hHeld => ?_)
  refine tk 0 hHeld (h := ?_)
  refine tk 1 hHeld (h := ?_)
  refine tk 2 hHeld (h := ?_)
  refine tk 3 hHeld (h := ?_)
  refine tk 4 hHeld (h := ?_)
  refine tk 5 hHeld (h := ?_)
  refine wpAnyH_ready (rs := [6]) (by kernel_rfl) (by simp) ?_
  refine AllReadyH.cons (o := ?oa6) ?hoa6 (fun K hK => ?hsa6) AllReadyH.nil
  case hoa6 => (simp only [List.getElem?_toArray, List.getElem?_cons_succ, List.getElem?_cons_zero]; rfl)
  go_simp
  go_at_call 60
  refine (HC.out _ ((Below.refl W0.heap.size W0).drew)).mono ?_
  rintro e w4 ⟨rfl, hk4, hq4⟩
  have HK4 := hide hk4
  have HQ4 := hide hq4
  clear hk4 hq4
  try go_wp2_with fail
  refine hK.out _ _ (HS.out _ (⟨_, (Below.refl W0.heap.size W0).drew, HK4.out⟩)) (fun hHeld => ?_)
  clear hK K
  try simp only [Act.put, List.setIfInBounds_toArray, List.set_cons_zero, List.set_cons_succ]
  refine wpAnyH_done (by kernel_rfl) ?_ _
  clear hHeld
  go_wp2
  go_ret
  exact ⟨rfl, HQ4.out⟩

set_option maxRecDepth 20000 in
set_option maxHeartbeats 2000000 in
theorem disk_trouble (H SD : Nat) (k b x t l : Int) (s1 s2 s3 o1 o2 o3 : ByteArray) (sv bv gv : Value) (kd a bb : Int) (tx : ByteArray) (ka : Option Addr) (kn kc : Nat) (n : Nat) (F : Nat → Prop) (Q : World → Prop) (w : World) (hH : Blk w H (hallC SD k b x t l s1 s2 s3 o1 o2 o3 sv bv gv) 65) (hk1 : -9223372036854775808 ≤ kd) (hk2 : kd ≤ 9223372036854775807) (hk : pickZ kd 9 = 5) (hb1 : -9223372036854775808 ≤ bb) (hb2 : bb ≤ 9223372036854775807) (nH : ¬ F H) (hF : ∀ i, F i → i < w.heap.size) (hC : ∀ V : World, Below w.heap.size w V → Calls Tryz.prog 70 #[.pointer (some ⟨SD, 0, none⟩), .int .i64 (pickZ bb 8)] V fun e w' => e = .returned (.int .i64 0) ∧ Kept F V w' ∧ Q w') :
    Calls Tryz.prog 56 #[.pointer (some ⟨H, 0, none⟩), .agg #[.int .i64 kd, .int .i64 a, .int .i64 bb, .string tx, .slice ka kn kc], .int .i64 n] w fun e w' => e = .returned (.bool true) ∧ Q w' := by
  obtain ⟨W0, hW⟩ : ∃ W0, w.alloc (.cells #[.int .i64 kd, .int .i64 a, .int .i64 bb, .string tx, .slice ka kn kc] 53) = W0 := ⟨_, rfl⟩
  have HB := hide (show Below w.heap.size w W0 by subst hW; exact (Below.refl _ _).alloc (Nat.le_refl _) _)
  have HH0 := hide (hH.on HB.out)
  have HSB := hide (show Blk W0 w.heap.size [.int .i64 kd, .int .i64 a, .int .i64 bb, .string tx, .slice ka kn kc] 53 by subst hW; exact Blk.new w _ _)
  have HP := hide (pickN_any kd 9 W0 (by decide) (by decide) hk1 hk2)
  rw [hk] at HP
  have c0 : W0.cell? ⟨w.heap.size, 0, none⟩ = some (.int .i64 kd) := HSB.out.cell 0
  have HS := hide (fun (V : World) (h : ∃ U, Below W0.heap.size W0 U ∧ Kept F U V) => (by
    obtain ⟨U, hb, hk⟩ := h
    have q1 := HH0.out.on hb
    have q2 := HSB.out.on hb
    have l2 := q2.lt
    have nS : ¬ F w.heap.size := fun e => by have := hF _ e; omega
    exact ⟨(hk.cell (p := ⟨H, 11, none⟩) q1.lt nH).trans (q1.cell 11), (hk.cell (p := ⟨w.heap.size, 1, none⟩) l2 nS).trans (q2.cell 1), (hk.cell (p := ⟨w.heap.size, 2, none⟩) l2 nS).trans (q2.cell 2), (hk.cell (p := ⟨w.heap.size, 3, none⟩) l2 nS).trans (q2.cell 3), (hk.cell (p := ⟨w.heap.size, 4, none⟩) l2 nS).trans (q2.cell 4)⟩ : V.cell? ⟨H, 11, none⟩ = some (.pointer (some ⟨SD, 0, none⟩)) ∧ V.cell? ⟨w.heap.size, 1, none⟩ = some (.int .i64 a) ∧ V.cell? ⟨w.heap.size, 2, none⟩ = some (.int .i64 bb) ∧ V.cell? ⟨w.heap.size, 3, none⟩ = some (.string tx) ∧ V.cell? ⟨w.heap.size, 4, none⟩ = some (.slice ka kn kc)))
  have HC := hide (fun (V : World) (h : Below W0.heap.size W0 V) => hC V (HB.out.trans (h.mono HB.out.size)))
  have HPB := hide (fun V : World => pickN_any bb 8 V (by decide) (by decide) hb1 hb2)
  have HWE := hide hW
  clear hW hH hk1 hk2 hk nH hF hC hb1 hb2
  go_enter Tryz.func56, Tryz.ntmps56
  go_wp2_with fail
  rw [HWE.out]
  refine HP.out.mono ?_
  rintro e w1 ⟨rfl, hw1⟩
  subst w1
  clear c0
  go_wp2_with fail
  refine wp_region_held_drew (S := fun V => V.cell? ⟨H, 11, none⟩ = some (.pointer (some ⟨SD, 0, none⟩)) ∧ V.cell? ⟨w.heap.size, 1, none⟩ = some (.int .i64 a) ∧ V.cell? ⟨w.heap.size, 2, none⟩ = some (.int .i64 bb) ∧ V.cell? ⟨w.heap.size, 3, none⟩ = some (.string tx) ∧ V.cell? ⟨w.heap.size, 4, none⟩ = some (.slice ka kn kc)) (by kernel_rfl) (HS.out _ (⟨_, (Below.refl W0.heap.size W0).drew, Kept.refl _ _⟩)) (fun hHeld => ?_)
  refine tk 0 hHeld (h := ?_)
  refine tk 1 hHeld (h := ?_)
  refine tk 2 hHeld (h := ?_)
  refine tk 3 hHeld (h := ?_)
  refine tk 4 hHeld (h := ?_)
  refine tk 5 hHeld (h := ?_)
  refine wpAnyH_ready (rs := [6]) (by kernel_rfl) (by simp) ?_
  refine AllReadyH.cons (o := ?oa6) ?hoa6 (fun K hK => ?hsa6) AllReadyH.nil
  case hoa6 => (simp only [List.getElem?_toArray, List.getElem?_cons_succ, List.getElem?_cons_zero]; rfl)
  go_simp
  go_at_call 17
  refine (HPB.out _).mono ?_
  rintro e w3 ⟨rfl, hw3⟩
  subst hw3
  try go_wp2_with fail
  refine hK.out _ _ (HS.out _ (⟨_, (Below.refl W0.heap.size W0).drew, Kept.refl _ _⟩)) (fun hHeld => ?_)
  clear hK K
  try simp only [Act.put, List.setIfInBounds_toArray, List.set_cons_zero, List.set_cons_succ]
  refine wpAnyH_ready (rs := [7]) (by kernel_rfl) (by simp) ?_
  refine AllReadyH.cons (o := ?oa7) ?hoa7 (fun K hK => ?hsa7) AllReadyH.nil
  case hoa7 => (simp only [List.getElem?_toArray, List.getElem?_cons_succ, List.getElem?_cons_zero]; rfl)
  go_simp
  go_at_call 70
  refine (HC.out _ ((Below.refl W0.heap.size W0).drew)).mono ?_
  rintro e w4 ⟨rfl, hk4, hq4⟩
  have HK4 := hide hk4
  have HQ4 := hide hq4
  clear hk4 hq4
  try go_wp2_with fail
  refine hK.out _ _ (HS.out _ (⟨_, (Below.refl W0.heap.size W0).drew, HK4.out⟩)) (fun hHeld => ?_)
  clear hK K
  try simp only [Act.put, List.setIfInBounds_toArray, List.set_cons_zero, List.set_cons_succ]
  refine tk 8 hHeld (h := ?_)
  refine wpAnyH_done (by kernel_rfl) ?_ _
  clear hHeld
  go_wp2
  go_ret
  exact ⟨rfl, HQ4.out⟩

set_option maxRecDepth 20000 in
set_option maxHeartbeats 2000000 in
theorem disk_sync (H SD : Nat) (k b x t l : Int) (s1 s2 s3 o1 o2 o3 : ByteArray) (sv bv gv : Value) (kd a bb : Int) (tx : ByteArray) (ka : Option Addr) (kn kc : Nat) (n : Nat) (Q : World → Prop) (w : World) (hH : Blk w H (hallC SD k b x t l s1 s2 s3 o1 o2 o3 sv bv gv) 65) (hk1 : -9223372036854775808 ≤ kd) (hk2 : kd ≤ 9223372036854775807) (hk : pickZ kd 9 = 6) (hC : ∀ V : World, Below w.heap.size w V → Calls Tryz.prog 63 #[.pointer (some ⟨SD, 0, none⟩)] V fun e w' => (∃ c, e = .returned (.int .i64 c)) ∧ Q w') :
    Calls Tryz.prog 56 #[.pointer (some ⟨H, 0, none⟩), .agg #[.int .i64 kd, .int .i64 a, .int .i64 bb, .string tx, .slice ka kn kc], .int .i64 n] w fun e w' => e = .returned (.bool true) ∧ Q w' := by
  obtain ⟨W0, hW⟩ : ∃ W0, w.alloc (.cells #[.int .i64 kd, .int .i64 a, .int .i64 bb, .string tx, .slice ka kn kc] 53) = W0 := ⟨_, rfl⟩
  have HB := hide (show Below w.heap.size w W0 by subst hW; exact (Below.refl _ _).alloc (Nat.le_refl _) _)
  have HH0 := hide (hH.on HB.out)
  have HSB := hide (show Blk W0 w.heap.size [.int .i64 kd, .int .i64 a, .int .i64 bb, .string tx, .slice ka kn kc] 53 by subst hW; exact Blk.new w _ _)
  have HP := hide (pickN_any kd 9 W0 (by decide) (by decide) hk1 hk2)
  rw [hk] at HP
  have c0 : W0.cell? ⟨w.heap.size, 0, none⟩ = some (.int .i64 kd) := HSB.out.cell 0
  have HC := hide (hC W0 HB.out)
  have c11 : W0.cell? ⟨H, 11, none⟩ = some (.pointer (some ⟨SD, 0, none⟩)) := HH0.out.cell 11
  have HWE := hide hW
  clear hW hH hk1 hk2 hk hC
  go_enter Tryz.func56, Tryz.ntmps56
  go_wp2_with fail
  rw [HWE.out]
  refine HP.out.mono ?_
  rintro e w1 ⟨rfl, hw1⟩
  subst w1
  clear c0
  go_wp2_with fail
  refine HC.out.mono ?_
  rintro e w4 ⟨⟨c, rfl⟩, hq4⟩
  have HQ4 := hide hq4
  clear hq4 c11
  go_wp2
  go_ret
  exact ⟨rfl, HQ4.out⟩

set_option maxRecDepth 20000 in
set_option maxHeartbeats 2000000 in
theorem disk_none (H SD : Nat) (k b x t l : Int) (s1 s2 s3 o1 o2 o3 : ByteArray) (sv bv gv : Value) (kd a bb : Int) (tx : ByteArray) (ka : Option Addr) (kn kc : Nat) (n : Nat) (w : World) (hH : Blk w H (hallC SD k b x t l s1 s2 s3 o1 o2 o3 sv bv gv) 65) (hk1 : -9223372036854775808 ≤ kd) (hk2 : kd ≤ 9223372036854775807) (hk : pickZ kd 9 = 7) (hn : n ≤ 2) :
    Calls Tryz.prog 56 #[.pointer (some ⟨H, 0, none⟩), .agg #[.int .i64 kd, .int .i64 a, .int .i64 bb, .string tx, .slice ka kn kc], .int .i64 n] w fun e w' => e = .returned (.bool true) ∧ Below w.heap.size w w' := by
  obtain ⟨W0, hW⟩ : ∃ W0, w.alloc (.cells #[.int .i64 kd, .int .i64 a, .int .i64 bb, .string tx, .slice ka kn kc] 53) = W0 := ⟨_, rfl⟩
  have HB := hide (show Below w.heap.size w W0 by subst hW; exact (Below.refl _ _).alloc (Nat.le_refl _) _)
  have HH0 := hide (hH.on HB.out)
  have HSB := hide (show Blk W0 w.heap.size [.int .i64 kd, .int .i64 a, .int .i64 bb, .string tx, .slice ka kn kc] 53 by subst hW; exact Blk.new w _ _)
  have HP := hide (pickN_any kd 9 W0 (by decide) (by decide) hk1 hk2)
  rw [hk] at HP
  have c0 : W0.cell? ⟨w.heap.size, 0, none⟩ = some (.int .i64 kd) := HSB.out.cell 0
  have hn2 : decide (2 < n) = false := decide_eq_false (by omega)
  have hn3 : decide ((2 : Int) < (n : Int)) = false := decide_eq_false (by omega)
  have HWE := hide hW
  clear hW hH hk1 hk2 hk hn
  go_enter Tryz.func56, Tryz.ntmps56
  go_wp2_with fail
  rw [HWE.out]
  refine HP.out.mono ?_
  rintro e w1 ⟨rfl, hw1⟩
  subst w1
  clear c0
  go_wp2
  go_ret
  exact ⟨rfl, HB.out⟩

set_option maxRecDepth 20000 in
set_option maxHeartbeats 2000000 in
theorem disk_moves (H SD : Nat) (k b x t l : Int) (s1 s2 s3 o1 o2 o3 : ByteArray) (sv bv gv : Value) (kd a bb : Int) (tx : ByteArray) (ka : Option Addr) (kn kc : Nat) (n : Nat) (Q : World → Prop) (w : World) (hH : Blk w H (hallC SD k b x t l s1 s2 s3 o1 o2 o3 sv bv gv) 65) (hk1 : -9223372036854775808 ≤ kd) (hk2 : kd ≤ 9223372036854775807) (hk : pickZ kd 9 = 8) (hC : ∀ V : World, Below w.heap.size w V → Calls Tryz.prog 21 #[.pointer (some ⟨H, 0, none⟩), .slice ka kn kc, .int .i64 n] V fun e w' => e = .returned (.bool true) ∧ Q w') :
    Calls Tryz.prog 56 #[.pointer (some ⟨H, 0, none⟩), .agg #[.int .i64 kd, .int .i64 a, .int .i64 bb, .string tx, .slice ka kn kc], .int .i64 n] w fun e w' => e = .returned (.bool true) ∧ Q w' := by
  obtain ⟨W0, hW⟩ : ∃ W0, w.alloc (.cells #[.int .i64 kd, .int .i64 a, .int .i64 bb, .string tx, .slice ka kn kc] 53) = W0 := ⟨_, rfl⟩
  have HB := hide (show Below w.heap.size w W0 by subst hW; exact (Below.refl _ _).alloc (Nat.le_refl _) _)
  have HH0 := hide (hH.on HB.out)
  have HSB := hide (show Blk W0 w.heap.size [.int .i64 kd, .int .i64 a, .int .i64 bb, .string tx, .slice ka kn kc] 53 by subst hW; exact Blk.new w _ _)
  have HP := hide (pickN_any kd 9 W0 (by decide) (by decide) hk1 hk2)
  rw [hk] at HP
  have c0 : W0.cell? ⟨w.heap.size, 0, none⟩ = some (.int .i64 kd) := HSB.out.cell 0
  have HC := hide (hC W0 HB.out)
  have c4 : W0.cell? ⟨w.heap.size, 4, none⟩ = some (.slice ka kn kc) := HSB.out.cell 4
  have HWE := hide hW
  clear hW hH hk1 hk2 hk hC
  go_enter Tryz.func56, Tryz.ntmps56
  go_wp2_with fail
  rw [HWE.out]
  refine HP.out.mono ?_
  rintro e w1 ⟨rfl, hw1⟩
  subst w1
  clear c0
  go_wp2_with fail
  refine HC.out.mono ?_
  rintro e w4 ⟨rfl, hq4⟩
  have HQ4 := hide hq4
  clear hq4 c4
  go_wp2
  go_ret
  exact ⟨rfl, HQ4.out⟩
end Go.Proofs.YtgaoeoijdpdjiabGreatDoor
