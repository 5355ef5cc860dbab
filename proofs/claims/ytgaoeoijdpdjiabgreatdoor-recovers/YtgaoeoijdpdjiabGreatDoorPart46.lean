/-
  The hall's steps on its disk. The hall writes a sector beyond the journal. A signer signs, in the hall: the index is one that was never given away. The bounds of all records that were begun: what a disk's calls make of them.
-/
import Derived.Test.YtgaoeoijdpdjiabGreatDoorPart6
import Derived.Test.YtgaoeoijdpdjiabGreatDoorPart44
import Derived.Test.YtgaoeoijdpdjiabGreatDoorPart12
import Derived.Test.YtgaoeoijdpdjiabGreatDoorPart45
import Derived.Test.YtgaoeoijdpdjiabGreatDoorPart42
namespace Go.Proofs.YtgaoeoijdpdjiabGreatDoor
open Go.RowKit
set_option maxRecDepth 20000 in
set_option maxHeartbeats 2000000 in
theorem disk_crash (H SD : Nat) (k b x t l : Int) (s1 s2 s3 o1 o2 o3 : ByteArray) (sv bv gv : Value) (kd a bb : Int) (tx : ByteArray) (ka : Option Addr) (kn kc : Nat) (n : Nat) (F : Nat → Prop) (Q : World → Prop) (w : World) (hH : Blk w H (hallC SD k b x t l s1 s2 s3 o1 o2 o3 sv bv gv) 65) (hk1 : -9223372036854775808 ≤ kd) (hk2 : kd ≤ 9223372036854775807) (hk : pickZ kd 9 = 4) (nH : ¬ F H) (hF : ∀ i, F i → i < w.heap.size) (hC : ∀ V : World, Below w.heap.size w V → Calls Tryz.prog 60 #[.pointer (some ⟨SD, 0, none⟩), .slice ka kn kc] V fun e w' => e = .returned (.tuple #[]) ∧ Kept F V w' ∧ Q w') :
    Calls Tryz.prog 56 #[.pointer (some ⟨H, 0, none⟩), .agg #[.int .i64 kd, .int .i64 a, .int .i64 bb, .string tx, .slice ka kn kc], .int .i64 n] w fun e w' => e = .returned (.bool true) ∧ Q w' := by
  obtain ⟨W0, hW⟩ : ∃ W0, w.alloc (.cells #[.int .i64 kd, .int .i64 a, .int .i64 bb, .string tx, .slice ka kn kc] 53) = W0 := ⟨_, rfl⟩
  have HB := hide (show Below w.heap.size w W0 by subst hW; exact (Below.refl _ _).alloc (Nat.le_refl _) _)
  have HH0 := hide (hH.on HB.out)
  have HSB := hide (show Blk W0 w.heap.size [.int .i64 kd, .int .i64 a, .int .i64 bb, .string tx, .slice ka kn kc] 53 by subst hW; exact Blk.new w _ _)
  have HP := hide (pickN_any kd 9 W0 (by decide) (by decide) hk1 hk2)
  rw [hk] at HP
  have c0 : W0.cell? ⟨w.heap.size, 0, none⟩ = some (.int .i64 kd) := HSB.out.cell 0
  have HS := hide (fun (V : World) (h : ∃ U, Below W0.heap.size W0 U ∧ Kept F U V) => (by
    obtain ⟨U, hb, hk⟩ := h
    have q1 := HH0.out.on hb
    have q2 := HSB.out.on hb
    have l2 := q2.lt
    have nS : ¬ F w.heap.size := fun e => by have := hF _ e; omega
    exact ⟨(hk.cell (p := ⟨H, 11, none⟩) q1.lt nH).trans (q1.cell 11), (hk.cell (p := ⟨w.heap.size, 1, none⟩) l2 nS).trans (q2.cell 1), (hk.cell (p := ⟨w.heap.size, 2, none⟩) l2 nS).trans (q2.cell 2), (hk.cell (p := ⟨w.heap.size, 3, none⟩) l2 nS).trans (q2.cell 3), (hk.cell (p := ⟨w.heap.size, 4, none⟩) l2 nS).trans (q2.cell 4)⟩ : V.cell? ⟨H, 11, none⟩ = some (.pointer (some ⟨SD, 0, none⟩)) ∧ V.cell? ⟨w.heap.size, 1, none⟩ = some (.int .i64 a) ∧ V.cell? ⟨w.heap.size, 2, none⟩ = some (.int .i64 bb) ∧ V.cell? ⟨w.heap.size, 3, none⟩ = some (.string tx) ∧ V.cell? ⟨w.heap.size, 4, none⟩ = some (.slice ka kn kc)))
  have HC := hide (fun (V : World) (h : Below W0.heap.size W0 V) => hC V (HB.out.trans (h.mono HB.out.size)))
  have HWE := hide hW
  clear hW hH hk1 hk2 hk nH hF hC
  go_enter Tryz.func56, Tryz.ntmps56
  go_wp2_with fail
  rw [HWE.out]
  refine HP.out.mono ?_
  rintro e w1 ⟨rfl, hw1⟩
  subst w1
  clear c0
  go_wp2_with fail
  refine wp_region_held_drew (S := fun V => V.cell? ⟨H, 11, none⟩ = some (.pointer (some ⟨SD, 0, none⟩)) ∧ V.cell? ⟨w.heap.size, 1, none⟩ = some (.int .i64 a) ∧ V.cell? ⟨w.heap.size, 2, none⟩ = some (.int .i64 bb) ∧ V.cell? ⟨w.heap.size, 3, none⟩ = some (.string tx) ∧ V.cell? ⟨w.heap.size, 4, none⟩ = some (.slice ka kn kc)) (by kernel_rfl) (HS.out _ (⟨_, (Below.refl W0.heap.size W0).drew, Kept.refl _ _⟩)) (fun hHeld => ?_)
  refine tk 0 hHeld (h := ?_)
  refine tk 1 hHeld (h := ?_)
  refine tk 2 hHeld (h := ?_)
  refine tk 3 hHeld (h := ?_)
  refine tk 4 hHeld (h := ?_)
  refine tk 5 hHeld (h := ?_)
  refine wpAnyH_ready (rs := [6]) (by kernel_rfl) (by simp) ?_
  refine AllReadyH.cons (o := ?oa6) ?hoa6 (fun K hK => ?hsa6) AllReadyH.nil
  case hoa6 => (simp only [List.getElem?_toArray, List.getElem?_cons_succ, List.getElem?_cons_zero]; rfl)
  go_simp
  go_at_call 60
  refine (HC.out _ ((Below.refl W0.heap.size W0).drew)).mono ?_
  rintro e w4 ⟨rfl, hk4, hq4⟩
  have HK4 := hide hk4
  have HQ4 := hide hq4
  clear hk4 hq4
  try go_wp2_with fail
  refine hK.out _ _ (HS.out _ (⟨_, (Below.refl W0.heap.size W0).drew, HK4.out⟩)) (fun hHeld => ?_)
  clear hK K
  try simp only [Act.put, List.setIfInBounds_toArray, List.set_cons_zero, List.set_cons_succ]
  refine wpAnyH_done (by kernel_rfl) ?_ _
  clear hHeld
  go_wp2
  go_ret
  exact ⟨rfl, HQ4.out⟩
set_option maxRecDepth 20000 in
set_option maxHeartbeats 2000000 in
theorem disk_trouble (H SD : Nat) (k b x t l : Int) (s1 s2 s3 o1 o2 o3 : ByteArray) (sv bv gv : Value) (kd a bb : Int) (tx : ByteArray) (ka : Option Addr) (kn kc : Nat) (n : Nat) (F : Nat → Prop) (Q : World → Prop) (w : World) (hH : Blk w H (hallC SD k b x t l s1 s2 s3 o1 o2 o3 sv bv gv) 65) (hk1 : -9223372036854775808 ≤ kd) (hk2 : kd ≤ 9223372036854775807) (hk : pickZ kd 9 = 5) (hb1 : -9223372036854775808 ≤ bb) (hb2 : bb ≤ 9223372036854775807) (nH : ¬ F H) (hF : ∀ i, F i → i < w.heap.size) (hC : ∀ V : World, Below w.heap.size w V → Calls Tryz.prog 70 #[.pointer (some ⟨SD, 0, none⟩), .int .i64 (pickZ bb 8)] V fun e w' => e = .returned (.int .i64 0) ∧ Kept F V w' ∧ Q w') :
    Calls Tryz.prog 56 #[.pointer (some ⟨H, 0, none⟩), .agg #[.int .i64 kd, .int .i64 a, .int .i64 bb, .string tx, .slice ka kn kc], .int .i64 n] w fun e w' => e = .returned (.bool true) ∧ Q w' := by
  obtain ⟨W0, hW⟩ : ∃ W0, w.alloc (.cells #[.int .i64 kd, .int .i64 a, .int .i64 bb, .string tx, .slice ka kn kc] 53) = W0 := ⟨_, rfl⟩
  have HB := hide (show Below w.heap.size w W0 by subst hW; exact (Below.refl _ _).alloc (Nat.le_refl _) _)
  have HH0 := hide (hH.on HB.out)
  have HSB := hide (show Blk W0 w.heap.size [.int .i64 kd, .int .i64 a, .int .i64 bb, .string tx, .slice ka kn kc] 53 by subst hW; exact Blk.new w _ _)
  have HP := hide (pickN_any kd 9 W0 (by decide) (by decide) hk1 hk2)
  rw [hk] at HP
  have c0 : W0.cell? ⟨w.heap.size, 0, none⟩ = some (.int .i64 kd) := HSB.out.cell 0
  have HS := hide (fun (V : World) (h : ∃ U, Below W0.heap.size W0 U ∧ Kept F U V) => (by
    obtain ⟨U, hb, hk⟩ := h
    have q1 := HH0.out.on hb
    have q2 := HSB.out.on hb
    have l2 := q2.lt
    have nS : ¬ F w.heap.size := fun e => by have := hF _ e; omega
    exact ⟨(hk.cell (p := ⟨H, 11, none⟩) q1.lt nH).trans (q1.cell 11), (hk.cell (p := ⟨w.heap.size, 1, none⟩) l2 nS).trans (q2.cell 1), (hk.cell (p := ⟨w.heap.size, 2, none⟩) l2 nS).trans (q2.cell 2), (hk.cell (p := ⟨w.heap.size, 3, none⟩) l2 nS).trans (q2.cell 3), (hk.cell (p := ⟨w.heap.size, 4, none⟩) l2 nS).trans (q2.cell 4)⟩ : V.cell? ⟨H, 11, none⟩ = some (.pointer (some ⟨SD, 0, none⟩)) ∧ V.cell? ⟨w.heap.size, 1, none⟩ = some (.int .i64 a) ∧ V.cell? ⟨w.heap.size, 2, none⟩ = some (.int .i64 bb) ∧ V.cell? ⟨w.heap.size, 3, none⟩ = some (.string tx) ∧ V.cell? ⟨w.heap.size, 4, none⟩ = some (.slice ka kn kc)))
  have HC := hide (fun (V : World) (h : Below W0.heap.size W0 V) => hC V (HB.out.trans (h.mono HB.out.size)))
  have HPB := hide (fun V : World => pickN_any bb 8 V (by decide) (by decide) hb1 hb2)
  have HWE := hide hW
  clear hW hH hk1 hk2 hk nH hF hC hb1 hb2
  go_enter Tryz.func56, Tryz.ntmps56
  go_wp2_with fail
  rw [HWE.out]
  refine HP.out.mono ?_
  rintro e w1 ⟨rfl, hw1⟩
  subst w1
  clear c0
  go_wp2_with fail
  refine wp_region_held_drew (S := fun V => V.cell? ⟨H, 11, none⟩ = some (.pointer (some ⟨SD, 0, none⟩)) ∧ V.cell? ⟨w.heap.size, 1, none⟩ = some (.int .i64 a) ∧ V.cell? ⟨w.heap.size, 2, none⟩ = some (.int .i64 bb) ∧ V.cell? ⟨w.heap.size, 3, none⟩ = some (.string tx) ∧ V.cell? ⟨w.heap.size, 4, none⟩ = some (.slice ka kn kc)) (by kernel_rfl) (HS.out _ (⟨_, (Below.refl W0.heap.size W0).drew, Kept.refl _ _⟩)) (fun hHeld => ?_)
  refine tk 0 hHeld (h := ?_)
  refine tk 1 hHeld (h := ?_)
  refine tk 2 hHeld (h := ?_)
  refine tk 3 hHeld (h := ?_)
  refine tk 4 hHeld (h := ?_)
  refine tk 5 hHeld (h := ?_)
  refine wpAnyH_ready (rs := [6]) (by kernel_rfl) (by simp) ?_
  refine AllReadyH.cons (o := ?oa6) ?hoa6 (fun K hK => ?hsa6) AllReadyH.nil
  case hoa6 => (simp only [List.getElem?_toArray, List.getElem?_cons_succ, List.getElem?_cons_zero]; rfl)
  go_simp
  go_at_call 17
  refine (HPB.out _).mono ?_
  rintro e w3 ⟨rfl, hw3⟩
  subst hw3
  try go_wp2_with fail
  refine hK.out _ _ (HS.out _ (⟨_, (Below.refl W0.heap.size W0).drew, Kept.refl _ _⟩)) (fun hHeld => ?_)
  clear hK K
  try simp only [Act.put, List.setIfInBounds_toArray, List.set_cons_zero, List.set_cons_succ]
  refine wpAnyH_ready (rs := [7]) (by kernel_rfl) (by simp) ?_
  refine AllReadyH.cons (o := ?oa7) ?hoa7 (fun K hK => ?hsa7) AllReadyH.nil
  case hoa7 => (simp only [List.getElem?_toArray, List.getElem?_cons_succ, List.getElem?_cons_zero]; rfl)
  go_simp
  go_at_call 70
  refine (HC.out _ ((Below.refl W0.heap.size W0).drew)).mono ?_
  rintro e w4 ⟨rfl, hk4, hq4⟩
  have HK4 := hide hk4
  have HQ4 := hide hq4
  clear hk4 hq4
  try go_wp2_with fail
  refine hK.out _ _ (HS.out _ (⟨_, (Below.refl W0.heap.size W0).drew, HK4.out⟩)) (fun hHeld => ?_)
  clear hK K
  try simp only [Act.put, List.setIfInBounds_toArray, List.set_cons_zero, List.set_cons_succ]
  refine tk 8 hHeld (h := ?_)
  refine wpAnyH_done (by kernel_rfl) ?_ _
  clear hHeld
  go_wp2
  go_ret
  exact ⟨rfl, HQ4.out⟩
set_option maxRecDepth 20000 in
set_option maxHeartbeats 2000000 in
theorem disk_sync (H SD : Nat) (k b x t l : Int) (s1 s2 s3 o1 o2 o3 : ByteArray) (sv bv gv : Value) (kd a bb : Int) (tx : ByteArray) (ka : Option Addr) (kn kc : Nat) (n : Nat) (Q : World → Prop) (w : World) (hH : Blk w H (hallC SD k b x t l s1 s2 s3 o1 o2 o3 sv bv gv) 65) (hk1 : -9223372036854775808 ≤ kd) (hk2 : kd ≤ 9223372036854775807) (hk : pickZ kd 9 = 6) (hC : ∀ V : World, Below w.heap.size w V → Calls Tryz.prog 63 #[.pointer (some ⟨SD, 0, none⟩)] V fun e w' => (∃ c, e = .returned (.int .i64 c)) ∧ Q w') :
    Calls Tryz.prog 56 #[.pointer (some ⟨H, 0, none⟩), .agg #[.int .i64 kd, .int .i64 a, .int .i64 bb, .string tx, .slice ka kn kc], .int .i64 n] w fun e w' => e = .returned (.bool true) ∧ Q w' := by
  obtain ⟨W0, hW⟩ : ∃ W0, w.alloc (.cells #[.int .i64 kd, .int .i64 a, .int .i64 bb, .string tx, .slice ka kn kc] 53) = W0 := ⟨_, rfl⟩
  have HB := hide (show Below w.heap.size w W0 by subst hW; exact (Below.refl _ _).alloc (Nat.le_refl _) _)
  have HH0 := hide (hH.on HB.out)
  have HSB := hide (show Blk W0 w.heap.size [.int .i64 kd, .int .i64 a, .int .i64 bb, .string tx, .slice ka kn kc] 53 by subst hW; exact Blk.new w _ _)
  have HP := hide (pickN_any kd 9 W0 (by decide) (by decide) hk1 hk2)
  rw [hk] at HP
  have c0 : W0.cell? ⟨w.heap.size, 0, none⟩ = some (.int .i64 kd) := HSB.out.cell 0
  have HC := hide (hC W0 HB.out)
  have c11 : W0.cell? ⟨H, 11, none⟩ = some (.pointer (some ⟨SD, 0, none⟩)) := HH0.out.cell 11
  have HWE := hide hW
  clear hW hH hk1 hk2 hk hC
  go_enter Tryz.func56, Tryz.ntmps56
  go_wp2_with fail
  rw [HWE.out]
  refine HP.out.mono ?_
  rintro e w1 ⟨rfl, hw1⟩
  subst w1
  clear c0
  go_wp2_with fail
  refine HC.out.mono ?_
  rintro e w4 ⟨⟨c, rfl⟩, hq4⟩
  have HQ4 := hide hq4
  clear hq4 c11
  go_wp2
  go_ret
  exact ⟨rfl, HQ4.out⟩
set_option maxRecDepth 20000 in
set_option maxHeartbeats 2000000 in
theorem disk_none (H SD : Nat) (k b x t l : Int) (s1 s2 s3 o1 o2 o3 : ByteArray) (sv bv gv : Value) (kd a bb : Int) (tx : ByteArray) (ka : Option Addr) (kn kc : Nat) (n : Nat) (w : World) (hH : Blk w H (hallC SD k b x t l s1 s2 s3 o1 o2 o3 sv bv gv) 65) (hk1 : -9223372036854775808 ≤ kd) (hk2 : kd ≤ 9223372036854775807) (hk : pickZ kd 9 = 7) (hn : n ≤ 2) :
    Calls Tryz.prog 56 #[.pointer (some ⟨H, 0, none⟩), .agg #[.int .i64 kd, .int .i64 a, .int .i64 bb, .string tx, .slice ka kn kc], .int .i64 n] w fun e w' => e = .returned (.bool true) ∧ Below w.heap.size w w' := by
  obtain ⟨W0, hW⟩ : ∃ W0, w.alloc (.cells #[.int .i64 kd, .int .i64 a, .int .i64 bb, .string tx, .slice ka kn kc] 53) = W0 := ⟨_, rfl⟩
  have HB := hide (show Below w.heap.size w W0 by subst hW; exact (Below.refl _ _).alloc (Nat.le_refl _) _)
  have HH0 := hide (hH.on HB.out)
  have HSB := hide (show Blk W0 w.heap.size [.int .i64 kd, .int .i64 a, .int .i64 bb, .string tx, .slice ka kn kc] 53 by subst hW; exact Blk.new w _ _)
  have HP := hide (pickN_any kd 9 W0 (by decide) (by decide) hk1 hk2)
  rw [hk] at HP
  have c0 : W0.cell? ⟨w.heap.size, 0, none⟩ = some (.int .i64 kd) := HSB.out.cell 0
  have hn2 : decide (2 < n) = false := decide_eq_false (by omega)
  have hn3 : decide ((2 : Int) < (n : Int)) = false := decide_eq_false (by omega)
  have HWE := hide hW
  clear hW hH hk1 hk2 hk hn
  go_enter Tryz.func56, Tryz.ntmps56
  go_wp2_with fail
  rw [HWE.out]
  refine HP.out.mono ?_
  rintro e w1 ⟨rfl, hw1⟩
  subst w1
  clear c0
  go_wp2
  go_ret
  exact ⟨rfl, HB.out⟩
set_option maxRecDepth 20000 in
set_option maxHeartbeats 2000000 in
theorem disk_moves (H SD : Nat) (k b x t l : Int) (s1 s2 s3 o1 o2 o3 : ByteArray) (sv bv gv : Value) (kd a bb : Int) (tx : ByteArray) (ka : Option Addr) (kn kc : Nat) (n : Nat) (Q : World → Prop) (w : World) (hH : Blk w H (hallC SD k b x t l s1 s2 s3 o1 o2 o3 sv bv gv) 65) (hk1 : -9223372036854775808 ≤ kd) (hk2 : kd ≤ 9223372036854775807) (hk : pickZ kd 9 = 8) (hC : ∀ V : World, Below w.heap.size w V → Calls Tryz.prog 21 #[.pointer (some ⟨H, 0, none⟩), .slice ka kn kc, .int .i64 n] V fun e w' => e = .returned (.bool true) ∧ Q w') :
    Calls Tryz.prog 56 #[.pointer (some ⟨H, 0, none⟩), .agg #[.int .i64 kd, .int .i64 a, .int .i64 bb, .string tx, .slice ka kn kc], .int .i64 n] w fun e w' => e = .returned (.bool true) ∧ Q w' := by
  obtain ⟨W0, hW⟩ : ∃ W0, w.alloc (.cells #[.int .i64 kd, .int .i64 a, .int .i64 bb, .string tx, .slice ka kn kc] 53) = W0 := ⟨_, rfl⟩
  have HB := hide (show Below w.heap.size w W0 by subst hW; exact (Below.refl _ _).alloc (Nat.le_refl _) _)
  have HH0 := hide (hH.on HB.out)
  have HSB := hide (show Blk W0 w.heap.size [.int .i64 kd, .int .i64 a, .int .i64 bb, .string tx, .slice ka kn kc] 53 by subst hW; exact Blk.new w _ _)
  have HP := hide (pickN_any kd 9 W0 (by decide) (by decide) hk1 hk2)
  rw [hk] at HP
  have c0 : W0.cell? ⟨w.heap.size, 0, none⟩ = some (.int .i64 kd) := HSB.out.cell 0
  have HC := hide (hC W0 HB.out)
  have c4 : W0.cell? ⟨w.heap.size, 4, none⟩ = some (.slice ka kn kc) := HSB.out.cell 4
  have HWE := hide hW
  clear hW hH hk1 hk2 hk hC
  go_enter Tryz.func56, Tryz.ntmps56
  go_wp2_with fail
  rw [HWE.out]
  refine HP.out.mono ?_
  rintro e w1 ⟨rfl, hw1⟩
  subst w1
  clear c0
  go_wp2_with fail
  refine HC.out.mono ?_
  rintro e w4 ⟨rfl, hq4⟩
  have HQ4 := hide hq4
  clear hq4 c4
  go_wp2
  go_ret
  exact ⟨rfl, HQ4.out⟩
end Go.Proofs.YtgaoeoijdpdjiabGreatDoor

namespace Go.Proofs.YtgaoeoijdpdjiabGreatDoor
open Go.RowKit
set_option maxRecDepth 20000 in
set_option maxHeartbeats 2000000 in
theorem disk_write (H SD : Nat) (k b x t l : Int) (s1 s2 s3 o1 o2 o3 : ByteArray) (sv bv gv : Value) (kd a bb : Int) (tx : ByteArray) (ka : Option Addr) (kn kc : Nat) (n : Nat) (F : Nat → Prop) (Q : World → Prop) (w : World) (hH : Blk w H (hallC SD k b x t l s1 s2 s3 o1 o2 o3 sv bv gv) 65) (hk1 : -9223372036854775808 ≤ kd) (hk2 : kd ≤ 9223372036854775807) (hk : pickZ kd 9 = 7) (ha1 : -9223372036854775808 ≤ a) (ha2 : a ≤ 9223372036854775807) (hts : tx.size ≤ maxLen) (m : Nat) (hn : n = m + 2) (hm : 1 ≤ m) (hm2 : m ≤ 6) (p : Nat) (hp : pickZ a m = p) (hp2 : p < m) (nH : ¬ F H) (hF : ∀ i, F i → i < w.heap.size) (hC : ∀ V : World, Below w.heap.size w V → Calls Tryz.prog 62 #[.pointer (some ⟨SD, 0, none⟩), .int .i64 (2 + (p : Int)), .string (someB tx 32)] V fun e w' => (∃ c, e = .returned (.int .i64 c)) ∧ Kept F V w' ∧ Q w') :
    Calls Tryz.prog 56 #[.pointer (some ⟨H, 0, none⟩), .agg #[.int .i64 kd, .int .i64 a, .int .i64 bb, .string tx, .slice ka kn kc], .int .i64 n] w fun e w' => e = .returned (.bool true) ∧ Q w' := by
  obtain ⟨W0, hW⟩ : ∃ W0, w.alloc (.cells #[.int .i64 kd, .int .i64 a, .int .i64 bb, .string tx, .slice ka kn kc] 53) = W0 := ⟨_, rfl⟩
  have HB := hide (show Below w.heap.size w W0 by subst hW; exact (Below.refl _ _).alloc (Nat.le_refl _) _)
  have HH0 := hide (hH.on HB.out)
  have HSB := hide (show Blk W0 w.heap.size [.int .i64 kd, .int .i64 a, .int .i64 bb, .string tx, .slice ka kn kc] 53 by subst hW; exact Blk.new w _ _)
  have HP := hide (pickN_any kd 9 W0 (by decide) (by decide) hk1 hk2)
  rw [hk] at HP
  have c0 : W0.cell? ⟨w.heap.size, 0, none⟩ = some (.int .i64 kd) := HSB.out.cell 0
  have HS := hide (fun (V : World) (h : ∃ U, Below W0.heap.size W0 U ∧ Kept F U V) => (by
    obtain ⟨U, hb, hk⟩ := h
    have q1 := HH0.out.on hb
    have q2 := HSB.out.on hb
    have l2 := q2.lt
    have nS : ¬ F w.heap.size := fun e => by have := hF _ e; omega
    exact ⟨(hk.cell (p := ⟨H, 11, none⟩) q1.lt nH).trans (q1.cell 11), (hk.cell (p := ⟨w.heap.size, 1, none⟩) l2 nS).trans (q2.cell 1), (hk.cell (p := ⟨w.heap.size, 2, none⟩) l2 nS).trans (q2.cell 2), (hk.cell (p := ⟨w.heap.size, 3, none⟩) l2 nS).trans (q2.cell 3), (hk.cell (p := ⟨w.heap.size, 4, none⟩) l2 nS).trans (q2.cell 4)⟩ : V.cell? ⟨H, 11, none⟩ = some (.pointer (some ⟨SD, 0, none⟩)) ∧ V.cell? ⟨w.heap.size, 1, none⟩ = some (.int .i64 a) ∧ V.cell? ⟨w.heap.size, 2, none⟩ = some (.int .i64 bb) ∧ V.cell? ⟨w.heap.size, 3, none⟩ = some (.string tx) ∧ V.cell? ⟨w.heap.size, 4, none⟩ = some (.slice ka kn kc)))
  have HC := hide (fun (V : World) (h : Below W0.heap.size W0 V) => hC V (HB.out.trans (h.mono HB.out.size)))
  have HPA := hide (fun V : World => pickN_any a m V (by omega) (by omega) ha1 ha2)
  rw [hp] at HPA
  have HSO := hide (fun V : World => someN_any tx 32 V hts (by decide))
  have hn3 : decide ((2 : Int) < (n : Int)) = true := decide_eq_true (by omega)
  have hn4 : decide (2 < n) = true := decide_eq_true (by omega)
  have hn5 : ((n : Int) - 2) = (m : Int) := by omega
  have hmw : IntKind.i64.wrap (m : Int) = (m : Int) := by rw [IntKind.wrap_i64] <;> omega
  have hpw : IntKind.i64.wrap (2 + (p : Int)) = 2 + (p : Int) := by rw [IntKind.wrap_i64] <;> omega
  have hn8 : (n : Int) ≤ 8 := by omega
  have hn0 : (0 : Int) ≤ (n : Int) := by omega
  generalize someB tx 32 = sx at HSO HC
  have HWE := hide hW
  clear hW hH hk1 hk2 hk nH hF hC ha1 ha2 hts hn hm hm2 hp hp2
  go_enter Tryz.func56, Tryz.ntmps56
  go_wp2_with fail
  rw [HWE.out]
  refine HP.out.mono ?_
  rintro e w1 ⟨rfl, hw1⟩
  subst w1
  clear c0
  go_wp2_with fail
  refine wp_region_held_drew (S := fun V => V.cell? ⟨H, 11, none⟩ = some (.pointer (some ⟨SD, 0, none⟩)) ∧ V.cell? ⟨w.heap.size, 1, none⟩ = some (.int .i64 a) ∧ V.cell? ⟨w.heap.size, 2, none⟩ = some (.int .i64 bb) ∧ V.cell? ⟨w.heap.size, 3, none⟩ = some (.string tx) ∧ V.cell? ⟨w.heap.size, 4, none⟩ = some (.slice ka kn kc)) (by kernel_rfl) (HS.out _ (⟨_, (Below.refl W0.heap.size W0).drew, Kept.refl _ _⟩)) (fun hHeld => ?_)
  refine tk 0 hHeld (h := ?_)
  refine tk 1 hHeld (h := ?_)
  refine tk 2 hHeld (h := ?_)
  refine tk 3 hHeld (h := ?_)
  refine tk 4 hHeld (h := ?_)
  refine tk 5 hHeld (h := ?_)
  refine tk 6 hHeld (h := ?_)
  refine tk 7 hHeld (h := ?_)
  refine tk 10 hHeld (h := ?_)
  refine tk 11 hHeld (h := ?_)
  refine wpAnyH_ready (rs := [8]) (by kernel_rfl) (by simp) ?_
  refine AllReadyH.cons (o := ?oa8) ?hoa8 (fun K hK => ?hsa8) AllReadyH.nil
  case hoa8 => (simp only [List.getElem?_toArray, List.getElem?_cons_succ, List.getElem?_cons_zero]; rfl)
  go_simp
  go_at_call 17
  refine (HPA.out _).mono ?_
  rintro e w3 ⟨rfl, hw3⟩
  subst hw3
  try go_wp2_with fail
  refine hK.out _ _ (HS.out _ (⟨_, (Below.refl W0.heap.size W0).drew, Kept.refl _ _⟩)) (fun hHeld => ?_)
  clear hK K
  try simp only [Act.put, List.setIfInBounds_toArray, List.set_cons_zero, List.set_cons_succ]
  refine tk 9 hHeld (h := ?_)
  refine wpAnyH_ready (rs := [12]) (by kernel_rfl) (by simp) ?_
  refine AllReadyH.cons (o := ?oa12) ?hoa12 (fun K hK => ?hsa12) AllReadyH.nil
  case hoa12 => (simp only [List.getElem?_toArray, List.getElem?_cons_succ, List.getElem?_cons_zero]; rfl)
  go_simp
  go_at_call 49
  refine (HSO.out _).mono ?_
  rintro e w5 ⟨rfl, hb5⟩
  have HB5 := hide (heldB (Below.refl W0.heap.size W0).drew hb5 (Nat.le_refl _))
  clear hb5
  try go_wp2_with fail
  refine hK.out _ _ (HS.out _ (⟨_, HB5.out, Kept.refl _ _⟩)) (fun hHeld => ?_)
  clear hK K
  try simp only [Act.put, List.setIfInBounds_toArray, List.set_cons_zero, List.set_cons_succ]
  refine wpAnyH_ready (rs := [13]) (by kernel_rfl) (by simp) ?_
  refine AllReadyH.cons (o := ?oa13) ?hoa13 (fun K hK => ?hsa13) AllReadyH.nil
  case hoa13 => (simp only [List.getElem?_toArray, List.getElem?_cons_succ, List.getElem?_cons_zero]; rfl)
  go_simp
  go_at_call 62
  refine (HC.out _ HB5.out).mono ?_
  rintro e w4 ⟨⟨c, rfl⟩, hk4, hq4⟩
  have HK4 := hide hk4
  have HQ4 := hide hq4
  clear hk4 hq4
  try go_wp2_with fail
  refine hK.out _ _ (HS.out _ (⟨_, HB5.out, HK4.out⟩)) (fun hHeld => ?_)
  clear hK K
  try simp only [Act.put, List.setIfInBounds_toArray, List.set_cons_zero, List.set_cons_succ]
  refine wpAnyH_done (by kernel_rfl) ?_ _
  clear hHeld
  go_wp2
  go_ret
  exact ⟨rfl, HQ4.out⟩
end Go.Proofs.YtgaoeoijdpdjiabGreatDoor

namespace Go.Proofs.YtgaoeoijdpdjiabGreatDoor
open Go.RowKit
/-- What was given away, as cells. -/
def givC (L : List (ByteArray × Int)) : List Value := L.flatMap fun p => [.string p.1, .int .i64 p.2]
end Go.Proofs.YtgaoeoijdpdjiabGreatDoor

namespace Go.Proofs.YtgaoeoijdpdjiabGreatDoor
open Go.RowKit
/-- Each record's bound stands in B. -/
def InB (tot : Nat) (st : DSt) (id : ByteArray) (B : List Int) : Prop := ∀ s, s < 2 → ∀ x, Cand st s x → ∀ q b : Nat, Jr tot id s x q b → (b : Int) ∈ B
section
variable {tot : Nat} {st s2 : DSt} {id : ByteArray} {B C : List Int}
theorem InB.mono (h : InB tot st id B) (hc : ∀ s, s < 2 → ∀ x, Cand s2 s x → Cand st s x) : InB tot s2 id B := fun s hs x hx q b hj => h s hs x (hc s hs x hx) q b hj
theorem InB.more (h : InB tot st id B) (hs : ∀ y ∈ B, y ∈ C) : InB tot st id C := fun s hs2 x hx q b hj => hs _ (h s hs2 x hx q b hj)
theorem cand_same (hd : s2.dur = st.dur) (hp : s2.pend = st.pend) {s : Nat} {x : ByteArray} (h : Cand s2 s x) : Cand st s x := by unfold Cand at h ⊢; rw [hd, hp] at h; exact h
theorem cand_sync {s : Nat} {x : ByteArray} (h : Cand (sySt st) s x) : Cand st s x := by
  unfold sySt at h
  split at h
  · exact cand_same rfl rfl h
  · rcases h with h | h
    · exact (laid_cand h).1
    · simp at h
theorem cand_read (i : Int) {s : Nat} {x : ByteArray} (h : Cand (rdSt st i) s x) : Cand st s x := by
  unfold rdSt at h
  split at h
  · exact h
  · exact cand_same rfl rfl h
theorem cand_crash (K : List Bool) {s : Nat} {x : ByteArray} (h : Cand (crSt st K) s x) : Cand st s x := by
  rcases h with h | h
  · exact (kept_cand h).1
  · simp [crSt] at h
theorem cand_moved (K : List Bool) {s : Nat} {x : ByteArray} (h : Cand (mvSt st K) s x) : Cand st s x := by
  rcases h with h | h
  · exact (kept_cand h).1
  · simp [mvSt] at h
theorem cand_write (i : Int) (t : ByteArray) {s : Nat} {x : ByteArray} (h : Cand (wrSt st i t) s x) : Cand st s x ∨ s = i.toNat ∧ x = t := by
  unfold wrSt at h
  split at h
  · exact .inl h
  split at h
  · exact .inl h
  split at h
  · exact .inl (cand_same rfl rfl h)
  · rcases h with h | h
    · exact .inl (.inl h)
    · rcases List.mem_append.1 h with h | h
      · exact .inl (.inr h)
      · rw [List.mem_singleton] at h
        cases h
        exact .inr ⟨rfl, rfl⟩
theorem cand_ops (j : Nat) {s : Nat} {x : ByteArray} (h : Cand (opS st j) s x) : Cand st s x := by
  match j with
  | 0 => exact h
  | 1 => exact cand_sync h
  | 2 => exact cand_sync (cand_read 0 h)
  | j + 3 => exact cand_sync (cand_read 0 (cand_read 1 h))
theorem cand_open {s : Nat} {x : ByteArray} (h : Cand (opSt st) s x) : Cand st s x := by
  unfold opSt at h
  split at h
  · exact cand_ops 1 h
  split at h
  · exact cand_ops 2 h
  · exact cand_ops 3 h
theorem cand_make {s : Nat} {x : ByteArray} (h : Cand (mkSt st id) s x) : Cand st s x ∨ x = sealS 1 0 id := by
  have hT : Cand (mkT st id) s x → Cand st s x ∨ x = sealS 1 0 id := fun h => by
    rcases cand_write _ _ h with h | ⟨_, h⟩
    · exact .inl (cand_ops 3 h)
    · exact .inr h
  unfold mkSt at h
  split at h
  · exact .inl (cand_ops 1 h)
  split at h
  · exact .inl (cand_ops 2 h)
  split at h
  · exact .inl (cand_ops 3 h)
  split at h
  · exact .inl (cand_ops 3 h)
  split at h
  · exact hT h
  · exact hT (cand_sync h)
theorem InB.make (h : InB tot st id B) (h8 : id.size = 8) (h4 : tot ≤ 4096) (h0 : (0 : Int) ∈ B) : InB tot (mkSt st id) id B := fun s hs x hx q b hj => by
  rcases cand_make hx with hc | rfl
  · exact h s hs x hc q b hj
  · have hj1 : Jr tot id 1 (sealS 1 0 id) 1 0 := ⟨rfl, rfl, Nat.le_refl _, Nat.le_refl _, Nat.zero_le _⟩
    have r1 := (jr_rec hj1 h8 h4).2
    have r2 := (jr_rec hj h8 h4).2
    rw [r1] at r2
    have e2 := congrArg Rec.b r2
    simp only at e2
    have : b = 0 := by omega
    rw [this]; exact h0
/-- The bound at which a key opens was begun. -/
theorem JI.openedB {id2 : ByteArray} {sq sb : Nat} (h : JI tot st id sq sb) (hB : InB tot st id B) (ha : opAns st id2 tot = 0) : ∃ q b : Nat, (opT st id2 tot).q = q ∧ (opT st id2 tot).b = b ∧ (b : Int) ∈ B := by
  obtain ⟨_, _, q, b, h1, h2, _, hJ, hq, _, _⟩ := h.opened ha
  refine ⟨q, b, h1, h2, ?_⟩
  rcases hJ.base with ⟨e, _⟩ | ⟨_, ⟨x, hx, hj⟩, _⟩
  · omega
  · exact hB (q % 2) (by omega) x (cand_open (.inl hx)) q b hj
/-- A disk on which nothing fails, with no write pending. -/
structure Quiet (st : DSt) : Prop where
  tr : st.trouble = 0
  pe : st.pend = []
theorem quiet_moved (K : List Bool) : Quiet (mvSt st K) := ⟨rfl, rfl⟩
theorem quiet_sync (h : Quiet st) : syAns st = 0 ∧ sySt st = { st with syncs := st.syncs + 1 } := by
  refine ⟨?_, sy_calm st h.tr h.pe⟩
  rw [syAns, if_neg (by rw [h.tr]; decide)]
theorem quiet_reads (h : Quiet st) (h2 : 2 ≤ st.n) (hl : st.dur.length = st.n) : (opR0 st).2 = 0 ∧ (opR1 st).2 = 0 ∧ st.dur[0]? = some (opR0 st).1 ∧ st.dur[1]? = some (opR1 st).1 ∧ (opS st 3).dur = st.dur ∧ (opS st 3).pend = [] ∧ (opS st 3).trouble = 0 ∧ (opS st 3).n = st.n := by
  have e := (quiet_sync h).2
  have hA : (sySt st).trouble = 0 ∧ (sySt st).pend = [] ∧ (sySt st).n = st.n ∧ (sySt st).dur = st.dur := by rw [e]; exact ⟨h.tr, h.pe, rfl, rfl⟩
  have r0 : rdSt (sySt st) 0 = sySt st := rd_calm _ 0 (by rw [hA.2.2.1]; omega) hA.1
  have r1 : rdSt (sySt st) 1 = sySt st := rd_calm _ 1 (by rw [hA.2.2.1]; omega) hA.1
  have a0 : rdAns (sySt st) 0 = (st.dur.getD 0 ⟨#[]⟩, 0) := by rw [← hA.2.2.2]; exact rda_calm _ 0 (by rw [hA.2.2.1]; omega) hA.1 hA.2.1
  have a1 : rdAns (sySt st) 1 = (st.dur.getD 1 ⟨#[]⟩, 0) := by rw [← hA.2.2.2]; exact rda_calm _ 1 (by rw [hA.2.2.1]; omega) hA.1 hA.2.1
  have o0 : opR0 st = (st.dur.getD 0 ⟨#[]⟩, 0) := a0
  have o1 : opR1 st = (st.dur.getD 1 ⟨#[]⟩, 0) := by show rdAns (rdSt (sySt st) 0) 1 = _; rw [r0]; exact a1
  have o3 : opS st 3 = sySt st := by show rdSt (rdSt (sySt st) 0) 1 = _; rw [r0, r1]
  rw [o0, o1, o3]
  refine ⟨rfl, rfl, ?_, ?_, hA.2.2.2, hA.2.1, hA.1, hA.2.2.1⟩
  · rw [List.getD_eq_getElem?_getD, List.getElem?_eq_getElem (by omega)]; rfl
  · rw [List.getD_eq_getElem?_getD, List.getElem?_eq_getElem (by omega)]; rfl
theorem quiet_opL (h : Quiet st) (h2 : 2 ≤ st.n) (hl : st.dur.length = st.n) : ∃ x0 x1, st.dur[0]? = some x0 ∧ st.dur[1]? = some x1 ∧ opL st 3 = foundR (foundR [] x0) x1 := by
  obtain ⟨_, _, a, b, _⟩ := quiet_reads h h2 hl
  exact ⟨_, _, a, b, rfl⟩
theorem quiet_ans (h : Quiet st) (h2 : 2 ≤ st.n) (hl : st.dur.length = st.n) (id2 : ByteArray) (tt : Int) : opAns st id2 tt = if (opT st id2 tt).q = 0 then 8 else 0 := by
  obtain ⟨a, b, _⟩ := quiet_reads h h2 hl
  rw [opAns, if_neg (fun hn => hn (quiet_sync h).1), if_neg (fun hn => hn a), if_neg (fun hn => hn b)]
/-- What a key opens at lies in the two sectors alone. -/
theorem opT_same {id2 : ByteArray} {tt : Int} (e0 : (opR0 s2).1 = (opR0 st).1) (e1 : (opR1 s2).1 = (opR1 st).1) : opT s2 id2 tt = opT st id2 tt := by
  have : opL s2 3 = opL st 3 := by show foundR (foundR [] (opR0 s2).1) (opR1 s2).1 = foundR (foundR [] (opR0 st).1) (opR1 st).1; rw [e0, e1]
  unfold opT
  rw [this]
/-- Opened again over a copy behind a crash: it is the same. -/
theorem open_again (h2 : 2 ≤ st.n) (hl : st.dur.length = st.n) (K : List Bool) {id2 : ByteArray} {tt : Int} (ha : opAns st id2 tt = 0) : opAns (mvSt (opSt st) K) id2 tt = 0 ∧ opT (mvSt (opSt st) K) id2 tt = opT st id2 tt := by
  have ha' := ha
  unfold opAns at ha
  split at ha
  · rename_i hn; exact absurd ha hn
  rename_i h0
  split at ha
  · rename_i hn; exact absurd ha hn
  rename_i h1
  split at ha
  · rename_i hn; exact absurd ha hn
  rename_i h3
  split at ha
  · exact absurd ha (by decide)
  rename_i hq
  simp only [ne_eq, Decidable.not_not] at h0 h1 h3
  obtain ⟨hp, hn, e0, e1⟩ := begin_reads h2 hl h0 h1 h3
  have hst : opSt st = opS st 3 := by
    unfold opSt
    rw [if_neg (fun hn => hn h0), if_neg (fun hn => hn h1)]
  have hd : (mvSt (opSt st) K).dur = (opS st 3).dur := by
    rw [hst]
    show keptJ (opS st 3) K (opS st 3).pend.length = _
    rw [hp]
    rfl
  have hnn : (mvSt (opSt st) K).n = st.n := by rw [hst]; exact hn
  have hll : (opS st 3).dur.length = st.n := by
    have e := sync_yes h0
    have q1 : (opS st 3).dur = (sySt st).dur := by
      show (rdSt (rdSt (sySt st) 0) 1).dur = _
      unfold rdSt
      split <;> split <;> rfl
    rw [q1, e]
    show (laidJ st _).length = _
    rw [laid_len, hl]
  have hqt := quiet_moved (st := opSt st) K
  obtain ⟨_, _, f0, f1, _⟩ := quiet_reads hqt (by rw [hnn]; exact h2) (by rw [hd, hnn]; exact hll)
  rw [hd] at f0 f1
  rw [e0] at f0
  rw [e1] at f1
  have hT := opT_same (s2 := mvSt (opSt st) K) (st := st) (id2 := id2) (tt := tt) (Option.some.inj f0).symm (Option.some.inj f1).symm
  refine ⟨?_, hT⟩
  rw [quiet_ans hqt (by rw [hnn]; exact h2) (by rw [hd, hnn]; exact hll), hT, if_neg hq]
/-- A record that is durable is found, when nothing fails. -/
theorem quiet_some {q b : Nat} {x : ByteArray} (h8 : id.size = 8) (h4 : tot ≤ 4096) (hq : Quiet st) (h2 : 2 ≤ st.n) (hl : st.dur.length = st.n) (hx : st.dur[q % 2]? = some x) (hj : Jr tot id (q % 2) x q b) : 1 ≤ (opT st id tot).q := by
  obtain ⟨x0, x1, e0, e1, eL⟩ := quiet_opL hq h2 hl
  obtain ⟨hr, he⟩ := jr_rec hj h8 h4
  obtain ⟨_, _, h1, _, hbt⟩ := hj
  have mono : ∀ (l r : Rec), 1 ≤ l.q → 1 ≤ (takeR id tot l r).q := fun l r hl => by
    unfold takeR
    split
    · rename_i hc
      obtain ⟨_, _, hc⟩ := hc
      rw [laterR, decide_eq_true_iff] at hc
      omega
    · exact hl
  have got : ∀ (l : Rec), 1 ≤ (takeR id tot l ⟨q, b, id⟩).q := fun l => by
    unfold takeR
    split
    · show (1 : Int) ≤ (q : Int); omega
    · rename_i hc
      have : ¬ laterR ⟨q, b, id⟩ l = true := fun e => hc ⟨rfl, by show (b : Int) ≤ (tot : Int); omega, e⟩
      rw [laterR, decide_eq_true_iff] at this
      simp only at this
      omega
  unfold opT
  rw [takeJ, List.take_length, eL]
  unfold foundR
  by_cases hs : q % 2 = 0
  · rw [hs, e0] at hx
    cases hx
    rw [if_pos hr, he]
    split
    · simp only [List.nil_append, List.singleton_append, List.foldl_cons, List.foldl_nil]
      exact mono _ (recOf x1) (got ⟨0, 0, ⟨#[]⟩⟩)
    · simp only [List.nil_append, List.foldl_cons, List.foldl_nil]
      exact got ⟨0, 0, ⟨#[]⟩⟩
  · rw [show q % 2 = 1 by omega, e1] at hx
    cases hx
    rw [if_pos hr, he]
    split
    · simp only [List.nil_append, List.singleton_append, List.foldl_cons, List.foldl_nil]
      exact got (takeR id tot ⟨0, 0, ⟨#[]⟩⟩ (recOf x0))
    · simp only [List.nil_append, List.foldl_cons, List.foldl_nil]
      exact got ⟨0, 0, ⟨#[]⟩⟩
/-- A journal that holds a record opens, when nothing fails. -/
theorem quiet_opens {sq sb : Nat} (h : JI tot st id sq sb) (hq : Quiet st) (h1 : 1 ≤ sq) : opAns st id tot = 0 := by
  rw [quiet_ans hq h.n2 h.len]
  refine if_neg (fun hz => ?_)
  rcases h.base with ⟨a, _⟩ | ⟨_, ⟨x, hx, hj⟩, _⟩
  · omega
  · have := quiet_some h.id8 h.tot4 hq h.n2 h.len hx hj
    omega
/-- A journal that does not open, when nothing fails, holds no record: a key is made. -/
theorem quiet_makes {sq sb : Nat} (h : JI tot st id sq sb) (hq : Quiet st) (ha : opAns st id tot ≠ 0) : mkAns st id = 0 := by
  obtain ⟨b0, b1, f0, f1, fd, fp, ft, fn⟩ := quiet_reads hq h.n2 h.len
  rw [quiet_ans hq h.n2 h.len] at ha
  have hz : (opT st id tot).q = 0 := by
    by_cases e : (opT st id tot).q = 0
    · exact e
    · rw [if_neg e] at ha; exact absurd rfl ha
  have n0 : ∀ s, s < 2 → ∀ x, st.dur[s]? = some x → isRec x = false := by
    intro s hs x hx
    cases hr : isRec x with
    | false => rfl
    | true =>
      obtain ⟨q, b, hj⟩ := h.recs s hs x (.inl hx) hr
      exfalso
      have hs' : q % 2 = s := hj.2.1
      have := quiet_some h.id8 h.tot4 hq h.n2 h.len (by rw [hs']; exact hx) (by rw [hs']; exact hj)
      omega
  have eL : opL st 3 = [] := by
    show foundR (foundR [] (opR0 st).1) (opR1 st).1 = []
    unfold foundR
    rw [if_neg (by rw [n0 1 (by omega) _ f1]; decide), if_neg (by rw [n0 0 (by omega) _ f0]; decide)]
  rw [mkAns, if_neg (fun hn => hn (quiet_sync hq).1), if_neg (fun hn => hn b0), if_neg (fun hn => hn b1), if_neg (fun hn => hn eL)]
  have hw : wrAns (opS st 3) 1 (sealS 1 0 id) = 0 := by
    rw [wrAns, if_neg (fun hx => hx ⟨by decide, by rw [fn]; have := h.n2; omega⟩), if_neg (fun hx => hx (sealS_size _ _ _ h.id8)), if_neg]
    rintro (e | e)
    · rw [ft] at e; exact absurd e (by decide)
    · rw [fp] at e; simp at e
  rw [if_neg (fun hx => hx hw)]
  have hT : (mkT st id).trouble = 0 := by
    show (wrSt (opS st 3) 1 _).trouble = 0
    unfold wrSt
    split
    · exact ft
    split
    · exact ft
    split <;> (show tick _ = 0; rw [ft]; rfl)
  rw [syAns, if_neg (by rw [hT]; decide)]
end
end Go.Proofs.YtgaoeoijdpdjiabGreatDoor
