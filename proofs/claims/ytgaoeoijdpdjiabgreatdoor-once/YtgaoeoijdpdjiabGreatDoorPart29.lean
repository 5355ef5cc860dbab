/-
  A signer, as package signet hands it out. Make and Open of package signet, whatever package signers answers. The steps by which a signer begins, over any disk.
-/
import Derived.Test.YtgaoeoijdpdjiabGreatDoorPart3
import Derived.Test.YtgaoeoijdpdjiabGreatDoorPart28
import Derived.Test.YtgaoeoijdpdjiabGreatDoorPart16
import Derived.Test.YtgaoeoijdpdjiabGreatDoorPart14
namespace Go.Proofs.YtgaoeoijdpdjiabGreatDoor
open Go.RowKit

set_option maxRecDepth 20000 in
set_option maxHeartbeats 4000000 in
theorem smake_on (SD D : Nat) (F : Nat → Prop) (Q : Nat → World → World → Prop) (k b x t l bat : Int) (sec rnd pub : ByteArray) (w : World) (hSD : Blk w SD [.pointer (some ⟨D, 0, none⟩)] 135) (hF : ∀ i, F i → i < w.heap.size)
    (hMk : ∀ V : World, Below w.heap.size w V → Calls Tryz.prog 66 #[.pointer (some ⟨D, 0, none⟩), .agg #[.int .i64 k, .int .i64 b, .int .i64 x, .int .i64 t, .int .i64 l], .agg #[.string sec, .string rnd, .string pub], .int .i64 bat] V fun e w' => ∃ S, e = .returned (.tuple #[.pointer (some ⟨S, 0, none⟩), .int .i64 0]) ∧ Kept F V w' ∧ Q S V w') :
    Calls Tryz.prog 23 #[.pointer (some ⟨SD, 0, none⟩), .agg #[.int .i64 k, .int .i64 b, .int .i64 x, .int .i64 t, .int .i64 l], .agg #[.string sec, .string rnd, .string pub], .int .i64 bat] w fun e w' => ∃ S V V2, e = .returned (.tuple #[.pointer (some ⟨V2.heap.size, 0, none⟩), .int .i64 0]) ∧ Below w.heap.size w V ∧ Kept F V V2 ∧ Q S V V2 ∧ Blk w' V2.heap.size [.pointer (some ⟨S, 0, none⟩)] 142 ∧ Below V2.heap.size V2 w' := by
  obtain ⟨W0, hW⟩ : ∃ W0, (w.alloc (.cells #[.int .i64 k, .int .i64 b, .int .i64 x, .int .i64 t, .int .i64 l] 26)).alloc (.cells #[.string sec, .string rnd, .string pub] 42) = W0 := ⟨_, rfl⟩
  have HB := hide (show Below w.heap.size w W0 by subst hW; exact ((Below.refl _ _).alloc (Nat.le_refl _) _).alloc (by simp) _)
  have HC := hide (show Blk W0 w.heap.size [.int .i64 k, .int .i64 b, .int .i64 x, .int .i64 t, .int .i64 l] 26 by rw [← hW]; exact (Blk.new w _ _).alloc _)
  have HE := hide (show Blk W0 (w.heap.size + 1) [.string sec, .string rnd, .string pub] 42 by
    rw [← hW]
    have h := Blk.new (w.alloc (.cells #[.int .i64 k, .int .i64 b, .int .i64 x, .int .i64 t, .int .i64 l] 26)) [.string sec, .string rnd, .string pub] 42
    simp only [World.size_alloc] at h
    exact h)
  have HBL := hide (fun (V : World) (h : Below W0.heap.size W0 V) => below_on SD D V ((hSD.on HB.out).on h))
  have HMK := hide hMk
  have HGV := hide given_on
  have HNF := hide (fun g hg h => by have := hF g h; omega : ∀ g, w.heap.size ≤ g → ¬ F g)
  have HS := hide (fun (V : World) (h : Blk V w.heap.size [.int .i64 k, .int .i64 b, .int .i64 x, .int .i64 t, .int .i64 l] 26 ∧ Blk V (w.heap.size + 1) [.string sec, .string rnd, .string pub] 42) => (⟨h.1.cell 0, h.1.cell 1, h.1.cell 2, h.1.cell 3, h.1.cell 4, h.2.cell 0, h.2.cell 1, h.2.cell 2⟩ : V.cell? ⟨w.heap.size, 0, none⟩ = some (.int .i64 k) ∧ V.cell? ⟨w.heap.size, 1, none⟩ = some (.int .i64 b) ∧ V.cell? ⟨w.heap.size, 2, none⟩ = some (.int .i64 x) ∧ V.cell? ⟨w.heap.size, 3, none⟩ = some (.int .i64 t) ∧ V.cell? ⟨w.heap.size, 4, none⟩ = some (.int .i64 l) ∧ V.cell? ⟨w.heap.size + 1, 0, none⟩ = some (.string sec) ∧ V.cell? ⟨w.heap.size + 1, 1, none⟩ = some (.string rnd) ∧ V.cell? ⟨w.heap.size + 1, 2, none⟩ = some (.string pub)))
  have HWE := hide hW
  clear hW hSD hF hMk
  go_enter Tryz.func23, Tryz.ntmps23
  go_wp2_with fail
  rw [HWE.out]
  refine wp_region_held_drew (S := fun V => V.cell? ⟨w.heap.size, 0, none⟩ = some (.int .i64 k) ∧ V.cell? ⟨w.heap.size, 1, none⟩ = some (.int .i64 b) ∧ V.cell? ⟨w.heap.size, 2, none⟩ = some (.int .i64 x) ∧ V.cell? ⟨w.heap.size, 3, none⟩ = some (.int .i64 t) ∧ V.cell? ⟨w.heap.size, 4, none⟩ = some (.int .i64 l) ∧ V.cell? ⟨w.heap.size + 1, 0, none⟩ = some (.string sec) ∧ V.cell? ⟨w.heap.size + 1, 1, none⟩ = some (.string rnd) ∧ V.cell? ⟨w.heap.size + 1, 2, none⟩ = some (.string pub)) (by kernel_rfl) (HS.out _ (And.intro (HC.out.on (Below.refl W0.heap.size W0).drew) (HE.out.on (Below.refl W0.heap.size W0).drew))) (fun hHeld => ?_)
  refine tk 0 hHeld (h := ?_)
  refine tk 2 hHeld (h := ?_)
  refine tk 3 hHeld (h := ?_)
  refine tk 4 hHeld (h := ?_)
  refine wpAnyH_ready (rs := [1]) (by kernel_rfl) (by simp) ?_
  refine AllReadyH.cons (o := ?oa1) ?hoa1 (fun K hK => ?hsa1) AllReadyH.nil
  case hoa1 => (simp only [List.getElem?_toArray, List.getElem?_cons_succ, List.getElem?_cons_zero]; rfl)
  go_simp
  go_at_call 67
  refine (HBL.out _ (Below.refl W0.heap.size W0).drew).mono ?_
  rintro e w1 ⟨rfl, hb1⟩
  have HB1 := hide (heldB (Below.refl W0.heap.size W0).drew hb1 (Nat.le_refl _))
  clear hb1
  try go_wp2_with fail
  refine hK.out _ _ (HS.out _ (And.intro (HC.out.on HB1.out) (HE.out.on HB1.out))) (fun hHeld => ?_)
  clear hK K
  try simp only [Act.put, List.setIfInBounds_toArray, List.set_cons_zero, List.set_cons_succ]
  refine wpAnyH_ready (rs := [5]) (by kernel_rfl) (by simp) ?_
  refine AllReadyH.cons (o := ?oa5) ?hoa5 (fun K hK => ?hsa5) AllReadyH.nil
  case hoa5 => (simp only [List.getElem?_toArray, List.getElem?_cons_succ, List.getElem?_cons_zero]; rfl)
  go_simp
  go_at_call 66
  refine (HMK.out _ (HB.out.trans (HB1.out.mono HB.out.size))).mono ?_
  rintro e w2 ⟨SS, rfl, hk2, hq2⟩
  have HX2 := hide (And.intro (hk2.blk (HC.out.on HB1.out) (HNF.out _ (Nat.le_refl _))) (hk2.blk (HE.out.on HB1.out) (HNF.out _ (Nat.le_succ _))))
  have HK2 := hide hk2
  have HQ2 := hide hq2
  clear hk2 hq2
  try go_wp2_with fail
  refine hK.out _ _ (HS.out _ (HX2.out)) (fun hHeld => ?_)
  clear hK K
  try simp only [Act.put, List.setIfInBounds_toArray, List.set_cons_zero, List.set_cons_succ]
  refine tk 6 hHeld (h := ?_)
  refine tk 7 hHeld (h := ?_)
  refine wpAnyH_ready (rs := [8]) (by kernel_rfl) (by simp) ?_
  refine AllReadyH.cons (o := ?oa8) ?hoa8 (fun K hK => ?hsa8) AllReadyH.nil
  case hoa8 => (simp only [List.getElem?_toArray, List.getElem?_cons_succ, List.getElem?_cons_zero]; rfl)
  go_simp
  go_at_call 65
  refine (HGV.out SS _).mono ?_
  rintro e w3 ⟨rfl, hg3, hb3⟩
  have HG3 := hide hg3
  have HB3 := hide hb3
  clear hg3 hb3
  try go_wp2_with fail
  refine hK.out _ _ (HS.out _ (And.intro (HX2.out.1.on HB3.out) (HX2.out.2.on HB3.out))) (fun hHeld => ?_)
  clear hK K
  try simp only [Act.put, List.setIfInBounds_toArray, List.set_cons_zero, List.set_cons_succ]
  refine tk 9 hHeld (h := ?_)
  refine tk 10 hHeld (h := ?_)
  refine tk 11 hHeld (h := ?_)
  refine tk 12 hHeld (h := ?_)
  refine wpAnyH_done (by kernel_rfl) ?_ _
  clear hHeld
  go_wp2
  go_ret2
  exact ⟨SS, w1, w2, rfl, HB.out.trans (HB1.out.mono HB.out.size), HK2.out, HQ2.out, HG3.out, HB3.out⟩

set_option maxRecDepth 20000 in
theorem sgSign_on (G S : Nat) (msg : ByteArray) (z : ByteArray) (c : Int) (Q : World → Prop) (w : World) (hG : Blk w G [.pointer (some ⟨S, 0, none⟩)] 142)
    (h : Calls Tryz.prog 99 #[.pointer (some ⟨S, 0, none⟩), .string msg] w fun e w' => e = .returned (.tuple #[.string z, .int .i64 c]) ∧ Q w') :
    Calls Tryz.prog 52 #[.pointer (some ⟨G, 0, none⟩), .string msg] w fun e w' => e = .returned (.tuple #[.string z, .int .i64 c]) ∧ Q w' := by
  have H := hide h
  have c0 : w.cell? ⟨G, 0, none⟩ = some (.pointer (some ⟨S, 0, none⟩)) := hG.cell 0
  clear h hG
  go_enter Tryz.func52, Tryz.ntmps52
  go_wp2_with fail
  refine H.out.mono ?_
  rintro e w1 ⟨rfl, hq⟩
  have HQ := hide hq
  clear hq
  go_wp2
  go_ret2
  exact ⟨rfl, HQ.out⟩

set_option maxRecDepth 20000 in
theorem sgReserve_on (G S : Nat) (m : Int) (z c : Int) (Q : World → Prop) (w : World) (hG : Blk w G [.pointer (some ⟨S, 0, none⟩)] 142)
    (h : Calls Tryz.prog 72 #[.pointer (some ⟨S, 0, none⟩), .int .i64 m] w fun e w' => e = .returned (.tuple #[.int .i64 z, .int .i64 c]) ∧ Q w') :
    Calls Tryz.prog 31 #[.pointer (some ⟨G, 0, none⟩), .int .i64 m] w fun e w' => e = .returned (.tuple #[.int .i64 z, .int .i64 c]) ∧ Q w' := by
  have H := hide h
  have c0 : w.cell? ⟨G, 0, none⟩ = some (.pointer (some ⟨S, 0, none⟩)) := hG.cell 0
  clear h hG
  go_enter Tryz.func31, Tryz.ntmps31
  go_wp2_with fail
  refine H.out.mono ?_
  rintro e w1 ⟨rfl, hq⟩
  have HQ := hide hq
  clear hq
  go_wp2
  go_ret2
  exact ⟨rfl, HQ.out⟩

set_option maxRecDepth 20000 in
theorem sgKey_on (G S : Nat)  (z : ByteArray) (Q : World → Prop) (w : World) (hG : Blk w G [.pointer (some ⟨S, 0, none⟩)] 142)
    (h : Calls Tryz.prog 98 #[.pointer (some ⟨S, 0, none⟩)] w fun e w' => e = .returned (.string z) ∧ Q w') :
    Calls Tryz.prog 51 #[.pointer (some ⟨G, 0, none⟩)] w fun e w' => e = .returned (.string z) ∧ Q w' := by
  have H := hide h
  have c0 : w.cell? ⟨G, 0, none⟩ = some (.pointer (some ⟨S, 0, none⟩)) := hG.cell 0
  clear h hG
  go_enter Tryz.func51, Tryz.ntmps51
  go_wp2_with fail
  refine H.out.mono ?_
  rintro e w1 ⟨rfl, hq⟩
  have HQ := hide hq
  clear hq
  go_wp2
  go_ret
  exact ⟨rfl, HQ.out⟩

set_option maxRecDepth 20000 in
set_option maxHeartbeats 2000000 in
theorem sgState_on (G S : Nat) (nx bd q : Int) (w : World) (hG : Blk w G [.pointer (some ⟨S, 0, none⟩)] 142)
    (h : ∀ V : World, Below w.heap.size w V → Calls Tryz.prog 71 #[.pointer (some ⟨S, 0, none⟩)] V fun e w' => e = .returned (.agg #[.int .i64 nx, .int .i64 bd, .int .i64 q, .bool false]) ∧ Below V.heap.size V w') :
    Calls Tryz.prog 30 #[.pointer (some ⟨G, 0, none⟩)] w fun e w' => e = .returned (.agg #[.int .i64 nx, .int .i64 bd, .int .i64 q, .bool false]) ∧ Below w.heap.size w w' := by
  obtain ⟨W0, hW⟩ : ∃ W0, w.alloc (.cells #[.int .i64 0, .int .i64 0, .int .i64 0, .bool false] 79) = W0 := ⟨_, rfl⟩
  have HB := hide (show Below w.heap.size w W0 by subst hW; exact (Below.refl _ _).alloc (Nat.le_refl _) _)
  have HK := hide (show Blk W0 w.heap.size [.int .i64 0, .int .i64 0, .int .i64 0, .bool false] 79 by rw [← hW]; exact Blk.new w _ _)
  have H := hide (h W0 HB.out)
  have c0 : W0.cell? ⟨G, 0, none⟩ = some (.pointer (some ⟨S, 0, none⟩)) := (hG.on HB.out).cell 0
  have c0' : (w.alloc (.cells #[.int .i64 0, .int .i64 0, .int .i64 0, .bool false] 79)).cell? ⟨G, 0, none⟩ = some (.pointer (some ⟨S, 0, none⟩)) := by rw [hW]; exact c0
  have HZ := hide (show w.heap.size < W0.heap.size by subst hW; simp)
  have HWE := hide hW
  clear h hG hW c0
  go_enter Tryz.func30, Tryz.ntmps30
  go_wp2_with fail
  rw [HWE.out]
  refine H.out.mono ?_
  rintro e w4 ⟨rfl, hb4⟩
  have HK4 := hide (HK.out.on hb4)
  have HB4 := hide hb4
  have r0 : w4.cell? ⟨w.heap.size, 0, none⟩ = some (.int .i64 0) := HK4.out.cell 0
  have r1 : w4.cell? ⟨w.heap.size, 1, none⟩ = some (.int .i64 0) := HK4.out.cell 1
  have r2 : w4.cell? ⟨w.heap.size, 2, none⟩ = some (.int .i64 0) := HK4.out.cell 2
  have r3 : w4.cell? ⟨w.heap.size, 3, none⟩ = some (.bool false) := HK4.out.cell 3
  have f0 := HK4.out.free 0
  have f1 := HK4.out.free 1
  have f2 := HK4.out.free 2
  have f3 := HK4.out.free 3
  clear hb4 c0'
  go_wp2
  have HK9 := hide ((((HK4.out.set 0 (.int .i64 nx)).set 1 (.int .i64 bd)).set 2 (.int .i64 q)).set 3 (.bool false))
  have v0 := HK9.out.cell 0
  have v1 := HK9.out.cell 1
  have v2 := HK9.out.cell 2
  have v3 := HK9.out.cell 3
  have HB9 := hide (HB.out.trans (((((HB4.out.mono (Nat.le_of_lt HZ.out)).setCell (p := ⟨w.heap.size, 0, none⟩) (Nat.le_refl _) (.int .i64 nx)).setCell (p := ⟨w.heap.size, 1, none⟩) (Nat.le_refl _) (.int .i64 bd)).setCell (p := ⟨w.heap.size, 2, none⟩) (Nat.le_refl _) (.int .i64 q)).setCell (p := ⟨w.heap.size, 3, none⟩) (Nat.le_refl _) (.bool false)))
  clear r0 r1 r2 r3 f0 f1 f2 f3
  generalize (((w4.setCell ⟨w.heap.size, 0, none⟩ (.int .i64 nx)).setCell ⟨w.heap.size, 1, none⟩ (.int .i64 bd)).setCell ⟨w.heap.size, 2, none⟩ (.int .i64 q)).setCell ⟨w.heap.size, 3, none⟩ (.bool false) = W9 at v0 v1 v2 v3 HB9 ⊢
  simp only [List.getElem?_cons_zero, List.getElem?_cons_succ, List.set_cons_zero, List.set_cons_succ] at v0 v1 v2 v3
  refine bodyPost_ret (v := .agg #[.int .i64 nx, .int .i64 bd, .int .i64 q, .bool false]) (by simp [results, Tryz.results30, go_sem, v0, v1, v2, v3]) rfl ⟨rfl, ?_⟩
  exact HB9.out
end Go.Proofs.YtgaoeoijdpdjiabGreatDoor

namespace Go.Proofs.YtgaoeoijdpdjiabGreatDoor
open Go.RowKit

/-- What package signet hands out for it. -/
def Given (v : Option Addr) (c : Int) (r : Option Addr) (w w' : World) : Prop := (c = 0 → r = some ⟨w.heap.size, 0, none⟩ ∧ Blk w' w.heap.size [.pointer v] 142) ∧ (c ≠ 0 → r = none) ∧ Below w.heap.size w w'

set_option maxRecDepth 20000 in
theorem given_any (v : Option Addr) (c : Int) (w : World) :
    Calls Tryz.prog 65 #[.pointer v, .int .i64 c] w fun e w' => ∃ r, e = .returned (.tuple #[.pointer r, .int .i64 c]) ∧ Given v c r w w' := by
  by_cases hc : c = 0
  · subst hc
    go_enter Tryz.func65, Tryz.ntmps65
    go_wp2
    go_ret2
    exact ⟨_, rfl, fun _ => ⟨rfl, Blk.new w _ _⟩, fun h => absurd rfl h, (Below.refl _ _).alloc (Nat.le_refl _) _⟩
  · have HC := hide hc
    have e1 : (c == 0) = false := by simpa using hc
    have e2 : (c != 0) = true := by simpa using hc
    clear hc
    go_enter Tryz.func65, Tryz.ntmps65
    go_wp2
    go_ret2
    exact ⟨_, rfl, fun h => absurd h HC.out, fun _ => rfl, Below.refl _ _⟩

set_option maxRecDepth 20000 in
set_option maxHeartbeats 4000000 in
theorem smake_any (SD D : Nat) (F : Nat → Prop) (Q : Option Addr → Int → World → World → Prop) (k b x t l bat : Int) (sec rnd pub : ByteArray) (w : World) (hSD : Blk w SD [.pointer (some ⟨D, 0, none⟩)] 135) (hF : ∀ i, F i → i < w.heap.size)
    (hMk : ∀ V : World, Below w.heap.size w V → Calls Tryz.prog 66 #[.pointer (some ⟨D, 0, none⟩), .agg #[.int .i64 k, .int .i64 b, .int .i64 x, .int .i64 t, .int .i64 l], .agg #[.string sec, .string rnd, .string pub], .int .i64 bat] V fun e w' => ∃ v c, e = .returned (.tuple #[.pointer v, .int .i64 c]) ∧ Kept F V w' ∧ Q v c V w') :
    Calls Tryz.prog 23 #[.pointer (some ⟨SD, 0, none⟩), .agg #[.int .i64 k, .int .i64 b, .int .i64 x, .int .i64 t, .int .i64 l], .agg #[.string sec, .string rnd, .string pub], .int .i64 bat] w fun e w' => ∃ v c r V V2, e = .returned (.tuple #[.pointer r, .int .i64 c]) ∧ Below w.heap.size w V ∧ Kept F V V2 ∧ Q v c V V2 ∧ Given v c r V2 w' := by
  obtain ⟨W0, hW⟩ : ∃ W0, (w.alloc (.cells #[.int .i64 k, .int .i64 b, .int .i64 x, .int .i64 t, .int .i64 l] 26)).alloc (.cells #[.string sec, .string rnd, .string pub] 42) = W0 := ⟨_, rfl⟩
  have HB := hide (show Below w.heap.size w W0 by subst hW; exact ((Below.refl _ _).alloc (Nat.le_refl _) _).alloc (by simp) _)
  have HC := hide (show Blk W0 w.heap.size [.int .i64 k, .int .i64 b, .int .i64 x, .int .i64 t, .int .i64 l] 26 by rw [← hW]; exact (Blk.new w _ _).alloc _)
  have HE := hide (show Blk W0 (w.heap.size + 1) [.string sec, .string rnd, .string pub] 42 by
    rw [← hW]
    have h := Blk.new (w.alloc (.cells #[.int .i64 k, .int .i64 b, .int .i64 x, .int .i64 t, .int .i64 l] 26)) [.string sec, .string rnd, .string pub] 42
    simp only [World.size_alloc] at h
    exact h)
  have HBL := hide (fun (V : World) (h : Below W0.heap.size W0 V) => below_on SD D V ((hSD.on HB.out).on h))
  have HMK := hide hMk
  have HGV := hide given_any
  have HNF := hide (fun g hg h => by have := hF g h; omega : ∀ g, w.heap.size ≤ g → ¬ F g)
  have HS := hide (fun (V : World) (h : Blk V w.heap.size [.int .i64 k, .int .i64 b, .int .i64 x, .int .i64 t, .int .i64 l] 26 ∧ Blk V (w.heap.size + 1) [.string sec, .string rnd, .string pub] 42) => (⟨h.1.cell 0, h.1.cell 1, h.1.cell 2, h.1.cell 3, h.1.cell 4, h.2.cell 0, h.2.cell 1, h.2.cell 2⟩ : V.cell? ⟨w.heap.size, 0, none⟩ = some (.int .i64 k) ∧ V.cell? ⟨w.heap.size, 1, none⟩ = some (.int .i64 b) ∧ V.cell? ⟨w.heap.size, 2, none⟩ = some (.int .i64 x) ∧ V.cell? ⟨w.heap.size, 3, none⟩ = some (.int .i64 t) ∧ V.cell? ⟨w.heap.size, 4, none⟩ = some (.int .i64 l) ∧ V.cell? ⟨w.heap.size + 1, 0, none⟩ = some (.string sec) ∧ V.cell? ⟨w.heap.size + 1, 1, none⟩ = some (.string rnd) ∧ V.cell? ⟨w.heap.size + 1, 2, none⟩ = some (.string pub)))
  have HWE := hide hW
  clear hW hSD hF hMk
  go_enter Tryz.func23, Tryz.ntmps23
  go_wp2_with fail
  rw [HWE.out]
  refine wp_region_held_drew (S := fun V => V.cell? ⟨w.heap.size, 0, none⟩ = some (.int .i64 k) ∧ V.cell? ⟨w.heap.size, 1, none⟩ = some (.int .i64 b) ∧ V.cell? ⟨w.heap.size, 2, none⟩ = some (.int .i64 x) ∧ V.cell? ⟨w.heap.size, 3, none⟩ = some (.int .i64 t) ∧ V.cell? ⟨w.heap.size, 4, none⟩ = some (.int .i64 l) ∧ V.cell? ⟨w.heap.size + 1, 0, none⟩ = some (.string sec) ∧ V.cell? ⟨w.heap.size + 1, 1, none⟩ = some (.string rnd) ∧ V.cell? ⟨w.heap.size + 1, 2, none⟩ = some (.string pub)) (by kernel_rfl) (HS.out _ (And.intro (HC.out.on (Below.refl W0.heap.size W0).drew) (HE.out.on (Below.refl W0.heap.size W0).drew))) (fun hHeld => ?_)
  refine tk 0 hHeld (h := ?_)
  refine tk 2 hHeld (h := ?_)
  refine tk 3 hHeld (h := ?_)
  refine tk 4 hHeld (h := ?_)
  refine wpAnyH_ready (rs := [1]) (by kernel_rfl) (by simp) ?_
  refine AllReadyH.cons (o := ?oa1) ?hoa1 (fun K hK => ?hsa1) AllReadyH.nil
  case hoa1 => (simp only [List.getElem?_toArray, List.getElem?_cons_succ, List.getElem?_cons_zero]; rfl)
  go_simp
  go_at_call 67
  refine (HBL.out _ (Below.refl W0.heap.size W0).drew).mono ?_
  rintro e w1 ⟨rfl, hb1⟩
  have HB1 := hide (heldB (Below.refl W0.heap.size W0).drew hb1 (Nat.le_refl _))
  clear hb1
  try go_wp2_with fail
  refine hK.out _ _ (HS.out _ (And.intro (HC.out.on HB1.out) (HE.out.on HB1.out))) (fun hHeld => ?_)
  clear hK K
  try simp only [Act.put, List.setIfInBounds_toArray, List.set_cons_zero, List.set_cons_succ]
  refine wpAnyH_ready (rs := [5]) (by kernel_rfl) (by simp) ?_
  refine AllReadyH.cons (o := ?oa5) ?hoa5 (fun K hK => ?hsa5) AllReadyH.nil
  case hoa5 => (simp only [List.getElem?_toArray, List.getElem?_cons_succ, List.getElem?_cons_zero]; rfl)
  go_simp
  go_at_call 66
  refine (HMK.out _ (HB.out.trans (HB1.out.mono HB.out.size))).mono ?_
  rintro e w2 ⟨pv, pc, rfl, hk2, hq2⟩
  have HX2 := hide (And.intro (hk2.blk (HC.out.on HB1.out) (HNF.out _ (Nat.le_refl _))) (hk2.blk (HE.out.on HB1.out) (HNF.out _ (Nat.le_succ _))))
  have HK2 := hide hk2
  have HQ2 := hide hq2
  clear hk2 hq2
  try go_wp2_with fail
  refine hK.out _ _ (HS.out _ (HX2.out)) (fun hHeld => ?_)
  clear hK K
  try simp only [Act.put, List.setIfInBounds_toArray, List.set_cons_zero, List.set_cons_succ]
  refine tk 6 hHeld (h := ?_)
  refine tk 7 hHeld (h := ?_)
  refine wpAnyH_ready (rs := [8]) (by kernel_rfl) (by simp) ?_
  refine AllReadyH.cons (o := ?oa8) ?hoa8 (fun K hK => ?hsa8) AllReadyH.nil
  case hoa8 => (simp only [List.getElem?_toArray, List.getElem?_cons_succ, List.getElem?_cons_zero]; rfl)
  go_simp
  go_at_call 65
  refine (HGV.out pv pc _).mono ?_
  rintro e w3 ⟨pr, rfl, hg3⟩
  have HG3 := hide hg3
  clear hg3
  try go_wp2_with fail
  refine hK.out _ _ (HS.out _ (And.intro (HX2.out.1.on HG3.out.2.2) (HX2.out.2.on HG3.out.2.2))) (fun hHeld => ?_)
  clear hK K
  try simp only [Act.put, List.setIfInBounds_toArray, List.set_cons_zero, List.set_cons_succ]
  refine tk 9 hHeld (h := ?_)
  refine tk 10 hHeld (h := ?_)
  refine tk 11 hHeld (h := ?_)
  refine tk 12 hHeld (h := ?_)
  refine wpAnyH_done (by kernel_rfl) ?_ _
  clear hHeld
  go_wp2
  go_ret2
  exact ⟨pv, pc, pr, w1, w2, rfl, HB.out.trans (HB1.out.mono HB.out.size), HK2.out, HQ2.out, HG3.out⟩

set_option maxRecDepth 20000 in
set_option maxHeartbeats 4000000 in
theorem sopen_any (SD D : Nat) (F : Nat → Prop) (Q : Option Addr → Int → World → World → Prop) (k b x t l bat : Int) (sec rnd pub : ByteArray) (w : World) (hSD : Blk w SD [.pointer (some ⟨D, 0, none⟩)] 135) (hF : ∀ i, F i → i < w.heap.size)
    (hMk : ∀ V : World, Below w.heap.size w V → Calls Tryz.prog 100 #[.pointer (some ⟨D, 0, none⟩), .agg #[.int .i64 k, .int .i64 b, .int .i64 x, .int .i64 t, .int .i64 l], .agg #[.string sec, .string rnd, .string pub], .int .i64 bat] V fun e w' => ∃ v c, e = .returned (.tuple #[.pointer v, .int .i64 c]) ∧ Kept F V w' ∧ Q v c V w') :
    Calls Tryz.prog 55 #[.pointer (some ⟨SD, 0, none⟩), .agg #[.int .i64 k, .int .i64 b, .int .i64 x, .int .i64 t, .int .i64 l], .agg #[.string sec, .string rnd, .string pub], .int .i64 bat] w fun e w' => ∃ v c r V V2, e = .returned (.tuple #[.pointer r, .int .i64 c]) ∧ Below w.heap.size w V ∧ Kept F V V2 ∧ Q v c V V2 ∧ Given v c r V2 w' := by
  obtain ⟨W0, hW⟩ : ∃ W0, (w.alloc (.cells #[.int .i64 k, .int .i64 b, .int .i64 x, .int .i64 t, .int .i64 l] 26)).alloc (.cells #[.string sec, .string rnd, .string pub] 42) = W0 := ⟨_, rfl⟩
  have HB := hide (show Below w.heap.size w W0 by subst hW; exact ((Below.refl _ _).alloc (Nat.le_refl _) _).alloc (by simp) _)
  have HC := hide (show Blk W0 w.heap.size [.int .i64 k, .int .i64 b, .int .i64 x, .int .i64 t, .int .i64 l] 26 by rw [← hW]; exact (Blk.new w _ _).alloc _)
  have HE := hide (show Blk W0 (w.heap.size + 1) [.string sec, .string rnd, .string pub] 42 by
    rw [← hW]
    have h := Blk.new (w.alloc (.cells #[.int .i64 k, .int .i64 b, .int .i64 x, .int .i64 t, .int .i64 l] 26)) [.string sec, .string rnd, .string pub] 42
    simp only [World.size_alloc] at h
    exact h)
  have HBL := hide (fun (V : World) (h : Below W0.heap.size W0 V) => below_on SD D V ((hSD.on HB.out).on h))
  have HMK := hide hMk
  have HGV := hide given_any
  have HNF := hide (fun g hg h => by have := hF g h; omega : ∀ g, w.heap.size ≤ g → ¬ F g)
  have HS := hide (fun (V : World) (h : Blk V w.heap.size [.int .i64 k, .int .i64 b, .int .i64 x, .int .i64 t, .int .i64 l] 26 ∧ Blk V (w.heap.size + 1) [.string sec, .string rnd, .string pub] 42) => (⟨h.1.cell 0, h.1.cell 1, h.1.cell 2, h.1.cell 3, h.1.cell 4, h.2.cell 0, h.2.cell 1, h.2.cell 2⟩ : V.cell? ⟨w.heap.size, 0, none⟩ = some (.int .i64 k) ∧ V.cell? ⟨w.heap.size, 1, none⟩ = some (.int .i64 b) ∧ V.cell? ⟨w.heap.size, 2, none⟩ = some (.int .i64 x) ∧ V.cell? ⟨w.heap.size, 3, none⟩ = some (.int .i64 t) ∧ V.cell? ⟨w.heap.size, 4, none⟩ = some (.int .i64 l) ∧ V.cell? ⟨w.heap.size + 1, 0, none⟩ = some (.string sec) ∧ V.cell? ⟨w.heap.size + 1, 1, none⟩ = some (.string rnd) ∧ V.cell? ⟨w.heap.size + 1, 2, none⟩ = some (.string pub)))
  have HWE := hide hW
  clear hW hSD hF hMk
  go_enter Tryz.func55, Tryz.ntmps55
  go_wp2_with fail
  rw [HWE.out]
  refine wp_region_held_drew (S := fun V => V.cell? ⟨w.heap.size, 0, none⟩ = some (.int .i64 k) ∧ V.cell? ⟨w.heap.size, 1, none⟩ = some (.int .i64 b) ∧ V.cell? ⟨w.heap.size, 2, none⟩ = some (.int .i64 x) ∧ V.cell? ⟨w.heap.size, 3, none⟩ = some (.int .i64 t) ∧ V.cell? ⟨w.heap.size, 4, none⟩ = some (.int .i64 l) ∧ V.cell? ⟨w.heap.size + 1, 0, none⟩ = some (.string sec) ∧ V.cell? ⟨w.heap.size + 1, 1, none⟩ = some (.string rnd) ∧ V.cell? ⟨w.heap.size + 1, 2, none⟩ = some (.string pub)) (by kernel_rfl) (HS.out _ (And.intro (HC.out.on (Below.refl W0.heap.size W0).drew) (HE.out.on (Below.refl W0.heap.size W0).drew))) (fun hHeld => ?_)
  refine tk 0 hHeld (h := ?_)
  refine tk 2 hHeld (h := ?_)
  refine tk 3 hHeld (h := ?_)
  refine tk 4 hHeld (h := ?_)
  refine wpAnyH_ready (rs := [1]) (by kernel_rfl) (by simp) ?_
  refine AllReadyH.cons (o := ?oa1) ?hoa1 (fun K hK => ?hsa1) AllReadyH.nil
  case hoa1 => (simp only [List.getElem?_toArray, List.getElem?_cons_succ, List.getElem?_cons_zero]; rfl)
  go_simp
  go_at_call 67
  refine (HBL.out _ (Below.refl W0.heap.size W0).drew).mono ?_
  rintro e w1 ⟨rfl, hb1⟩
  have HB1 := hide (heldB (Below.refl W0.heap.size W0).drew hb1 (Nat.le_refl _))
  clear hb1
  try go_wp2_with fail
  refine hK.out _ _ (HS.out _ (And.intro (HC.out.on HB1.out) (HE.out.on HB1.out))) (fun hHeld => ?_)
  clear hK K
  try simp only [Act.put, List.setIfInBounds_toArray, List.set_cons_zero, List.set_cons_succ]
  refine wpAnyH_ready (rs := [5]) (by kernel_rfl) (by simp) ?_
  refine AllReadyH.cons (o := ?oa5) ?hoa5 (fun K hK => ?hsa5) AllReadyH.nil
  case hoa5 => (simp only [List.getElem?_toArray, List.getElem?_cons_succ, List.getElem?_cons_zero]; rfl)
  go_simp
  go_at_call 100
  refine (HMK.out _ (HB.out.trans (HB1.out.mono HB.out.size))).mono ?_
  rintro e w2 ⟨pv, pc, rfl, hk2, hq2⟩
  have HX2 := hide (And.intro (hk2.blk (HC.out.on HB1.out) (HNF.out _ (Nat.le_refl _))) (hk2.blk (HE.out.on HB1.out) (HNF.out _ (Nat.le_succ _))))
  have HK2 := hide hk2
  have HQ2 := hide hq2
  clear hk2 hq2
  try go_wp2_with fail
  refine hK.out _ _ (HS.out _ (HX2.out)) (fun hHeld => ?_)
  clear hK K
  try simp only [Act.put, List.setIfInBounds_toArray, List.set_cons_zero, List.set_cons_succ]
  refine tk 6 hHeld (h := ?_)
  refine tk 7 hHeld (h := ?_)
  refine wpAnyH_ready (rs := [8]) (by kernel_rfl) (by simp) ?_
  refine AllReadyH.cons (o := ?oa8) ?hoa8 (fun K hK => ?hsa8) AllReadyH.nil
  case hoa8 => (simp only [List.getElem?_toArray, List.getElem?_cons_succ, List.getElem?_cons_zero]; rfl)
  go_simp
  go_at_call 65
  refine (HGV.out pv pc _).mono ?_
  rintro e w3 ⟨pr, rfl, hg3⟩
  have HG3 := hide hg3
  clear hg3
  try go_wp2_with fail
  refine hK.out _ _ (HS.out _ (And.intro (HX2.out.1.on HG3.out.2.2) (HX2.out.2.on HG3.out.2.2))) (fun hHeld => ?_)
  clear hK K
  try simp only [Act.put, List.setIfInBounds_toArray, List.set_cons_zero, List.set_cons_succ]
  refine tk 9 hHeld (h := ?_)
  refine tk 10 hHeld (h := ?_)
  refine tk 11 hHeld (h := ?_)
  refine tk 12 hHeld (h := ?_)
  refine wpAnyH_done (by kernel_rfl) ?_ _
  clear hHeld
  go_wp2
  go_ret2
  exact ⟨pv, pc, pr, w1, w2, rfl, HB.out.trans (HB1.out.mono HB.out.size), HK2.out, HQ2.out, HG3.out⟩
end Go.Proofs.YtgaoeoijdpdjiabGreatDoor

namespace Go.Proofs.YtgaoeoijdpdjiabGreatDoor
open Go.RowKit

/-- Records as cells. -/
def foundC (L : List Rec) : List Value := L.flatMap fun r => [.int .i64 r.q, .int .i64 r.b, .string r.d]
def recOf (s : ByteArray) : Rec := ⟨seqOf s, boundOf s, idOf s⟩
theorem foundC_snoc (L : List Rec) (r : Rec) : foundC (L ++ [r]) = foundC L ++ [.int .i64 r.q, .int .i64 r.b, .string r.d] := by simp [foundC]

/-- What was found out so far lies in memory. -/
structure OPG (lo O SB D : Nat) (T : TypeId) (sv : List Value) (st : DSt) (id : ByteArray) (tot : Int) (L : List Rec) (lst : Rec) (F : Nat → Prop) (V V' : World) (F' : Nat → Prop) (fv : Value) : Prop where
  k : DSk lo D st V' F'
  row : V'.ownsRow lo 186 3 fv L.length (foundC L)
  o : Blk V' O (opC D id tot fv lst.q lst.b lst.d) 246
  s : Blk V' SB sv T
  kept : Kept (fun k => k = O ∨ F k) V V'
  foot : ∀ k, F' k → F k ∨ V.heap.size ≤ k
  no : ∀ k, fv.ownBlock = some k → ¬ F' k ∧ V.heap.size ≤ k

section
variable {lo O SB D : Nat} {T : TypeId} {sv : List Value} {st s2 : DSt} {id : ByteArray} {tot : Int} {L : List Rec} {lst : Rec} {F F' : Nat → Prop} {V V' V2 : World} {fv : Value}
theorem OPG.nO (h : OPG lo O SB D T sv st id tot L lst F V V' F' fv) (hO : O < V.heap.size) (nO : ¬ F O) : ¬ F' O ∧ fv.ownBlock ≠ some O :=
  ⟨fun e => by rcases h.foot O e with e | e <;> first | exact nO e | omega, fun e => by have := (h.no O e).2; omega⟩
theorem OPG.below (h : OPG lo O SB D T sv st id tot L lst F V V' F' fv) (hb : Below V'.heap.size V' V2) : OPG lo O SB D T sv st id tot L lst F V V2 F' fv :=
  ⟨h.k.below hb, owns_kept h.row (Kept.of_below (F := fun _ => False) hb) (fun _ _ e => e), h.o.on hb, h.s.on hb, h.kept.after hb, h.foot, h.no⟩
theorem OPG.dl (h : OPG lo O SB D T sv st id tot L lst F V V' F' fv) (hO : O < V.heap.size) (nO : ¬ F O) (hS : SB < V.heap.size) (nS : ¬ F SB) (hl : DL lo D s2 F' V' V2) : ∃ F2, OPG lo O SB D T sv s2 id tot L lst F V V2 F2 fv := by
  have n1 := h.nO hO nO
  have n2 : ¬ F' SB := fun e => by rcases h.foot SB e with e | e <;> first | exact nS e | omega
  have b1 := hl.blk h.o n1.1
  have b2 := hl.blk h.s n2
  obtain ⟨F2, d2, k2, f2⟩ := hl
  refine ⟨F2, d2, owns_kept h.row k2 (fun k e => (h.no k e).1), b1, b2, h.kept.trans k2 (fun i hi => ?_), fun i hi => ?_, fun k e => ⟨fun hk => ?_, (h.no k e).2⟩⟩
  · rcases h.foot i hi with e | e
    · exact .inl (.inr e)
    · exact .inr e
  · rcases f2 i hi with e | e
    · exact h.foot i e
    · exact .inr (Nat.le_trans h.kept.size e)
  · rcases f2 k hk with e1 | e1
    · exact (h.no k e).1 e1
    · have := (h.row.lt k e).2
      omega
end

theorem g_sync {lo O SB D : Nat} {T : TypeId} {sv : List Value} {st : DSt} {id : ByteArray} {tot : Int} {L : List Rec} {lst : Rec} {F F' : Nat → Prop} {V V' : World} {fv : Value} (h : OPG lo O SB D T sv st id tot L lst F V V' F' fv) (hO : O < V.heap.size) (nO : ¬ F O) (hS : SB < V.heap.size) (nS : ¬ F SB) (y0 : 0 ≤ st.syncs) (y1 : st.syncs < 9223372036854775807) :
    Calls Tryz.prog 107 #[.pointer (some ⟨O, 0, none⟩)] V' fun e w' => ∃ c, e = .returned (.int .i64 c) ∧ c = syAns st ∧ ∃ F2, OPG lo O SB D T sv (sySt st) id tot L lst F V w' F2 fv :=
  osync_on (fun c w' => c = syAns st ∧ ∃ F2, OPG lo O SB D T sv (sySt st) id tot L lst F V w' F2 fv) O D V' (h.o.cell 0) ((dsync_any lo D st F' V' h.k y0 y1).mono (by
    rintro e w' ⟨rfl, hl⟩
    exact ⟨_, rfl, rfl, h.dl hO nO hS nS hl⟩))

/-- What a read finds. -/
def foundR (L : List Rec) (x : ByteArray) : List Rec := if isRec x then L ++ [recOf x] else L

theorem g_read_yes {lo O SB D : Nat} {T : TypeId} {sv : List Value} {st : DSt} {id : ByteArray} {tot : Int} {L : List Rec} {lst : Rec} {F F' : Nat → Prop} {V V' : World} {fv : Value} (h : OPG lo O SB D T sv st id tot L lst F V V' F' fv) (hO : O < V.heap.size) (nO : ¬ F O) (hS : SB < V.heap.size) (nS : ¬ F SB) (hOS : SB ≠ O) (hlo : lo ≤ V.heap.size) (hL : L.length ≤ 100) (i : Int) (x : ByteArray) (hx : rdAns st i = (x, 0)) :
    Calls Tryz.prog 182 #[.pointer (some ⟨O, 0, none⟩), .int .i64 i] V' fun e w' => e = .returned (.int .i64 0) ∧ ∃ F2 fv2, OPG lo O SB D T sv (rdSt st i) id tot (foundR L x) lst F V w' F2 fv2 := by
  have hRD : Calls Tryz.prog 103 #[.pointer (some ⟨D, 0, none⟩), .int .i64 i] V' fun e w' => e = .returned (.tuple #[.string x, .int .i64 0]) ∧ ∃ F2, OPG lo O SB D T sv (rdSt st i) id tot L lst F V w' F2 fv := by
    refine (dread_any lo D st F' i V' h.k).mono ?_
    rw [hx]
    rintro e w' ⟨rfl, hl⟩
    exact ⟨rfl, h.dl hO nO hS nS hl⟩
  unfold foundR
  by_cases hr : isRec x = true
  · rw [if_pos hr]
    obtain ⟨a, c, rfl⟩ := owns_len h.row
    refine (oread_yes _ lo O D L.length c a i tot lst.q lst.b x id lst.d (foundC L) V' (h.o.cell 0) hr hL (h.nO hO nO).2 (fun V2 h2 => ?_) hRD).mono ?_
    · obtain ⟨F2, h2⟩ := h2
      exact ⟨h2.o, h2.row, Nat.le_trans hlo h2.kept.size⟩
    · rintro e w' ⟨rfl, V2, g, cap, ⟨F2, h2⟩, hrow, hB, hk, hg⟩
      have n2 := h2.nO hO nO
      have hgV : V.heap.size ≤ g := by
        rcases hg with e | e
        · exact (h2.no g e).2
        · exact Nat.le_trans h2.kept.size e
      have nf : ∀ k, F2 k → ¬ (k = O ∨ (Value.slice a L.length c).ownBlock = some k) := by
        rintro k hk2 (rfl | e)
        · exact n2.1 hk2
        · exact (h2.no k e).1 hk2
      refine ⟨rfl, F2, _, h2.k.kept hk nf, ?_, hB, ?_, h2.kept.trans hk (fun k hk2 => ?_), h2.foot, fun k e => ?_⟩
      · rw [foundC_snoc, List.length_append]
        exact hrow
      · refine hk.blk h2.s ?_
        rintro (e | e)
        · exact hOS e
        · have := (h2.no _ e).2
          omega
      · rcases hk2 with rfl | e
        · exact .inl (.inl rfl)
        · exact .inr (h2.no k e).2
      · have e' : g = k := by simpa [Value.ownBlock] using e
        subst e'
        refine ⟨fun hk2 => ?_, hgV⟩
        rcases hg with e1 | e1
        · exact (h2.no g e1).1 hk2
        · have := (h2.k.lt g hk2).2
          omega
  · rw [if_neg hr]
    refine (oread_no _ O D i x V' (h.o.cell 0) (by simpa using hr) (fun V2 V3 h2 hb => ?_) hRD).mono ?_
    · obtain ⟨F2, h2⟩ := h2
      exact ⟨F2, h2.below hb⟩
    · rintro e w' ⟨rfl, F2, h2⟩
      exact ⟨rfl, F2, fv, h2⟩
end Go.Proofs.YtgaoeoijdpdjiabGreatDoor
