/-
  A signer, as package signet hands it out.
-/
import Derived.Test.YtgaoeoijdpdjiabGreatDoorPart41
namespace Go.Proofs.YtgaoeoijdpdjiabGreatDoor
open Go.RowKit

set_option maxRecDepth 20000 in
set_option maxHeartbeats 4000000 in
theorem smake_on (SD D : Nat) (F : Nat → Prop) (Q : Nat → World → World → Prop) (k b x t l bat : Int) (sec rnd pub : ByteArray) (w : World) (hSD : Blk w SD [.pointer (some ⟨D, 0, none⟩)] 135) (hF : ∀ i, F i → i < w.heap.size)
    (hMk : ∀ V : World, Below w.heap.size w V → Calls Tryz.prog 66 #[.pointer (some ⟨D, 0, none⟩), .agg #[.int .i64 k, .int .i64 b, .int .i64 x, .int .i64 t, .int .i64 l], .agg #[.string sec, .string rnd, .string pub], .int .i64 bat] V fun e w' => ∃ S, e = .returned (.tuple #[.pointer (some ⟨S, 0, none⟩), .int .i64 0]) ∧ Kept F V w' ∧ Q S V w') :
    Calls Tryz.prog 23 #[.pointer (some ⟨SD, 0, none⟩), .agg #[.int .i64 k, .int .i64 b, .int .i64 x, .int .i64 t, .int .i64 l], .agg #[.string sec, .string rnd, .string pub], .int .i64 bat] w fun e w' => ∃ S V V2, e = .returned (.tuple #[.pointer (some ⟨V2.heap.size, 0, none⟩), .int .i64 0]) ∧ Below w.heap.size w V ∧ Kept F V V2 ∧ Q S V V2 ∧ Blk w' V2.heap.size [.pointer (some ⟨S, 0, none⟩)] 142 ∧ Below V2.heap.size V2 w' := by
  obtain ⟨W0, hW⟩ : ∃ W0, (w.alloc (.cells #[.int .i64 k, .int .i64 b, .int .i64 x, .int .i64 t, .int .i64 l] 26)).alloc (.cells #[.string sec, .string rnd, .string pub] 42) = W0 := ⟨_, rfl⟩
  have HB := hide (show Below w.heap.size w W0 by subst hW; exact ((Below.refl _ _).alloc (Nat.le_refl _) _).alloc (by simp) _)
  have HC := hide (show Blk W0 w.heap.size [.int .i64 k, .int .i64 b, .int .i64 x, .int .i64 t, .int .i64 l] 26 by rw [← hW]; exact (Blk.new w _ _).alloc _)
  have HE := hide (show Blk W0 (w.heap.size + 1) [.string sec, .string rnd, .string pub] 42 by
    rw [← hW]
    have h := Blk.new (w.alloc (.cells #[.int .i64 k, .int .i64 b, .int .i64 x, .int .i64 t, .int .i64 l] 26)) [.string sec, .string rnd, .string pub] 42
    simp only [World.size_alloc] at h
    exact h)
  have HBL := hide (fun (V : World) (h : Below W0.heap.size W0 V) => below_on SD D V ((hSD.on HB.out).on h))
  have HMK := hide hMk
  have HGV := hide given_on
  have HNF := hide (fun g hg h => by have := hF g h; omega : ∀ g, w.heap.size ≤ g → ¬ F g)
  have HS := hide (fun (V : World) (h : Blk V w.heap.size [.int .i64 k, .int .i64 b, .int .i64 x, .int .i64 t, .int .i64 l] 26 ∧ Blk V (w.heap.size + 1) [.string sec, .string rnd, .string pub] 42) => (⟨h.1.cell 0, h.1.cell 1, h.1.cell 2, h.1.cell 3, h.1.cell 4, h.2.cell 0, h.2.cell 1, h.2.cell 2⟩ : V.cell? ⟨w.heap.size, 0, none⟩ = some (.int .i64 k) ∧ V.cell? ⟨w.heap.size, 1, none⟩ = some (.int .i64 b) ∧ V.cell? ⟨w.heap.size, 2, none⟩ = some (.int .i64 x) ∧ V.cell? ⟨w.heap.size, 3, none⟩ = some (.int .i64 t) ∧ V.cell? ⟨w.heap.size, 4, none⟩ = some (.int .i64 l) ∧ V.cell? ⟨w.heap.size + 1, 0, none⟩ = some (.string sec) ∧ V.cell? ⟨w.heap.size + 1, 1, none⟩ = some (.string rnd) ∧ V.cell? ⟨w.heap.size + 1, 2, none⟩ = some (.string pub)))
  have HWE := hide hW
  clear hW hSD hF hMk
  go_enter Tryz.func23, Tryz.ntmps23
  go_wp2_with fail
  rw [HWE.out]
  refine wp_region_held_drew (S := fun V => V.cell? ⟨w.heap.size, 0, none⟩ = some (.int .i64 k) ∧ V.cell? ⟨w.heap.size, 1, none⟩ = some (.int .i64 b) ∧ V.cell? ⟨w.heap.size, 2, none⟩ = some (.int .i64 x) ∧ V.cell? ⟨w.heap.size, 3, none⟩ = some (.int .i64 t) ∧ V.cell? ⟨w.heap.size, 4, none⟩ = some (.int .i64 l) ∧ V.cell? ⟨w.heap.size + 1, 0, none⟩ = some (.string sec) ∧ V.cell? ⟨w.heap.size + 1, 1, none⟩ = some (.string rnd) ∧ V.cell? ⟨w.heap.size + 1, 2, none⟩ = some (.string pub)) (by kernel_rfl) (HS.out _ (And.intro (HC.out.on (Below.refl W0.heap.size W0).drew) (HE.out.on (Below.refl W0.heap.size W0).drew))) (fun hHeld => ?_)
  refine wpAnyH_take (i := 0) (oi := ?oia0) (v := ?va0) ?hia0 (by kernel_rfl) (by kernel_rfl) (by kernel_rfl) ?hQa0 (Or.inl ⟨?h1a0, ?hya0⟩) hHeld ?resta0
  case hia0 => (simp only [List.getElem?_toArray, List.getElem?_cons_zero]; rfl)
  case hQa0 => exact fun _ _ _ h => h
  case h1a0 => rfl
  case hya0 => intro V hSV; (try dsimp only at hSV); go_simp; (try with_reducible rfl)
  try simp only [Act.put, List.setIfInBounds_toArray, List.set_cons_zero, List.set_cons_succ]
  refine wpAnyH_take (i := 2) (oi := ?oia2) (v := ?va2) ?hia2 (by kernel_rfl) (by kernel_rfl) (by kernel_rfl) ?hQa2 (Or.inl ⟨?h1a2, ?hya2⟩) hHeld ?resta2
  case hia2 => (simp only [List.getElem?_toArray, List.getElem?_cons_succ, List.getElem?_cons_zero]; rfl)
  case hQa2 => exact fun _ _ _ h => h
  case h1a2 => rfl
  case hya2 => intro V hSV; (try dsimp only at hSV); go_simp; (try with_reducible rfl)
  try simp only [Act.put, List.setIfInBounds_toArray, List.set_cons_zero, List.set_cons_succ]
  refine wpAnyH_take (i := 3) (oi := ?oia3) (v := ?va3) ?hia3 (by kernel_rfl) (by kernel_rfl) (by kernel_rfl) ?hQa3 (Or.inl ⟨?h1a3, ?hya3⟩) hHeld ?resta3
  case hia3 => (simp only [List.getElem?_toArray, List.getElem?_cons_succ, List.getElem?_cons_zero]; rfl)
  case hQa3 => exact fun _ _ _ h => h
  case h1a3 => rfl
  case hya3 => intro V hSV; (try dsimp only at hSV); go_simp; (try with_reducible rfl)
  try simp only [Act.put, List.setIfInBounds_toArray, List.set_cons_zero, List.set_cons_succ]
  refine wpAnyH_take (i := 4) (oi := ?oia4) (v := ?va4) ?hia4 (by kernel_rfl) (by kernel_rfl) (by kernel_rfl) ?hQa4 (Or.inl ⟨?h1a4, ?hya4⟩) hHeld ?resta4
  case hia4 => (simp only [List.getElem?_toArray, List.getElem?_cons_succ, List.getElem?_cons_zero]; rfl)
  case hQa4 => exact fun _ _ _ h => h
  case h1a4 => rfl
  case hya4 => intro V hSV; (try dsimp only at hSV); go_simp; (try with_reducible rfl)
  try simp only [Act.put, List.setIfInBounds_toArray, List.set_cons_zero, List.set_cons_succ]
  refine wpAnyH_ready (rs := [1]) (by kernel_rfl) (by simp) ?_
  refine AllReadyH.cons (o := ?oa1) ?hoa1 (fun K hK => ?hsa1) AllReadyH.nil
  case hoa1 => (simp only [List.getElem?_toArray, List.getElem?_cons_succ, List.getElem?_cons_zero]; rfl)
  go_simp
  go_at_call 67
  refine (HBL.out _ (Below.refl W0.heap.size W0).drew).mono ?_
  rintro e w1 ⟨rfl, hb1⟩
  have HB1 := hide (heldB (Below.refl W0.heap.size W0).drew hb1 (Nat.le_refl _))
  clear hb1
  try go_wp2_with fail
  refine hK.out _ _ (HS.out _ (And.intro (HC.out.on HB1.out) (HE.out.on HB1.out))) (fun hHeld => ?_)
  clear hK K
  try simp only [Act.put, List.setIfInBounds_toArray, List.set_cons_zero, List.set_cons_succ]
  refine wpAnyH_ready (rs := [5]) (by kernel_rfl) (by simp) ?_
  refine AllReadyH.cons (o := ?oa5) ?hoa5 (fun K hK => ?hsa5) AllReadyH.nil
  case hoa5 => (simp only [List.getElem?_toArray, List.getElem?_cons_succ, List.getElem?_cons_zero]; rfl)
  go_simp
  go_at_call 66
  refine (HMK.out _ (HB.out.trans (HB1.out.mono HB.out.size))).mono ?_
  rintro e w2 ⟨SS, rfl, hk2, hq2⟩
  have HX2 := hide (And.intro (hk2.blk (HC.out.on HB1.out) (HNF.out _ (Nat.le_refl _))) (hk2.blk (HE.out.on HB1.out) (HNF.out _ (Nat.le_succ _))))
  have HK2 := hide hk2
  have HQ2 := hide hq2
  clear hk2 hq2
  try go_wp2_with fail
  refine hK.out _ _ (HS.out _ (HX2.out)) (fun hHeld => ?_)
  clear hK K
  try simp only [Act.put, List.setIfInBounds_toArray, List.set_cons_zero, List.set_cons_succ]
  refine wpAnyH_take (i := 6) (oi := ?oia6) (v := ?va6) ?hia6 (by kernel_rfl) (by kernel_rfl) (by kernel_rfl) ?hQa6 (Or.inl ⟨?h1a6, ?hya6⟩) hHeld ?resta6
  case hia6 => (simp only [List.getElem?_toArray, List.getElem?_cons_succ, List.getElem?_cons_zero]; rfl)
  case hQa6 => exact fun _ _ _ h => h
  case h1a6 => rfl
  case hya6 => intro V hSV; (try dsimp only at hSV); go_simp; (try with_reducible rfl)
  try simp only [Act.put, List.setIfInBounds_toArray, List.set_cons_zero, List.set_cons_succ]
  refine wpAnyH_take (i := 7) (oi := ?oia7) (v := ?va7) ?hia7 (by kernel_rfl) (by kernel_rfl) (by kernel_rfl) ?hQa7 (Or.inl ⟨?h1a7, ?hya7⟩) hHeld ?resta7
  case hia7 => (simp only [List.getElem?_toArray, List.getElem?_cons_succ, List.getElem?_cons_zero]; rfl)
  case hQa7 => exact fun _ _ _ h => h
  case h1a7 => rfl
  case hya7 => intro V hSV; (try dsimp only at hSV); go_simp; (try with_reducible rfl)
  try simp only [Act.put, List.setIfInBounds_toArray, List.set_cons_zero, List.set_cons_succ]
  refine wpAnyH_ready (rs := [8]) (by kernel_rfl) (by simp) ?_
  refine AllReadyH.cons (o := ?oa8) ?hoa8 (fun K hK => ?hsa8) AllReadyH.nil
  case hoa8 => (simp only [List.getElem?_toArray, List.getElem?_cons_succ, List.getElem?_cons_zero]; rfl)
  go_simp
  go_at_call 65
  refine (HGV.out SS _).mono ?_
  rintro e w3 ⟨rfl, hg3, hb3⟩
  have HG3 := hide hg3
  have HB3 := hide hb3
  clear hg3 hb3
  try go_wp2_with fail
  refine hK.out _ _ (HS.out _ (And.intro (HX2.out.1.on HB3.out) (HX2.out.2.on HB3.out))) (fun hHeld => ?_)
  clear hK K
  try simp only [Act.put, List.setIfInBounds_toArray, List.set_cons_zero, List.set_cons_succ]
  refine wpAnyH_take (i := 9) (oi := ?oia9) (v := ?va9) ?hia9 (by kernel_rfl) (by kernel_rfl) (by kernel_rfl) ?hQa9 (Or.inl ⟨?h1a9, ?hya9⟩) hHeld ?resta9
  case hia9 => (simp only [List.getElem?_toArray, List.getElem?_cons_succ, List.getElem?_cons_zero]; rfl)
  case hQa9 => exact fun _ _ _ h => h
  case h1a9 => rfl
  case hya9 => intro V hSV; (try dsimp only at hSV); go_simp; (try with_reducible rfl)
  try simp only [Act.put, List.setIfInBounds_toArray, List.set_cons_zero, List.set_cons_succ]
  refine wpAnyH_take (i := 10) (oi := ?oia10) (v := ?va10) ?hia10 (by kernel_rfl) (by kernel_rfl) (by kernel_rfl) ?hQa10 (Or.inl ⟨?h1a10, ?hya10⟩) hHeld ?resta10
  case hia10 => (simp only [List.getElem?_toArray, List.getElem?_cons_succ, List.getElem?_cons_zero]; rfl)
  case hQa10 => exact fun _ _ _ h => h
  case h1a10 => rfl
  case hya10 => intro V hSV; (try dsimp only at hSV); go_simp; (try with_reducible rfl)
  try simp only [Act.put, List.setIfInBounds_toArray, List.set_cons_zero, List.set_cons_succ]
  refine wpAnyH_take (i := 11) (oi := ?oia11) (v := ?va11) ?hia11 (by kernel_rfl) (by kernel_rfl) (by kernel_rfl) ?hQa11 (Or.inl ⟨?h1a11, ?hya11⟩) hHeld ?resta11
  case hia11 => (simp only [List.getElem?_toArray, List.getElem?_cons_succ, List.getElem?_cons_zero]; rfl)
  case hQa11 => exact fun _ _ _ h => h
  case h1a11 => rfl
  case hya11 => intro V hSV; (try dsimp only at hSV); go_simp; (try with_reducible rfl)
  try simp only [Act.put, List.setIfInBounds_toArray, List.set_cons_zero, List.set_cons_succ]
  refine wpAnyH_take (i := 12) (oi := ?oia12) (v := ?va12) ?hia12 (by kernel_rfl) (by kernel_rfl) (by kernel_rfl) ?hQa12 (Or.inl ⟨?h1a12, ?hya12⟩) hHeld ?resta12
  case hia12 => (simp only [List.getElem?_toArray, List.getElem?_cons_succ, List.getElem?_cons_zero]; rfl)
  case hQa12 => exact fun _ _ _ h => h
  case h1a12 => rfl
  case hya12 => intro V hSV; (try dsimp only at hSV); go_simp; (try with_reducible rfl)
  try simp only [Act.put, List.setIfInBounds_toArray, List.set_cons_zero, List.set_cons_succ]
  refine wpAnyH_done (by kernel_rfl) ?_ _
  clear hHeld
  go_wp2
  go_ret2
  exact ⟨SS, w1, w2, rfl, HB.out.trans (HB1.out.mono HB.out.size), HK2.out, HQ2.out, HG3.out, HB3.out⟩

set_option maxRecDepth 20000 in
theorem sgSign_on (G S : Nat) (msg : ByteArray) (z : ByteArray) (c : Int) (Q : World → Prop) (w : World) (hG : Blk w G [.pointer (some ⟨S, 0, none⟩)] 142)
    (h : Calls Tryz.prog 99 #[.pointer (some ⟨S, 0, none⟩), .string msg] w fun e w' => e = .returned (.tuple #[.string z, .int .i64 c]) ∧ Q w') :
    Calls Tryz.prog 52 #[.pointer (some ⟨G, 0, none⟩), .string msg] w fun e w' => e = .returned (.tuple #[.string z, .int .i64 c]) ∧ Q w' := by
  have H := hide h
  have c0 : w.cell? ⟨G, 0, none⟩ = some (.pointer (some ⟨S, 0, none⟩)) := hG.cell 0
  clear h hG
  go_enter Tryz.func52, Tryz.ntmps52
  go_wp2_with fail
  refine H.out.mono ?_
  rintro e w1 ⟨rfl, hq⟩
  have HQ := hide hq
  clear hq
  go_wp2
  go_ret2
  exact ⟨rfl, HQ.out⟩

set_option maxRecDepth 20000 in
theorem sgReserve_on (G S : Nat) (m : Int) (z c : Int) (Q : World → Prop) (w : World) (hG : Blk w G [.pointer (some ⟨S, 0, none⟩)] 142)
    (h : Calls Tryz.prog 72 #[.pointer (some ⟨S, 0, none⟩), .int .i64 m] w fun e w' => e = .returned (.tuple #[.int .i64 z, .int .i64 c]) ∧ Q w') :
    Calls Tryz.prog 31 #[.pointer (some ⟨G, 0, none⟩), .int .i64 m] w fun e w' => e = .returned (.tuple #[.int .i64 z, .int .i64 c]) ∧ Q w' := by
  have H := hide h
  have c0 : w.cell? ⟨G, 0, none⟩ = some (.pointer (some ⟨S, 0, none⟩)) := hG.cell 0
  clear h hG
  go_enter Tryz.func31, Tryz.ntmps31
  go_wp2_with fail
  refine H.out.mono ?_
  rintro e w1 ⟨rfl, hq⟩
  have HQ := hide hq
  clear hq
  go_wp2
  go_ret2
  exact ⟨rfl, HQ.out⟩

set_option maxRecDepth 20000 in
theorem sgKey_on (G S : Nat)  (z : ByteArray) (Q : World → Prop) (w : World) (hG : Blk w G [.pointer (some ⟨S, 0, none⟩)] 142)
    (h : Calls Tryz.prog 98 #[.pointer (some ⟨S, 0, none⟩)] w fun e w' => e = .returned (.string z) ∧ Q w') :
    Calls Tryz.prog 51 #[.pointer (some ⟨G, 0, none⟩)] w fun e w' => e = .returned (.string z) ∧ Q w' := by
  have H := hide h
  have c0 : w.cell? ⟨G, 0, none⟩ = some (.pointer (some ⟨S, 0, none⟩)) := hG.cell 0
  clear h hG
  go_enter Tryz.func51, Tryz.ntmps51
  go_wp2_with fail
  refine H.out.mono ?_
  rintro e w1 ⟨rfl, hq⟩
  have HQ := hide hq
  clear hq
  go_wp2
  go_ret
  exact ⟨rfl, HQ.out⟩

set_option maxRecDepth 20000 in
set_option maxHeartbeats 2000000 in
theorem sgState_on (G S : Nat) (nx bd q : Int) (w : World) (hG : Blk w G [.pointer (some ⟨S, 0, none⟩)] 142)
    (h : ∀ V : World, Below w.heap.size w V → Calls Tryz.prog 71 #[.pointer (some ⟨S, 0, none⟩)] V fun e w' => e = .returned (.agg #[.int .i64 nx, .int .i64 bd, .int .i64 q, .bool false]) ∧ Below V.heap.size V w') :
    Calls Tryz.prog 30 #[.pointer (some ⟨G, 0, none⟩)] w fun e w' => e = .returned (.agg #[.int .i64 nx, .int .i64 bd, .int .i64 q, .bool false]) ∧ Below w.heap.size w w' := by
  obtain ⟨W0, hW⟩ : ∃ W0, w.alloc (.cells #[.int .i64 0, .int .i64 0, .int .i64 0, .bool false] 79) = W0 := ⟨_, rfl⟩
  have HB := hide (show Below w.heap.size w W0 by subst hW; exact (Below.refl _ _).alloc (Nat.le_refl _) _)
  have HK := hide (show Blk W0 w.heap.size [.int .i64 0, .int .i64 0, .int .i64 0, .bool false] 79 by rw [← hW]; exact Blk.new w _ _)
  have H := hide (h W0 HB.out)
  have c0 : W0.cell? ⟨G, 0, none⟩ = some (.pointer (some ⟨S, 0, none⟩)) := (hG.on HB.out).cell 0
  have c0' : (w.alloc (.cells #[.int .i64 0, .int .i64 0, .int .i64 0, .bool false] 79)).cell? ⟨G, 0, none⟩ = some (.pointer (some ⟨S, 0, none⟩)) := by rw [hW]; exact c0
  have HZ := hide (show w.heap.size < W0.heap.size by subst hW; simp)
  have HWE := hide hW
  clear h hG hW c0
  go_enter Tryz.func30, Tryz.ntmps30
  go_wp2_with fail
  rw [HWE.out]
  refine H.out.mono ?_
  rintro e w4 ⟨rfl, hb4⟩
  have HK4 := hide (HK.out.on hb4)
  have HB4 := hide hb4
  have r0 : w4.cell? ⟨w.heap.size, 0, none⟩ = some (.int .i64 0) := HK4.out.cell 0
  have r1 : w4.cell? ⟨w.heap.size, 1, none⟩ = some (.int .i64 0) := HK4.out.cell 1
  have r2 : w4.cell? ⟨w.heap.size, 2, none⟩ = some (.int .i64 0) := HK4.out.cell 2
  have r3 : w4.cell? ⟨w.heap.size, 3, none⟩ = some (.bool false) := HK4.out.cell 3
  have f0 := HK4.out.free 0
  have f1 := HK4.out.free 1
  have f2 := HK4.out.free 2
  have f3 := HK4.out.free 3
  clear hb4 c0'
  go_wp2
  have HK9 := hide ((((HK4.out.set 0 (.int .i64 nx)).set 1 (.int .i64 bd)).set 2 (.int .i64 q)).set 3 (.bool false))
  have v0 := HK9.out.cell 0
  have v1 := HK9.out.cell 1
  have v2 := HK9.out.cell 2
  have v3 := HK9.out.cell 3
  have HB9 := hide (HB.out.trans (((((HB4.out.mono (Nat.le_of_lt HZ.out)).setCell (p := ⟨w.heap.size, 0, none⟩) (Nat.le_refl _) (.int .i64 nx)).setCell (p := ⟨w.heap.size, 1, none⟩) (Nat.le_refl _) (.int .i64 bd)).setCell (p := ⟨w.heap.size, 2, none⟩) (Nat.le_refl _) (.int .i64 q)).setCell (p := ⟨w.heap.size, 3, none⟩) (Nat.le_refl _) (.bool false)))
  clear r0 r1 r2 r3 f0 f1 f2 f3
  generalize (((w4.setCell ⟨w.heap.size, 0, none⟩ (.int .i64 nx)).setCell ⟨w.heap.size, 1, none⟩ (.int .i64 bd)).setCell ⟨w.heap.size, 2, none⟩ (.int .i64 q)).setCell ⟨w.heap.size, 3, none⟩ (.bool false) = W9 at v0 v1 v2 v3 HB9 ⊢
  simp only [List.getElem?_cons_zero, List.getElem?_cons_succ, List.set_cons_zero, List.set_cons_succ] at v0 v1 v2 v3
  refine bodyPost_ret (v := .agg #[.int .i64 nx, .int .i64 bd, .int .i64 q, .bool false]) (by simp [results, Tryz.results30, go_sem, v0, v1, v2, v3]) rfl ⟨rfl, ?_⟩
  exact HB9.out
end Go.Proofs.YtgaoeoijdpdjiabGreatDoor
