/-
  A trail's signer is opened, and again over a copy of the disk.
-/
import Derived.Test.YtgaoeoijdpdjiabGreatDoorPart47
namespace Go.Proofs.YtgaoeoijdpdjiabGreatDoor
open Go.RowKit
theorem blk_dr {w : World} {b : Nat} {vs : List Value} {T : TypeId} (h : Blk w b vs T) : Blk w.drew b vs T := h
theorem owns_dr {w : World} {lo : Nat} {e : TypeId} {sz : Nat} {v : Value} {n : Nat} {xs : List Value} (h : w.ownsRow lo e sz v n xs) : w.drew.ownsRow lo e sz v n xs := h
theorem own_type {w : World} {lo : Nat} {e : TypeId} {sz : Nat} {v : Value} {n : Nat} {xs : List Value} {b : Nat} (h : w.ownsRow lo e sz v n xs) (hb : v.ownBlock = some b) : (w.heap[b]?).map (fun o => match o with | .cells _ T _ => some T | _ => none) = some (some e) := by
  rcases h.2 with ⟨rfl, _⟩ | ⟨g, cap, cur, rfl, _, hg, _⟩
  · simp [Value.ownBlock] at hb
  · have e' : g = b := by simpa [Value.ownBlock] using hb
    subst e'
    rw [hg]; rfl
theorem blk_neT {w : World} {a b : Nat} {vs us : List Value} {T U : TypeId} (h : Blk w a vs T) (k : Blk w b us U) (hn : T ≠ U) : a ≠ b := by
  intro e
  subst e
  unfold Blk at h k
  rw [h] at k
  simp only [Option.some.injEq, Obj.cells.injEq] at k
  exact hn k.2.1
set_option maxRecDepth 20000 in
set_option maxHeartbeats 16000000 in
theorem opened_some (lo : Nat) (TR H SD : Nat) (k b x t l : Int) (s1 s2 s3 o1 o2 o3 : ByteArray) (sv bv gv : Value) (ba : Option Addr) (m bc : Nat) (B : List Int) (su go : Int) (kd a bb : Int) (tx : ByteArray) (ka : Option Addr) (kn kc : Nat) (bt : Int) (n : Nat) (nx q : Int) (X : Nat → Prop) (Q1 Q2 Q3 Q4 : Nat → World → Prop) (w : World) (hH : Blk w H (hallC SD k b x t l s1 s2 s3 o1 o2 o3 sv bv gv) 65) (hTR : Blk w TR (trC H (.slice ba m bc) su go) 58) (nT : ¬ X TR) (nH : ¬ X H) (hX : ∀ q, X q → q < w.heap.size) (hm : m ≤ 8796093022208) (hin : nx ∈ B) (hsu : su ≤ nx) (hgo : go ≤ nx)
    (hO : ∀ V, Below w.heap.size w V → w.heap.size < V.heap.size → Calls Tryz.prog 55 #[.pointer (some ⟨SD, 0, none⟩), .agg #[.int .i64 k, .int .i64 b, .int .i64 x, .int .i64 t, .int .i64 l], .agg #[.string s1, .string s2, .string s3], .int .i64 bt] V fun e w' => ∃ G1, e = .returned (.tuple #[.pointer (some ⟨G1, 0, none⟩), .int .i64 0]) ∧ Kept X V w' ∧ Q1 G1 w')
    (hCa : ∀ G1 V, Q1 G1 V → Calls Tryz.prog 24 #[.pointer (some ⟨H, 0, none⟩), .pointer (some ⟨G1, 0, none⟩), .int .i64 0, .int .i64 bt] V fun e w' => e = .returned (.bool true) ∧ (∀ vs T, Blk V w.heap.size vs T → Blk w' w.heap.size vs T) ∧ V.heap.size ≤ w'.heap.size ∧ Q2 G1 w')
    (hQ2 : ∀ G1 V, Q2 G1 V → Blk V TR (trC H (.slice ba m bc) su go) 58 ∧ V.ownsRow lo 3 1 (.slice ba m bc) m (B.map (.int .i64)))
    (hSt : ∀ G1 V, Q2 G1 V → Calls Tryz.prog 30 #[.pointer (some ⟨G1, 0, none⟩)] V fun e w' => e = .returned (.agg #[.int .i64 nx, .int .i64 nx, .int .i64 q, .bool false]) ∧ Below V.heap.size V w')
    (hM : ∀ G1 V2 V, Q2 G1 V2 → Below V2.heap.size V2 V → Calls Tryz.prog 21 #[.pointer (some ⟨H, 0, none⟩), .slice ka kn kc, .int .i64 n] V fun e w' => e = .returned (.bool true) ∧ (∀ i vs T, V2.heap.size ≤ i ∨ i = w.heap.size → Blk V i vs T → Blk w' i vs T) ∧ Q3 G1 w')
    (hSt2 : ∀ G1 V V2, Q3 G1 V → Below V.heap.size V V2 → Calls Tryz.prog 30 #[.pointer (some ⟨G1, 0, none⟩)] V2 fun e w' => e = .returned (.agg #[.int .i64 nx, .int .i64 nx, .int .i64 q, .bool true]) ∧ Below V2.heap.size V2 w')
    (hQ3 : ∀ G1 V, Q3 G1 V → ∃ SD2 sv2 bv2 gv2, Blk V TR (trC H (.slice ba m bc) su go) 58 ∧ Blk V H (hallC SD2 k b x t l s1 s2 s3 o1 o2 o3 sv2 bv2 gv2) 65 ∧ ∀ V2, Below V.heap.size V V2 → Calls Tryz.prog 55 #[.pointer (some ⟨SD2, 0, none⟩), .agg #[.int .i64 k, .int .i64 b, .int .i64 x, .int .i64 t, .int .i64 l], .agg #[.string s1, .string s2, .string s3], .int .i64 bt] V2 fun e w' => ∃ G2, e = .returned (.tuple #[.pointer (some ⟨G2, 0, none⟩), .int .i64 0]) ∧ (∀ i vs T, V.heap.size ≤ i → Blk V2 i vs T → Blk w' i vs T) ∧ (∀ i vs T, i < V.heap.size → Blk V i vs T → T = 79 → Blk w' i vs T) ∧ Blk w' TR (trC H (.slice ba m bc) su go) 58 ∧ Blk w' H (hallC SD2 k b x t l s1 s2 s3 o1 o2 o3 sv2 bv2 gv2) 65 ∧ Q4 G2 w')
    (hSt3 : ∀ G2 V, Q4 G2 V → Calls Tryz.prog 30 #[.pointer (some ⟨G2, 0, none⟩)] V fun e w' => e = .returned (.agg #[.int .i64 nx, .int .i64 nx, .int .i64 q, .bool false]) ∧ Below V.heap.size V w')
    (hQ4 : ∀ G2 V, Q4 G2 V → ∃ SD2 sa n1 sc ba2 bc2 gv2 xs ys, Blk V H (hallC SD2 k b x t l s1 s2 s3 o1 o2 o3 (.slice sa n1 sc) (.slice ba2 n1 bc2) gv2) 65 ∧ V.ownsRow lo 67 1 (.slice sa n1 sc) n1 xs ∧ V.ownsRow lo 3 1 (.slice ba2 n1 bc2) n1 ys ∧ n1 ≤ 8796093022208 ∧ lo ≤ V.heap.size ∧ Blk V TR (trC H (.slice ba m bc) su go) 58) :
    Calls Tryz.prog 22 #[.pointer (some ⟨TR, 0, none⟩), .agg #[.int .i64 kd, .int .i64 a, .int .i64 bb, .string tx, .slice ka kn kc], .int .i64 bt, .int .i64 n] w fun e w' => e = .returned (.bool true) ∧ ∃ G2 V SD2 sa n1 sc ba2 bc2 gv2 xs ys, Q4 G2 V ∧ Blk V H (hallC SD2 k b x t l s1 s2 s3 o1 o2 o3 (.slice sa n1 sc) (.slice ba2 n1 bc2) gv2) 65 ∧ V.ownsRow lo 67 1 (.slice sa n1 sc) n1 xs ∧ V.ownsRow lo 3 1 (.slice ba2 n1 bc2) n1 ys ∧ ∃ g c1 g2 c2, Blk w' H (hallC SD2 k b x t l s1 s2 s3 o1 o2 o3 (.slice (some ⟨g, 0, none⟩) (n1 + 1) c1) (.slice (some ⟨g2, 0, none⟩) (n1 + 1) c2) gv2) 65 ∧ w'.ownsRow lo 67 1 (.slice (some ⟨g, 0, none⟩) (n1 + 1) c1) (n1 + 1) (xs ++ [.pointer (some ⟨G2, 0, none⟩)]) ∧ w'.ownsRow lo 3 1 (.slice (some ⟨g2, 0, none⟩) (n1 + 1) c2) (n1 + 1) (ys ++ [.int .i64 bt]) ∧ Kept (fun i => i = H ∨ (Value.slice sa n1 sc).ownBlock = some i ∨ (Value.slice ba2 n1 bc2).ownBlock = some i) V w' ∧ ((Value.slice sa n1 sc).ownBlock = some g ∨ V.heap.size ≤ g) ∧ ((Value.slice ba2 n1 bc2).ownBlock = some g2 ∨ V.heap.size ≤ g2) ∧ g ≠ g2 := by
  obtain ⟨i0, hi0, hz0, hz1, hz2⟩ := info_parts infoSg
  obtain ⟨i1, hi1, hy0, hy1, hy2⟩ := info_parts infoIn
  obtain ⟨W0, hW⟩ : ∃ W0, w.alloc (.cells #[.int .i64 kd, .int .i64 a, .int .i64 bb, .string tx, .slice ka kn kc] 53) = W0 := ⟨_, rfl⟩
  have HB := hide (show Below w.heap.size w W0 by subst hW; exact (Below.refl _ _).alloc (Nat.le_refl _) _)
  have HH0 := hide (hH.on HB.out)
  have HT0 := hide (hTR.on HB.out)
  have HSX := hide (show Blk W0 w.heap.size [.int .i64 kd, .int .i64 a, .int .i64 bb, .string tx, .slice ka kn kc] 53 by subst hW; exact Blk.new w _ _)
  have HX := hide (And.intro nT (And.intro nH hX))
  have HO := hide (fun (V : World) (h : Below W0.heap.size W0 V) => hO V (HB.out.trans (h.mono HB.out.size)) (Nat.lt_of_lt_of_le HSX.out.lt h.size))
  have HCA := hide hCa
  have HQ2 := hide hQ2
  have HST := hide hSt
  have HM := hide hM
  have HST2 := hide hSt2
  have HQ3 := hide hQ3
  have HST3 := hide hSt3
  have HQ4 := hide hQ4
  have HMB := hide hm
  have HIN := hide hin
  have dsu : decide (nx < su) = false := decide_eq_false (by omega)
  have dgo : decide (nx < go) = false := decide_eq_false (by omega)
  have dnx : (nx == nx) = true := by simp
  have HS := hide (fun (V : World) (h : Blk V TR (trC H (.slice ba m bc) su go) 58 ∧ Blk V H (hallC SD k b x t l s1 s2 s3 o1 o2 o3 sv bv gv) 65) => (by
    obtain ⟨q1, q2⟩ := h
    exact ⟨q1.cell 0, q2.cell 0, q2.cell 1, q2.cell 2, q2.cell 3, q2.cell 4, q2.cell 5, q2.cell 6, q2.cell 7, q2.cell 11⟩ : V.cell? ⟨TR, 0, none⟩ = some (.pointer (some ⟨H, 0, none⟩)) ∧ V.cell? ⟨H, 0, none⟩ = some (.int .i64 k) ∧ V.cell? ⟨H, 1, none⟩ = some (.int .i64 b) ∧ V.cell? ⟨H, 2, none⟩ = some (.int .i64 x) ∧ V.cell? ⟨H, 3, none⟩ = some (.int .i64 t) ∧ V.cell? ⟨H, 4, none⟩ = some (.int .i64 l) ∧ V.cell? ⟨H, 5, none⟩ = some (.string s1) ∧ V.cell? ⟨H, 6, none⟩ = some (.string s2) ∧ V.cell? ⟨H, 7, none⟩ = some (.string s3) ∧ V.cell? ⟨H, 11, none⟩ = some (.pointer (some ⟨SD, 0, none⟩))))
  have HWE := hide hW
  clear hW hH hTR nT nH hX hO hCa hQ2 hSt hM hSt2 hQ3 hSt3 hQ4 hm hin hsu hgo
  go_enter Tryz.func22, Tryz.ntmps22
  go_wp2_with fail
  rw [HWE.out]
  refine wp_region_held_drew (S := fun V => V.cell? ⟨TR, 0, none⟩ = some (.pointer (some ⟨H, 0, none⟩)) ∧ V.cell? ⟨H, 0, none⟩ = some (.int .i64 k) ∧ V.cell? ⟨H, 1, none⟩ = some (.int .i64 b) ∧ V.cell? ⟨H, 2, none⟩ = some (.int .i64 x) ∧ V.cell? ⟨H, 3, none⟩ = some (.int .i64 t) ∧ V.cell? ⟨H, 4, none⟩ = some (.int .i64 l) ∧ V.cell? ⟨H, 5, none⟩ = some (.string s1) ∧ V.cell? ⟨H, 6, none⟩ = some (.string s2) ∧ V.cell? ⟨H, 7, none⟩ = some (.string s3) ∧ V.cell? ⟨H, 11, none⟩ = some (.pointer (some ⟨SD, 0, none⟩))) (by kernel_rfl) (HS.out _ (⟨HT0.out, HH0.out⟩)) (fun hHeld => ?_)
  refine tk 0 hHeld (h := ?_)
  refine tk 1 hHeld (h := ?_)
  refine tk 2 hHeld (h := ?_)
  refine tk 3 hHeld (h := ?_)
  refine tk 4 hHeld (h := ?_)
  refine tk 5 hHeld (h := ?_)
  refine tk 6 hHeld (h := ?_)
  refine tk 7 hHeld (h := ?_)
  refine tk 8 hHeld (h := ?_)
  refine tk 9 hHeld (h := ?_)
  refine tk 10 hHeld (h := ?_)
  refine tk 11 hHeld (h := ?_)
  refine tk 12 hHeld (h := ?_)
  refine tk 13 hHeld (h := ?_)
  refine tk 14 hHeld (h := ?_)
  refine tk 15 hHeld (h := ?_)
  refine tk 16 hHeld (h := ?_)
  refine tk 17 hHeld (h := ?_)
  refine tk 18 hHeld (h := ?_)
  refine tk 19 hHeld (h := ?_)
  refine tk 20 hHeld (h := ?_)
  refine tk 21 hHeld (h := ?_)
  refine wpAnyH_ready (rs := [22]) (by kernel_rfl) (by simp) ?_
  refine AllReadyH.cons (o := ?oa22) ?hoa22 (fun K hK => ?hsa22) AllReadyH.nil
  case hoa22 => (simp only [List.getElem?_toArray, List.getElem?_cons_succ, List.getElem?_cons_zero]; rfl)
  go_simp
  go_at_call 55
  refine (HO.out _ ((Below.refl W0.heap.size W0).drew)).mono ?_
  rintro e w1 ⟨G1, rfl, hk1, hq1⟩
  have HQ1 := hide hq1
  have HT1 := hide (blkK (w := W0.drew) HT0.out hk1 HX.out.1)
  have HH1 := hide (blkK (w := W0.drew) HH0.out hk1 HX.out.2.1)
  have HX1 := hide (blkK (w := W0.drew) HSX.out hk1 (fun e => by have := HX.out.2.2 _ e; omega))
  clear hk1 hq1
  try go_wp2_with fail
  refine hK.out _ _ (HS.out _ (⟨HT1.out, HH1.out⟩)) (fun hHeld => ?_)
  clear hK K
  try simp only [Act.put, List.setIfInBounds_toArray, List.set_cons_zero, List.set_cons_succ]
  refine tk 23 hHeld (h := ?_)
  refine tk 24 hHeld (h := ?_)
  refine tk 25 hHeld (h := ?_)
  refine tk 26 hHeld (h := ?_)
  refine tk 27 hHeld (h := ?_)
  refine wpAnyH_done (by kernel_rfl) ?_ _
  clear hHeld HS
  have t0 : w1.cell? ⟨TR, 0, none⟩ = some (.pointer (some ⟨H, 0, none⟩)) := HT1.out.cell 0
  have HC1 := hide (HCA.out _ _ HQ1.out)
  go_wp2_with fail
  refine HC1.out.mono ?_
  rintro e w2 ⟨rfl, hbx2, _, hq2⟩
  have HX2 := hide (hbx2 _ _ HX1.out)
  have HQ2' := hide hq2
  obtain ⟨hT2, hR2⟩ := HQ2.out _ _ hq2
  have HT2 := hide hT2
  have HR2 := hide hR2
  have HS2 := hide (HST.out _ _ hq2)
  clear hbx2 hq2 hT2 hR2 t0
  go_wp2_with fail
  refine HS2.out.mono ?_
  rintro e w3 ⟨rfl, hb3⟩
  obtain ⟨W3, hW3⟩ : ∃ W3, w3.alloc (.cells #[.int .i64 nx, .int .i64 nx, .int .i64 q, .bool false] 79) = W3 := ⟨_, rfl⟩
  obtain ⟨SB, hSB⟩ : ∃ SB, w3.heap.size = SB := ⟨_, rfl⟩
  have HB3 := hide (show Below w2.heap.size w2 W3 by rw [← hW3]; exact hb3.alloc hb3.size _)
  have HBX := hide (show Blk W3 SB [.int .i64 nx, .int .i64 nx, .int .i64 q, .bool false] 79 by rw [← hW3, ← hSB]; exact Blk.new w3 _ _)
  have HSBL := hide (show w2.heap.size ≤ SB by rw [← hSB]; exact hb3.size)
  have HT3 := hide (HT2.out.on HB3.out)
  have HX3 := hide (HX2.out.on HB3.out)
  have HR3 := hide (owns_kept HR2.out (Kept.of_below (F := fun _ => False) HB3.out) (fun _ _ h => h))
  have HAM := hide (among_any lo ba m bc B nx W3.drew HR3.out HMB.out)
  rw [decide_eq_true HIN.out] at HAM
  have HM3 := hide (fun (V : World) (h : Below W3.heap.size W3 V) => HM.out _ _ V HQ2'.out (HB3.out.trans (h.mono HB3.out.size)))
  have HWE3 := hide hW3
  have HSE := hide hSB
  clear hb3 hW3 hSB
  have HS := hide (fun (V : World) (h : Blk V TR (trC H (.slice ba m bc) su go) 58 ∧ Blk V SB [.int .i64 nx, .int .i64 nx, .int .i64 q, .bool false] 79) => (⟨h.1.cell 1, h.2.cell 0⟩ : V.cell? ⟨TR, 1, none⟩ = some (.slice ba m bc) ∧ V.cell? ⟨SB, 0, none⟩ = some (.int .i64 nx)))
  go_wp2_with fail
  rw [HWE3.out, HSE.out]
  refine wp_region_held_drew (S := fun V => V.cell? ⟨TR, 1, none⟩ = some (.slice ba m bc) ∧ V.cell? ⟨SB, 0, none⟩ = some (.int .i64 nx)) (by kernel_rfl) (HS.out _ (⟨HT3.out, HBX.out⟩)) (fun hHeld => ?_)
  refine tk 0 hHeld (h := ?_)
  refine tk 1 hHeld (h := ?_)
  refine tk 2 hHeld (h := ?_)
  refine tk 3 hHeld (h := ?_)
  refine tk 4 hHeld (h := ?_)
  refine tk 5 hHeld (h := ?_)
  refine wpAnyH_ready (rs := [6]) (by kernel_rfl) (by simp) ?_
  refine AllReadyH.cons (o := ?ob6) ?hob6 (fun K hK => ?hsb6) AllReadyH.nil
  case hob6 => (simp only [List.getElem?_toArray, List.getElem?_cons_succ, List.getElem?_cons_zero]; rfl)
  go_simp
  go_at_call 64
  refine HAM.out.mono ?_
  rintro e w4 ⟨rfl, hw4⟩
  subst hw4
  try go_wp2_with fail
  refine hK.out _ _ (HS.out _ (⟨HT3.out, HBX.out⟩)) (fun hHeld => ?_)
  clear hK K
  try simp only [Act.put, List.setIfInBounds_toArray, List.set_cons_zero, List.set_cons_succ]
  refine tk 7 hHeld (h := ?_)
  refine wpAnyH_done (by kernel_rfl) ?_ _
  clear hHeld HS
  have HS := hide (fun (V : World) (h : Blk V TR (trC H (.slice ba m bc) su go) 58 ∧ Blk V SB [.int .i64 nx, .int .i64 nx, .int .i64 q, .bool false] 79) => (⟨h.2.cell 0, h.2.cell 1, h.2.cell 3, h.1.cell 2, h.1.cell 3⟩ : V.cell? ⟨SB, 0, none⟩ = some (.int .i64 nx) ∧ V.cell? ⟨SB, 1, none⟩ = some (.int .i64 nx) ∧ V.cell? ⟨SB, 3, none⟩ = some (.bool false) ∧ V.cell? ⟨TR, 2, none⟩ = some (.int .i64 su) ∧ V.cell? ⟨TR, 3, none⟩ = some (.int .i64 go)))
  go_wp2_with fail
  refine wp_region_held_drew (S := fun V => V.cell? ⟨SB, 0, none⟩ = some (.int .i64 nx) ∧ V.cell? ⟨SB, 1, none⟩ = some (.int .i64 nx) ∧ V.cell? ⟨SB, 3, none⟩ = some (.bool false) ∧ V.cell? ⟨TR, 2, none⟩ = some (.int .i64 su) ∧ V.cell? ⟨TR, 3, none⟩ = some (.int .i64 go)) (by kernel_rfl) (HS.out _ (⟨HT3.out, HBX.out⟩)) (fun hHeld => ?_)
  refine tk 0 hHeld (h := ?_)
  refine tk 1 hHeld (h := ?_)
  refine tk 2 hHeld (h := ?_)
  refine tk 3 hHeld (h := ?_)
  refine tk 4 hHeld (h := ?_)
  refine tk 5 hHeld (h := ?_)
  refine tk 6 hHeld (h := ?_)
  refine tk 7 hHeld (h := ?_)
  refine tk 8 hHeld (h := ?_)
  refine tk 9 hHeld (h := ?_)
  refine tk 10 hHeld (h := ?_)
  refine tk 11 hHeld (h := ?_)
  refine tk 12 hHeld (h := ?_)
  refine tk 13 hHeld (h := ?_)
  refine tk 14 hHeld (h := ?_)
  refine tk 15 hHeld (h := ?_)
  refine tk 16 hHeld (h := ?_)
  refine tk 17 hHeld (h := ?_)
  refine tk 18 hHeld (h := ?_)
  refine tk 19 hHeld (h := ?_)
  refine tk 20 hHeld (h := ?_)
  refine tk 21 hHeld (h := ?_)
  refine tk 22 hHeld (h := ?_)
  refine tk 23 hHeld (h := ?_)
  refine tk 24 hHeld (h := ?_)
  refine tk 25 hHeld (h := ?_)
  refine tk 26 hHeld (h := ?_)
  refine tk 27 hHeld (h := ?_)
  refine tk 28 hHeld (h := ?_)
  refine tk 29 hHeld (h := ?_)
  refine tk 30 hHeld (h := ?_)
  refine wpAnyH_done (by kernel_rfl) ?_ _
  clear hHeld HS
  have HS := hide (fun (V : World) (h : Blk V TR (trC H (.slice ba m bc) su go) 58 ∧ Blk V w.heap.size [.int .i64 kd, .int .i64 a, .int .i64 bb, .string tx, .slice ka kn kc] 53) => (⟨h.1.cell 0, h.2.cell 4⟩ : V.cell? ⟨TR, 0, none⟩ = some (.pointer (some ⟨H, 0, none⟩)) ∧ V.cell? ⟨w.heap.size, 4, none⟩ = some (.slice ka kn kc)))
  go_wp2_with fail
  refine wp_region_held_drew (S := fun V => V.cell? ⟨TR, 0, none⟩ = some (.pointer (some ⟨H, 0, none⟩)) ∧ V.cell? ⟨w.heap.size, 4, none⟩ = some (.slice ka kn kc)) (by kernel_rfl) (HS.out _ (⟨HT3.out, HX3.out⟩)) (fun hHeld => ?_)
  refine tk 0 hHeld (h := ?_)
  refine tk 1 hHeld (h := ?_)
  refine tk 2 hHeld (h := ?_)
  refine tk 3 hHeld (h := ?_)
  refine tk 4 hHeld (h := ?_)
  refine tk 5 hHeld (h := ?_)
  refine tk 6 hHeld (h := ?_)
  refine wpAnyH_ready (rs := [7]) (by kernel_rfl) (by simp) ?_
  refine AllReadyH.cons (o := ?od7) ?hod7 (fun K hK => ?hsd7) AllReadyH.nil
  case hod7 => (simp only [List.getElem?_toArray, List.getElem?_cons_succ, List.getElem?_cons_zero]; rfl)
  go_simp
  go_at_call 21
  refine (HM3.out _ ((Below.refl W3.heap.size W3).drew.drew.drew)).mono ?_
  rintro e w5 ⟨rfl, hbx5, hq5⟩
  have HX5 := hide (hbx5 _ _ _ (.inr rfl) HX3.out)
  have HBX5 := hide (hbx5 _ _ _ (.inl HSBL.out) HBX.out)
  have HQ3' := hide hq5
  obtain ⟨SD2, sv2, bv2, gv2, hT5, hH5, hO5⟩ := HQ3.out _ _ hq5
  have HT5 := hide hT5
  have HH5 := hide hH5
  have HO5 := hide hO5
  have HS5 := hide (HST2.out _ _ _ hq5 (Below.refl _ _))
  clear hbx5 hq5 hT5 hH5 hO5
  try go_wp2_with fail
  refine hK.out _ _ (HS.out _ (⟨HT5.out, HX5.out⟩)) (fun hHeld => ?_)
  clear hK K
  try simp only [Act.put, List.setIfInBounds_toArray, List.set_cons_zero, List.set_cons_succ]
  refine tk 8 hHeld (h := ?_)
  refine wpAnyH_done (by kernel_rfl) ?_ _
  clear hHeld HS
  go_wp2_with fail
  refine HS5.out.mono ?_
  rintro e w6 ⟨rfl, hb6⟩
  obtain ⟨W6, hW6⟩ : ∃ W6, w6.alloc (.cells #[.int .i64 nx, .int .i64 nx, .int .i64 q, .bool true] 79) = W6 := ⟨_, rfl⟩
  have HB6 := hide (show Below w5.heap.size w5 W6 by rw [← hW6]; exact hb6.alloc hb6.size _)
  have HT6 := hide (HT5.out.on HB6.out)
  have HH6 := hide (HH5.out.on HB6.out)
  have HBX6 := hide (HBX5.out.on HB6.out)
  have x3' : (w6.alloc (.cells #[.int .i64 nx, .int .i64 nx, .int .i64 q, .bool true] 79)).cell? ⟨w6.heap.size, 3, none⟩ = some (.bool true) := (Blk.new w6 [.int .i64 nx, .int .i64 nx, .int .i64 q, .bool true] 79).cell 3
  have HBXL := hide HBX5.out.lt
  have HWE6 := hide hW6
  clear hb6 hW6
  have HS := hide (fun (V : World) (h : Blk V TR (trC H (.slice ba m bc) su go) 58 ∧ Blk V H (hallC SD2 k b x t l s1 s2 s3 o1 o2 o3 sv2 bv2 gv2) 65) => (by
    obtain ⟨q1, q2⟩ := h
    exact ⟨q1.cell 0, q2.cell 0, q2.cell 1, q2.cell 2, q2.cell 3, q2.cell 4, q2.cell 5, q2.cell 6, q2.cell 7, q2.cell 11⟩ : V.cell? ⟨TR, 0, none⟩ = some (.pointer (some ⟨H, 0, none⟩)) ∧ V.cell? ⟨H, 0, none⟩ = some (.int .i64 k) ∧ V.cell? ⟨H, 1, none⟩ = some (.int .i64 b) ∧ V.cell? ⟨H, 2, none⟩ = some (.int .i64 x) ∧ V.cell? ⟨H, 3, none⟩ = some (.int .i64 t) ∧ V.cell? ⟨H, 4, none⟩ = some (.int .i64 l) ∧ V.cell? ⟨H, 5, none⟩ = some (.string s1) ∧ V.cell? ⟨H, 6, none⟩ = some (.string s2) ∧ V.cell? ⟨H, 7, none⟩ = some (.string s3) ∧ V.cell? ⟨H, 11, none⟩ = some (.pointer (some ⟨SD2, 0, none⟩))))
  go_wp2_with fail
  rw [HWE6.out]
  clear x3'
  refine wp_region_held_drew (S := fun V => V.cell? ⟨TR, 0, none⟩ = some (.pointer (some ⟨H, 0, none⟩)) ∧ V.cell? ⟨H, 0, none⟩ = some (.int .i64 k) ∧ V.cell? ⟨H, 1, none⟩ = some (.int .i64 b) ∧ V.cell? ⟨H, 2, none⟩ = some (.int .i64 x) ∧ V.cell? ⟨H, 3, none⟩ = some (.int .i64 t) ∧ V.cell? ⟨H, 4, none⟩ = some (.int .i64 l) ∧ V.cell? ⟨H, 5, none⟩ = some (.string s1) ∧ V.cell? ⟨H, 6, none⟩ = some (.string s2) ∧ V.cell? ⟨H, 7, none⟩ = some (.string s3) ∧ V.cell? ⟨H, 11, none⟩ = some (.pointer (some ⟨SD2, 0, none⟩))) (by kernel_rfl) (HS.out _ (⟨HT6.out, HH6.out⟩)) (fun hHeld => ?_)
  refine tk 0 hHeld (h := ?_)
  refine tk 1 hHeld (h := ?_)
  refine tk 2 hHeld (h := ?_)
  refine tk 3 hHeld (h := ?_)
  refine tk 4 hHeld (h := ?_)
  refine tk 5 hHeld (h := ?_)
  refine tk 6 hHeld (h := ?_)
  refine tk 7 hHeld (h := ?_)
  refine tk 8 hHeld (h := ?_)
  refine tk 9 hHeld (h := ?_)
  refine tk 10 hHeld (h := ?_)
  refine tk 11 hHeld (h := ?_)
  refine tk 12 hHeld (h := ?_)
  refine tk 13 hHeld (h := ?_)
  refine tk 14 hHeld (h := ?_)
  refine tk 15 hHeld (h := ?_)
  refine tk 16 hHeld (h := ?_)
  refine tk 17 hHeld (h := ?_)
  refine tk 18 hHeld (h := ?_)
  refine tk 19 hHeld (h := ?_)
  refine tk 20 hHeld (h := ?_)
  refine tk 21 hHeld (h := ?_)
  refine wpAnyH_ready (rs := [22]) (by kernel_rfl) (by simp) ?_
  refine AllReadyH.cons (o := ?oe22) ?hoe22 (fun K hK => ?hse22) AllReadyH.nil
  case hoe22 => (simp only [List.getElem?_toArray, List.getElem?_cons_succ, List.getElem?_cons_zero]; rfl)
  go_simp
  go_at_call 55
  refine (HO5.out _ HB6.out.drew).mono ?_
  rintro e w7 ⟨G2, rfl, hnb7, hob7, hT7, hH7, hq7⟩
  have HQ4' := hide hq7
  have HT7 := hide hT7
  have HH7 := hide hH7
  have HBX7 := hide (hob7 _ _ _ HBXL.out HBX5.out rfl)
  have HS7 := hide (HST3.out _ _ hq7)
  clear hnb7 hob7 hT7 hH7 hq7
  try go_wp2_with fail
  refine hK.out _ _ (HS.out _ (⟨HT7.out, HH7.out⟩)) (fun hHeld => ?_)
  clear hK K
  try simp only [Act.put, List.setIfInBounds_toArray, List.set_cons_zero, List.set_cons_succ]
  refine tk 23 hHeld (h := ?_)
  refine tk 24 hHeld (h := ?_)
  refine tk 25 hHeld (h := ?_)
  refine tk 26 hHeld (h := ?_)
  refine tk 27 hHeld (h := ?_)
  refine wpAnyH_done (by kernel_rfl) ?_ _
  clear hHeld HS
  obtain ⟨SD3, sa, n1, sc, ba2, bc2, gv3, xs, ys, hH7b, hr7, hr7b, hn1, hl7, hT7b⟩ := HQ4.out _ _ HQ4'.out
  have HA := hide hH7b
  have HRS := hide hr7
  have HRB := hide hr7b
  have HLO := hide hl7
  have HN1 := hide hn1
  clear hH7b hr7 hr7b hn1 hl7 hT7b
  go_wp2_with fail
  refine HS7.out.mono ?_
  rintro e w8 ⟨rfl, hb8⟩
  obtain ⟨W8, hW8⟩ : ∃ W8, w8.alloc (.cells #[.int .i64 nx, .int .i64 nx, .int .i64 q, .bool false] 79) = W8 := ⟨_, rfl⟩
  obtain ⟨S3, hS3⟩ : ∃ S3, w8.heap.size = S3 := ⟨_, rfl⟩
  have HB8 := hide (show Below w7.heap.size w7 W8 by rw [← hW8]; exact hb8.alloc hb8.size _)
  have HBY := hide (show Blk W8 S3 [.int .i64 nx, .int .i64 nx, .int .i64 q, .bool false] 79 by rw [← hW8, ← hS3]; exact Blk.new w8 _ _)
  have HBX8 := hide (HBX7.out.on HB8.out)
  have HT8 := hide (HT7.out.on HB8.out)
  have HA8 := hide (HA.out.on HB8.out)
  have HRS8 := hide (owns_kept HRS.out (Kept.of_below (F := fun _ => False) HB8.out) (fun _ _ h => h))
  have HRB8 := hide (owns_kept HRB.out (Kept.of_below (F := fun _ => False) HB8.out) (fun _ _ h => h))
  have HLO8 := hide (Nat.le_trans HLO.out HB8.out.size)
  have HWE8 := hide hW8
  have HSE3 := hide hS3
  have N1 : Hid (n1 + 1 ≤ maxLen) := by show _ ≤ _; have := HN1.out; unfold maxLen; omega
  have N2 : Hid ((n1 + 1) * 8 ≤ 140737488355328) := by show _ ≤ _; have := HN1.out; omega
  clear hb8 hW8 hS3
  go_wp2_with fail
  rw [HWE8.out, HSE3.out]
  have HNN0 := hide (show ∀ i, (Value.slice sa n1 sc).ownBlock = some i → (Value.slice ba2 n1 bc2).ownBlock ≠ some i from fun i e1 e2 => by have a1 := own_type HRS8.out e1; have a2 := own_type HRB8.out e2; rw [a1] at a2; simp at a2)
  have HS := hide (fun (V : World) (h : Blk V TR (trC H (.slice ba m bc) su go) 58) => (h.cell 0 : V.cell? ⟨TR, 0, none⟩ = some (.pointer (some ⟨H, 0, none⟩))))
  refine wp_region_held_drew (S := fun V => V.cell? ⟨TR, 0, none⟩ = some (.pointer (some ⟨H, 0, none⟩))) (by kernel_rfl) (HS.out _ HT8.out) (fun hHeld => ?_)
  have HTd0 := hide (blk_dr HT8.out)
  have HAd0 := hide (blk_dr HA8.out)
  have HXd0 := hide (blk_dr HBX8.out)
  have HYd0 := hide (blk_dr HBY.out)
  have HSd0 := hide (owns_dr HRS8.out)
  have HBd0 := hide (owns_dr HRB8.out)
  have HLd0 := hide (show lo ≤ W8.drew.heap.size from HLO8.out)
  have HWd0 := hide (show Below W8.heap.size W8 W8.drew from (Below.refl _ _).drew)
  generalize W8.drew = Wd0 at HTd0 HAd0 HXd0 HYd0 HSd0 HBd0 HLd0 HWd0 hHeld ⊢
  refine tk 0 hHeld (h := ?_)
  refine tk 1 hHeld (h := ?_)
  refine tk 2 hHeld (h := ?_)
  refine tk 3 hHeld (h := ?_)
  refine tk 4 hHeld (h := ?_)
  refine tk 5 hHeld (h := ?_)
  refine tk 6 hHeld (h := ?_)
  refine tk 7 hHeld (h := ?_)
  refine tk 8 hHeld (h := ?_)
  refine tk 9 hHeld (h := ?_)
  refine tk 11 hHeld (h := ?_)
  refine wpAnyH_ready (rs := [10, 12]) (by kernel_rfl) (by simp) ?_
  refine AllReadyH.cons (o := ?oA1) ?hA1 (fun K hK => ?sA1) (AllReadyH.cons (o := ?oB1) ?hB1 (fun K hK => ?sB1) AllReadyH.nil)
  case hA1 => (simp only [List.getElem?_toArray, List.getElem?_cons_succ, List.getElem?_cons_zero]; rfl)
  case hB1 => (simp only [List.getElem?_toArray, List.getElem?_cons_succ, List.getElem?_cons_zero]; rfl)
  case sA1 =>
    have cH := HAd0.out.cell 12
    simp only [hallC, List.getElem?_cons_zero, List.getElem?_cons_succ] at cH
    go_simp
    clear cH
    refine hK.out _ _ (HS.out _ (HTd0.out)) (fun hHeld => ?_)
    clear hK K
    try simp only [Act.put, List.setIfInBounds_toArray, List.set_cons_zero, List.set_cons_succ]
    refine wpAnyH_ready (rs := [12]) (by kernel_rfl) (by simp) ?_
    refine AllReadyH.cons (o := ?oA2) ?hA2 (fun K hK => ?sA2) AllReadyH.nil
    case hA2 => (simp only [List.getElem?_toArray, List.getElem?_cons_succ, List.getElem?_cons_zero]; rfl)
    go_simp
    obtain ⟨Wl0, hWl⟩ : ∃ Wl, Wd0.alloc (.cells #[.pointer (some ⟨G2, 0, none⟩)] 67) = Wl := ⟨_, rfl⟩
    have HBl0 := hide (show Below Wd0.heap.size Wd0 Wl0 by rw [← hWl]; exact (Below.refl _ _).alloc (Nat.le_refl _) _)
    have HTl0 := hide (HTd0.out.on HBl0.out)
    have HAl0 := hide (HAd0.out.on HBl0.out)
    have HXl0 := hide (HXd0.out.on HBl0.out)
    have HYl0 := hide (HYd0.out.on HBl0.out)
    have HSl0 := hide (owns_kept HSd0.out (Kept.of_below (F := fun _ => False) HBl0.out) (fun _ _ h => h))
    have HRl0 := hide (owns_kept HBd0.out (Kept.of_below (F := fun _ => False) HBl0.out) (fun _ _ h => h))
    have HNW0 := hide (show ∀ j u, [.pointer (some ⟨G2, 0, none⟩)][j]? = some u → Wl0.cell? ((⟨Wd0.heap.size, 0, none⟩ : Addr).add j) = some u by rw [← hWl]; exact one_newO Wd0 _ _)
    have HZl0 := hide (show Wl0.heap.size = Wd0.heap.size + 1 by rw [← hWl]; exact World.size_alloc _ _)
    rw [hWl]
    clear hWl
    refine hK.out _ _ (HS.out _ (HTl0.out)) (fun hHeld => ?_)
    clear hK K
    try simp only [Act.put, List.setIfInBounds_toArray, List.set_cons_zero, List.set_cons_succ]
    refine wpAnyH_ready (rs := [13]) (by kernel_rfl) (by simp) ?_
    refine AllReadyH.cons (o := ?oA3) ?hA3 (fun K hK => ?sA3) AllReadyH.nil
    case hA3 => (simp only [List.getElem?_toArray, List.getElem?_cons_succ, List.getElem?_cons_zero]; rfl)
    refine step_append_lies _ (by rfl) (.tmp 155) (.tmp 157) 62 (by rfl) lo 67 i0 (.pointer none) 1 8 Tryz.underlying62 hi0 hz0 hz1 hz2 (by rfl) (by decide) (.slice sa n1 sc) n1 xs (by rfl) HSl0.out ⟨Wd0.heap.size, 0, none⟩ 1 1 [.pointer (some ⟨G2, 0, none⟩)] (by rfl) (by rfl) HNW0.out (fun u hu => by rw [List.mem_singleton] at hu; rw [hu]; rfl) (by decide) N1.out N2.out (Nat.le_trans HLd0.out HBl0.out.size) (Wd0.heap.size + 1) HZl0.out ?_
    intro g0 cp0 wa0 hown hgrow hat hlt
    have hKa := kept_grown hgrow
    have HTa0 := hide (blkK HTl0.out hKa (owns_ne_blk HSl0.out HTl0.out (by decide)))
    have HAa0 := hide (blkK HAl0.out hKa (owns_ne_blk HSl0.out HAl0.out (by decide)))
    have HXa0 := hide (blkK HXl0.out hKa (owns_ne_blk HSl0.out HXl0.out (by decide)))
    have HYa0 := hide (blkK HYl0.out hKa (owns_ne_blk HSl0.out HYl0.out (by decide)))
    have HOa0 := hide (owns_kept HRl0.out hKa (fun i e1 e2 => HNN0.out i e2 e1))
    have HNa0 := hide hown
    have HAT0 := hide (show (Value.slice sa n1 sc).ownBlock = some g0 ∨ Wd0.heap.size ≤ g0 by
      rcases hat with e1 | e1
      · exact .inl e1
      · exact .inr (by omega))
    have HKa0 := hide (show Kept (fun i => (Value.slice sa n1 sc).ownBlock = some i) Wd0 wa0 from Kept.grown (w := Wl0) (Kept.of_below HBl0.out) hgrow (fun i e1 => .inl e1))
    have HGH0 := hide (show g0 ≠ H from fun e1 => by subst e1; exact absurd rfl (owns_ne_blk hown HAa0.out (by decide)))
    have HGL0 := hide hlt
    clear hown hgrow hat hlt hKa
    refine hK.out _ _ (HS.out _ (HTa0.out)) (fun hHeld => ?_)
    clear hK K
    try simp only [Act.put, List.setIfInBounds_toArray, List.set_cons_zero, List.set_cons_succ]
    refine tk 14 hHeld (h := ?_)
    refine tk 15 hHeld (h := ?_)
    have ff1 := HAa0.out.free 12
    have cc1 := HAa0.out.cell 12
    simp only [hallC, List.getElem?_cons_zero, List.getElem?_cons_succ] at cc1
    have hTH : TR ≠ H := blk_neT HTa0.out HAa0.out (by decide)
    have hXH := blk_neT HXa0.out HAa0.out (by decide)
    have hYH := blk_neT HYa0.out HAa0.out (by decide)
    obtain ⟨Ws0, hWs⟩ : ∃ Ws, wa0.setCell ⟨H, 12, none⟩ (.slice (some ⟨g0, 0, none⟩) (n1 + 1) cp0) = Ws := ⟨_, rfl⟩
    have HAs0 := hide (show Blk (wa0.setCell ⟨H, 12, none⟩ (.slice (some ⟨g0, 0, none⟩) (n1 + 1) cp0)) H (hallC SD3 k b x t l s1 s2 s3 o1 o2 o3 (.slice (some ⟨g0, 0, none⟩) (n1 + 1) cp0) (.slice ba2 n1 bc2) gv3) 65 from HAa0.out.set 12 (.slice (some ⟨g0, 0, none⟩) (n1 + 1) cp0))
    have HTs0 := hide (HTa0.out.other (a := ⟨H, 12, none⟩) (.slice (some ⟨g0, 0, none⟩) (n1 + 1) cp0) hTH)
    have HXs0 := hide (HXa0.out.other (a := ⟨H, 12, none⟩) (.slice (some ⟨g0, 0, none⟩) (n1 + 1) cp0) hXH)
    have HYs0 := hide (HYa0.out.other (a := ⟨H, 12, none⟩) (.slice (some ⟨g0, 0, none⟩) (n1 + 1) cp0) hYH)
    have HNs0 := hide (owns_kept HNa0.out (kept_set wa0 ⟨H, 12, none⟩ (.slice (some ⟨g0, 0, none⟩) (n1 + 1) cp0)) (fun i e1 hk => by
      have e2 : g0 = i := by simpa [Value.ownBlock] using e1
      exact HGH0.out (e2.trans hk)))
    have HOs0 := hide (owns_kept HOa0.out (kept_set wa0 ⟨H, 12, none⟩ (.slice (some ⟨g0, 0, none⟩) (n1 + 1) cp0)) (fun i e1 hk => by
      have hk2 : i = H := hk
      subst hk2
      exact owns_ne_blk HOa0.out HAa0.out (by decide) e1))
    have HKs0 := hide (show Kept (fun i => i = H ∨ (Value.slice sa n1 sc).ownBlock = some i) Wd0 (wa0.setCell ⟨H, 12, none⟩ (.slice (some ⟨g0, 0, none⟩) (n1 + 1) cp0)) from (HKa0.out.mono (fun i _ e1 => .inr e1)).setCell (.inl (.inl rfl)) _)
    rw [hWs] at HAs0 HTs0 HXs0 HYs0 HNs0 HOs0 HKs0
    refine wpAnyH_ready (rs := [16]) (by kernel_rfl) (by simp) ?_
    refine AllReadyH.cons (o := ?oA4) ?hA4 (fun K hK => ?sA4) AllReadyH.nil
    case hA4 => (simp only [List.getElem?_toArray, List.getElem?_cons_succ, List.getElem?_cons_zero]; rfl)
    go_simp
    try rw [hWs]
    clear ff1 cc1 hTH hXH hYH hWs
    refine hK.out _ _ (HS.out _ (HTs0.out)) (fun hHeld => ?_)
    clear hK K
    try simp only [Act.put, List.setIfInBounds_toArray, List.set_cons_zero, List.set_cons_succ]
    refine wpAnyH_done (by kernel_rfl) ?_ _
    clear hHeld HS
    have HLO9 := hide (Nat.le_trans HLd0.out HKs0.out.size)
    have HNN1 := hide (show ∀ i, (Value.slice ba2 n1 bc2).ownBlock = some i → (Value.slice (some ⟨g0, 0, none⟩) (n1 + 1) cp0).ownBlock ≠ some i from fun i e1 e2 => by have a1 := own_type HOs0.out e1; have a2 := own_type HNs0.out e2; rw [a1] at a2; simp at a2)
    go_wp2_with fail
    have HS := hide (fun (V : World) (h : Blk V TR (trC H (.slice ba m bc) su go) 58) => (h.cell 0 : V.cell? ⟨TR, 0, none⟩ = some (.pointer (some ⟨H, 0, none⟩))))
    refine wp_region_held_drew (S := fun V => V.cell? ⟨TR, 0, none⟩ = some (.pointer (some ⟨H, 0, none⟩))) (by kernel_rfl) (HS.out _ HTs0.out) (fun hHeld => ?_)
    have HTd1 := hide (blk_dr HTs0.out)
    have HAd1 := hide (blk_dr HAs0.out)
    have HXd1 := hide (blk_dr HXs0.out)
    have HYd1 := hide (blk_dr HYs0.out)
    have HSd1 := hide (owns_dr HNs0.out)
    have HBd1 := hide (owns_dr HOs0.out)
    have HLd1 := hide (show lo ≤ Ws0.drew.heap.size from HLO9.out)
    have HWd1 := hide (show Below Ws0.heap.size Ws0 Ws0.drew from (Below.refl _ _).drew)
    generalize Ws0.drew = Wd1 at HTd1 HAd1 HXd1 HYd1 HSd1 HBd1 HLd1 HWd1 hHeld ⊢
    refine tk 0 hHeld (h := ?_)
    refine tk 1 hHeld (h := ?_)
    refine tk 2 hHeld (h := ?_)
    refine tk 3 hHeld (h := ?_)
    refine tk 4 hHeld (h := ?_)
    refine tk 5 hHeld (h := ?_)
    refine tk 6 hHeld (h := ?_)
    refine tk 7 hHeld (h := ?_)
    refine tk 8 hHeld (h := ?_)
    refine tk 9 hHeld (h := ?_)
    refine tk 11 hHeld (h := ?_)
    refine wpAnyH_ready (rs := [10, 12]) (by kernel_rfl) (by simp) ?_
    refine AllReadyH.cons (o := ?oA5) ?hA5 (fun K hK => ?sA5) (AllReadyH.cons (o := ?oB5) ?hB5 (fun K hK => ?sB5) AllReadyH.nil)
    case hA5 => (simp only [List.getElem?_toArray, List.getElem?_cons_succ, List.getElem?_cons_zero]; rfl)
    case hB5 => (simp only [List.getElem?_toArray, List.getElem?_cons_succ, List.getElem?_cons_zero]; rfl)
    case sA5 =>
      have cH := HAd1.out.cell 13
      simp only [hallC, List.getElem?_cons_zero, List.getElem?_cons_succ] at cH
      go_simp
      clear cH
      refine hK.out _ _ (HS.out _ (HTd1.out)) (fun hHeld => ?_)
      clear hK K
      try simp only [Act.put, List.setIfInBounds_toArray, List.set_cons_zero, List.set_cons_succ]
      refine wpAnyH_ready (rs := [12]) (by kernel_rfl) (by simp) ?_
      refine AllReadyH.cons (o := ?oA6) ?hA6 (fun K hK => ?sA6) AllReadyH.nil
      case hA6 => (simp only [List.getElem?_toArray, List.getElem?_cons_succ, List.getElem?_cons_zero]; rfl)
      go_simp
      obtain ⟨Wl1, hWl⟩ : ∃ Wl, Wd1.alloc (.cells #[.int .i64 bt] 3) = Wl := ⟨_, rfl⟩
      have HBl1 := hide (show Below Wd1.heap.size Wd1 Wl1 by rw [← hWl]; exact (Below.refl _ _).alloc (Nat.le_refl _) _)
      have HTl1 := hide (HTd1.out.on HBl1.out)
      have HAl1 := hide (HAd1.out.on HBl1.out)
      have HXl1 := hide (HXd1.out.on HBl1.out)
      have HYl1 := hide (HYd1.out.on HBl1.out)
      have HSl1 := hide (owns_kept HSd1.out (Kept.of_below (F := fun _ => False) HBl1.out) (fun _ _ h => h))
      have HRl1 := hide (owns_kept HBd1.out (Kept.of_below (F := fun _ => False) HBl1.out) (fun _ _ h => h))
      have HNW1 := hide (show ∀ j u, [.int .i64 bt][j]? = some u → Wl1.cell? ((⟨Wd1.heap.size, 0, none⟩ : Addr).add j) = some u by rw [← hWl]; exact one_newO Wd1 _ _)
      have HZl1 := hide (show Wl1.heap.size = Wd1.heap.size + 1 by rw [← hWl]; exact World.size_alloc _ _)
      rw [hWl]
      clear hWl
      refine hK.out _ _ (HS.out _ (HTl1.out)) (fun hHeld => ?_)
      clear hK K
      try simp only [Act.put, List.setIfInBounds_toArray, List.set_cons_zero, List.set_cons_succ]
      refine wpAnyH_ready (rs := [13]) (by kernel_rfl) (by simp) ?_
      refine AllReadyH.cons (o := ?oA7) ?hA7 (fun K hK => ?sA7) AllReadyH.nil
      case hA7 => (simp only [List.getElem?_toArray, List.getElem?_cons_succ, List.getElem?_cons_zero]; rfl)
      refine step_append_lies _ (by rfl) (.tmp 171) (.tmp 173) 56 (by rfl) lo 3 i1 (.int .i64 0) 1 8 Tryz.underlying56 hi1 hy0 hy1 hy2 (by rfl) (by decide) (.slice ba2 n1 bc2) n1 ys (by rfl) HRl1.out ⟨Wd1.heap.size, 0, none⟩ 1 1 [.int .i64 bt] (by rfl) (by rfl) HNW1.out (fun u hu => by rw [List.mem_singleton] at hu; rw [hu]; rfl) (by decide) N1.out N2.out (Nat.le_trans HLd1.out HBl1.out.size) (Wd1.heap.size + 1) HZl1.out ?_
      intro g1 cp1 wa1 hown hgrow hat hlt
      have hKa := kept_grown hgrow
      have HTa1 := hide (blkK HTl1.out hKa (owns_ne_blk HRl1.out HTl1.out (by decide)))
      have HAa1 := hide (blkK HAl1.out hKa (owns_ne_blk HRl1.out HAl1.out (by decide)))
      have HXa1 := hide (blkK HXl1.out hKa (owns_ne_blk HRl1.out HXl1.out (by decide)))
      have HYa1 := hide (blkK HYl1.out hKa (owns_ne_blk HRl1.out HYl1.out (by decide)))
      have HOa1 := hide (owns_kept HSl1.out hKa (fun i e1 e2 => HNN1.out i e2 e1))
      have HNa1 := hide hown
      have HAT1 := hide (show (Value.slice ba2 n1 bc2).ownBlock = some g1 ∨ Wd1.heap.size ≤ g1 by
        rcases hat with e1 | e1
        · exact .inl e1
        · exact .inr (by omega))
      have HKa1 := hide (show Kept (fun i => (Value.slice ba2 n1 bc2).ownBlock = some i) Wd1 wa1 from Kept.grown (w := Wl1) (Kept.of_below HBl1.out) hgrow (fun i e1 => .inl e1))
      have HGH1 := hide (show g1 ≠ H from fun e1 => by subst e1; exact absurd rfl (owns_ne_blk hown HAa1.out (by decide)))
      have HGL1 := hide hlt
      clear hown hgrow hat hlt hKa
      refine hK.out _ _ (HS.out _ (HTa1.out)) (fun hHeld => ?_)
      clear hK K
      try simp only [Act.put, List.setIfInBounds_toArray, List.set_cons_zero, List.set_cons_succ]
      refine tk 14 hHeld (h := ?_)
      refine tk 15 hHeld (h := ?_)
      have ff1 := HAa1.out.free 13
      have cc1 := HAa1.out.cell 13
      simp only [hallC, List.getElem?_cons_zero, List.getElem?_cons_succ] at cc1
      have hTH : TR ≠ H := blk_neT HTa1.out HAa1.out (by decide)
      have hXH := blk_neT HXa1.out HAa1.out (by decide)
      have hYH := blk_neT HYa1.out HAa1.out (by decide)
      obtain ⟨Ws1, hWs⟩ : ∃ Ws, wa1.setCell ⟨H, 13, none⟩ (.slice (some ⟨g1, 0, none⟩) (n1 + 1) cp1) = Ws := ⟨_, rfl⟩
      have HAs1 := hide (show Blk (wa1.setCell ⟨H, 13, none⟩ (.slice (some ⟨g1, 0, none⟩) (n1 + 1) cp1)) H (hallC SD3 k b x t l s1 s2 s3 o1 o2 o3 (.slice (some ⟨g0, 0, none⟩) (n1 + 1) cp0) (.slice (some ⟨g1, 0, none⟩) (n1 + 1) cp1) gv3) 65 from HAa1.out.set 13 (.slice (some ⟨g1, 0, none⟩) (n1 + 1) cp1))
      have HTs1 := hide (HTa1.out.other (a := ⟨H, 13, none⟩) (.slice (some ⟨g1, 0, none⟩) (n1 + 1) cp1) hTH)
      have HXs1 := hide (HXa1.out.other (a := ⟨H, 13, none⟩) (.slice (some ⟨g1, 0, none⟩) (n1 + 1) cp1) hXH)
      have HYs1 := hide (HYa1.out.other (a := ⟨H, 13, none⟩) (.slice (some ⟨g1, 0, none⟩) (n1 + 1) cp1) hYH)
      have HNs1 := hide (owns_kept HNa1.out (kept_set wa1 ⟨H, 13, none⟩ (.slice (some ⟨g1, 0, none⟩) (n1 + 1) cp1)) (fun i e1 hk => by
        have e2 : g1 = i := by simpa [Value.ownBlock] using e1
        exact HGH1.out (e2.trans hk)))
      have HOs1 := hide (owns_kept HOa1.out (kept_set wa1 ⟨H, 13, none⟩ (.slice (some ⟨g1, 0, none⟩) (n1 + 1) cp1)) (fun i e1 hk => by
        have hk2 : i = H := hk
        subst hk2
        exact owns_ne_blk HOa1.out HAa1.out (by decide) e1))
      have HKs1 := hide (show Kept (fun i => i = H ∨ (Value.slice ba2 n1 bc2).ownBlock = some i) Wd1 (wa1.setCell ⟨H, 13, none⟩ (.slice (some ⟨g1, 0, none⟩) (n1 + 1) cp1)) from (HKa1.out.mono (fun i _ e1 => .inr e1)).setCell (.inl (.inl rfl)) _)
      rw [hWs] at HAs1 HTs1 HXs1 HYs1 HNs1 HOs1 HKs1
      refine wpAnyH_ready (rs := [16]) (by kernel_rfl) (by simp) ?_
      refine AllReadyH.cons (o := ?oA8) ?hA8 (fun K hK => ?sA8) AllReadyH.nil
      case hA8 => (simp only [List.getElem?_toArray, List.getElem?_cons_succ, List.getElem?_cons_zero]; rfl)
      go_simp
      try rw [hWs]
      clear ff1 cc1 hTH hXH hYH hWs
      refine hK.out _ _ (HS.out _ (HTs1.out)) (fun hHeld => ?_)
      clear hK K
      try simp only [Act.put, List.setIfInBounds_toArray, List.set_cons_zero, List.set_cons_succ]
      refine wpAnyH_done (by kernel_rfl) ?_ _
      clear hHeld HS
      have z1 : Ws1.cell? ⟨SB, 0, none⟩ = some (.int .i64 nx) := HXs1.out.cell 0
      have y1 : Ws1.cell? ⟨S3, 0, none⟩ = some (.int .i64 nx) := HYs1.out.cell 0
      have z2 : Ws1.cell? ⟨SB, 1, none⟩ = some (.int .i64 nx) := HXs1.out.cell 1
      have y2 : Ws1.cell? ⟨S3, 1, none⟩ = some (.int .i64 nx) := HYs1.out.cell 1
      have z3 : Ws1.cell? ⟨SB, 2, none⟩ = some (.int .i64 q) := HXs1.out.cell 2
      have y3 : Ws1.cell? ⟨S3, 2, none⟩ = some (.int .i64 q) := HYs1.out.cell 2
      have z4 : Ws1.cell? ⟨SB, 3, none⟩ = some (.bool false) := HXs1.out.cell 3
      have y4 : Ws1.cell? ⟨S3, 3, none⟩ = some (.bool false) := HYs1.out.cell 3
      have HFK := hide (show Kept (fun i => i = H ∨ (Value.slice sa n1 sc).ownBlock = some i ∨ (Value.slice ba2 n1 bc2).ownBlock = some i) w7 Ws1 from (((Kept.of_below HB8.out).after HWd0.out).trans HKs0.out (fun i e1 => .inl (e1.imp id .inl))).after HWd1.out |>.trans HKs1.out (fun i e1 => .inl (e1.imp id .inr)))
      have HG1 := hide (show (Value.slice sa n1 sc).ownBlock = some g0 ∨ w7.heap.size ≤ g0 from HAT0.out.imp id (fun e1 => Nat.le_trans (Nat.le_trans HB8.out.size HWd0.out.size) e1))
      have HG2 := hide (show (Value.slice ba2 n1 bc2).ownBlock = some g1 ∨ w7.heap.size ≤ g1 from HAT1.out.imp id (fun e1 => Nat.le_trans (Nat.le_trans (Nat.le_trans (Nat.le_trans HB8.out.size HWd0.out.size) HKs0.out.size) HWd1.out.size) e1))
      have HGN := hide (show g0 ≠ g1 from fun e1 => by subst e1; have a1 := own_type (b := g0) HOs1.out rfl; have a2 := own_type (b := g0) HNs1.out rfl; rw [a1] at a2; simp at a2)
      clear dsu dgo
      go_wp2
      go_ret
      exact ⟨rfl, G2, w7, SD3, sa, n1, sc, ba2, bc2, gv3, xs, ys, HQ4'.out, HA.out, HRS.out, HRB.out, g0, cp0, g1, cp1, HAs1.out, HOs1.out, HNs1.out, HFK.out, HG1.out, HG2.out, HGN.out⟩
    case sB5 =>
      go_simp
      obtain ⟨Wl1, hWl⟩ : ∃ Wl, Wd1.alloc (.cells #[.int .i64 bt] 3) = Wl := ⟨_, rfl⟩
      have HBl1 := hide (show Below Wd1.heap.size Wd1 Wl1 by rw [← hWl]; exact (Below.refl _ _).alloc (Nat.le_refl _) _)
      have HTl1 := hide (HTd1.out.on HBl1.out)
      have HAl1 := hide (HAd1.out.on HBl1.out)
      have HXl1 := hide (HXd1.out.on HBl1.out)
      have HYl1 := hide (HYd1.out.on HBl1.out)
      have HSl1 := hide (owns_kept HSd1.out (Kept.of_below (F := fun _ => False) HBl1.out) (fun _ _ h => h))
      have HRl1 := hide (owns_kept HBd1.out (Kept.of_below (F := fun _ => False) HBl1.out) (fun _ _ h => h))
      have HNW1 := hide (show ∀ j u, [.int .i64 bt][j]? = some u → Wl1.cell? ((⟨Wd1.heap.size, 0, none⟩ : Addr).add j) = some u by rw [← hWl]; exact one_newO Wd1 _ _)
      have HZl1 := hide (show Wl1.heap.size = Wd1.heap.size + 1 by rw [← hWl]; exact World.size_alloc _ _)
      rw [hWl]
      clear hWl
      refine hK.out _ _ (HS.out _ (HTl1.out)) (fun hHeld => ?_)
      clear hK K
      try simp only [Act.put, List.setIfInBounds_toArray, List.set_cons_zero, List.set_cons_succ]
      refine wpAnyH_ready (rs := [10]) (by kernel_rfl) (by simp) ?_
      refine AllReadyH.cons (o := ?oA9) ?hA9 (fun K hK => ?sA9) AllReadyH.nil
      case hA9 => (simp only [List.getElem?_toArray, List.getElem?_cons_succ, List.getElem?_cons_zero]; rfl)
      have cH := HAl1.out.cell 13
      simp only [hallC, List.getElem?_cons_zero, List.getElem?_cons_succ] at cH
      go_simp
      clear cH
      refine hK.out _ _ (HS.out _ (HTl1.out)) (fun hHeld => ?_)
      clear hK K
      try simp only [Act.put, List.setIfInBounds_toArray, List.set_cons_zero, List.set_cons_succ]
      refine wpAnyH_ready (rs := [13]) (by kernel_rfl) (by simp) ?_
      refine AllReadyH.cons (o := ?oA10) ?hA10 (fun K hK => ?sA10) AllReadyH.nil
      case hA10 => (simp only [List.getElem?_toArray, List.getElem?_cons_succ, List.getElem?_cons_zero]; rfl)
      refine step_append_lies _ (by rfl) (.tmp 171) (.tmp 173) 56 (by rfl) lo 3 i1 (.int .i64 0) 1 8 Tryz.underlying56 hi1 hy0 hy1 hy2 (by rfl) (by decide) (.slice ba2 n1 bc2) n1 ys (by rfl) HRl1.out ⟨Wd1.heap.size, 0, none⟩ 1 1 [.int .i64 bt] (by rfl) (by rfl) HNW1.out (fun u hu => by rw [List.mem_singleton] at hu; rw [hu]; rfl) (by decide) N1.out N2.out (Nat.le_trans HLd1.out HBl1.out.size) (Wd1.heap.size + 1) HZl1.out ?_
      intro g1 cp1 wa1 hown hgrow hat hlt
      have hKa := kept_grown hgrow
      have HTa1 := hide (blkK HTl1.out hKa (owns_ne_blk HRl1.out HTl1.out (by decide)))
      have HAa1 := hide (blkK HAl1.out hKa (owns_ne_blk HRl1.out HAl1.out (by decide)))
      have HXa1 := hide (blkK HXl1.out hKa (owns_ne_blk HRl1.out HXl1.out (by decide)))
      have HYa1 := hide (blkK HYl1.out hKa (owns_ne_blk HRl1.out HYl1.out (by decide)))
      have HOa1 := hide (owns_kept HSl1.out hKa (fun i e1 e2 => HNN1.out i e2 e1))
      have HNa1 := hide hown
      have HAT1 := hide (show (Value.slice ba2 n1 bc2).ownBlock = some g1 ∨ Wd1.heap.size ≤ g1 by
        rcases hat with e1 | e1
        · exact .inl e1
        · exact .inr (by omega))
      have HKa1 := hide (show Kept (fun i => (Value.slice ba2 n1 bc2).ownBlock = some i) Wd1 wa1 from Kept.grown (w := Wl1) (Kept.of_below HBl1.out) hgrow (fun i e1 => .inl e1))
      have HGH1 := hide (show g1 ≠ H from fun e1 => by subst e1; exact absurd rfl (owns_ne_blk hown HAa1.out (by decide)))
      have HGL1 := hide hlt
      clear hown hgrow hat hlt hKa
      refine hK.out _ _ (HS.out _ (HTa1.out)) (fun hHeld => ?_)
      clear hK K
      try simp only [Act.put, List.setIfInBounds_toArray, List.set_cons_zero, List.set_cons_succ]
      refine tk 14 hHeld (h := ?_)
      refine tk 15 hHeld (h := ?_)
      have ff1 := HAa1.out.free 13
      have cc1 := HAa1.out.cell 13
      simp only [hallC, List.getElem?_cons_zero, List.getElem?_cons_succ] at cc1
      have hTH : TR ≠ H := blk_neT HTa1.out HAa1.out (by decide)
      have hXH := blk_neT HXa1.out HAa1.out (by decide)
      have hYH := blk_neT HYa1.out HAa1.out (by decide)
      obtain ⟨Ws1, hWs⟩ : ∃ Ws, wa1.setCell ⟨H, 13, none⟩ (.slice (some ⟨g1, 0, none⟩) (n1 + 1) cp1) = Ws := ⟨_, rfl⟩
      have HAs1 := hide (show Blk (wa1.setCell ⟨H, 13, none⟩ (.slice (some ⟨g1, 0, none⟩) (n1 + 1) cp1)) H (hallC SD3 k b x t l s1 s2 s3 o1 o2 o3 (.slice (some ⟨g0, 0, none⟩) (n1 + 1) cp0) (.slice (some ⟨g1, 0, none⟩) (n1 + 1) cp1) gv3) 65 from HAa1.out.set 13 (.slice (some ⟨g1, 0, none⟩) (n1 + 1) cp1))
      have HTs1 := hide (HTa1.out.other (a := ⟨H, 13, none⟩) (.slice (some ⟨g1, 0, none⟩) (n1 + 1) cp1) hTH)
      have HXs1 := hide (HXa1.out.other (a := ⟨H, 13, none⟩) (.slice (some ⟨g1, 0, none⟩) (n1 + 1) cp1) hXH)
      have HYs1 := hide (HYa1.out.other (a := ⟨H, 13, none⟩) (.slice (some ⟨g1, 0, none⟩) (n1 + 1) cp1) hYH)
      have HNs1 := hide (owns_kept HNa1.out (kept_set wa1 ⟨H, 13, none⟩ (.slice (some ⟨g1, 0, none⟩) (n1 + 1) cp1)) (fun i e1 hk => by
        have e2 : g1 = i := by simpa [Value.ownBlock] using e1
        exact HGH1.out (e2.trans hk)))
      have HOs1 := hide (owns_kept HOa1.out (kept_set wa1 ⟨H, 13, none⟩ (.slice (some ⟨g1, 0, none⟩) (n1 + 1) cp1)) (fun i e1 hk => by
        have hk2 : i = H := hk
        subst hk2
        exact owns_ne_blk HOa1.out HAa1.out (by decide) e1))
      have HKs1 := hide (show Kept (fun i => i = H ∨ (Value.slice ba2 n1 bc2).ownBlock = some i) Wd1 (wa1.setCell ⟨H, 13, none⟩ (.slice (some ⟨g1, 0, none⟩) (n1 + 1) cp1)) from (HKa1.out.mono (fun i _ e1 => .inr e1)).setCell (.inl (.inl rfl)) _)
      rw [hWs] at HAs1 HTs1 HXs1 HYs1 HNs1 HOs1 HKs1
      refine wpAnyH_ready (rs := [16]) (by kernel_rfl) (by simp) ?_
      refine AllReadyH.cons (o := ?oA11) ?hA11 (fun K hK => ?sA11) AllReadyH.nil
      case hA11 => (simp only [List.getElem?_toArray, List.getElem?_cons_succ, List.getElem?_cons_zero]; rfl)
      go_simp
      try rw [hWs]
      clear ff1 cc1 hTH hXH hYH hWs
      refine hK.out _ _ (HS.out _ (HTs1.out)) (fun hHeld => ?_)
      clear hK K
      try simp only [Act.put, List.setIfInBounds_toArray, List.set_cons_zero, List.set_cons_succ]
      refine wpAnyH_done (by kernel_rfl) ?_ _
      clear hHeld HS
      have z1 : Ws1.cell? ⟨SB, 0, none⟩ = some (.int .i64 nx) := HXs1.out.cell 0
      have y1 : Ws1.cell? ⟨S3, 0, none⟩ = some (.int .i64 nx) := HYs1.out.cell 0
      have z2 : Ws1.cell? ⟨SB, 1, none⟩ = some (.int .i64 nx) := HXs1.out.cell 1
      have y2 : Ws1.cell? ⟨S3, 1, none⟩ = some (.int .i64 nx) := HYs1.out.cell 1
      have z3 : Ws1.cell? ⟨SB, 2, none⟩ = some (.int .i64 q) := HXs1.out.cell 2
      have y3 : Ws1.cell? ⟨S3, 2, none⟩ = some (.int .i64 q) := HYs1.out.cell 2
      have z4 : Ws1.cell? ⟨SB, 3, none⟩ = some (.bool false) := HXs1.out.cell 3
      have y4 : Ws1.cell? ⟨S3, 3, none⟩ = some (.bool false) := HYs1.out.cell 3
      have HFK := hide (show Kept (fun i => i = H ∨ (Value.slice sa n1 sc).ownBlock = some i ∨ (Value.slice ba2 n1 bc2).ownBlock = some i) w7 Ws1 from (((Kept.of_below HB8.out).after HWd0.out).trans HKs0.out (fun i e1 => .inl (e1.imp id .inl))).after HWd1.out |>.trans HKs1.out (fun i e1 => .inl (e1.imp id .inr)))
      have HG1 := hide (show (Value.slice sa n1 sc).ownBlock = some g0 ∨ w7.heap.size ≤ g0 from HAT0.out.imp id (fun e1 => Nat.le_trans (Nat.le_trans HB8.out.size HWd0.out.size) e1))
      have HG2 := hide (show (Value.slice ba2 n1 bc2).ownBlock = some g1 ∨ w7.heap.size ≤ g1 from HAT1.out.imp id (fun e1 => Nat.le_trans (Nat.le_trans (Nat.le_trans (Nat.le_trans HB8.out.size HWd0.out.size) HKs0.out.size) HWd1.out.size) e1))
      have HGN := hide (show g0 ≠ g1 from fun e1 => by subst e1; have a1 := own_type (b := g0) HOs1.out rfl; have a2 := own_type (b := g0) HNs1.out rfl; rw [a1] at a2; simp at a2)
      clear dsu dgo
      go_wp2
      go_ret
      exact ⟨rfl, G2, w7, SD3, sa, n1, sc, ba2, bc2, gv3, xs, ys, HQ4'.out, HA.out, HRS.out, HRB.out, g0, cp0, g1, cp1, HAs1.out, HOs1.out, HNs1.out, HFK.out, HG1.out, HG2.out, HGN.out⟩
  case sB1 =>
    go_simp
    obtain ⟨Wl0, hWl⟩ : ∃ Wl, Wd0.alloc (.cells #[.pointer (some ⟨G2, 0, none⟩)] 67) = Wl := ⟨_, rfl⟩
    have HBl0 := hide (show Below Wd0.heap.size Wd0 Wl0 by rw [← hWl]; exact (Below.refl _ _).alloc (Nat.le_refl _) _)
    have HTl0 := hide (HTd0.out.on HBl0.out)
    have HAl0 := hide (HAd0.out.on HBl0.out)
    have HXl0 := hide (HXd0.out.on HBl0.out)
    have HYl0 := hide (HYd0.out.on HBl0.out)
    have HSl0 := hide (owns_kept HSd0.out (Kept.of_below (F := fun _ => False) HBl0.out) (fun _ _ h => h))
    have HRl0 := hide (owns_kept HBd0.out (Kept.of_below (F := fun _ => False) HBl0.out) (fun _ _ h => h))
    have HNW0 := hide (show ∀ j u, [.pointer (some ⟨G2, 0, none⟩)][j]? = some u → Wl0.cell? ((⟨Wd0.heap.size, 0, none⟩ : Addr).add j) = some u by rw [← hWl]; exact one_newO Wd0 _ _)
    have HZl0 := hide (show Wl0.heap.size = Wd0.heap.size + 1 by rw [← hWl]; exact World.size_alloc _ _)
    rw [hWl]
    clear hWl
    refine hK.out _ _ (HS.out _ (HTl0.out)) (fun hHeld => ?_)
    clear hK K
    try simp only [Act.put, List.setIfInBounds_toArray, List.set_cons_zero, List.set_cons_succ]
    refine wpAnyH_ready (rs := [10]) (by kernel_rfl) (by simp) ?_
    refine AllReadyH.cons (o := ?oA12) ?hA12 (fun K hK => ?sA12) AllReadyH.nil
    case hA12 => (simp only [List.getElem?_toArray, List.getElem?_cons_succ, List.getElem?_cons_zero]; rfl)
    have cH := HAl0.out.cell 12
    simp only [hallC, List.getElem?_cons_zero, List.getElem?_cons_succ] at cH
    go_simp
    clear cH
    refine hK.out _ _ (HS.out _ (HTl0.out)) (fun hHeld => ?_)
    clear hK K
    try simp only [Act.put, List.setIfInBounds_toArray, List.set_cons_zero, List.set_cons_succ]
    refine wpAnyH_ready (rs := [13]) (by kernel_rfl) (by simp) ?_
    refine AllReadyH.cons (o := ?oA13) ?hA13 (fun K hK => ?sA13) AllReadyH.nil
    case hA13 => (simp only [List.getElem?_toArray, List.getElem?_cons_succ, List.getElem?_cons_zero]; rfl)
    refine step_append_lies _ (by rfl) (.tmp 155) (.tmp 157) 62 (by rfl) lo 67 i0 (.pointer none) 1 8 Tryz.underlying62 hi0 hz0 hz1 hz2 (by rfl) (by decide) (.slice sa n1 sc) n1 xs (by rfl) HSl0.out ⟨Wd0.heap.size, 0, none⟩ 1 1 [.pointer (some ⟨G2, 0, none⟩)] (by rfl) (by rfl) HNW0.out (fun u hu => by rw [List.mem_singleton] at hu; rw [hu]; rfl) (by decide) N1.out N2.out (Nat.le_trans HLd0.out HBl0.out.size) (Wd0.heap.size + 1) HZl0.out ?_
    intro g0 cp0 wa0 hown hgrow hat hlt
    have hKa := kept_grown hgrow
    have HTa0 := hide (blkK HTl0.out hKa (owns_ne_blk HSl0.out HTl0.out (by decide)))
    have HAa0 := hide (blkK HAl0.out hKa (owns_ne_blk HSl0.out HAl0.out (by decide)))
    have HXa0 := hide (blkK HXl0.out hKa (owns_ne_blk HSl0.out HXl0.out (by decide)))
    have HYa0 := hide (blkK HYl0.out hKa (owns_ne_blk HSl0.out HYl0.out (by decide)))
    have HOa0 := hide (owns_kept HRl0.out hKa (fun i e1 e2 => HNN0.out i e2 e1))
    have HNa0 := hide hown
    have HAT0 := hide (show (Value.slice sa n1 sc).ownBlock = some g0 ∨ Wd0.heap.size ≤ g0 by
      rcases hat with e1 | e1
      · exact .inl e1
      · exact .inr (by omega))
    have HKa0 := hide (show Kept (fun i => (Value.slice sa n1 sc).ownBlock = some i) Wd0 wa0 from Kept.grown (w := Wl0) (Kept.of_below HBl0.out) hgrow (fun i e1 => .inl e1))
    have HGH0 := hide (show g0 ≠ H from fun e1 => by subst e1; exact absurd rfl (owns_ne_blk hown HAa0.out (by decide)))
    have HGL0 := hide hlt
    clear hown hgrow hat hlt hKa
    refine hK.out _ _ (HS.out _ (HTa0.out)) (fun hHeld => ?_)
    clear hK K
    try simp only [Act.put, List.setIfInBounds_toArray, List.set_cons_zero, List.set_cons_succ]
    refine tk 14 hHeld (h := ?_)
    refine tk 15 hHeld (h := ?_)
    have ff1 := HAa0.out.free 12
    have cc1 := HAa0.out.cell 12
    simp only [hallC, List.getElem?_cons_zero, List.getElem?_cons_succ] at cc1
    have hTH : TR ≠ H := blk_neT HTa0.out HAa0.out (by decide)
    have hXH := blk_neT HXa0.out HAa0.out (by decide)
    have hYH := blk_neT HYa0.out HAa0.out (by decide)
    obtain ⟨Ws0, hWs⟩ : ∃ Ws, wa0.setCell ⟨H, 12, none⟩ (.slice (some ⟨g0, 0, none⟩) (n1 + 1) cp0) = Ws := ⟨_, rfl⟩
    have HAs0 := hide (show Blk (wa0.setCell ⟨H, 12, none⟩ (.slice (some ⟨g0, 0, none⟩) (n1 + 1) cp0)) H (hallC SD3 k b x t l s1 s2 s3 o1 o2 o3 (.slice (some ⟨g0, 0, none⟩) (n1 + 1) cp0) (.slice ba2 n1 bc2) gv3) 65 from HAa0.out.set 12 (.slice (some ⟨g0, 0, none⟩) (n1 + 1) cp0))
    have HTs0 := hide (HTa0.out.other (a := ⟨H, 12, none⟩) (.slice (some ⟨g0, 0, none⟩) (n1 + 1) cp0) hTH)
    have HXs0 := hide (HXa0.out.other (a := ⟨H, 12, none⟩) (.slice (some ⟨g0, 0, none⟩) (n1 + 1) cp0) hXH)
    have HYs0 := hide (HYa0.out.other (a := ⟨H, 12, none⟩) (.slice (some ⟨g0, 0, none⟩) (n1 + 1) cp0) hYH)
    have HNs0 := hide (owns_kept HNa0.out (kept_set wa0 ⟨H, 12, none⟩ (.slice (some ⟨g0, 0, none⟩) (n1 + 1) cp0)) (fun i e1 hk => by
      have e2 : g0 = i := by simpa [Value.ownBlock] using e1
      exact HGH0.out (e2.trans hk)))
    have HOs0 := hide (owns_kept HOa0.out (kept_set wa0 ⟨H, 12, none⟩ (.slice (some ⟨g0, 0, none⟩) (n1 + 1) cp0)) (fun i e1 hk => by
      have hk2 : i = H := hk
      subst hk2
      exact owns_ne_blk HOa0.out HAa0.out (by decide) e1))
    have HKs0 := hide (show Kept (fun i => i = H ∨ (Value.slice sa n1 sc).ownBlock = some i) Wd0 (wa0.setCell ⟨H, 12, none⟩ (.slice (some ⟨g0, 0, none⟩) (n1 + 1) cp0)) from (HKa0.out.mono (fun i _ e1 => .inr e1)).setCell (.inl (.inl rfl)) _)
    rw [hWs] at HAs0 HTs0 HXs0 HYs0 HNs0 HOs0 HKs0
    refine wpAnyH_ready (rs := [16]) (by kernel_rfl) (by simp) ?_
    refine AllReadyH.cons (o := ?oA14) ?hA14 (fun K hK => ?sA14) AllReadyH.nil
    case hA14 => (simp only [List.getElem?_toArray, List.getElem?_cons_succ, List.getElem?_cons_zero]; rfl)
    go_simp
    try rw [hWs]
    clear ff1 cc1 hTH hXH hYH hWs
    refine hK.out _ _ (HS.out _ (HTs0.out)) (fun hHeld => ?_)
    clear hK K
    try simp only [Act.put, List.setIfInBounds_toArray, List.set_cons_zero, List.set_cons_succ]
    refine wpAnyH_done (by kernel_rfl) ?_ _
    clear hHeld HS
    have HLO9 := hide (Nat.le_trans HLd0.out HKs0.out.size)
    have HNN1 := hide (show ∀ i, (Value.slice ba2 n1 bc2).ownBlock = some i → (Value.slice (some ⟨g0, 0, none⟩) (n1 + 1) cp0).ownBlock ≠ some i from fun i e1 e2 => by have a1 := own_type HOs0.out e1; have a2 := own_type HNs0.out e2; rw [a1] at a2; simp at a2)
    go_wp2_with fail
    have HS := hide (fun (V : World) (h : Blk V TR (trC H (.slice ba m bc) su go) 58) => (h.cell 0 : V.cell? ⟨TR, 0, none⟩ = some (.pointer (some ⟨H, 0, none⟩))))
    refine wp_region_held_drew (S := fun V => V.cell? ⟨TR, 0, none⟩ = some (.pointer (some ⟨H, 0, none⟩))) (by kernel_rfl) (HS.out _ HTs0.out) (fun hHeld => ?_)
    have HTd1 := hide (blk_dr HTs0.out)
    have HAd1 := hide (blk_dr HAs0.out)
    have HXd1 := hide (blk_dr HXs0.out)
    have HYd1 := hide (blk_dr HYs0.out)
    have HSd1 := hide (owns_dr HNs0.out)
    have HBd1 := hide (owns_dr HOs0.out)
    have HLd1 := hide (show lo ≤ Ws0.drew.heap.size from HLO9.out)
    have HWd1 := hide (show Below Ws0.heap.size Ws0 Ws0.drew from (Below.refl _ _).drew)
    generalize Ws0.drew = Wd1 at HTd1 HAd1 HXd1 HYd1 HSd1 HBd1 HLd1 HWd1 hHeld ⊢
    refine tk 0 hHeld (h := ?_)
    refine tk 1 hHeld (h := ?_)
    refine tk 2 hHeld (h := ?_)
    refine tk 3 hHeld (h := ?_)
    refine tk 4 hHeld (h := ?_)
    refine tk 5 hHeld (h := ?_)
    refine tk 6 hHeld (h := ?_)
    refine tk 7 hHeld (h := ?_)
    refine tk 8 hHeld (h := ?_)
    refine tk 9 hHeld (h := ?_)
    refine tk 11 hHeld (h := ?_)
    refine wpAnyH_ready (rs := [10, 12]) (by kernel_rfl) (by simp) ?_
    refine AllReadyH.cons (o := ?oA15) ?hA15 (fun K hK => ?sA15) (AllReadyH.cons (o := ?oB15) ?hB15 (fun K hK => ?sB15) AllReadyH.nil)
    case hA15 => (simp only [List.getElem?_toArray, List.getElem?_cons_succ, List.getElem?_cons_zero]; rfl)
    case hB15 => (simp only [List.getElem?_toArray, List.getElem?_cons_succ, List.getElem?_cons_zero]; rfl)
    case sA15 =>
      have cH := HAd1.out.cell 13
      simp only [hallC, List.getElem?_cons_zero, List.getElem?_cons_succ] at cH
      go_simp
      clear cH
      refine hK.out _ _ (HS.out _ (HTd1.out)) (fun hHeld => ?_)
      clear hK K
      try simp only [Act.put, List.setIfInBounds_toArray, List.set_cons_zero, List.set_cons_succ]
      refine wpAnyH_ready (rs := [12]) (by kernel_rfl) (by simp) ?_
      refine AllReadyH.cons (o := ?oA16) ?hA16 (fun K hK => ?sA16) AllReadyH.nil
      case hA16 => (simp only [List.getElem?_toArray, List.getElem?_cons_succ, List.getElem?_cons_zero]; rfl)
      go_simp
      obtain ⟨Wl1, hWl⟩ : ∃ Wl, Wd1.alloc (.cells #[.int .i64 bt] 3) = Wl := ⟨_, rfl⟩
      have HBl1 := hide (show Below Wd1.heap.size Wd1 Wl1 by rw [← hWl]; exact (Below.refl _ _).alloc (Nat.le_refl _) _)
      have HTl1 := hide (HTd1.out.on HBl1.out)
      have HAl1 := hide (HAd1.out.on HBl1.out)
      have HXl1 := hide (HXd1.out.on HBl1.out)
      have HYl1 := hide (HYd1.out.on HBl1.out)
      have HSl1 := hide (owns_kept HSd1.out (Kept.of_below (F := fun _ => False) HBl1.out) (fun _ _ h => h))
      have HRl1 := hide (owns_kept HBd1.out (Kept.of_below (F := fun _ => False) HBl1.out) (fun _ _ h => h))
      have HNW1 := hide (show ∀ j u, [.int .i64 bt][j]? = some u → Wl1.cell? ((⟨Wd1.heap.size, 0, none⟩ : Addr).add j) = some u by rw [← hWl]; exact one_newO Wd1 _ _)
      have HZl1 := hide (show Wl1.heap.size = Wd1.heap.size + 1 by rw [← hWl]; exact World.size_alloc _ _)
      rw [hWl]
      clear hWl
      refine hK.out _ _ (HS.out _ (HTl1.out)) (fun hHeld => ?_)
      clear hK K
      try simp only [Act.put, List.setIfInBounds_toArray, List.set_cons_zero, List.set_cons_succ]
      refine wpAnyH_ready (rs := [13]) (by kernel_rfl) (by simp) ?_
      refine AllReadyH.cons (o := ?oA17) ?hA17 (fun K hK => ?sA17) AllReadyH.nil
      case hA17 => (simp only [List.getElem?_toArray, List.getElem?_cons_succ, List.getElem?_cons_zero]; rfl)
      refine step_append_lies _ (by rfl) (.tmp 171) (.tmp 173) 56 (by rfl) lo 3 i1 (.int .i64 0) 1 8 Tryz.underlying56 hi1 hy0 hy1 hy2 (by rfl) (by decide) (.slice ba2 n1 bc2) n1 ys (by rfl) HRl1.out ⟨Wd1.heap.size, 0, none⟩ 1 1 [.int .i64 bt] (by rfl) (by rfl) HNW1.out (fun u hu => by rw [List.mem_singleton] at hu; rw [hu]; rfl) (by decide) N1.out N2.out (Nat.le_trans HLd1.out HBl1.out.size) (Wd1.heap.size + 1) HZl1.out ?_
      intro g1 cp1 wa1 hown hgrow hat hlt
      have hKa := kept_grown hgrow
      have HTa1 := hide (blkK HTl1.out hKa (owns_ne_blk HRl1.out HTl1.out (by decide)))
      have HAa1 := hide (blkK HAl1.out hKa (owns_ne_blk HRl1.out HAl1.out (by decide)))
      have HXa1 := hide (blkK HXl1.out hKa (owns_ne_blk HRl1.out HXl1.out (by decide)))
      have HYa1 := hide (blkK HYl1.out hKa (owns_ne_blk HRl1.out HYl1.out (by decide)))
      have HOa1 := hide (owns_kept HSl1.out hKa (fun i e1 e2 => HNN1.out i e2 e1))
      have HNa1 := hide hown
      have HAT1 := hide (show (Value.slice ba2 n1 bc2).ownBlock = some g1 ∨ Wd1.heap.size ≤ g1 by
        rcases hat with e1 | e1
        · exact .inl e1
        · exact .inr (by omega))
      have HKa1 := hide (show Kept (fun i => (Value.slice ba2 n1 bc2).ownBlock = some i) Wd1 wa1 from Kept.grown (w := Wl1) (Kept.of_below HBl1.out) hgrow (fun i e1 => .inl e1))
      have HGH1 := hide (show g1 ≠ H from fun e1 => by subst e1; exact absurd rfl (owns_ne_blk hown HAa1.out (by decide)))
      have HGL1 := hide hlt
      clear hown hgrow hat hlt hKa
      refine hK.out _ _ (HS.out _ (HTa1.out)) (fun hHeld => ?_)
      clear hK K
      try simp only [Act.put, List.setIfInBounds_toArray, List.set_cons_zero, List.set_cons_succ]
      refine tk 14 hHeld (h := ?_)
      refine tk 15 hHeld (h := ?_)
      have ff1 := HAa1.out.free 13
      have cc1 := HAa1.out.cell 13
      simp only [hallC, List.getElem?_cons_zero, List.getElem?_cons_succ] at cc1
      have hTH : TR ≠ H := blk_neT HTa1.out HAa1.out (by decide)
      have hXH := blk_neT HXa1.out HAa1.out (by decide)
      have hYH := blk_neT HYa1.out HAa1.out (by decide)
      obtain ⟨Ws1, hWs⟩ : ∃ Ws, wa1.setCell ⟨H, 13, none⟩ (.slice (some ⟨g1, 0, none⟩) (n1 + 1) cp1) = Ws := ⟨_, rfl⟩
      have HAs1 := hide (show Blk (wa1.setCell ⟨H, 13, none⟩ (.slice (some ⟨g1, 0, none⟩) (n1 + 1) cp1)) H (hallC SD3 k b x t l s1 s2 s3 o1 o2 o3 (.slice (some ⟨g0, 0, none⟩) (n1 + 1) cp0) (.slice (some ⟨g1, 0, none⟩) (n1 + 1) cp1) gv3) 65 from HAa1.out.set 13 (.slice (some ⟨g1, 0, none⟩) (n1 + 1) cp1))
      have HTs1 := hide (HTa1.out.other (a := ⟨H, 13, none⟩) (.slice (some ⟨g1, 0, none⟩) (n1 + 1) cp1) hTH)
      have HXs1 := hide (HXa1.out.other (a := ⟨H, 13, none⟩) (.slice (some ⟨g1, 0, none⟩) (n1 + 1) cp1) hXH)
      have HYs1 := hide (HYa1.out.other (a := ⟨H, 13, none⟩) (.slice (some ⟨g1, 0, none⟩) (n1 + 1) cp1) hYH)
      have HNs1 := hide (owns_kept HNa1.out (kept_set wa1 ⟨H, 13, none⟩ (.slice (some ⟨g1, 0, none⟩) (n1 + 1) cp1)) (fun i e1 hk => by
        have e2 : g1 = i := by simpa [Value.ownBlock] using e1
        exact HGH1.out (e2.trans hk)))
      have HOs1 := hide (owns_kept HOa1.out (kept_set wa1 ⟨H, 13, none⟩ (.slice (some ⟨g1, 0, none⟩) (n1 + 1) cp1)) (fun i e1 hk => by
        have hk2 : i = H := hk
        subst hk2
        exact owns_ne_blk HOa1.out HAa1.out (by decide) e1))
      have HKs1 := hide (show Kept (fun i => i = H ∨ (Value.slice ba2 n1 bc2).ownBlock = some i) Wd1 (wa1.setCell ⟨H, 13, none⟩ (.slice (some ⟨g1, 0, none⟩) (n1 + 1) cp1)) from (HKa1.out.mono (fun i _ e1 => .inr e1)).setCell (.inl (.inl rfl)) _)
      rw [hWs] at HAs1 HTs1 HXs1 HYs1 HNs1 HOs1 HKs1
      refine wpAnyH_ready (rs := [16]) (by kernel_rfl) (by simp) ?_
      refine AllReadyH.cons (o := ?oA18) ?hA18 (fun K hK => ?sA18) AllReadyH.nil
      case hA18 => (simp only [List.getElem?_toArray, List.getElem?_cons_succ, List.getElem?_cons_zero]; rfl)
      go_simp
      try rw [hWs]
      clear ff1 cc1 hTH hXH hYH hWs
      refine hK.out _ _ (HS.out _ (HTs1.out)) (fun hHeld => ?_)
      clear hK K
      try simp only [Act.put, List.setIfInBounds_toArray, List.set_cons_zero, List.set_cons_succ]
      refine wpAnyH_done (by kernel_rfl) ?_ _
      clear hHeld HS
      have z1 : Ws1.cell? ⟨SB, 0, none⟩ = some (.int .i64 nx) := HXs1.out.cell 0
      have y1 : Ws1.cell? ⟨S3, 0, none⟩ = some (.int .i64 nx) := HYs1.out.cell 0
      have z2 : Ws1.cell? ⟨SB, 1, none⟩ = some (.int .i64 nx) := HXs1.out.cell 1
      have y2 : Ws1.cell? ⟨S3, 1, none⟩ = some (.int .i64 nx) := HYs1.out.cell 1
      have z3 : Ws1.cell? ⟨SB, 2, none⟩ = some (.int .i64 q) := HXs1.out.cell 2
      have y3 : Ws1.cell? ⟨S3, 2, none⟩ = some (.int .i64 q) := HYs1.out.cell 2
      have z4 : Ws1.cell? ⟨SB, 3, none⟩ = some (.bool false) := HXs1.out.cell 3
      have y4 : Ws1.cell? ⟨S3, 3, none⟩ = some (.bool false) := HYs1.out.cell 3
      have HFK := hide (show Kept (fun i => i = H ∨ (Value.slice sa n1 sc).ownBlock = some i ∨ (Value.slice ba2 n1 bc2).ownBlock = some i) w7 Ws1 from (((Kept.of_below HB8.out).after HWd0.out).trans HKs0.out (fun i e1 => .inl (e1.imp id .inl))).after HWd1.out |>.trans HKs1.out (fun i e1 => .inl (e1.imp id .inr)))
      have HG1 := hide (show (Value.slice sa n1 sc).ownBlock = some g0 ∨ w7.heap.size ≤ g0 from HAT0.out.imp id (fun e1 => Nat.le_trans (Nat.le_trans HB8.out.size HWd0.out.size) e1))
      have HG2 := hide (show (Value.slice ba2 n1 bc2).ownBlock = some g1 ∨ w7.heap.size ≤ g1 from HAT1.out.imp id (fun e1 => Nat.le_trans (Nat.le_trans (Nat.le_trans (Nat.le_trans HB8.out.size HWd0.out.size) HKs0.out.size) HWd1.out.size) e1))
      have HGN := hide (show g0 ≠ g1 from fun e1 => by subst e1; have a1 := own_type (b := g0) HOs1.out rfl; have a2 := own_type (b := g0) HNs1.out rfl; rw [a1] at a2; simp at a2)
      clear dsu dgo
      go_wp2
      go_ret
      exact ⟨rfl, G2, w7, SD3, sa, n1, sc, ba2, bc2, gv3, xs, ys, HQ4'.out, HA.out, HRS.out, HRB.out, g0, cp0, g1, cp1, HAs1.out, HOs1.out, HNs1.out, HFK.out, HG1.out, HG2.out, HGN.out⟩
    case sB15 =>
      go_simp
      obtain ⟨Wl1, hWl⟩ : ∃ Wl, Wd1.alloc (.cells #[.int .i64 bt] 3) = Wl := ⟨_, rfl⟩
      have HBl1 := hide (show Below Wd1.heap.size Wd1 Wl1 by rw [← hWl]; exact (Below.refl _ _).alloc (Nat.le_refl _) _)
      have HTl1 := hide (HTd1.out.on HBl1.out)
      have HAl1 := hide (HAd1.out.on HBl1.out)
      have HXl1 := hide (HXd1.out.on HBl1.out)
      have HYl1 := hide (HYd1.out.on HBl1.out)
      have HSl1 := hide (owns_kept HSd1.out (Kept.of_below (F := fun _ => False) HBl1.out) (fun _ _ h => h))
      have HRl1 := hide (owns_kept HBd1.out (Kept.of_below (F := fun _ => False) HBl1.out) (fun _ _ h => h))
      have HNW1 := hide (show ∀ j u, [.int .i64 bt][j]? = some u → Wl1.cell? ((⟨Wd1.heap.size, 0, none⟩ : Addr).add j) = some u by rw [← hWl]; exact one_newO Wd1 _ _)
      have HZl1 := hide (show Wl1.heap.size = Wd1.heap.size + 1 by rw [← hWl]; exact World.size_alloc _ _)
      rw [hWl]
      clear hWl
      refine hK.out _ _ (HS.out _ (HTl1.out)) (fun hHeld => ?_)
      clear hK K
      try simp only [Act.put, List.setIfInBounds_toArray, List.set_cons_zero, List.set_cons_succ]
      refine wpAnyH_ready (rs := [10]) (by kernel_rfl) (by simp) ?_
      refine AllReadyH.cons (o := ?oA19) ?hA19 (fun K hK => ?sA19) AllReadyH.nil
      case hA19 => (simp only [List.getElem?_toArray, List.getElem?_cons_succ, List.getElem?_cons_zero]; rfl)
      have cH := HAl1.out.cell 13
      simp only [hallC, List.getElem?_cons_zero, List.getElem?_cons_succ] at cH
      go_simp
      clear cH
      refine hK.out _ _ (HS.out _ (HTl1.out)) (fun hHeld => ?_)
      clear hK K
      try simp only [Act.put, List.setIfInBounds_toArray, List.set_cons_zero, List.set_cons_succ]
      refine wpAnyH_ready (rs := [13]) (by kernel_rfl) (by simp) ?_
      refine AllReadyH.cons (o := ?oA20) ?hA20 (fun K hK => ?sA20) AllReadyH.nil
      case hA20 => (simp only [List.getElem?_toArray, List.getElem?_cons_succ, List.getElem?_cons_zero]; rfl)
      refine step_append_lies _ (by rfl) (.tmp 171) (.tmp 173) 56 (by rfl) lo 3 i1 (.int .i64 0) 1 8 Tryz.underlying56 hi1 hy0 hy1 hy2 (by rfl) (by decide) (.slice ba2 n1 bc2) n1 ys (by rfl) HRl1.out ⟨Wd1.heap.size, 0, none⟩ 1 1 [.int .i64 bt] (by rfl) (by rfl) HNW1.out (fun u hu => by rw [List.mem_singleton] at hu; rw [hu]; rfl) (by decide) N1.out N2.out (Nat.le_trans HLd1.out HBl1.out.size) (Wd1.heap.size + 1) HZl1.out ?_
      intro g1 cp1 wa1 hown hgrow hat hlt
      have hKa := kept_grown hgrow
      have HTa1 := hide (blkK HTl1.out hKa (owns_ne_blk HRl1.out HTl1.out (by decide)))
      have HAa1 := hide (blkK HAl1.out hKa (owns_ne_blk HRl1.out HAl1.out (by decide)))
      have HXa1 := hide (blkK HXl1.out hKa (owns_ne_blk HRl1.out HXl1.out (by decide)))
      have HYa1 := hide (blkK HYl1.out hKa (owns_ne_blk HRl1.out HYl1.out (by decide)))
      have HOa1 := hide (owns_kept HSl1.out hKa (fun i e1 e2 => HNN1.out i e2 e1))
      have HNa1 := hide hown
      have HAT1 := hide (show (Value.slice ba2 n1 bc2).ownBlock = some g1 ∨ Wd1.heap.size ≤ g1 by
        rcases hat with e1 | e1
        · exact .inl e1
        · exact .inr (by omega))
      have HKa1 := hide (show Kept (fun i => (Value.slice ba2 n1 bc2).ownBlock = some i) Wd1 wa1 from Kept.grown (w := Wl1) (Kept.of_below HBl1.out) hgrow (fun i e1 => .inl e1))
      have HGH1 := hide (show g1 ≠ H from fun e1 => by subst e1; exact absurd rfl (owns_ne_blk hown HAa1.out (by decide)))
      have HGL1 := hide hlt
      clear hown hgrow hat hlt hKa
      refine hK.out _ _ (HS.out _ (HTa1.out)) (fun hHeld => ?_)
      clear hK K
      try simp only [Act.put, List.setIfInBounds_toArray, List.set_cons_zero, List.set_cons_succ]
      refine tk 14 hHeld (h := ?_)
      refine tk 15 hHeld (h := ?_)
      have ff1 := HAa1.out.free 13
      have cc1 := HAa1.out.cell 13
      simp only [hallC, List.getElem?_cons_zero, List.getElem?_cons_succ] at cc1
      have hTH : TR ≠ H := blk_neT HTa1.out HAa1.out (by decide)
      have hXH := blk_neT HXa1.out HAa1.out (by decide)
      have hYH := blk_neT HYa1.out HAa1.out (by decide)
      obtain ⟨Ws1, hWs⟩ : ∃ Ws, wa1.setCell ⟨H, 13, none⟩ (.slice (some ⟨g1, 0, none⟩) (n1 + 1) cp1) = Ws := ⟨_, rfl⟩
      have HAs1 := hide (show Blk (wa1.setCell ⟨H, 13, none⟩ (.slice (some ⟨g1, 0, none⟩) (n1 + 1) cp1)) H (hallC SD3 k b x t l s1 s2 s3 o1 o2 o3 (.slice (some ⟨g0, 0, none⟩) (n1 + 1) cp0) (.slice (some ⟨g1, 0, none⟩) (n1 + 1) cp1) gv3) 65 from HAa1.out.set 13 (.slice (some ⟨g1, 0, none⟩) (n1 + 1) cp1))
      have HTs1 := hide (HTa1.out.other (a := ⟨H, 13, none⟩) (.slice (some ⟨g1, 0, none⟩) (n1 + 1) cp1) hTH)
      have HXs1 := hide (HXa1.out.other (a := ⟨H, 13, none⟩) (.slice (some ⟨g1, 0, none⟩) (n1 + 1) cp1) hXH)
      have HYs1 := hide (HYa1.out.other (a := ⟨H, 13, none⟩) (.slice (some ⟨g1, 0, none⟩) (n1 + 1) cp1) hYH)
      have HNs1 := hide (owns_kept HNa1.out (kept_set wa1 ⟨H, 13, none⟩ (.slice (some ⟨g1, 0, none⟩) (n1 + 1) cp1)) (fun i e1 hk => by
        have e2 : g1 = i := by simpa [Value.ownBlock] using e1
        exact HGH1.out (e2.trans hk)))
      have HOs1 := hide (owns_kept HOa1.out (kept_set wa1 ⟨H, 13, none⟩ (.slice (some ⟨g1, 0, none⟩) (n1 + 1) cp1)) (fun i e1 hk => by
        have hk2 : i = H := hk
        subst hk2
        exact owns_ne_blk HOa1.out HAa1.out (by decide) e1))
      have HKs1 := hide (show Kept (fun i => i = H ∨ (Value.slice ba2 n1 bc2).ownBlock = some i) Wd1 (wa1.setCell ⟨H, 13, none⟩ (.slice (some ⟨g1, 0, none⟩) (n1 + 1) cp1)) from (HKa1.out.mono (fun i _ e1 => .inr e1)).setCell (.inl (.inl rfl)) _)
      rw [hWs] at HAs1 HTs1 HXs1 HYs1 HNs1 HOs1 HKs1
      refine wpAnyH_ready (rs := [16]) (by kernel_rfl) (by simp) ?_
      refine AllReadyH.cons (o := ?oA21) ?hA21 (fun K hK => ?sA21) AllReadyH.nil
      case hA21 => (simp only [List.getElem?_toArray, List.getElem?_cons_succ, List.getElem?_cons_zero]; rfl)
      go_simp
      try rw [hWs]
      clear ff1 cc1 hTH hXH hYH hWs
      refine hK.out _ _ (HS.out _ (HTs1.out)) (fun hHeld => ?_)
      clear hK K
      try simp only [Act.put, List.setIfInBounds_toArray, List.set_cons_zero, List.set_cons_succ]
      refine wpAnyH_done (by kernel_rfl) ?_ _
      clear hHeld HS
      have z1 : Ws1.cell? ⟨SB, 0, none⟩ = some (.int .i64 nx) := HXs1.out.cell 0
      have y1 : Ws1.cell? ⟨S3, 0, none⟩ = some (.int .i64 nx) := HYs1.out.cell 0
      have z2 : Ws1.cell? ⟨SB, 1, none⟩ = some (.int .i64 nx) := HXs1.out.cell 1
      have y2 : Ws1.cell? ⟨S3, 1, none⟩ = some (.int .i64 nx) := HYs1.out.cell 1
      have z3 : Ws1.cell? ⟨SB, 2, none⟩ = some (.int .i64 q) := HXs1.out.cell 2
      have y3 : Ws1.cell? ⟨S3, 2, none⟩ = some (.int .i64 q) := HYs1.out.cell 2
      have z4 : Ws1.cell? ⟨SB, 3, none⟩ = some (.bool false) := HXs1.out.cell 3
      have y4 : Ws1.cell? ⟨S3, 3, none⟩ = some (.bool false) := HYs1.out.cell 3
      have HFK := hide (show Kept (fun i => i = H ∨ (Value.slice sa n1 sc).ownBlock = some i ∨ (Value.slice ba2 n1 bc2).ownBlock = some i) w7 Ws1 from (((Kept.of_below HB8.out).after HWd0.out).trans HKs0.out (fun i e1 => .inl (e1.imp id .inl))).after HWd1.out |>.trans HKs1.out (fun i e1 => .inl (e1.imp id .inr)))
      have HG1 := hide (show (Value.slice sa n1 sc).ownBlock = some g0 ∨ w7.heap.size ≤ g0 from HAT0.out.imp id (fun e1 => Nat.le_trans (Nat.le_trans HB8.out.size HWd0.out.size) e1))
      have HG2 := hide (show (Value.slice ba2 n1 bc2).ownBlock = some g1 ∨ w7.heap.size ≤ g1 from HAT1.out.imp id (fun e1 => Nat.le_trans (Nat.le_trans (Nat.le_trans (Nat.le_trans HB8.out.size HWd0.out.size) HKs0.out.size) HWd1.out.size) e1))
      have HGN := hide (show g0 ≠ g1 from fun e1 => by subst e1; have a1 := own_type (b := g0) HOs1.out rfl; have a2 := own_type (b := g0) HNs1.out rfl; rw [a1] at a2; simp at a2)
      clear dsu dgo
      go_wp2
      go_ret
      exact ⟨rfl, G2, w7, SD3, sa, n1, sc, ba2, bc2, gv3, xs, ys, HQ4'.out, HA.out, HRS.out, HRB.out, g0, cp0, g1, cp1, HAs1.out, HOs1.out, HNs1.out, HFK.out, HG1.out, HG2.out, HGN.out⟩
end Go.Proofs.YtgaoeoijdpdjiabGreatDoor
