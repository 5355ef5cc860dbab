/-
  Make and Open, over the hall's invariant. Reserve and Sign, over the hall's invariant. In the end a trail's signer signs, or all is spent. What holds of a trail between two steps. A key is made, over the trail's invariant. How far a signer is; a bound is noted: over the trail's invariant.
-/
import Derived.Test.YtgaoeoijdpdjiabGreatDoorPart49
import Derived.Test.YtgaoeoijdpdjiabGreatDoorPart46
namespace Go.Proofs.YtgaoeoijdpdjiabGreatDoor
open Go.RowKit
section
variable {P : OP} {j : Nat} {g : GH} {w w' : World}
theorem cntT (h : HI P j g w) {s' st2 : DSt} {a b : Nat} (hs : s' = { g.st with term := g.st.term + 1 }) (hr : Nr s' st2 a b) (ha : a ≤ 2) (hb : b ≤ 2) : Cnt (j + 1) st2 g.Ss.length g.L.length := by
  subst hs
  have c := h.cnt
  have := c.w0; have := c.w1; have := c.y0; have := c.y1; have := c.t0; have := c.t1; have := c.a; have := c.b
  have k1 : g.st.writes ≤ st2.writes := hr.w1
  have k2 : st2.writes ≤ g.st.writes + a := hr.w2
  have k3 : g.st.syncs ≤ st2.syncs := hr.y1
  have k4 : st2.syncs ≤ g.st.syncs + b := hr.y2
  have k5 : st2.term = g.st.term + 1 := hr.t
  exact ⟨by omega, by omega, by omega, by omega, by omega, by omega, by omega, by omega⟩
end
end Go.Proofs.YtgaoeoijdpdjiabGreatDoor

namespace Go.Proofs.YtgaoeoijdpdjiabGreatDoor
open Go.RowKit
section
variable {P : OP} {j : Nat} {g : GH} {w w' : World}
/-- A signer is over, or it is the last one. -/
theorem HI.which (h : HI P j g w) {i : Nat} {s : SgD} (hs : g.Ss[i]? = some s) : (∃ tm2, s.D < w.heap.size ∧ w.cell? ⟨s.D, 5, none⟩ = some (.int .i64 tm2) ∧ (s.ov = true ∨ s.tm ≠ tm2)) ∨ (s.D = g.D ∧ s.tm = g.st.term ∧ s.ov = false ∧ i + 1 = g.Ss.length ∧ Live P g.jid g.sq g.sb g.gone s) := by
  rcases h.dd i s hs with ⟨tm2, _, b, c, d⟩ | ⟨a, b⟩
  · exact .inl ⟨tm2, b, c, d⟩
  · by_cases ht : s.tm = g.st.term
    · cases ho : s.ov
      · obtain ⟨l1, l2⟩ := h.lv i s hs a ht ho
        exact .inr ⟨a, ht, rfl, l1, l2⟩
      · exact .inl ⟨g.st.term, by rw [a]; exact h.dsk.ltD, by rw [a]; exact h.dsk.term, .inl rfl⟩
    · exact .inl ⟨g.st.term, by rw [a]; exact h.dsk.ltD, by rw [a]; exact h.dsk.term, .inr ht⟩
theorem HI.len_pos (h : HI P j g w) (hp : 0 < g.Ss.length) : ∃ g1 cap, g.sv = .slice (some ⟨g1, 0, none⟩) g.Ss.length cap ∧ g.Ss.length ≤ cap ∧ g1 < w.heap.size ∧ ∀ (i : Nat) (s : SgD), g.Ss[i]? = some s → w.cell? ⟨g1, i, none⟩ = some (.pointer (some ⟨s.G, 0, none⟩)) := by
  have hr := h.rs
  rcases hr.2 with ⟨_, e⟩ | ⟨g1, cap, cur, hv, hb, hg, hnc, _, _, _⟩
  · omega
  · refine ⟨g1, cap, hv, hnc, (Array.getElem?_eq_some_iff.1 hg).1, fun i s hs => ?_⟩
    rw [hv] at hr
    have hil := (List.getElem?_eq_some_iff.1 hs).1
    rw [hr.cellAt i (by omega)]
    rw [ptrs, List.getElem?_map, hs]
    rfl
end
end Go.Proofs.YtgaoeoijdpdjiabGreatDoor

namespace Go.Proofs.YtgaoeoijdpdjiabGreatDoor
open Go.RowKit
set_option maxRecDepth 20000 in
set_option maxHeartbeats 2000000 in
theorem ends_spent (TR H SD G : Nat) (k b x : Int) (t l : Nat) (s1 s2 s3 o1 o2 o3 : ByteArray) (sv bv gv bg : Value) (su go nx bd q : Int) (X : Nat → Prop) (Q : World → Prop) (w : World) (hH : Blk w H (hallC SD k b x t l s1 s2 s3 o1 o2 o3 sv bv gv) 65) (hTR : Blk w TR (trC H bg su go) 58) (ht : t ≤ 4) (hl : l ≤ 3) (hgo : go ≤ nx) (nT : ¬ X TR) (nH : ¬ X H) (hX : ∀ i, X i → i < w.heap.size) (hnx : nx = ((2 ^ (t * l) : Nat) : Int))
    (hSt : Calls Tryz.prog 30 #[.pointer (some ⟨G, 0, none⟩)] w fun e w' => e = .returned (.agg #[.int .i64 nx, .int .i64 bd, .int .i64 q, .bool false]) ∧ Below w.heap.size w w')
    (hSg : ∀ V, Below w.heap.size w V → Calls Tryz.prog 52 #[.pointer (some ⟨G, 0, none⟩), .string ⟨#[]⟩] V fun e w' => e = .returned (.tuple #[.string ⟨#[]⟩, .int .i64 10]) ∧ Kept X V w' ∧ Q w') :
    Calls Tryz.prog 25 #[.pointer (some ⟨TR, 0, none⟩), .pointer (some ⟨G, 0, none⟩)] w fun e w' => e = .returned (.bool true) ∧ ∃ V, Q V ∧ Below V.heap.size V w' := by
  have HST := hide hSt
  have HSG := hide hSg
  have HTO := hide (fun V : World => keepTotal_any k b x t l V ht hl)
  have HX := hide (And.intro nT (And.intro nH hX))
  have dgo : decide (nx < go) = false := decide_eq_false (by omega)
  have dnx : (nx == ((2 ^ (t * l) : Nat) : Int)) = true := by simpa using hnx
  have HH := hide hH
  have HT := hide hTR
  obtain ⟨tot, htot⟩ : ∃ tot : Int, ((2 ^ (t * l) : Nat) : Int) = tot := ⟨_, rfl⟩
  rw [htot] at HTO dnx
  clear hSt hSg ht hl nT nH hX hgo hnx hH hTR htot
  go_enter Tryz.func25, Tryz.ntmps25
  go_wp2_with fail
  refine HST.out.mono ?_
  rintro e w1 ⟨rfl, hb1⟩
  obtain ⟨W2, hW2⟩ : ∃ W2, w1.alloc (.cells #[.int .i64 nx, .int .i64 bd, .int .i64 q, .bool false] 79) = W2 := ⟨_, rfl⟩
  obtain ⟨SB, hSB⟩ : ∃ SB, w1.heap.size = SB := ⟨_, rfl⟩
  have HBX := hide (show Blk W2 SB [.int .i64 nx, .int .i64 bd, .int .i64 q, .bool false] 79 by rw [← hW2, ← hSB]; exact Blk.new w1 _ _)
  have HB2 := hide (show Below w.heap.size w W2 by rw [← hW2]; exact hb1.alloc hb1.size _)
  have HSL := hide (show w.heap.size ≤ SB by rw [← hSB]; exact hb1.size)
  have HT2 := hide (HT.out.on HB2.out)
  have HH2 := hide (HH.out.on HB2.out)
  have HWE := hide hW2
  have HSE := hide hSB
  have HS := hide (fun (V : World) (h : Blk V SB [.int .i64 nx, .int .i64 bd, .int .i64 q, .bool false] 79 ∧ Blk V TR (trC H bg su go) 58) => (⟨h.1.cell 0, h.1.cell 3, h.2.cell 3⟩ : V.cell? ⟨SB, 0, none⟩ = some (.int .i64 nx) ∧ V.cell? ⟨SB, 3, none⟩ = some (.bool false) ∧ V.cell? ⟨TR, 3, none⟩ = some (.int .i64 go)))
  have HSG2 := hide (HSG.out _ HB2.out.drew)
  clear hb1 hW2 hSB
  go_wp2_with fail
  rw [HWE.out, HSE.out]
  refine wp_region_held_drew (S := fun V => V.cell? ⟨SB, 0, none⟩ = some (.int .i64 nx) ∧ V.cell? ⟨SB, 3, none⟩ = some (.bool false) ∧ V.cell? ⟨TR, 3, none⟩ = some (.int .i64 go)) (by kernel_rfl) (HS.out _ (⟨HBX.out, HT2.out⟩)) (fun hHeld => ?_)
  refine tk 0 hHeld (h := ?_)
  refine tk 1 hHeld (h := ?_)
  refine tk 2 hHeld (h := ?_)
  refine tk 3 hHeld (h := ?_)
  refine tk 4 hHeld (h := ?_)
  refine tk 5 hHeld (h := ?_)
  refine tk 6 hHeld (h := ?_)
  refine tk 7 hHeld (h := ?_)
  refine tk 8 hHeld (h := ?_)
  refine tk 9 hHeld (h := ?_)
  refine tk 10 hHeld (h := ?_)
  refine wpAnyH_done (by kernel_rfl) ?_ _
  clear hHeld HS
  go_wp2_with fail
  refine HSG2.out.mono ?_
  rintro e w4 ⟨rfl, hk4, hq4⟩
  have HQ := hide hq4
  have HBX4 := hide (blkK (w := W2.drew) HBX.out hk4 (fun e => by have := HX.out.2.2 _ e; have := HSL.out; omega))
  have HT4 := hide (blkK (w := W2.drew) HT2.out hk4 HX.out.1)
  have HH4 := hide (blkK (w := W2.drew) HH2.out hk4 HX.out.2.1)
  have HS := hide (fun (V : World) (h : Blk V SB [.int .i64 nx, .int .i64 bd, .int .i64 q, .bool false] 79 ∧ Blk V TR (trC H bg su go) 58 ∧ Blk V H (hallC SD k b x t l s1 s2 s3 o1 o2 o3 sv bv gv) 65) => (⟨h.1.cell 0, h.2.1.cell 0, h.2.2.cell 0, h.2.2.cell 1, h.2.2.cell 2, h.2.2.cell 3, h.2.2.cell 4⟩ : V.cell? ⟨SB, 0, none⟩ = some (.int .i64 nx) ∧ V.cell? ⟨TR, 0, none⟩ = some (.pointer (some ⟨H, 0, none⟩)) ∧ V.cell? ⟨H, 0, none⟩ = some (.int .i64 k) ∧ V.cell? ⟨H, 1, none⟩ = some (.int .i64 b) ∧ V.cell? ⟨H, 2, none⟩ = some (.int .i64 x) ∧ V.cell? ⟨H, 3, none⟩ = some (.int .i64 t) ∧ V.cell? ⟨H, 4, none⟩ = some (.int .i64 l)))
  clear hk4 hq4
  go_wp2_with fail
  refine wp_region_held_drew (S := fun V => V.cell? ⟨SB, 0, none⟩ = some (.int .i64 nx) ∧ V.cell? ⟨TR, 0, none⟩ = some (.pointer (some ⟨H, 0, none⟩)) ∧ V.cell? ⟨H, 0, none⟩ = some (.int .i64 k) ∧ V.cell? ⟨H, 1, none⟩ = some (.int .i64 b) ∧ V.cell? ⟨H, 2, none⟩ = some (.int .i64 x) ∧ V.cell? ⟨H, 3, none⟩ = some (.int .i64 t) ∧ V.cell? ⟨H, 4, none⟩ = some (.int .i64 l)) (by kernel_rfl) (HS.out _ (⟨HBX4.out, HT4.out, HH4.out⟩)) (fun hHeld => ?_)
  refine tk 0 hHeld (h := ?_)
  refine tk 1 hHeld (h := ?_)
  refine tk 2 hHeld (h := ?_)
  refine tk 3 hHeld (h := ?_)
  refine tk 4 hHeld (h := ?_)
  refine tk 5 hHeld (h := ?_)
  refine tk 6 hHeld (h := ?_)
  refine tk 7 hHeld (h := ?_)
  refine tk 8 hHeld (h := ?_)
  refine wpAnyH_ready (rs := [9]) (by kernel_rfl) (by simp) ?_
  refine AllReadyH.cons (o := ?ob9) ?hob9 (fun K hK => ?hsb9) AllReadyH.nil
  case hob9 => (simp only [List.getElem?_toArray, List.getElem?_cons_succ, List.getElem?_cons_zero]; rfl)
  go_simp
  go_at_call 29
  refine (HTO.out _).mono ?_
  rintro e w5 ⟨rfl, hb5⟩
  have HB5 := hide (heldB (Below.refl w4.heap.size w4).drew hb5 (Nat.le_refl _))
  clear hb5
  try go_wp2_with fail
  refine hK.out _ _ (HS.out _ (⟨HBX4.out.on HB5.out, HT4.out.on HB5.out, HH4.out.on HB5.out⟩)) (fun hHeld => ?_)
  clear hK K
  try simp only [Act.put, List.setIfInBounds_toArray, List.set_cons_zero, List.set_cons_succ]
  refine tk 10 hHeld (h := ?_)
  refine wpAnyH_done (by kernel_rfl) ?_ _
  clear hHeld HS
  go_wp2
  go_ret
  exact ⟨rfl, w4, HQ.out, HB5.out⟩
set_option maxRecDepth 20000 in
set_option maxHeartbeats 2000000 in
theorem ends_sign (TR H SD G : Nat) (k b x : Int) (t l : Nat) (s1 s2 s3 o1 o2 o3 : ByteArray) (sv bv gv bg : Value) (su go nx bd q : Int) (sig : ByteArray) (X : Nat → Prop) (Q : World → Prop) (w : World) (hH : Blk w H (hallC SD k b x t l s1 s2 s3 o1 o2 o3 sv bv gv) 65) (hTR : Blk w TR (trC H bg su go) 58) (ht : t ≤ 4) (hl : l ≤ 3) (hgo : go ≤ nx) (nT : ¬ X TR) (nH : ¬ X H) (hX : ∀ i, X i → i < w.heap.size) (hnx : nx ≠ ((2 ^ (t * l) : Nat) : Int)) (idx : Nat) (hidx : nx = idx) (hz : 4 < sig.size) (hv : valN sig 0 4 = idx)
    (hSt : Calls Tryz.prog 30 #[.pointer (some ⟨G, 0, none⟩)] w fun e w' => e = .returned (.agg #[.int .i64 nx, .int .i64 bd, .int .i64 q, .bool false]) ∧ Below w.heap.size w w')
    (hSg : ∀ V, Below w.heap.size w V → Calls Tryz.prog 52 #[.pointer (some ⟨G, 0, none⟩), .string ⟨#[]⟩] V fun e w' => e = .returned (.tuple #[.string sig, .int .i64 0]) ∧ Kept X V w' ∧ Q w') :
    Calls Tryz.prog 25 #[.pointer (some ⟨TR, 0, none⟩), .pointer (some ⟨G, 0, none⟩)] w fun e w' => e = .returned (.bool true) ∧ ∃ V, Q V ∧ Below V.heap.size V w' := by
  have HST := hide hSt
  have HSG := hide hSg
  have HTO := hide (fun V : World => keepTotal_any k b x t l V ht hl)
  have HX := hide (And.intro nT (And.intro nH hX))
  have dgo : decide (nx < go) = false := decide_eq_false (by omega)
  have dnx : (nx == ((2 ^ (t * l) : Nat) : Int)) = false := by simpa using hnx
  have HH := hide hH
  have HT := hide hTR
  have HVL := hide (fun V : World => kvalue_on sig V (by omega))
  rw [hv] at HVL
  have z4 : decide ((4 : Int) < (sig.size : Int)) = true := decide_eq_true (by omega)
  have zi : ((idx : Int) == nx) = true := by rw [hidx]; simp
  obtain ⟨tot, htot⟩ : ∃ tot : Int, ((2 ^ (t * l) : Nat) : Int) = tot := ⟨_, rfl⟩
  rw [htot] at HTO dnx
  clear hSt hSg ht hl nT nH hX hgo hnx hH hTR htot hidx hz hv
  go_enter Tryz.func25, Tryz.ntmps25
  go_wp2_with fail
  refine HST.out.mono ?_
  rintro e w1 ⟨rfl, hb1⟩
  obtain ⟨W2, hW2⟩ : ∃ W2, w1.alloc (.cells #[.int .i64 nx, .int .i64 bd, .int .i64 q, .bool false] 79) = W2 := ⟨_, rfl⟩
  obtain ⟨SB, hSB⟩ : ∃ SB, w1.heap.size = SB := ⟨_, rfl⟩
  have HBX := hide (show Blk W2 SB [.int .i64 nx, .int .i64 bd, .int .i64 q, .bool false] 79 by rw [← hW2, ← hSB]; exact Blk.new w1 _ _)
  have HB2 := hide (show Below w.heap.size w W2 by rw [← hW2]; exact hb1.alloc hb1.size _)
  have HSL := hide (show w.heap.size ≤ SB by rw [← hSB]; exact hb1.size)
  have HT2 := hide (HT.out.on HB2.out)
  have HH2 := hide (HH.out.on HB2.out)
  have HWE := hide hW2
  have HSE := hide hSB
  have HS := hide (fun (V : World) (h : Blk V SB [.int .i64 nx, .int .i64 bd, .int .i64 q, .bool false] 79 ∧ Blk V TR (trC H bg su go) 58) => (⟨h.1.cell 0, h.1.cell 3, h.2.cell 3⟩ : V.cell? ⟨SB, 0, none⟩ = some (.int .i64 nx) ∧ V.cell? ⟨SB, 3, none⟩ = some (.bool false) ∧ V.cell? ⟨TR, 3, none⟩ = some (.int .i64 go)))
  have HSG2 := hide (HSG.out _ HB2.out.drew)
  clear hb1 hW2 hSB
  go_wp2_with fail
  rw [HWE.out, HSE.out]
  refine wp_region_held_drew (S := fun V => V.cell? ⟨SB, 0, none⟩ = some (.int .i64 nx) ∧ V.cell? ⟨SB, 3, none⟩ = some (.bool false) ∧ V.cell? ⟨TR, 3, none⟩ = some (.int .i64 go)) (by kernel_rfl) (HS.out _ (⟨HBX.out, HT2.out⟩)) (fun hHeld => ?_)
  refine tk 0 hHeld (h := ?_)
  refine tk 1 hHeld (h := ?_)
  refine tk 2 hHeld (h := ?_)
  refine tk 3 hHeld (h := ?_)
  refine tk 4 hHeld (h := ?_)
  refine tk 5 hHeld (h := ?_)
  refine tk 6 hHeld (h := ?_)
  refine tk 7 hHeld (h := ?_)
  refine tk 8 hHeld (h := ?_)
  refine tk 9 hHeld (h := ?_)
  refine tk 10 hHeld (h := ?_)
  refine wpAnyH_done (by kernel_rfl) ?_ _
  clear hHeld HS
  go_wp2_with fail
  refine HSG2.out.mono ?_
  rintro e w4 ⟨rfl, hk4, hq4⟩
  have HQ := hide hq4
  have HBX4 := hide (blkK (w := W2.drew) HBX.out hk4 (fun e => by have := HX.out.2.2 _ e; have := HSL.out; omega))
  have HT4 := hide (blkK (w := W2.drew) HT2.out hk4 HX.out.1)
  have HH4 := hide (blkK (w := W2.drew) HH2.out hk4 HX.out.2.1)
  have HS := hide (fun (V : World) (h : Blk V SB [.int .i64 nx, .int .i64 bd, .int .i64 q, .bool false] 79 ∧ Blk V TR (trC H bg su go) 58 ∧ Blk V H (hallC SD k b x t l s1 s2 s3 o1 o2 o3 sv bv gv) 65) => (⟨h.1.cell 0, h.2.1.cell 0, h.2.2.cell 0, h.2.2.cell 1, h.2.2.cell 2, h.2.2.cell 3, h.2.2.cell 4⟩ : V.cell? ⟨SB, 0, none⟩ = some (.int .i64 nx) ∧ V.cell? ⟨TR, 0, none⟩ = some (.pointer (some ⟨H, 0, none⟩)) ∧ V.cell? ⟨H, 0, none⟩ = some (.int .i64 k) ∧ V.cell? ⟨H, 1, none⟩ = some (.int .i64 b) ∧ V.cell? ⟨H, 2, none⟩ = some (.int .i64 x) ∧ V.cell? ⟨H, 3, none⟩ = some (.int .i64 t) ∧ V.cell? ⟨H, 4, none⟩ = some (.int .i64 l)))
  clear hk4 hq4
  go_wp2_with fail
  refine wp_region_held_drew (S := fun V => V.cell? ⟨SB, 0, none⟩ = some (.int .i64 nx) ∧ V.cell? ⟨TR, 0, none⟩ = some (.pointer (some ⟨H, 0, none⟩)) ∧ V.cell? ⟨H, 0, none⟩ = some (.int .i64 k) ∧ V.cell? ⟨H, 1, none⟩ = some (.int .i64 b) ∧ V.cell? ⟨H, 2, none⟩ = some (.int .i64 x) ∧ V.cell? ⟨H, 3, none⟩ = some (.int .i64 t) ∧ V.cell? ⟨H, 4, none⟩ = some (.int .i64 l)) (by kernel_rfl) (HS.out _ (⟨HBX4.out, HT4.out, HH4.out⟩)) (fun hHeld => ?_)
  refine tk 0 hHeld (h := ?_)
  refine tk 1 hHeld (h := ?_)
  refine tk 2 hHeld (h := ?_)
  refine tk 3 hHeld (h := ?_)
  refine tk 4 hHeld (h := ?_)
  refine tk 5 hHeld (h := ?_)
  refine tk 6 hHeld (h := ?_)
  refine tk 7 hHeld (h := ?_)
  refine tk 8 hHeld (h := ?_)
  refine wpAnyH_ready (rs := [9]) (by kernel_rfl) (by simp) ?_
  refine AllReadyH.cons (o := ?ob9) ?hob9 (fun K hK => ?hsb9) AllReadyH.nil
  case hob9 => (simp only [List.getElem?_toArray, List.getElem?_cons_succ, List.getElem?_cons_zero]; rfl)
  go_simp
  go_at_call 29
  refine (HTO.out _).mono ?_
  rintro e w5 ⟨rfl, hb5⟩
  have HB5 := hide (heldB (Below.refl w4.heap.size w4).drew hb5 (Nat.le_refl _))
  clear hb5
  try go_wp2_with fail
  refine hK.out _ _ (HS.out _ (⟨HBX4.out.on HB5.out, HT4.out.on HB5.out, HH4.out.on HB5.out⟩)) (fun hHeld => ?_)
  clear hK K
  try simp only [Act.put, List.setIfInBounds_toArray, List.set_cons_zero, List.set_cons_succ]
  refine tk 10 hHeld (h := ?_)
  refine wpAnyH_done (by kernel_rfl) ?_ _
  clear hHeld HS
  have HS := hide (fun (V : World) (h : Blk V SB [.int .i64 nx, .int .i64 bd, .int .i64 q, .bool false] 79) => (h.cell 0 : V.cell? ⟨SB, 0, none⟩ = some (.int .i64 nx)))
  go_wp2_with fail
  refine wp_region_held_drew (S := fun V => V.cell? ⟨SB, 0, none⟩ = some (.int .i64 nx)) (by kernel_rfl) (HS.out _ (HBX4.out.on HB5.out.drew)) (fun hHeld => ?_)
  refine tk 0 hHeld (h := ?_)
  refine tk 1 hHeld (h := ?_)
  refine tk 2 hHeld (h := ?_)
  refine tk 3 hHeld (h := ?_)
  refine tk 5 hHeld (h := ?_)
  refine tk 6 hHeld (h := ?_)
  refine wpAnyH_ready (rs := [4]) (by kernel_rfl) (by simp) ?_
  refine AllReadyH.cons (o := ?oc4) ?hoc4 (fun K hK => ?hsc4) AllReadyH.nil
  case hoc4 => (simp only [List.getElem?_toArray, List.getElem?_cons_succ, List.getElem?_cons_zero]; rfl)
  go_simp
  go_at_call 53
  refine (HVL.out _).mono ?_
  rintro e w6 ⟨rfl, hb6⟩
  have HB6 := hide (heldB HB5.out.drew hb6 (Nat.le_refl _))
  clear hb6
  try go_wp2_with fail
  refine hK.out _ _ (HS.out _ ((HBX4.out.on HB6.out))) (fun hHeld => ?_)
  clear hK K
  try simp only [Act.put, List.setIfInBounds_toArray, List.set_cons_zero, List.set_cons_succ]
  refine tk 7 hHeld (h := ?_)
  refine tk 8 hHeld (h := ?_)
  refine tk 9 hHeld (h := ?_)
  refine tk 10 hHeld (h := ?_)
  refine tk 11 hHeld (h := ?_)
  refine tk 12 hHeld (h := ?_)
  refine tk 13 hHeld (h := ?_)
  refine tk 14 hHeld (h := ?_)
  refine wpAnyH_done (by kernel_rfl) ?_ _
  clear hHeld HS
  go_wp2
  go_ret
  exact ⟨rfl, w4, HQ.out, HB6.out⟩
end Go.Proofs.YtgaoeoijdpdjiabGreatDoor

namespace Go.Proofs.YtgaoeoijdpdjiabGreatDoor
open Go.RowKit
/-- What is of colour 0 (of nothing in the hall) stays. -/
def Fr (g g' : GH) (w w' : World) : Prop := ∀ q, q < w.heap.size → g.c q = 0 → g'.c q = 0 ∧ w'.heap[q]? = w.heap[q]?
/-- One step's ghost, and the next's: what a call of the disk leaves as it was. -/
structure Sm (g g' : GH) : Prop where
  Ss : g'.Ss = g.Ss
  ys : g'.ys = g.ys
  jid : g'.jid = g.jid
  sq : g'.sq = g.sq
  sb : g'.sb = g.sb
  gone : g'.gone = g.gone
  cand : ∀ s, s < 2 → ∀ x, Cand g'.st s x → Cand g.st s x
section
variable {P : OP} {j j' : Nat} {g g' : GH} {w w' : World}
theorem Fr.blk (h : Fr g g' w w') {b : Nat} {vs : List Value} {T : TypeId} (hb : Blk w b vs T) (hc : g.c b = 0) : Blk w' b vs T ∧ g'.c b = 0 := by
  obtain ⟨a, e⟩ := h b hb.lt hc
  refine ⟨?_, a⟩
  unfold Blk at hb ⊢
  rw [e]; exact hb
theorem owns_heap {lo : Nat} {e : TypeId} {sz : Nat} {v : Value} {n : Nat} {xs : List Value} (h : w.ownsRow lo e sz v n xs) (hb : ∀ q, v.ownBlock = some q → w'.heap[q]? = w.heap[q]?) : w'.ownsRow lo e sz v n xs := by
  refine ⟨h.1, h.2.imp id ?_⟩
  rintro ⟨g, cap, cur, rfl, h0, hg, hr⟩
  exact ⟨g, cap, cur, rfl, h0, by rw [hb g rfl]; exact hg, hr⟩
theorem Fr.row (h : Fr g g' w w') {lo : Nat} {e : TypeId} {sz : Nat} {v : Value} {n : Nat} {xs : List Value} (hr : w.ownsRow lo e sz v n xs) (hc : ∀ q, v.ownBlock = some q → g.c q = 0) : w'.ownsRow lo e sz v n xs ∧ ∀ q, v.ownBlock = some q → g'.c q = 0 :=
  ⟨owns_heap hr (fun q e => (h q (hr.lt q e).2 (hc q e)).2), fun q e => (h q (hr.lt q e).2 (hc q e)).1⟩
theorem Fr.of_kept {X : Nat → Prop} (hk : Kept X w w') (hX : ∀ q, X q → g.c q ≠ 0) (hc : ∀ q, q < w.heap.size → g.c q = 0 → g'.c q = 0) : Fr g g' w w' := fun q hq e => ⟨hc q hq e, hk.block q hq (fun hx => hX q hx e)⟩
/-- The new blocks are painted with the colour 0. -/
theorem HI.recolor (h : HI P j g w) (hb : Below w.heap.size w w') : HI P j { g with c := paint g.c w.heap.size (fun _ => 0) } w' := by
  have hk : Kept (fun _ => False) w w' := Kept.of_below hb
  have pc : ∀ {q v}, q < w.heap.size → g.c q = v → paint g.c w.heap.size (fun _ => 0) q = v := fun {q v} hq e => (paint_lt hq).trans e
  exact ⟨h.hall.on hb, pc h.hall.lt h.cH, h.disk.on hb, pc h.disk.lt h.cSD, h.dsk.below hb, fun q e => pc (h.dsk.lt q e).2 (h.cF q e), owns_kept h.rs hk (fun _ _ e => e), fun q e => pc (h.rs.lt q e).2 (h.cs q e), owns_kept h.rb hk (fun _ _ e => e), fun q e => pc (h.rb.lt q e).2 (h.cb q e), owns_kept h.rg hk (fun _ _ e => e), fun q e => pc (h.rg.lt q e).2 (h.cg q e),
    fun i s e => by obtain ⟨a, b, c, d, f⟩ := h.mem i s e; exact ⟨a.on hb, b.on hb, pc a.lt c, pc b.lt d, f⟩, h.who,
    fun i s e => by
      rcases h.dd i s e with ⟨tm2, a, b, c, d⟩ | a
      · exact .inl ⟨tm2, pc b a, Nat.lt_of_lt_of_le b hb.size, (hb.cell (p := ⟨s.D, 5, none⟩) b).trans c, d⟩
      · exact .inr a,
    h.lv, h.ji, h.gs, h.gl, h.low.trans (hb.mono h.big), Nat.le_trans h.big hb.size, h.stn, h.cnt⟩
/-- What is of nothing in the hall changed. -/
theorem HI.foreign (h : HI P j g w) {X : Nat → Prop} (hk : Kept X w w') (hX : ∀ q, X q → g.c q = 0 ∨ w.heap.size ≤ q) (hXl : ∀ q, X q → P.lo ≤ q) : HI P j { g with c := paint g.c w.heap.size (fun _ => 0) } w' := by
  have pc : ∀ {q v}, q < w.heap.size → g.c q = v → paint g.c w.heap.size (fun _ => 0) q = v := fun {q v} hq e => (paint_lt hq).trans e
  have nX : ∀ {q}, q < w.heap.size → g.c q ≠ 0 → ¬ X q := fun {q} hq hc e => by
    rcases hX q e with e | e
    · exact hc e
    · omega
  exact ⟨blk_kept h.hall hk (nX h.hall.lt (by rw [h.cH]; decide)), pc h.hall.lt h.cH, blk_kept h.disk hk (nX h.disk.lt (by rw [h.cSD]; decide)), pc h.disk.lt h.cSD, h.dsk.kept hk (fun q e => nX (h.dsk.lt q e).2 (by rw [h.cF q e]; decide)), fun q e => pc (h.dsk.lt q e).2 (h.cF q e), owns_kept h.rs hk (fun q e => nX (h.rs.lt q e).2 (by rw [h.cs q e]; decide)), fun q e => pc (h.rs.lt q e).2 (h.cs q e), owns_kept h.rb hk (fun q e => nX (h.rb.lt q e).2 (by rw [h.cb q e]; decide)), fun q e => pc (h.rb.lt q e).2 (h.cb q e), owns_kept h.rg hk (fun q e => nX (h.rg.lt q e).2 (by rw [h.cg q e]; decide)), fun q e => pc (h.rg.lt q e).2 (h.cg q e),
    fun i s e => by obtain ⟨a, b, c, d, f⟩ := h.mem i s e; exact ⟨blk_kept a hk (nX a.lt (by rw [c]; decide)), blk_kept b hk (nX b.lt (by rw [d]; omega)), pc a.lt c, pc b.lt d, f⟩, h.who,
    fun i s e => by
      rcases h.dd i s e with ⟨tm2, a, b, c, d⟩ | a
      · exact .inl ⟨tm2, pc b a, Nat.lt_of_lt_of_le b hk.size, (hk.cell (p := ⟨s.D, 5, none⟩) b (nX b (by rw [a]; decide))).trans c, d⟩
      · exact .inr a,
    h.lv, h.ji, h.gs, h.gl, h.low.trans (hk.below hXl h.big), Nat.le_trans h.big hk.size, h.stn, h.cnt⟩
/-- The disk had a turn: with the frame. -/
theorem HI.turnF (h : HI P j g w) {st2 : DSt} (hl : DL P.lo g.D st2 g.F w w') (hJ : JI P.tot st2 g.jid g.sq g.sb) (hn : st2.n = P.n)
    (ht : g.st.term < st2.term ∨ st2.term = g.st.term) (hc : Cnt (j + 1) st2 g.Ss.length g.L.length) (hcd : ∀ s, s < 2 → ∀ x, Cand st2 s x → Cand g.st s x) : ∃ g', HI P (j + 1) g' w' ∧ Fr g g' w w' ∧ Sm g g' := by
  obtain ⟨F', d', k', f'⟩ := hl
  obtain ⟨c', hh, hc1, _⟩ := h.turnD (fun _ => 3) d' k' f' (fun _ _ _ => rfl) hJ h.gs hn (ht.imp id (fun e => ⟨e, rfl, rfl, rfl⟩)) hc
  exact ⟨_, hh, Fr.of_kept k' (fun q e => by rw [h.cF q e]; decide) (fun q hq e => (hc1 q hq).trans e), ⟨rfl, rfl, rfl, rfl, rfl, rfl, hcd⟩⟩
set_option maxHeartbeats 1000000 in
/-- A step of the disk, with the frame. -/
theorem disk_do (Kp : OPk P) (hV : HI P j g w) (hj : j ≤ 8796093022208) (hlo : P.lo ≤ P.Wd.heap.size) (kd a bb : Int) (tx : ByteArray) (ka : Option Addr) (kn kc : Nat) (K : List Bool) (c : Nat) (hk1 : -9223372036854775808 ≤ kd) (hk2 : kd ≤ 9223372036854775807) (ha1 : -9223372036854775808 ≤ a) (ha2 : a ≤ 9223372036854775807) (hb1 : -9223372036854775808 ≤ bb) (hb2 : bb ≤ 9223372036854775807) (hts : tx.size ≤ maxLen) (hK : KOk P P.Wd (.slice ka kn kc) K) (hk : pickZ kd 9 = c) (hc : 3 < c) (hc9 : c < 9)
    (hpk : ∀ n : Nat, 1 ≤ n → ∃ p : Nat, pickZ a n = p ∧ p < n) (hp8 : 0 ≤ pickZ bb 8 ∧ pickZ bb 8 < 8) :
    Calls Tryz.prog 56 #[.pointer (some ⟨P.H, 0, none⟩), .agg #[.int .i64 kd, .int .i64 a, .int .i64 bb, .string tx, .slice ka kn kc], .int .i64 P.n] w fun e w' => e = .returned (.bool true) ∧ ∃ g', HI P (j + 1) g' w' ∧ Fr g g' w w' ∧ Sm g g' := by
  have cn := hV.cnt
  have t0 := cn.t0
  have t1 := cn.t1
  have y0 := cn.y0
  have y1 := cn.y1
  have w0 := cn.w0
  have w1 := cn.w1
  have fb : ∀ {V2 V3 : World}, Below w.heap.size w V2 → (∃ g', HI P (j + 1) g' V3 ∧ Fr g g' V2 V3 ∧ Sm g g') → ∃ g', HI P (j + 1) g' V3 ∧ Fr g g' w V3 ∧ Sm g g' := by
    rintro V2 V3 hb ⟨g', h1, h2, h3⟩
    refine ⟨g', h1, fun q hq e => ?_, h3⟩
    obtain ⟨x1, x2⟩ := h2 q (Nat.lt_of_lt_of_le hq hb.size) e
    exact ⟨x1, x2.trans (hb.block q hq)⟩
  match c, hc, hc9, hk with
  | 4, _, _, hk =>
    refine disk_crash P.H g.SD P.k P.b P.x P.t P.l P.s1 P.s2 P.s3 P.o1 P.o2 P.o3 g.sv g.bv g.gv kd a bb tx ka kn kc P.n g.F _ w hV.hall hk1 hk2 hk hV.nH (fun i hi => (hV.dsk.lt i hi).2) (fun V2 hb2 => ?_)
    have h2 := hV.below hb2
    have hK2 := hK.on hlo h2.low
    refine (skCrash_on g.SD g.D ka kn kc _ V2 h2.disk (dcrash_any P.lo g.D g.st g.F (.slice ka kn kc) K V2 h2.dsk hK2.b hK2.l (h2.keepOk hK2) t0 (by omega))).mono ?_
    rintro e w' ⟨rfl, hl⟩
    refine ⟨rfl, dl_keptF hl, fb hb2 (h2.turnF hl (h2.ji.crash K) h2.stn (.inl (by show g.st.term < g.st.term + 1; omega)) ?_ (fun _ _ _ h => cand_crash K h))⟩
    have := cn.a; have := cn.b
    exact ⟨w0, by show g.st.writes ≤ _; omega, y0, by show g.st.syncs ≤ _; omega, by show 0 ≤ g.st.term + 1; omega, by show g.st.term + 1 ≤ _; omega, by omega, by omega⟩
  | 5, _, _, hk =>
    refine disk_trouble P.H g.SD P.k P.b P.x P.t P.l P.s1 P.s2 P.s3 P.o1 P.o2 P.o3 g.sv g.bv g.gv kd a bb tx ka kn kc P.n g.F _ w hV.hall hk1 hk2 hk hb1 hb2 hV.nH (fun i hi => (hV.dsk.lt i hi).2) (fun V2 hb2 => ?_)
    have h2 := hV.below hb2
    refine (skTrouble_on g.SD g.D _ _ _ V2 h2.disk (dtrouble_any P.lo g.D g.st g.F (pickZ bb 8) V2 h2.dsk hp8.1 (by omega))).mono ?_
    rintro e w' ⟨rfl, hl⟩
    refine ⟨rfl, dl_keptF hl, fb hb2 (h2.turnF hl (h2.ji.trouble _) h2.stn (.inr rfl) ?_ (fun _ _ _ h => cand_same (st := g.st) rfl rfl h))⟩
    exact cn.mono (Nat.le_succ j) |> fun c => ⟨c.w0, c.w1, c.y0, c.y1, c.t0, c.t1, c.a, c.b⟩
  | 6, _, _, hk =>
    refine disk_sync P.H g.SD P.k P.b P.x P.t P.l P.s1 P.s2 P.s3 P.o1 P.o2 P.o3 g.sv g.bv g.gv kd a bb tx ka kn kc P.n _ w hV.hall hk1 hk2 hk (fun V2 hb2 => ?_)
    have h2 := hV.below hb2
    refine (skSync_on g.SD g.D _ _ V2 h2.disk (dsync_any P.lo g.D g.st g.F V2 h2.dsk y0 (by omega))).mono ?_
    rintro e w' ⟨rfl, hl⟩
    exact ⟨⟨_, rfl⟩, fb hb2 (h2.turnF hl h2.ji.sync ((nr_sync _).n.trans h2.stn) (.inr (nr_sync _).t) (h2.cntN (nr_sync _) (by decide) (by decide)) (fun _ _ _ h => cand_sync h))⟩
  | 7, _, _, hk =>
    have hn2 := Kp.n2
    have hn8 := Kp.n8
    by_cases hn : P.n ≤ 2
    · refine (disk_none P.H g.SD P.k P.b P.x P.t P.l P.s1 P.s2 P.s3 P.o1 P.o2 P.o3 g.sv g.bv g.gv kd a bb tx ka kn kc P.n w hV.hall hk1 hk2 hk hn).mono ?_
      rintro e w' ⟨rfl, hb⟩
      exact ⟨rfl, g, (hV.below hb).next, fun q hq e => ⟨e, hb.block q hq⟩, ⟨rfl, rfl, rfl, rfl, rfl, rfl, fun _ _ _ h => h⟩⟩
    · obtain ⟨m, hm⟩ : ∃ m, P.n = m + 2 := ⟨P.n - 2, by omega⟩
      obtain ⟨p, hp, hp2⟩ := hpk m (by omega)
      refine disk_write P.H g.SD P.k P.b P.x P.t P.l P.s1 P.s2 P.s3 P.o1 P.o2 P.o3 g.sv g.bv g.gv kd a bb tx ka kn kc P.n g.F _ w hV.hall hk1 hk2 hk ha1 ha2 hts m hm (by omega) (by omega) p hp hp2 hV.nH (fun i hi => (hV.dsk.lt i hi).2) (fun V2 hb2 => ?_)
      have h2 := hV.below hb2
      refine (skWrite_on g.SD g.D _ _ _ _ V2 h2.disk (dwrite_any P.lo g.D g.st g.F (2 + (p : Int)) (someB tx 32) V2 h2.dsk h2.big w0 (by omega))).mono ?_
      rintro e w' ⟨rfl, hl⟩
      exact ⟨⟨_, rfl⟩, dl_keptF hl, fb hb2 (h2.turnF hl (h2.ji.beyond _ _ (by omega)) ((nr_write _ _ _).n.trans h2.stn) (.inr (nr_write _ _ _).t) (h2.cntN (nr_write _ _ _) (by decide) (by decide)) (fun s hs x h => (cand_write _ _ h).resolve_right (fun e => by have := e.1; omega)))⟩
  | 8, _, _, hk =>
    refine disk_moves P.H g.SD P.k P.b P.x P.t P.l P.s1 P.s2 P.s3 P.o1 P.o2 P.o3 g.sv g.bv g.gv kd a bb tx ka kn kc P.n _ w hV.hall hk1 hk2 hk (fun V2 hb2 => ?_)
    have h2 := hV.below hb2
    have hK2 := hK.on hlo h2.low
    rw [← h2.stn]
    refine (moves_on P.lo P.H g.SD g.D P.k P.b P.x P.t P.l P.s1 P.s2 P.s3 P.o1 P.o2 P.o3 g.sv g.bv g.gv g.st g.F ka kn kc K V2 h2.hall h2.disk h2.dsk h2.nH h2.nSD h2.big hK2.b hK2.l (h2.keepOk hK2) t0 (by omega)).mono ?_
    rintro e w' ⟨rfl, SD2, D2, F2, q1, q2, q3, q4, q5, q6, q7, q8⟩
    have hJ : JI P.tot (mvSt g.st K) g.jid g.sq g.sb := (h2.ji.crash K).same rfl rfl rfl
    suffices hcn : Cnt (j + 1) (mvSt g.st K) g.Ss.length g.L.length by
      obtain ⟨c', hh, hc2⟩ := h2.moved q1 q2 q3 q4 q5 q6 q7 q8 hJ h2.stn Kp.lH hcn
      refine ⟨rfl, fb hb2 ⟨_, hh, Fr.of_kept q7 (fun q e => ?_) (fun q hq e => (hc2 q hq (by rw [e]; decide)).trans e), ⟨rfl, rfl, rfl, rfl, rfl, rfl, fun _ _ _ h => cand_moved K h⟩⟩⟩
      rcases e with rfl | e
      · rw [h2.cH]; decide
      · rw [h2.cF q e]; decide
    have := cn.a; have := cn.b
    have e1 : g.st.n = P.n := h2.stn
    have := Kp.n8
    exact ⟨by show (0 : Int) ≤ (g.st.n : Int); omega, by show (g.st.n : Int) ≤ _; omega, by show (0 : Int) ≤ 1; omega, by show (1 : Int) ≤ _; omega, by show (0 : Int) ≤ 0; omega, by show (0 : Int) ≤ _; omega, by omega, by omega⟩
/-- What holds of a trail. -/
structure RI (P : OP) (j TR : Nat) (g : GH) (bg : Value) (B : List Int) (su go : Nat) (w : World) : Prop where
  hi : HI P j g w
  tr : Blk w TR (trC P.H bg su go) 58
  ct : g.c TR = 0
  rb : w.ownsRow P.lo 3 1 bg B.length (B.map (.int .i64))
  cb : ∀ q, bg.ownBlock = some q → g.c q = 0
  ys : g.ys = g.Ss.map fun s => .int .i64 s.bat
  jd : g.jid = P.idZ P.s1 P.s3
  z0 : (0 : Int) ∈ B
  inb : InB P.tot g.st g.jid B
  su : su ≤ g.sb
  go : go = g.gone
  ne : g.Ss ≠ [] → 1 ≤ g.sq
  bl : B.length ≤ 1 + j
  lT : P.lo ≤ TR
variable {TR : Nat} {bg : Value} {B : List Int} {su go : Nat}
theorem RI.same (h : RI P j TR g bg B su go w) (hj : j ≤ j') (hi : HI P j' g' w') (fr : Fr g g' w w') (sm : Sm g g') : RI P j' TR g' bg B su go w' := by
  obtain ⟨b1, b2⟩ := fr.blk h.tr h.ct
  obtain ⟨r1, r2⟩ := fr.row h.rb h.cb
  exact ⟨hi, b1, b2, r1, r2, by rw [sm.ys, sm.Ss]; exact h.ys, sm.jid.trans h.jd, h.z0, by rw [sm.jid]; exact h.inb.mono sm.cand, by rw [sm.sb]; exact h.su, by rw [sm.gone]; exact h.go, fun e => by rw [sm.sq]; exact h.ne (by rw [← sm.Ss]; exact e), Nat.le_trans h.bl (by omega), h.lT⟩
theorem RI.below (h : RI P j TR g bg B su go w) (hb : Below w.heap.size w w') : RI P j TR g bg B su go w' :=
  h.same (Nat.le_refl _) (h.hi.below hb) (fun q hq e => ⟨e, hb.block q hq⟩) ⟨rfl, rfl, rfl, rfl, rfl, rfl, fun _ _ _ h => h⟩
theorem RI.recolor (h : RI P j TR g bg B su go w) (hb : Below w.heap.size w w') : RI P j TR { g with c := paint g.c w.heap.size (fun _ => 0) } bg B su go w' :=
  h.same (Nat.le_refl _) (h.hi.recolor hb) (fun q hq e => ⟨(paint_lt (c := g.c) (d := fun _ => 0) hq).trans e, hb.block q hq⟩) ⟨rfl, rfl, rfl, rfl, rfl, rfl, fun _ _ _ h => h⟩
set_option maxHeartbeats 1000000 in
/-- The trail's step on the disk. -/
theorem rdo_disk (Kp : OPk P) (h : RI P j TR g bg B su go w) (hj : j ≤ 8796093022208) (hlo : P.lo ≤ P.Wd.heap.size) (kd a bb : Int) (tx : ByteArray) (ka : Option Addr) (kn kc : Nat) (K : List Bool) (bt c : Nat) (hk1 : -9223372036854775808 ≤ kd) (hk2 : kd ≤ 9223372036854775807) (ha1 : -9223372036854775808 ≤ a) (ha2 : a ≤ 9223372036854775807) (hb1 : -9223372036854775808 ≤ bb) (hb2 : bb ≤ 9223372036854775807) (hts : tx.size ≤ maxLen) (hK : KOk P P.Wd (.slice ka kn kc) K) (hbt : pickZ bb 64 = bt) (hbt2 : bt < 64) (hk : pickZ kd 9 = c) (hc : 3 < c) (hc9 : c < 9)
    (hpk : ∀ n : Nat, 1 ≤ n → ∃ p : Nat, pickZ a n = p ∧ p < n) (hp8 : 0 ≤ pickZ bb 8 ∧ pickZ bb 8 < 8) :
    Calls Tryz.prog 20 #[.pointer (some ⟨TR, 0, none⟩), .agg #[.int .i64 kd, .int .i64 a, .int .i64 bb, .string tx, .slice ka kn kc], .int .i64 P.n] w fun e w' => e = .returned (.bool true) ∧ ∃ g' bg' B' su' go', RI P (j + 1) TR g' bg' B' su' go' w' := by
  refine tstep_disk TR P.H g.SD P.k P.b P.x P.t P.l P.s1 P.s2 P.s3 P.o1 P.o2 P.o3 g.sv g.bv g.gv bg su go kd a bb tx ka kn kc P.n bt _ w h.hi.hall h.tr hk1 hk2 hb1 hb2 hbt hbt2 c hk hc hc9 (fun V hbV => ?_)
  have hV := h.recolor hbV
  refine (disk_do Kp hV.hi hj hlo kd a bb tx ka kn kc K c hk1 hk2 ha1 ha2 hb1 hb2 hts hK hk hc hc9 hpk hp8).mono ?_
  rintro e w' ⟨rfl, g', hh, fr, sm⟩
  have hR := hV.same (Nat.le_succ j) hh fr sm
  exact ⟨rfl, fun vs T hb => (fr.blk hb (paint_ge (c := g.c) (z := w.heap.size) (d := fun _ => 0) (Nat.le_refl _))).1, hR.tr, g', _, _, _, _, hR⟩
end
end Go.Proofs.YtgaoeoijdpdjiabGreatDoor

namespace Go.Proofs.YtgaoeoijdpdjiabGreatDoor
open Go.RowKit
/-- What is known of a signer that came out and is in no list yet. -/
structure Nw (P : OP) (j : Nat) (g : GH) (s : SgD) (V : World) : Prop where
  G : Blk V s.G [.pointer (some ⟨s.S, 0, none⟩)] 142
  S : Blk V s.S (P.cells s) 188
  cG : g.c s.G = 2
  cS : g.c s.S = 7 + g.Ss.length
  lS : P.lo ≤ s.S
  who : P.seed s.z1 s.z2 s.z3 ∧ 1 ≤ s.bat ∧ s.bat ≤ 64
  D : s.D = g.D
  tm : s.tm = g.st.term
  ov : s.ov = false
  lv : Live P g.jid g.sq g.sb g.gone s
  no : ∀ (i : Nat) (s' : SgD), g.Ss[i]? = some s' → s'.D = g.D → s'.tm < g.st.term
  len : g.Ss.length ≤ j
/-- One key alone. -/
structure One (P : OP) : Prop where
  a : P.o1 = P.s1
  b : P.o2 = P.s2
  c : P.o3 = P.s3
section
variable {P : OP} {j TR : Nat} {g : GH} {bg : Value} {B : List Int} {su go : Nat} {w w' : World}
theorem rbegun_none (h : RI P j TR g bg B su go w) {V1 V2 : World} {st2 : DSt} {F' : Nat → Prop} {r : Option Addr} {c : Int} (hb1 : Below w.heap.size w V1) (hk : Kept g.F V1 V2) (hd : DSk P.lo g.D st2 V2 F') (hf : ∀ q, F' q → g.F q ∨ V1.heap.size ≤ q) (hJ : JI P.tot st2 g.jid g.sq g.sb) (hn : st2.n = P.n) (ht : st2.term = g.st.term + 1) (hc : Cnt (j + 1) st2 g.Ss.length g.L.length) (hI : InB P.tot st2 g.jid B) (hG : Given none c r V2 w') (hc0 : c ≠ 0) :
    Kept g.F w w' ∧ r = none ∧ ∃ g', RI P (j + 1) TR g' bg B su go w' ∧ g'.Ss = g.Ss ∧ g'.st = st2 ∧ g'.sq = g.sq ∧ g'.gone = g.gone ∧ Fr g g' w w' := by
  obtain ⟨_, g2, g3⟩ := hG
  have hk2 : Kept g.F w w' := ((Kept.of_below (F := g.F) hb1).trans hk (fun i hi => .inl hi)).after g3
  obtain ⟨c', hh, hc1, _⟩ := h.hi.turnD (fun _ => 3) (hd.below g3) hk2 (fun q hq => (hf q hq).imp id (fun e => Nat.le_trans hb1.size e)) (fun _ _ _ => rfl) hJ h.hi.gs hn (.inl (by omega)) hc
  have fr : Fr g { g with c := c', F := F', st := st2, jid := g.jid, sq := g.sq, sb := g.sb } w w' := Fr.of_kept hk2 (fun q e => by rw [h.hi.cF q e]; decide) (fun q hq e => (hc1 q hq).trans e)
  obtain ⟨b1, b2⟩ := fr.blk h.tr h.ct
  obtain ⟨r1, r2⟩ := fr.row h.rb h.cb
  exact ⟨hk2, g2 hc0, _, ⟨hh, b1, b2, r1, r2, h.ys, h.jd, h.z0, hI, h.su, h.go, h.ne, Nat.le_trans h.bl (by omega), h.lT⟩, rfl, rfl, rfl, rfl, fr⟩
theorem rbegun_some (h : RI P j TR g bg B su go w) {V1 V2 : World} {st2 : DSt} {F' : Nat → Prop} {sq2 sb2 S : Nat} {r : Option Addr} {c : Int} (bat q b : Nat) (hb0 : 1 ≤ bat) (hb64 : bat ≤ 64) (hb1 : Below w.heap.size w V1) (hk : Kept g.F V1 V2) (hd : DSk P.lo g.D st2 V2 F') (hf : ∀ q, F' q → g.F q ∨ V1.heap.size ≤ q) (hJ : JI P.tot st2 g.jid sq2 sb2) (hg : g.sb ≤ sb2) (hn : st2.n = P.n) (ht : st2.term = g.st.term + 1) (hc : Cnt (j + 1) st2 g.Ss.length g.L.length) (hI : InB P.tot st2 g.jid B)
    (hS : Blk V2 S (P.cells ⟨V2.heap.size, S, g.D, g.st.term + 1, P.s1, P.s2, P.s3, bat, b, q, b, false⟩) 188) (nS : ¬ F' S) (lS : V1.heap.size ≤ S) (hq : q = sq2) (hbb : b = sb2) (hone : 1 ≤ sq2) (hG : Given (some ⟨S, 0, none⟩) c r V2 w') (hc0 : c = 0) :
    Kept g.F w w' ∧ ∃ (g' : GH) (s : SgD), r = some ⟨s.G, 0, none⟩ ∧ RI P (j + 1) TR g' bg B su go w' ∧ Nw P j g' s w' ∧ s.bat = bat ∧ s.nx = b ∧ s.bd = b ∧ s.q = q ∧ g'.Ss = g.Ss ∧ g'.st = st2 ∧ g'.sq = sq2 ∧ g'.sb = sb2 ∧ Fr g g' w w' := by
  obtain ⟨g1, _, g3⟩ := hG
  obtain ⟨hr, hG2⟩ := g1 hc0
  have hk2 : Kept g.F w w' := ((Kept.of_below (F := g.F) hb1).trans hk (fun i hi => .inl hi)).after g3
  have hsl := hS.lt
  have z12 := hk.size
  have z01 := hb1.size
  obtain ⟨c', hh, hc1, hc2⟩ := h.hi.turnD (fun i => if i = V2.heap.size then 2 else if i = S then 7 + g.Ss.length else 3) (hd.below g3) hk2 (fun q hq => (hf q hq).imp id (fun e => Nat.le_trans hb1.size e)) (fun i hi _ => by
      have := (hd.lt i hi).2
      rw [if_neg (by omega), if_neg (fun e => nS (by rw [← e]; exact hi))]) hJ (Nat.le_trans h.hi.gs hg) hn (.inl (by omega)) hc
  have fr : Fr g { g with c := c', F := F', st := st2, jid := g.jid, sq := sq2, sb := sb2 } w w' := Fr.of_kept hk2 (fun q e => by rw [h.hi.cF q e]; decide) (fun q hq e => (hc1 q hq).trans e)
  obtain ⟨b1, b2⟩ := fr.blk h.tr h.ct
  obtain ⟨r1, r2⟩ := fr.row h.rb h.cb
  refine ⟨hk2, _, ⟨V2.heap.size, S, g.D, g.st.term + 1, P.s1, P.s2, P.s3, bat, b, q, b, false⟩, hr, ⟨hh, b1, b2, r1, r2, h.ys, h.jd, h.z0, hI, Nat.le_trans h.su hg, h.go, fun _ => hone, Nat.le_trans h.bl (by omega), h.lT⟩, ⟨hG2, hS.on g3, ?_, ?_, ?_, ⟨.inl ⟨rfl, rfl, rfl⟩, hb0, hb64⟩, rfl, ht.symm, rfl, ⟨h.jd.symm, hq, hbb, ?_, ?_, hone⟩, ?_, h.hi.cnt.a⟩, rfl, rfl, rfl, rfl, rfl, rfl, rfl, rfl, fr⟩
  · exact (hc2 _ (by show w.heap.size ≤ V2.heap.size; omega)).trans (if_pos rfl)
  · exact (hc2 S (by omega)).trans ((if_neg (by omega)).trans (if_pos rfl))
  · have := h.hi.big
    show P.lo ≤ S
    omega
  · show g.gone ≤ b
    have := h.hi.gs
    omega
  · show b ≤ sb2
    omega
  · intro i s' hs hD
    show s'.tm < st2.term
    rcases h.hi.dd i s' hs with ⟨tm2, a, _⟩ | ⟨_, b⟩
    · have hD' : s'.D = g.D := hD
      rw [hD', h.hi.cF g.D h.hi.dsk.self] at a
      exact absurd a (by decide)
    · omega
/-- It is put into the lists. -/
theorem rcome (Kp : OPk P) (h : RI P (j + 1) TR g bg B su go w) {s : SgD} (hs : Nw P j g s w) {j' : Nat} (hj' : j + 1 ≤ j') {g1 c1 g2 c2 : Nat}
    (hH : Blk w' P.H (P.hall g.SD (.slice (some ⟨g1, 0, none⟩) (g.Ss.length + 1) c1) (.slice (some ⟨g2, 0, none⟩) (g.Ss.length + 1) c2) g.gv) 65)
    (r1 : w'.ownsRow P.lo 67 1 (.slice (some ⟨g1, 0, none⟩) (g.Ss.length + 1) c1) (g.Ss.length + 1) (ptrs g.Ss ++ [.pointer (some ⟨s.G, 0, none⟩)])) (r2 : w'.ownsRow P.lo 3 1 (.slice (some ⟨g2, 0, none⟩) (g.Ss.length + 1) c2) (g.Ss.length + 1) (g.ys ++ [.int .i64 (s.bat : Int)]))
    (hk : Kept (fun q => q = P.H ∨ g.sv.ownBlock = some q ∨ g.bv.ownBlock = some q) w w') (e1 : g.sv.ownBlock = some g1 ∨ w.heap.size ≤ g1) (e2 : g.bv.ownBlock = some g2 ∨ w.heap.size ≤ g2) (hne : g1 ≠ g2) :
    ∃ g', RI P j' TR g' bg B su go w' ∧ g'.Ss = g.Ss ++ [s] ∧ g'.st = g.st ∧ g'.D = g.D ∧ g'.sq = g.sq ∧ g'.sb = g.sb ∧ g'.gone = g.gone ∧ Fr g g' w w' := by
  have cn := h.hi.cnt
  have hlen := hs.len
  obtain ⟨c', hc, hc1⟩ := h.hi.come hs.G hs.S hs.cG hs.cS hs.lS hs.who hs.D hs.tm hs.lv hs.no (j' := j') hH r1 r2 hk e1 e2 hne Kp.lH ⟨cn.w0, by have := cn.w1; omega, cn.y0, by have := cn.y1; omega, cn.t0, by have := cn.t1; omega, by omega, by have := cn.b; omega⟩
  have fr : Fr g { g with c := c', sv := .slice (some ⟨g1, 0, none⟩) (g.Ss.length + 1) c1, bv := .slice (some ⟨g2, 0, none⟩) (g.Ss.length + 1) c2, Ss := g.Ss ++ [s], ys := g.ys ++ [.int .i64 (s.bat : Int)] } w w' := Fr.of_kept hk (fun q e => by
    rcases e with rfl | e | e
    · rw [h.hi.cH]; decide
    · rw [h.hi.cs q e]; decide
    · rw [h.hi.cb q e]; decide) (fun q hq e => (hc1 q hq).trans e)
  obtain ⟨b1, b2⟩ := fr.blk h.tr h.ct
  obtain ⟨x1, x2⟩ := fr.row h.rb h.cb
  refine ⟨_, ⟨hc, b1, b2, x1, x2, ?_, h.jd, h.z0, h.inb, h.su, h.go, fun _ => hs.lv.one, Nat.le_trans h.bl (by omega), h.lT⟩, rfl, rfl, rfl, rfl, rfl, rfl, fr⟩
  show g.ys ++ [.int .i64 (s.bat : Int)] = (g.Ss ++ [s]).map fun s => .int .i64 s.bat
  rw [List.map_append, h.ys]
  rfl
def CameR (P : OP) (j TR bat : Nat) (r : Option Addr) (c : Int) (V : World) : Prop :=
  (c ≠ 0 ∧ r = none ∧ ∃ g bg B su go, RI P (j + 1) TR g bg B su go V) ∨ (c = 0 ∧ ∃ (g : GH) (s : SgD) (bg : Value) (B : List Int) (su go : Nat), r = some ⟨s.G, 0, none⟩ ∧ RI P (j + 1) TR g bg B su go V ∧ Nw P j g s V ∧ s.bat = bat)
theorem rcame_some (Kp : OPk P) (hj : j ≤ 8796093022208) (h : RI P (j + 1) TR g bg B su go w) {s : SgD} (hs : Nw P j g s w) {j' : Nat} (hj' : j + 1 ≤ j') :
    Calls Tryz.prog 24 #[.pointer (some ⟨P.H, 0, none⟩), .pointer (some ⟨s.G, 0, none⟩), .int .i64 0, .int .i64 (s.bat : Int)] w fun e w' => e = .returned (.bool true) ∧ ∃ g', RI P j' TR g' bg B su go w' ∧ g'.Ss = g.Ss ++ [s] ∧ g'.st = g.st ∧ g'.D = g.D ∧ g'.sq = g.sq ∧ g'.sb = g.sb ∧ g'.gone = g.gone ∧ Fr g g' w w' ∧ w.heap.size ≤ w'.heap.size := by
  obtain ⟨sa, sc, hsv⟩ := owns_len h.hi.rs
  obtain ⟨ba, bc, hbv⟩ := owns_len h.hi.rb
  have e1 := h.hi.hall
  have e2 := h.hi.rs
  have e3 := h.hi.rb
  have hlen := hs.len
  refine (came_some P.lo P.H g.SD P.k P.b P.x P.t P.l P.s1 P.s2 P.s3 P.o1 P.o2 P.o3 sa ba g.Ss.length sc bc g.gv (ptrs g.Ss) g.ys s.G (s.bat : Int) w (by rw [← hsv, ← hbv]; exact e1) h.hi.big (by omega) (by rw [← hsv]; exact e2) (by rw [← hbv]; exact e3) ?_ ?_ ?_).mono ?_
  · rw [← hsv]
    intro e
    have a := h.hi.cs _ e
    have b := h.hi.cH
    omega
  · rw [← hbv]
    intro e
    have a := h.hi.cb _ e
    have b := h.hi.cH
    omega
  · rw [← hsv, ← hbv]
    intro q a b
    have a := h.hi.cs _ a
    have b := h.hi.cb _ b
    omega
  · rintro e w' ⟨rfl, g1, c1, g2, c2, q1, q2, q3, q4, q5, q6, q7⟩
    rw [← hsv, ← hbv] at q4
    rw [← hsv] at q5
    rw [← hbv] at q6
    obtain ⟨g', m⟩ := rcome Kp h hs hj' q1 q2 q3 q4 q5 q6 q7
    obtain ⟨m1, m2, m3, m4, m5, m6, m7, m8⟩ := m
    exact ⟨rfl, g', m1, m2, m3, m4, m5, m6, m7, m8, q4.size⟩
theorem rcame_do (Kp : OPk P) (hj : j ≤ 8796093022208) (bt : Nat) (V : World) (r : Option Addr) (c : Int) (h : CameR P j TR (bt + 1) r c V) :
    Calls Tryz.prog 24 #[.pointer (some ⟨P.H, 0, none⟩), .pointer r, .int .i64 c, .int .i64 ((bt : Int) + 1)] V fun e w' => e = .returned (.bool true) ∧ ∃ g' bg' B' su' go', RI P (j + 1) TR g' bg' B' su' go' w' := by
  rcases h with ⟨hc, rfl, g', bg, B, su, go, hh⟩ | ⟨rfl, g', s, bg, B, su, go, rfl, hh, hs, hb⟩
  · refine (came_none P.H c _ hc V).mono ?_
    rintro e w' ⟨rfl, rfl⟩
    exact ⟨rfl, g', _, _, _, _, hh⟩
  · have e : ((bt : Int) + 1) = (s.bat : Int) := by omega
    rw [e]
    refine (rcame_some Kp hj hh hs (Nat.le_refl _)).mono ?_
    rintro e w' ⟨rfl, g2, m1, _⟩
    exact ⟨rfl, g2, _, _, _, _, m1⟩
set_option maxHeartbeats 1000000 in
/-- Make: none came, or one. -/
theorem rmake (Kp : OPk P) (h : RI P j TR g bg B su go w) (hj : j ≤ 8796093022208) (bat : Nat) (hb0 : 1 ≤ bat) (hb64 : bat ≤ 64) (s' : DSt) (hs' : s' = { g.st with term := g.st.term + 1 }) :
    Calls Tryz.prog 23 #[.pointer (some ⟨g.SD, 0, none⟩), .agg #[.int .i64 P.k, .int .i64 P.b, .int .i64 P.x, .int .i64 P.t, .int .i64 P.l], .agg #[.string P.s1, .string P.s2, .string P.s3], .int .i64 bat] w fun e w' => ∃ r c, e = .returned (.tuple #[.pointer r, .int .i64 c]) ∧ Kept g.F w w' ∧
      ((mkAns s' (P.idZ P.s1 P.s3) ≠ 0 ∧ c = mkAns s' (P.idZ P.s1 P.s3) ∧ r = none ∧ ∃ g', RI P (j + 1) TR g' bg B su go w') ∨
       (mkAns s' (P.idZ P.s1 P.s3) = 0 ∧ c = 0 ∧ ∃ (g' : GH) (s : SgD), r = some ⟨s.G, 0, none⟩ ∧ RI P (j + 1) TR g' bg B su go w' ∧ Nw P j g' s w' ∧ s.bat = bat ∧ g'.Ss = g.Ss ∧ g'.st = mkSt s' (P.idZ P.s1 P.s3))) := by
  have hz : P.seed P.s1 P.s2 P.s3 := .inl ⟨rfl, rfl, rfl⟩
  have cn := h.hi.cnt
  have t0 := cn.t0
  have t1 := cn.t1
  have y0 := cn.y0
  have y1 := cn.y1
  have w0 := cn.w0
  have w1 := cn.w1
  obtain ⟨q1, q2, q3⟩ := Kp.sz hz
  obtain ⟨hrk, hb16⟩ := Kp.rk hz
  have hid8 := Kp.id8 hz
  have hsy : s'.syncs = g.st.syncs := by rw [hs']
  have hwy : s'.writes = g.st.writes := by rw [hs']
  have htt : s'.term = g.st.term + 1 := by rw [hs']
  have hnn : s'.n = g.st.n := by rw [hs']
  have n3 := nr_ops s' 3
  have nT := nr_mkT s' (P.idZ P.s1 P.s3)
  have nM := nr_make s' (P.idZ P.s1 P.s3)
  have o1 := n3.w1; have o2 := n3.w2; have o3 := nT.y1; have o4 := nT.y2
  have hj1 : JI P.tot s' g.jid g.sq g.sb := by rw [hs']; exact h.hi.ji.term _
  have hI1 : InB P.tot s' g.jid B := h.inb.mono (fun s _ x hx => by rw [hs'] at hx; exact cand_same (st := g.st) rfl rfl hx)
  refine (smake_any g.SD g.D g.F (fun v c V1 V2 => ∃ F', DSk P.lo g.D (mkSt s' (P.idZ P.s1 P.s3)) V2 F' ∧ (∀ q, F' q → g.F q ∨ V1.heap.size ≤ q) ∧ ((mkAns s' (P.idZ P.s1 P.s3) = 0 ∧ c = 0 ∧ ∃ S, v = some ⟨S, 0, none⟩ ∧ Blk V2 S (P.cells ⟨V2.heap.size, S, g.D, g.st.term + 1, P.s1, P.s2, P.s3, bat, 0, 1, 0, false⟩) 188 ∧ ¬ F' S ∧ V1.heap.size ≤ S) ∨ (mkAns s' (P.idZ P.s1 P.s3) ≠ 0 ∧ c = mkAns s' (P.idZ P.s1 P.s3) ∧ v = none))) P.k P.b P.x P.t P.l bat P.s1 P.s2 P.s3 w h.hi.disk (fun i hi => (h.hi.dsk.lt i hi).2) ?_).mono ?_
  · intro V1 hb
    have h1 := h.hi.below hb
    refine (make_any P.lo g.D g.st g.F P.k P.b P.x P.t P.l (P.rootZ P.s1 P.s3) P.s3 P.s1 P.s2 (P.idZ P.s1 P.s3) (P.tot : Int) bat _ _ _ _ _ V1 h1.dsk (by rw [h1.stn]; exact Kp.n2) (h1.T Kp) Kp.TB h1.big (by omega) (by omega) t0 (by omega) (fun V => measure_nat P.k P.b P.x P.e P.f P.t P.l Kp.R V) (fun V hT => ofY P.k P.b P.x P.e P.f P.t P.l Kp.R P.s1 P.s2 P.s3 q1 q2 q3 V hT) (fun V hT => keyId_any P.k P.b P.x P.t P.l (P.rootZ P.s1 P.s3) P.s3 V Kp.R.kk (by omega) (by omega) hT) s' hs' (by omega) (by omega) hid8 (by omega) (by omega) (by omega) (by omega)).mono ?_
    rintro e w' ⟨F', d1, d2, d3, ⟨d4, S, rfl, d5, d6, d7⟩ | ⟨d4, rfl⟩⟩
    · exact ⟨_, _, rfl, d2, F', d1, d3, .inl ⟨d4, rfl, S, rfl, d5, d6, d7⟩⟩
    · exact ⟨_, _, rfl, d2, F', d1, d3, .inr ⟨d4, rfl, rfl⟩⟩
  · rintro e w' ⟨v, c, r, V1, V2, rfl, hb, hkk, ⟨F', d1, d3, d4⟩, hG⟩
    have hcn := cntT h.hi hs' nM (by decide) (by decide)
    have hjd := h.jd
    have hI2 : InB P.tot (mkSt s' (P.idZ P.s1 P.s3)) g.jid B := by
      rw [hjd] at hI1 ⊢
      exact hI1.make hid8 Kp.tot4 h.z0
    rcases d4 with ⟨d4, rfl, S, rfl, d5, d6, d7⟩ | ⟨d4, rfl, rfl⟩
    · rcases hj1.made hid8 with ⟨_, k2, k3⟩ | ⟨k1, _⟩
      · have k3' : JI P.tot (mkSt s' (P.idZ P.s1 P.s3)) g.jid 1 0 := by rw [hjd]; exact k3
        obtain ⟨m1, g', s, m2, m3, m4, m5, _, _, _, m9, m10, _⟩ := rbegun_some h bat 1 0 hb0 hb64 hb hkk d1 d3 k3' (by omega) (nM.n.trans (hnn.trans h.hi.stn)) (nM.t.trans htt) hcn hI2 d5 d6 d7 rfl rfl (by decide) hG rfl
        exact ⟨_, _, rfl, m1, .inr ⟨d4, rfl, g', s, m2, m3, m4, m5, m9, m10⟩⟩
      · exact absurd d4 k1
    · rcases hj1.made hid8 with ⟨k1, _⟩ | ⟨_, id', k2, k3⟩
      · exact absurd k1 d4
      · have e : id' = g.jid := by
          rcases k2 with e | e
          · exact e
          · rw [e, hjd]
        rw [e] at k3
        obtain ⟨m1, m2, g', m3, _⟩ := rbegun_none h hb hkk d1 d3 k3 (nM.n.trans (hnn.trans h.hi.stn)) (nM.t.trans htt) hcn hI2 hG d4
        exact ⟨_, _, rfl, m1, .inl ⟨d4, rfl, m2, g', m3⟩⟩
theorem rdo_make (Kp : OPk P) (h : RI P j TR g bg B su go w) (hj : j ≤ 8796093022208) (kd a bb : Int) (tx : ByteArray) (ka : Option Addr) (kn kc : Nat) (bt : Nat) (hk1 : -9223372036854775808 ≤ kd) (hk2 : kd ≤ 9223372036854775807) (hb1 : -9223372036854775808 ≤ bb) (hb2 : bb ≤ 9223372036854775807) (hbt : pickZ bb 64 = bt) (hbt2 : bt < 64) (hk : pickZ kd 9 = 0) :
    Calls Tryz.prog 20 #[.pointer (some ⟨TR, 0, none⟩), .agg #[.int .i64 kd, .int .i64 a, .int .i64 bb, .string tx, .slice ka kn kc], .int .i64 P.n] w fun e w' => e = .returned (.bool true) ∧ ∃ g' bg' B' su' go', RI P (j + 1) TR g' bg' B' su' go' w' := by
  refine tstep_make TR P.H g.SD P.k P.b P.x P.t P.l P.s1 P.s2 P.s3 P.o1 P.o2 P.o3 g.sv g.bv g.gv bg su go kd a bb tx ka kn kc P.n bt g.F (CameR P j TR (bt + 1)) _ w h.hi.hall h.tr hk1 hk2 hb1 hb2 hbt hbt2 hk (h.hi.nF (by rw [h.ct]; decide)) h.hi.nH (fun V hbV => ?_) (fun V r c hq => rcame_do Kp hj bt V r c hq)
  have e : (bt : Int) + 1 = ((bt + 1 : Nat) : Int) := by omega
  rw [e]
  refine (rmake Kp (h.below hbV) hj (bt + 1) (by omega) (by omega) _ rfl).mono ?_
  rintro e w' ⟨r, c, rfl, hk, ⟨d4, rfl, rfl, g', m⟩ | ⟨d4, rfl, g', s, rfl, m1, m2, m3, _⟩⟩
  · exact ⟨_, _, rfl, hk, .inl ⟨d4, rfl, g', _, _, _, _, m⟩⟩
  · exact ⟨_, _, rfl, hk, .inr ⟨rfl, g', s, _, _, _, _, rfl, m1, m2, m3⟩⟩
end
end Go.Proofs.YtgaoeoijdpdjiabGreatDoor

namespace Go.Proofs.YtgaoeoijdpdjiabGreatDoor
open Go.RowKit
section
variable {P : OP} {j TR : Nat} {g : GH} {bg : Value} {B : List Int} {su go : Nat} {w w' : World}
theorem st_over (h : HI P j g w) {i : Nat} {s : SgD} (hs : g.Ss[i]? = some s) {tm2 : Int} (d1 : s.D < w.heap.size) (d2 : w.cell? ⟨s.D, 5, none⟩ = some (.int .i64 tm2)) (d3 : s.ov = true ∨ s.tm ≠ tm2) :
    Calls Tryz.prog 30 #[.pointer (some ⟨s.G, 0, none⟩)] w fun e w' => e = .returned (.agg #[.int .i64 s.nx, .int .i64 s.bd, .int .i64 s.q, .bool true]) ∧ Below w.heap.size w w' := by
  obtain ⟨m1, m2, _⟩ := h.mem i s hs
  exact sgState_ov s.G s.S s.nx s.bd s.q w m1 (fun V hb => state_ov s.S s.D s.tm P.k P.b P.x P.t P.l (P.rootZ s.z1 s.z3) s.z3 s.z1 s.z2 _ s.bat s.nx s.q s.bd (P.idZ s.z1 s.z3) s.ov tm2 V (m2.on hb) (Nat.lt_of_lt_of_le d1 hb.size) ((hb.cell (p := ⟨s.D, 5, none⟩) d1).trans d2) d3)
theorem st_live (h : HI P j g w) {i : Nat} {s : SgD} (hs : g.Ss[i]? = some s) (d1 : s.D = g.D) (d2 : s.tm = g.st.term) (d3 : s.ov = false) :
    Calls Tryz.prog 30 #[.pointer (some ⟨s.G, 0, none⟩)] w fun e w' => e = .returned (.agg #[.int .i64 s.nx, .int .i64 s.bd, .int .i64 s.q, .bool false]) ∧ Below w.heap.size w w' := by
  obtain ⟨m1, m2, _⟩ := h.mem i s hs
  have m2' : Blk w s.S (sgC s.D s.tm P.k P.b P.x P.t P.l (P.rootZ s.z1 s.z3) s.z3 s.z1 s.z2 (P.tot : Int) s.bat s.nx s.q s.bd (P.idZ s.z1 s.z3) false) 188 := by
    have := m2
    unfold OP.cells at this
    rw [d3] at this
    exact this
  have hD : s.D < w.heap.size := by rw [d1]; exact h.dsk.ltD
  have h5 : w.cell? ⟨s.D, 5, none⟩ = some (.int .i64 s.tm) := by rw [d1, d2]; exact h.dsk.term
  exact sgState_on s.G s.S s.nx s.bd s.q w m1 (fun V hb => state_on s.S s.D s.tm P.k P.b P.x P.t P.l (P.rootZ s.z1 s.z3) s.z3 s.z1 s.z2 _ s.bat s.nx s.q s.bd (P.idZ s.z1 s.z3) V (m2'.on hb) (Nat.lt_of_lt_of_le hD hb.size) ((hb.cell (p := ⟨s.D, 5, none⟩) hD).trans h5))
/-- A bound is noted. -/
theorem rwill (Kp : OPk P) (h : RI P j TR g bg B su go w) (hbl : B.length ≤ 8796093022208) {i : Nat} {s : SgD} (hs : g.Ss[i]? = some s) (d1 : s.D = g.D) (d2 : s.tm = g.st.term) (d3 : s.ov = false) (m nb : Nat) (hm : m ≤ 64) (hbd : s.bd < P.tot) (hnb : nb = min (s.bd + m) P.tot) :
    Calls Tryz.prog 101 #[.pointer (some ⟨TR, 0, none⟩), .pointer (some ⟨s.G, 0, none⟩), .int .i64 m] w fun e w' => e = .returned (.tuple #[]) ∧ Kept (fun q => q = TR ∨ bg.ownBlock = some q) w w' ∧ ∃ bg', RI P (j + 1) TR { g with c := paint g.c w.heap.size (fun _ => 0) } bg' (B ++ [(nb : Int)]) su go w' := by
  obtain ⟨ba, bc, hbg⟩ := owns_len h.rb
  have h4 := Kp.tot4
  have e1 := h.tr
  have e2 := h.rb
  have hT1 : bg.ownBlock ≠ some TR := owns_ne_blk e2 e1 (by decide)
  have hT2 : bg.ownBlock ≠ some P.H := owns_ne_blk e2 h.hi.hall (by decide)
  have hne : P.H ≠ TR := blk_neT h.hi.hall e1 (by decide)
  refine (will_yes P.lo TR P.H g.SD s.G P.k P.b P.x P.t P.l P.s1 P.s2 P.s3 P.o1 P.o2 P.o3 g.sv g.bv g.gv ba B.length bc su go (B.map (.int .i64)) s.nx s.bd s.q m nb w h.hi.hall (by rw [← hbg]; exact e1) Kp.R.t2 Kp.R.l2 (st_live h.hi hs d1 d2 d3) (by show (s.bd : Int) < (P.tot : Int); omega) (by show (if (s.bd : Int) + (m : Int) < (P.tot : Int) then (s.bd : Int) + (m : Int) else (P.tot : Int)) = (nb : Int); split <;> omega) (by rw [IntKind.wrap_i64] <;> omega) h.hi.big hbl (by rw [← hbg]; exact e2) (by rw [← hbg]; exact hT1) (by rw [← hbg]; exact hT2) hne).mono ?_
  rintro e w' ⟨rfl, gb, cap, q1, q2, q3, q4⟩
  rw [← hbg] at q3 q4
  have hf := h.hi.foreign q3 (fun q e => .inl (by
    rcases e with rfl | e
    · exact h.ct
    · exact h.cb q e)) (fun q e => by
    rcases e with rfl | e
    · exact h.lT
    · exact (e2.lt q e).1)
  refine ⟨rfl, q3, .slice (some ⟨gb, 0, none⟩) (B.length + 1) cap, ⟨hf.next, q1, ?_, ?_, ?_, h.ys, h.jd, List.mem_append_left _ h.z0, h.inb.more (fun y hy => List.mem_append_left _ hy), h.su, h.go, h.ne, by rw [List.length_append]; have := h.bl; simp only [List.length_singleton]; omega, h.lT⟩⟩
  · exact (paint_lt (c := g.c) (d := fun _ => 0) e1.lt).trans h.ct
  · rw [List.length_append, List.map_append]
    exact q2
  · intro q e
    have e' : gb = q := by simpa [Value.ownBlock] using e
    subst e'
    rcases q4 with e3 | e3
    · exact (paint_lt (c := g.c) (d := fun _ => 0) (e2.lt gb e3).2).trans (h.cb gb e3)
    · exact paint_ge (c := g.c) (d := fun _ => 0) e3
end
end Go.Proofs.YtgaoeoijdpdjiabGreatDoor
