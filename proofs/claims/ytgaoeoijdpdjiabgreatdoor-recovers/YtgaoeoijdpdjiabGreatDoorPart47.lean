/-
  A trail's signer signs. A trail's signer is opened.
-/
import Derived.Test.YtgaoeoijdpdjiabGreatDoorPart45
import Derived.Test.YtgaoeoijdpdjiabGreatDoorPart44
namespace Go.Proofs.YtgaoeoijdpdjiabGreatDoor
open Go.RowKit
theorem cell_heap {w w' : World} {p : Addr} (h : w'.heap = w.heap) : w'.cell? p = w.cell? p := World.cell?_of_block (w := w) (by rw [h])
set_option maxRecDepth 20000 in
set_option maxHeartbeats 4000000 in
theorem tsigns_no (TR H SD : Nat) (k b x t l : Int) (s1 s2 s3 o1 o2 o3 : ByteArray) (g ns sc g2 sc2 i G : Nat) (gv bg : Value) (su go : Int) (bat nx bd q : Int) (ov : Bool) (msg : ByteArray) (c : Int) (X : Nat → Prop) (Q1 Q2 : World → Prop) (w : World) (hH : Blk w H (hallC SD k b x t l s1 s2 s3 o1 o2 o3 (.slice (some ⟨g, 0, none⟩) ns sc) (.slice (some ⟨g2, 0, none⟩) ns sc2) gv) 65) (hTR : Blk w TR (trC H bg su go) 58) (hi : i < ns) (hsc : ns ≤ sc) (hsc2 : ns ≤ sc2) (hgc : w.cell? ⟨g, i, none⟩ = some (.pointer (some ⟨G, 0, none⟩))) (hgl : g2 < w.heap.size) (hgc2 : w.cell? ⟨g2, i, none⟩ = some (.int .i64 bat)) (hns : ns ≤ 8796093022208) (hX : ∀ q, X q → q < w.heap.size) (hnx : nx ≠ bd) (hc : c ≠ 0)
    (hSt : Calls Tryz.prog 30 #[.pointer (some ⟨G, 0, none⟩)] w fun e w' => e = .returned (.agg #[.int .i64 nx, .int .i64 bd, .int .i64 q, .bool ov]) ∧ Below w.heap.size w w')
    (hQ1 : ∀ V, Below w.heap.size w V → Q1 V)
    (hSg : ∀ V, Q1 V → Calls Tryz.prog 52 #[.pointer (some ⟨G, 0, none⟩), .string msg] V fun e w' => e = .returned (.tuple #[.string ⟨#[]⟩, .int .i64 c]) ∧ Kept X V w' ∧ Q2 w') :
    Calls Tryz.prog 59 #[.pointer (some ⟨TR, 0, none⟩), .int .i64 i, .string msg] w fun e w' => e = .returned (.bool true) ∧ Q2 w' := by
  have t0 : w.cell? ⟨TR, 0, none⟩ = some (.pointer (some ⟨H, 0, none⟩)) := hTR.cell 0
  have h12 : w.cell? ⟨H, 12, none⟩ = some (.slice (some ⟨g, 0, none⟩) ns sc) := hH.cell 12
  have hi3 : (i : Int) < (ns : Int) := by omega
  have hi5 : i < sc := by omega
  have hi7 : i < sc2 := by omega
  have hi6 : (i : Int) < 8796093022208 := by omega
  have HI := hide (And.intro hi3 (And.intro hi7 hi6))
  have HTR := hide hTR
  have HH := hide hH
  have HST := hide hSt
  have HX := hide hX
  have HG2 := hide (And.intro hgl hgc2)
  have HSG := hide hSg
  have HQ1 := hide hQ1
  have e1 : (nx == bd) = false := by simpa using hnx
  have e2 : (c == 0) = false := by simpa using hc
  clear hH hTR hi hsc hsc2 hgl hgc2 hns hX hSt hSg hQ1 hnx hc
  go_enter Tryz.func59, Tryz.ntmps59
  go_wp2_with fail
  refine HST.out.mono ?_
  rintro e w1 ⟨rfl, hb1⟩
  obtain ⟨W2, hW2⟩ : ∃ W2, w1.alloc (.cells #[.int .i64 nx, .int .i64 bd, .int .i64 q, .bool ov] 79) = W2 := ⟨_, rfl⟩
  obtain ⟨SB, hSB⟩ : ∃ SB, w1.heap.size = SB := ⟨_, rfl⟩
  have HBX := hide (show Blk W2 SB [.int .i64 nx, .int .i64 bd, .int .i64 q, .bool ov] 79 by rw [← hW2, ← hSB]; exact Blk.new w1 _ _)
  have HB2 := hide (show Below w.heap.size w W2 by rw [← hW2]; exact hb1.alloc hb1.size _)
  have HSL := hide (show w.heap.size ≤ SB by rw [← hSB]; exact hb1.size)
  have HWE := hide hW2
  have HSE := hide hSB
  clear hb1 hW2 hSB
  clear t0 h12 hgc hi3 hi5 hi7 hi6
  have b0' : (w1.alloc (.cells #[.int .i64 nx, .int .i64 bd, .int .i64 q, .bool ov] 79)).cell? ⟨w1.heap.size, 0, none⟩ = some (.int .i64 nx) := (Blk.new w1 [.int .i64 nx, .int .i64 bd, .int .i64 q, .bool ov] 79).cell 0
  have b1' : (w1.alloc (.cells #[.int .i64 nx, .int .i64 bd, .int .i64 q, .bool ov] 79)).cell? ⟨w1.heap.size, 1, none⟩ = some (.int .i64 bd) := (Blk.new w1 [.int .i64 nx, .int .i64 bd, .int .i64 q, .bool ov] 79).cell 1
  have HBX3 := hide HBX.out
  have HSG3 := hide (HSG.out _ (HQ1.out _ HB2.out))
  go_wp2_with fail
  rw [HWE.out]
  clear b0' b1' e1
  refine HSG3.out.mono ?_
  rintro e w4 ⟨rfl, hk4, hq4⟩
  have HQ := hide hq4
  clear hk4 hq4
  go_wp2
  go_ret
  exact ⟨rfl, HQ.out⟩
set_option maxRecDepth 20000 in
set_option maxHeartbeats 4000000 in
theorem tsigns_up (TR H SD : Nat) (k b x t l : Int) (s1 s2 s3 o1 o2 o3 : ByteArray) (g ns sc g2 sc2 i G : Nat) (gv bg : Value) (su go : Int) (bat nx bd q : Int) (ov : Bool) (msg : ByteArray) (sig : ByteArray) (idx : Nat) (bd2 q2 : Int) (X : Nat → Prop) (Q1 Q2 : World → Prop) (w : World) (hH : Blk w H (hallC SD k b x t l s1 s2 s3 o1 o2 o3 (.slice (some ⟨g, 0, none⟩) ns sc) (.slice (some ⟨g2, 0, none⟩) ns sc2) gv) 65) (hTR : Blk w TR (trC H bg su go) 58) (hi : i < ns) (hsc : ns ≤ sc) (hsc2 : ns ≤ sc2) (hgc : w.cell? ⟨g, i, none⟩ = some (.pointer (some ⟨G, 0, none⟩))) (hgl : g2 < w.heap.size) (hgc2 : w.cell? ⟨g2, i, none⟩ = some (.int .i64 bat)) (hns : ns ≤ 8796093022208) (hX : ∀ q, X q → q < w.heap.size) (hnx : nx ≠ bd) (hz : 4 ≤ sig.size) (hv : valN sig 0 4 = idx) (hgo : go ≤ idx) (hidx : nx = idx) (hb2 : (idx : Int) < bd2) (hup : su < bd2) (hix : idx ≤ 4096)
    (hSt : Calls Tryz.prog 30 #[.pointer (some ⟨G, 0, none⟩)] w fun e w' => e = .returned (.agg #[.int .i64 nx, .int .i64 bd, .int .i64 q, .bool ov]) ∧ Below w.heap.size w w')
    (hQ1 : ∀ V, Below w.heap.size w V → Q1 V)
    (hSg : ∀ V, Q1 V → Calls Tryz.prog 52 #[.pointer (some ⟨G, 0, none⟩), .string msg] V fun e w' => e = .returned (.tuple #[.string sig, .int .i64 0]) ∧ Kept X V w' ∧ Q2 w')
    (hQ2 : ∀ V, Q2 V → ∃ bg, Blk V TR (trC H bg su go) 58)
    (hSt2 : ∀ V V2, Q2 V → Below V.heap.size V V2 → Calls Tryz.prog 30 #[.pointer (some ⟨G, 0, none⟩)] V2 fun e w' => e = .returned (.agg #[.int .i64 ((idx : Int) + 1), .int .i64 bd2, .int .i64 q2, .bool false]) ∧ Below V2.heap.size V2 w') :
    Calls Tryz.prog 59 #[.pointer (some ⟨TR, 0, none⟩), .int .i64 i, .string msg] w fun e w' => e = .returned (.bool true) ∧ ∃ V bg, Q2 V ∧ Blk V TR (trC H bg su go) 58 ∧ Blk w' TR (trC H bg bd2 ((idx : Int) + 1)) 58 ∧ Kept (fun q => q = TR) V w' := by
  have t0 : w.cell? ⟨TR, 0, none⟩ = some (.pointer (some ⟨H, 0, none⟩)) := hTR.cell 0
  have h12 : w.cell? ⟨H, 12, none⟩ = some (.slice (some ⟨g, 0, none⟩) ns sc) := hH.cell 12
  have hi3 : (i : Int) < (ns : Int) := by omega
  have hi5 : i < sc := by omega
  have hi7 : i < sc2 := by omega
  have hi6 : (i : Int) < 8796093022208 := by omega
  have HI := hide (And.intro hi3 (And.intro hi7 hi6))
  have HTR := hide hTR
  have HH := hide hH
  have HST := hide hSt
  have HX := hide hX
  have HG2 := hide (And.intro hgl hgc2)
  have HSG := hide hSg
  have HQ1 := hide hQ1
  have e1 : (nx == bd) = false := by simpa using hnx
  have HVL := hide (fun V : World => kvalue_on sig V hz)
  rw [hv] at HVL
  have HQ2 := hide hQ2
  have HST2 := hide hSt2
  have z4 : decide ((4 : Int) ≤ (sig.size : Int)) = true := decide_eq_true (by omega)
  have zn : ((idx : Int) == nx) = true := by rw [hidx]; simp
  have zn2 : ((idx : Int) == (idx : Int)) = true := by simp
  have zg : decide (go ≤ (idx : Int)) = true := decide_eq_true hgo
  have zb : decide ((idx : Int) < bd2) = true := decide_eq_true hb2
  have zu : decide (su < bd2) = true := decide_eq_true hup
  have zw : IntKind.i64.wrap ((idx : Int) + 1) = (idx : Int) + 1 := by rw [IntKind.wrap_i64] <;> omega
  have ze : ((idx : Int) + 1 == (idx : Int) + 1) = true := by simp
  clear hH hTR hi hsc hsc2 hgl hgc2 hns hX hSt hSg hQ1 hnx hz hv hgo hidx hb2 hup hix hQ2 hSt2
  go_enter Tryz.func59, Tryz.ntmps59
  go_wp2_with fail
  refine HST.out.mono ?_
  rintro e w1 ⟨rfl, hb1⟩
  obtain ⟨W2, hW2⟩ : ∃ W2, w1.alloc (.cells #[.int .i64 nx, .int .i64 bd, .int .i64 q, .bool ov] 79) = W2 := ⟨_, rfl⟩
  obtain ⟨SB, hSB⟩ : ∃ SB, w1.heap.size = SB := ⟨_, rfl⟩
  have HBX := hide (show Blk W2 SB [.int .i64 nx, .int .i64 bd, .int .i64 q, .bool ov] 79 by rw [← hW2, ← hSB]; exact Blk.new w1 _ _)
  have HB2 := hide (show Below w.heap.size w W2 by rw [← hW2]; exact hb1.alloc hb1.size _)
  have HSL := hide (show w.heap.size ≤ SB by rw [← hSB]; exact hb1.size)
  have HWE := hide hW2
  have HSE := hide hSB
  clear hb1 hW2 hSB
  clear t0 h12 hgc hi3 hi5 hi7 hi6
  have b0' : (w1.alloc (.cells #[.int .i64 nx, .int .i64 bd, .int .i64 q, .bool ov] 79)).cell? ⟨w1.heap.size, 0, none⟩ = some (.int .i64 nx) := (Blk.new w1 [.int .i64 nx, .int .i64 bd, .int .i64 q, .bool ov] 79).cell 0
  have b1' : (w1.alloc (.cells #[.int .i64 nx, .int .i64 bd, .int .i64 q, .bool ov] 79)).cell? ⟨w1.heap.size, 1, none⟩ = some (.int .i64 bd) := (Blk.new w1 [.int .i64 nx, .int .i64 bd, .int .i64 q, .bool ov] 79).cell 1
  have HBX3 := hide HBX.out
  have HSG3 := hide (HSG.out _ (HQ1.out _ HB2.out))
  go_wp2_with fail
  rw [HWE.out]
  clear b0' b1' e1
  refine HSG3.out.mono ?_
  rintro e w4 ⟨rfl, hk4, hq4⟩
  have HQ4 := hide hq4
  have HBX4 := hide (blkK HBX3.out hk4 (fun e => by have := HX.out _ e; have := HSL.out; omega))
  obtain ⟨bg4, hb4⟩ := HQ2.out _ hq4
  have HTR4 := hide hb4
  clear hk4 hq4 hb4
  go_wp2_with fail
  refine (HVL.out _).mono ?_
  rintro e w5 ⟨rfl, hb5⟩
  have HB5 := hide hb5
  have HS5 := hide (HST2.out _ _ HQ4.out hb5)
  clear hb5
  go_wp2_with fail
  refine HS5.out.mono ?_
  rintro e w6 ⟨rfl, hb6⟩
  obtain ⟨W7, hW7⟩ : ∃ W7, w6.alloc (.cells #[.int .i64 ((idx : Int) + 1), .int .i64 bd2, .int .i64 q2, .bool false] 79) = W7 := ⟨_, rfl⟩
  obtain ⟨S2, hS2⟩ : ∃ S2, w6.heap.size = S2 := ⟨_, rfl⟩
  have hb46 := heldB HB5.out hb6 (Nat.le_refl _)
  have HB7 := hide (show Below w4.heap.size w4 W7 by rw [← hW7]; exact hb46.alloc hb46.size _)
  have HBY := hide (show Blk W7 S2 [.int .i64 ((idx : Int) + 1), .int .i64 bd2, .int .i64 q2, .bool false] 79 by rw [← hW7, ← hS2]; exact Blk.new w6 _ _)
  have HTR7 := hide (HTR4.out.on HB7.out)
  have HBX7 := hide (HBX4.out.on HB7.out)
  have HSN := hide (show S2 ≠ TR ∧ SB ≠ TR by
    have a1 := HTR4.out.lt
    have a2 := hb46.size
    have a3 := HTR.out.lt
    have a4 := HSL.out
    constructor <;> omega)
  have c3 : W7.cell? ⟨TR, 3, none⟩ = some (.int .i64 go) := HTR7.out.cell 3
  have f3 : W7.frozen? ⟨TR, 3, none⟩ = false := HTR7.out.free 3
  have c3' : (w6.alloc (.cells #[.int .i64 ((idx : Int) + 1), .int .i64 bd2, .int .i64 q2, .bool false] 79)).cell? ⟨TR, 3, none⟩ = some (.int .i64 go) := by rw [hW7]; exact c3
  have f3' : (w6.alloc (.cells #[.int .i64 ((idx : Int) + 1), .int .i64 bd2, .int .i64 q2, .bool false] 79)).frozen? ⟨TR, 3, none⟩ = false := by rw [hW7]; exact f3
  obtain ⟨W8, hW8⟩ : ∃ W8, W7.setCell ⟨TR, 3, none⟩ (.int .i64 ((idx : Int) + 1)) = W8 := ⟨_, rfl⟩
  have HTR8 := hide (show Blk W8 TR (trC H bg4 su ((idx : Int) + 1)) 58 by rw [← hW8]; exact HTR7.out.set 3 _)
  have HBX8 := hide (show Blk W8 SB [.int .i64 nx, .int .i64 bd, .int .i64 q, .bool ov] 79 by rw [← hW8]; exact HBX7.out.other (a := ⟨TR, 3, none⟩) _ HSN.out.2)
  have HBY8 := hide (show Blk W8 S2 [.int .i64 ((idx : Int) + 1), .int .i64 bd2, .int .i64 q2, .bool false] 79 by rw [← hW8]; exact HBY.out.other (a := ⟨TR, 3, none⟩) _ HSN.out.1)
  have HK8 := hide (show Kept (fun q => q = TR) w4 W8 by rw [← hW8]; exact (Kept.of_below (F := fun q => q = TR) HB7.out).setCell (.inl rfl) _)
  have HS := hide (fun (V : World) (h : V.heap = W8.heap) => (⟨(cell_heap h).trans (HBY8.out.cell 1), (cell_heap h).trans (HTR8.out.cell 2)⟩ : V.cell? ⟨S2, 1, none⟩ = some (.int .i64 bd2) ∧ V.cell? ⟨TR, 2, none⟩ = some (.int .i64 su)))
  have HWE7 := hide hW7
  have HWE8 := hide hW8
  have HSE2 := hide hS2
  clear hb6 hb46 hW7 hS2 hW8
  go_wp2_with fail
  rw [HWE7.out, HWE8.out, HSE2.out]
  clear c3 f3 c3' f3'
  refine wp_region_held_drew (S := fun V => V.cell? ⟨S2, 1, none⟩ = some (.int .i64 bd2) ∧ V.cell? ⟨TR, 2, none⟩ = some (.int .i64 su)) (by kernel_rfl) (HS.out _ (rfl)) (fun hHeld => ?_)
  refine tk 0 hHeld (h := ?_)
  refine tk 1 hHeld (h := ?_)
  refine tk 2 hHeld (h := ?_)
  refine tk 3 hHeld (h := ?_)
  refine tk 4 hHeld (h := ?_)
  refine tk 5 hHeld (h := ?_)
  refine tk 6 hHeld (h := ?_)
  refine wpAnyH_done (by kernel_rfl) ?_ _
  clear hHeld
  have HTRd := hide (show Blk W8.drew TR (trC H bg4 su ((idx : Int) + 1)) 58 from HTR8.out)
  have HBXd := hide (show Blk W8.drew SB [.int .i64 nx, .int .i64 bd, .int .i64 q, .bool ov] 79 from HBX8.out)
  have HBYd := hide (show Blk W8.drew S2 [.int .i64 ((idx : Int) + 1), .int .i64 bd2, .int .i64 q2, .bool false] 79 from HBY8.out)
  have HKd := hide HK8.out.drew
  generalize W8.drew = Wd at HTRd HBXd HBYd HKd ⊢
  have x1 : Wd.cell? ⟨S2, 1, none⟩ = some (.int .i64 bd2) := HBYd.out.cell 1
  have c2 : Wd.cell? ⟨TR, 2, none⟩ = some (.int .i64 su) := HTRd.out.cell 2
  have f2 : Wd.frozen? ⟨TR, 2, none⟩ = false := HTRd.out.free 2
  have hn1 : S2 ≠ TR := HSN.out.1
  have hn2 : SB ≠ TR := HSN.out.2
  have HTR9 := hide (HTRd.out.set 2 (.int .i64 bd2))
  have HK9 := hide (show Kept (fun q => q = TR) w4 (Wd.setCell ⟨TR, 2, none⟩ (.int .i64 bd2)) from HKd.out.setCell (.inl rfl) _)
  have x1' : (Wd.setCell ⟨TR, 2, none⟩ (.int .i64 bd2)).cell? ⟨S2, 1, none⟩ = some (.int .i64 bd2) := (HBYd.out.other (a := ⟨TR, 2, none⟩) (.int .i64 bd2) hn1).cell 1
  have x0' : (Wd.setCell ⟨TR, 2, none⟩ (.int .i64 bd2)).cell? ⟨S2, 0, none⟩ = some (.int .i64 ((idx : Int) + 1)) := (HBYd.out.other (a := ⟨TR, 2, none⟩) (.int .i64 bd2) hn1).cell 0
  have y0' : (Wd.setCell ⟨TR, 2, none⟩ (.int .i64 bd2)).cell? ⟨SB, 0, none⟩ = some (.int .i64 nx) := (HBXd.out.other (a := ⟨TR, 2, none⟩) (.int .i64 bd2) hn2).cell 0
  rw [← HSE.out] at y0'
  clear hn1 hn2
  go_wp2
  go_ret
  exact ⟨rfl, w4, bg4, HQ4.out, HTR4.out, HTR9.out, HK9.out⟩
set_option maxRecDepth 20000 in
set_option maxHeartbeats 4000000 in
theorem tsigns_on (TR H SD : Nat) (k b x t l : Int) (s1 s2 s3 o1 o2 o3 : ByteArray) (g ns sc g2 sc2 i G : Nat) (gv bg : Value) (su go : Int) (bat nx bd q : Int) (ov : Bool) (msg : ByteArray) (sig : ByteArray) (idx : Nat) (bd2 q2 : Int) (X : Nat → Prop) (Q1 Q2 : World → Prop) (w : World) (hH : Blk w H (hallC SD k b x t l s1 s2 s3 o1 o2 o3 (.slice (some ⟨g, 0, none⟩) ns sc) (.slice (some ⟨g2, 0, none⟩) ns sc2) gv) 65) (hTR : Blk w TR (trC H bg su go) 58) (hi : i < ns) (hsc : ns ≤ sc) (hsc2 : ns ≤ sc2) (hgc : w.cell? ⟨g, i, none⟩ = some (.pointer (some ⟨G, 0, none⟩))) (hgl : g2 < w.heap.size) (hgc2 : w.cell? ⟨g2, i, none⟩ = some (.int .i64 bat)) (hns : ns ≤ 8796093022208) (hX : ∀ q, X q → q < w.heap.size) (hnx : nx ≠ bd) (hz : 4 ≤ sig.size) (hv : valN sig 0 4 = idx) (hgo : go ≤ idx) (hidx : nx = idx) (hb2 : (idx : Int) < bd2) (hup : bd2 ≤ su) (hix : idx ≤ 4096)
    (hSt : Calls Tryz.prog 30 #[.pointer (some ⟨G, 0, none⟩)] w fun e w' => e = .returned (.agg #[.int .i64 nx, .int .i64 bd, .int .i64 q, .bool ov]) ∧ Below w.heap.size w w')
    (hQ1 : ∀ V, Below w.heap.size w V → Q1 V)
    (hSg : ∀ V, Q1 V → Calls Tryz.prog 52 #[.pointer (some ⟨G, 0, none⟩), .string msg] V fun e w' => e = .returned (.tuple #[.string sig, .int .i64 0]) ∧ Kept X V w' ∧ Q2 w')
    (hQ2 : ∀ V, Q2 V → ∃ bg, Blk V TR (trC H bg su go) 58)
    (hSt2 : ∀ V V2, Q2 V → Below V.heap.size V V2 → Calls Tryz.prog 30 #[.pointer (some ⟨G, 0, none⟩)] V2 fun e w' => e = .returned (.agg #[.int .i64 ((idx : Int) + 1), .int .i64 bd2, .int .i64 q2, .bool false]) ∧ Below V2.heap.size V2 w') :
    Calls Tryz.prog 59 #[.pointer (some ⟨TR, 0, none⟩), .int .i64 i, .string msg] w fun e w' => e = .returned (.bool true) ∧ ∃ V bg, Q2 V ∧ Blk V TR (trC H bg su go) 58 ∧ Blk w' TR (trC H bg su ((idx : Int) + 1)) 58 ∧ Kept (fun q => q = TR) V w' := by
  have t0 : w.cell? ⟨TR, 0, none⟩ = some (.pointer (some ⟨H, 0, none⟩)) := hTR.cell 0
  have h12 : w.cell? ⟨H, 12, none⟩ = some (.slice (some ⟨g, 0, none⟩) ns sc) := hH.cell 12
  have hi3 : (i : Int) < (ns : Int) := by omega
  have hi5 : i < sc := by omega
  have hi7 : i < sc2 := by omega
  have hi6 : (i : Int) < 8796093022208 := by omega
  have HI := hide (And.intro hi3 (And.intro hi7 hi6))
  have HTR := hide hTR
  have HH := hide hH
  have HST := hide hSt
  have HX := hide hX
  have HG2 := hide (And.intro hgl hgc2)
  have HSG := hide hSg
  have HQ1 := hide hQ1
  have e1 : (nx == bd) = false := by simpa using hnx
  have HVL := hide (fun V : World => kvalue_on sig V hz)
  rw [hv] at HVL
  have HQ2 := hide hQ2
  have HST2 := hide hSt2
  have z4 : decide ((4 : Int) ≤ (sig.size : Int)) = true := decide_eq_true (by omega)
  have zn : ((idx : Int) == nx) = true := by rw [hidx]; simp
  have zn2 : ((idx : Int) == (idx : Int)) = true := by simp
  have zg : decide (go ≤ (idx : Int)) = true := decide_eq_true hgo
  have zb : decide ((idx : Int) < bd2) = true := decide_eq_true hb2
  have zu : decide (su < bd2) = false := decide_eq_false (by omega)
  have zw : IntKind.i64.wrap ((idx : Int) + 1) = (idx : Int) + 1 := by rw [IntKind.wrap_i64] <;> omega
  have ze : ((idx : Int) + 1 == (idx : Int) + 1) = true := by simp
  clear hH hTR hi hsc hsc2 hgl hgc2 hns hX hSt hSg hQ1 hnx hz hv hgo hidx hb2 hup hix hQ2 hSt2
  go_enter Tryz.func59, Tryz.ntmps59
  go_wp2_with fail
  refine HST.out.mono ?_
  rintro e w1 ⟨rfl, hb1⟩
  obtain ⟨W2, hW2⟩ : ∃ W2, w1.alloc (.cells #[.int .i64 nx, .int .i64 bd, .int .i64 q, .bool ov] 79) = W2 := ⟨_, rfl⟩
  obtain ⟨SB, hSB⟩ : ∃ SB, w1.heap.size = SB := ⟨_, rfl⟩
  have HBX := hide (show Blk W2 SB [.int .i64 nx, .int .i64 bd, .int .i64 q, .bool ov] 79 by rw [← hW2, ← hSB]; exact Blk.new w1 _ _)
  have HB2 := hide (show Below w.heap.size w W2 by rw [← hW2]; exact hb1.alloc hb1.size _)
  have HSL := hide (show w.heap.size ≤ SB by rw [← hSB]; exact hb1.size)
  have HWE := hide hW2
  have HSE := hide hSB
  clear hb1 hW2 hSB
  clear t0 h12 hgc hi3 hi5 hi7 hi6
  have b0' : (w1.alloc (.cells #[.int .i64 nx, .int .i64 bd, .int .i64 q, .bool ov] 79)).cell? ⟨w1.heap.size, 0, none⟩ = some (.int .i64 nx) := (Blk.new w1 [.int .i64 nx, .int .i64 bd, .int .i64 q, .bool ov] 79).cell 0
  have b1' : (w1.alloc (.cells #[.int .i64 nx, .int .i64 bd, .int .i64 q, .bool ov] 79)).cell? ⟨w1.heap.size, 1, none⟩ = some (.int .i64 bd) := (Blk.new w1 [.int .i64 nx, .int .i64 bd, .int .i64 q, .bool ov] 79).cell 1
  have HBX3 := hide HBX.out
  have HSG3 := hide (HSG.out _ (HQ1.out _ HB2.out))
  go_wp2_with fail
  rw [HWE.out]
  clear b0' b1' e1
  refine HSG3.out.mono ?_
  rintro e w4 ⟨rfl, hk4, hq4⟩
  have HQ4 := hide hq4
  have HBX4 := hide (blkK HBX3.out hk4 (fun e => by have := HX.out _ e; have := HSL.out; omega))
  obtain ⟨bg4, hb4⟩ := HQ2.out _ hq4
  have HTR4 := hide hb4
  clear hk4 hq4 hb4
  go_wp2_with fail
  refine (HVL.out _).mono ?_
  rintro e w5 ⟨rfl, hb5⟩
  have HB5 := hide hb5
  have HS5 := hide (HST2.out _ _ HQ4.out hb5)
  clear hb5
  go_wp2_with fail
  refine HS5.out.mono ?_
  rintro e w6 ⟨rfl, hb6⟩
  obtain ⟨W7, hW7⟩ : ∃ W7, w6.alloc (.cells #[.int .i64 ((idx : Int) + 1), .int .i64 bd2, .int .i64 q2, .bool false] 79) = W7 := ⟨_, rfl⟩
  obtain ⟨S2, hS2⟩ : ∃ S2, w6.heap.size = S2 := ⟨_, rfl⟩
  have hb46 := heldB HB5.out hb6 (Nat.le_refl _)
  have HB7 := hide (show Below w4.heap.size w4 W7 by rw [← hW7]; exact hb46.alloc hb46.size _)
  have HBY := hide (show Blk W7 S2 [.int .i64 ((idx : Int) + 1), .int .i64 bd2, .int .i64 q2, .bool false] 79 by rw [← hW7, ← hS2]; exact Blk.new w6 _ _)
  have HTR7 := hide (HTR4.out.on HB7.out)
  have HBX7 := hide (HBX4.out.on HB7.out)
  have HSN := hide (show S2 ≠ TR ∧ SB ≠ TR by
    have a1 := HTR4.out.lt
    have a2 := hb46.size
    have a3 := HTR.out.lt
    have a4 := HSL.out
    constructor <;> omega)
  have c3 : W7.cell? ⟨TR, 3, none⟩ = some (.int .i64 go) := HTR7.out.cell 3
  have f3 : W7.frozen? ⟨TR, 3, none⟩ = false := HTR7.out.free 3
  have c3' : (w6.alloc (.cells #[.int .i64 ((idx : Int) + 1), .int .i64 bd2, .int .i64 q2, .bool false] 79)).cell? ⟨TR, 3, none⟩ = some (.int .i64 go) := by rw [hW7]; exact c3
  have f3' : (w6.alloc (.cells #[.int .i64 ((idx : Int) + 1), .int .i64 bd2, .int .i64 q2, .bool false] 79)).frozen? ⟨TR, 3, none⟩ = false := by rw [hW7]; exact f3
  obtain ⟨W8, hW8⟩ : ∃ W8, W7.setCell ⟨TR, 3, none⟩ (.int .i64 ((idx : Int) + 1)) = W8 := ⟨_, rfl⟩
  have HTR8 := hide (show Blk W8 TR (trC H bg4 su ((idx : Int) + 1)) 58 by rw [← hW8]; exact HTR7.out.set 3 _)
  have HBX8 := hide (show Blk W8 SB [.int .i64 nx, .int .i64 bd, .int .i64 q, .bool ov] 79 by rw [← hW8]; exact HBX7.out.other (a := ⟨TR, 3, none⟩) _ HSN.out.2)
  have HBY8 := hide (show Blk W8 S2 [.int .i64 ((idx : Int) + 1), .int .i64 bd2, .int .i64 q2, .bool false] 79 by rw [← hW8]; exact HBY.out.other (a := ⟨TR, 3, none⟩) _ HSN.out.1)
  have HK8 := hide (show Kept (fun q => q = TR) w4 W8 by rw [← hW8]; exact (Kept.of_below (F := fun q => q = TR) HB7.out).setCell (.inl rfl) _)
  have HS := hide (fun (V : World) (h : V.heap = W8.heap) => (⟨(cell_heap h).trans (HBY8.out.cell 1), (cell_heap h).trans (HTR8.out.cell 2)⟩ : V.cell? ⟨S2, 1, none⟩ = some (.int .i64 bd2) ∧ V.cell? ⟨TR, 2, none⟩ = some (.int .i64 su)))
  have HWE7 := hide hW7
  have HWE8 := hide hW8
  have HSE2 := hide hS2
  clear hb6 hb46 hW7 hS2 hW8
  go_wp2_with fail
  rw [HWE7.out, HWE8.out, HSE2.out]
  clear c3 f3 c3' f3'
  refine wp_region_held_drew (S := fun V => V.cell? ⟨S2, 1, none⟩ = some (.int .i64 bd2) ∧ V.cell? ⟨TR, 2, none⟩ = some (.int .i64 su)) (by kernel_rfl) (HS.out _ (rfl)) (fun hHeld => ?_)
  refine tk 0 hHeld (h := ?_)
  refine tk 1 hHeld (h := ?_)
  refine tk 2 hHeld (h := ?_)
  refine tk 3 hHeld (h := ?_)
  refine tk 4 hHeld (h := ?_)
  refine tk 5 hHeld (h := ?_)
  refine tk 6 hHeld (h := ?_)
  refine wpAnyH_done (by kernel_rfl) ?_ _
  clear hHeld
  have x1 : W8.drew.cell? ⟨S2, 1, none⟩ = some (.int .i64 bd2) := HBY8.out.cell 1
  have x0 : W8.drew.cell? ⟨S2, 0, none⟩ = some (.int .i64 ((idx : Int) + 1)) := HBY8.out.cell 0
  have y0 : W8.drew.cell? ⟨SB, 0, none⟩ = some (.int .i64 nx) := HBX8.out.cell 0
  rw [← HSE.out] at y0
  go_wp2
  go_ret
  exact ⟨rfl, w4, bg4, HQ4.out, HTR4.out, HTR8.out, HK8.out.drew⟩
set_option maxRecDepth 20000 in
set_option maxHeartbeats 4000000 in
theorem tsignsW_no (TR H SD : Nat) (k b x t l : Int) (s1 s2 s3 o1 o2 o3 : ByteArray) (g ns sc g2 sc2 i G : Nat) (gv bg : Value) (su go : Int) (bat nx bd q : Int) (ov : Bool) (msg : ByteArray) (c : Int) (X : Nat → Prop) (Q1 Q2 : World → Prop) (w : World) (hH : Blk w H (hallC SD k b x t l s1 s2 s3 o1 o2 o3 (.slice (some ⟨g, 0, none⟩) ns sc) (.slice (some ⟨g2, 0, none⟩) ns sc2) gv) 65) (hTR : Blk w TR (trC H bg su go) 58) (hi : i < ns) (hsc : ns ≤ sc) (hsc2 : ns ≤ sc2) (hgc : w.cell? ⟨g, i, none⟩ = some (.pointer (some ⟨G, 0, none⟩))) (hgl : g2 < w.heap.size) (hgc2 : w.cell? ⟨g2, i, none⟩ = some (.int .i64 bat)) (hns : ns ≤ 8796093022208) (hX : ∀ q, X q → q < w.heap.size) (hnx : nx = bd) (hc : c ≠ 0)
    (hSt : Calls Tryz.prog 30 #[.pointer (some ⟨G, 0, none⟩)] w fun e w' => e = .returned (.agg #[.int .i64 nx, .int .i64 bd, .int .i64 q, .bool ov]) ∧ Below w.heap.size w w')
    (hW : ∀ V, Below w.heap.size w V → Calls Tryz.prog 101 #[.pointer (some ⟨TR, 0, none⟩), .pointer (some ⟨G, 0, none⟩), .int .i64 bat] V fun e w' => e = .returned (.tuple #[]) ∧ Kept X V w' ∧ Q1 w')
    (hSg : ∀ V, Q1 V → Calls Tryz.prog 52 #[.pointer (some ⟨G, 0, none⟩), .string msg] V fun e w' => e = .returned (.tuple #[.string ⟨#[]⟩, .int .i64 c]) ∧ Kept X V w' ∧ Q2 w') :
    Calls Tryz.prog 59 #[.pointer (some ⟨TR, 0, none⟩), .int .i64 i, .string msg] w fun e w' => e = .returned (.bool true) ∧ Q2 w' := by
  have t0 : w.cell? ⟨TR, 0, none⟩ = some (.pointer (some ⟨H, 0, none⟩)) := hTR.cell 0
  have h12 : w.cell? ⟨H, 12, none⟩ = some (.slice (some ⟨g, 0, none⟩) ns sc) := hH.cell 12
  have hi3 : (i : Int) < (ns : Int) := by omega
  have hi5 : i < sc := by omega
  have hi7 : i < sc2 := by omega
  have hi6 : (i : Int) < 8796093022208 := by omega
  have HI := hide (And.intro hi3 (And.intro hi7 hi6))
  have HTR := hide hTR
  have HH := hide hH
  have HST := hide hSt
  have HX := hide hX
  have HG2 := hide (And.intro hgl hgc2)
  have HSG := hide hSg
  have HW := hide hW
  have e1 : (nx == bd) = true := by simpa using hnx
  have e2 : (c == 0) = false := by simpa using hc
  clear hH hTR hi hsc hsc2 hgl hgc2 hns hX hSt hSg hW hnx hc
  go_enter Tryz.func59, Tryz.ntmps59
  go_wp2_with fail
  refine HST.out.mono ?_
  rintro e w1 ⟨rfl, hb1⟩
  obtain ⟨W2, hW2⟩ : ∃ W2, w1.alloc (.cells #[.int .i64 nx, .int .i64 bd, .int .i64 q, .bool ov] 79) = W2 := ⟨_, rfl⟩
  obtain ⟨SB, hSB⟩ : ∃ SB, w1.heap.size = SB := ⟨_, rfl⟩
  have HBX := hide (show Blk W2 SB [.int .i64 nx, .int .i64 bd, .int .i64 q, .bool ov] 79 by rw [← hW2, ← hSB]; exact Blk.new w1 _ _)
  have HB2 := hide (show Below w.heap.size w W2 by rw [← hW2]; exact hb1.alloc hb1.size _)
  have HSL := hide (show w.heap.size ≤ SB by rw [← hSB]; exact hb1.size)
  have HWE := hide hW2
  have HSE := hide hSB
  clear hb1 hW2 hSB
  clear t0 h12 hgc hi3 hi5 hi7 hi6
  have t0 : W2.cell? ⟨TR, 0, none⟩ = some (.pointer (some ⟨H, 0, none⟩)) := (HTR.out.on HB2.out).cell 0
  have h13 : W2.cell? ⟨H, 13, none⟩ = some (.slice (some ⟨g2, 0, none⟩) ns sc2) := (HH.out.on HB2.out).cell 13
  have hgb : W2.cell? ⟨g2, i, none⟩ = some (.int .i64 bat) := (HB2.out.cell (p := ⟨g2, i, none⟩) HG2.out.1).trans HG2.out.2
  have hi3 := HI.out.1
  have hi7 := HI.out.2.1
  have hi6 := HI.out.2.2
  have b0 : W2.cell? ⟨SB, 0, none⟩ = some (.int .i64 nx) := HBX.out.cell 0
  have b1 : W2.cell? ⟨SB, 1, none⟩ = some (.int .i64 bd) := HBX.out.cell 1
  have b0' : (w1.alloc (.cells #[.int .i64 nx, .int .i64 bd, .int .i64 q, .bool ov] 79)).cell? ⟨w1.heap.size, 0, none⟩ = some (.int .i64 nx) := (Blk.new w1 [.int .i64 nx, .int .i64 bd, .int .i64 q, .bool ov] 79).cell 0
  have b1' : (w1.alloc (.cells #[.int .i64 nx, .int .i64 bd, .int .i64 q, .bool ov] 79)).cell? ⟨w1.heap.size, 1, none⟩ = some (.int .i64 bd) := (Blk.new w1 [.int .i64 nx, .int .i64 bd, .int .i64 q, .bool ov] 79).cell 1
  have t0' : (w1.alloc (.cells #[.int .i64 nx, .int .i64 bd, .int .i64 q, .bool ov] 79)).cell? ⟨TR, 0, none⟩ = some (.pointer (some ⟨H, 0, none⟩)) := by rw [HWE.out]; exact t0
  have h13' : (w1.alloc (.cells #[.int .i64 nx, .int .i64 bd, .int .i64 q, .bool ov] 79)).cell? ⟨H, 13, none⟩ = some (.slice (some ⟨g2, 0, none⟩) ns sc2) := by rw [HWE.out]; exact h13
  have hgb' : (w1.alloc (.cells #[.int .i64 nx, .int .i64 bd, .int .i64 q, .bool ov] 79)).cell? ⟨g2, i, none⟩ = some (.int .i64 bat) := by rw [HWE.out]; exact hgb
  go_wp2_with fail
  rw [HWE.out]
  refine (HW.out _ HB2.out).mono ?_
  rintro e w3 ⟨rfl, hk3, hq3⟩
  have HBX3 := hide (blkK HBX.out hk3 (fun e => by have := HX.out _ e; have := HSL.out; omega))
  have HSG3 := hide (HSG.out _ hq3)
  clear t0 h13 hgb hi3 hi7 hi6 b0 b1 b0' b1' t0' h13' hgb' hk3 hq3 e1
  go_wp2_with fail
  refine HSG3.out.mono ?_
  rintro e w4 ⟨rfl, hk4, hq4⟩
  have HQ := hide hq4
  clear hk4 hq4
  go_wp2
  go_ret
  exact ⟨rfl, HQ.out⟩
set_option maxRecDepth 20000 in
set_option maxHeartbeats 4000000 in
theorem tsignsW_up (TR H SD : Nat) (k b x t l : Int) (s1 s2 s3 o1 o2 o3 : ByteArray) (g ns sc g2 sc2 i G : Nat) (gv bg : Value) (su go : Int) (bat nx bd q : Int) (ov : Bool) (msg : ByteArray) (sig : ByteArray) (idx : Nat) (bd2 q2 : Int) (X : Nat → Prop) (Q1 Q2 : World → Prop) (w : World) (hH : Blk w H (hallC SD k b x t l s1 s2 s3 o1 o2 o3 (.slice (some ⟨g, 0, none⟩) ns sc) (.slice (some ⟨g2, 0, none⟩) ns sc2) gv) 65) (hTR : Blk w TR (trC H bg su go) 58) (hi : i < ns) (hsc : ns ≤ sc) (hsc2 : ns ≤ sc2) (hgc : w.cell? ⟨g, i, none⟩ = some (.pointer (some ⟨G, 0, none⟩))) (hgl : g2 < w.heap.size) (hgc2 : w.cell? ⟨g2, i, none⟩ = some (.int .i64 bat)) (hns : ns ≤ 8796093022208) (hX : ∀ q, X q → q < w.heap.size) (hnx : nx = bd) (hz : 4 ≤ sig.size) (hv : valN sig 0 4 = idx) (hgo : go ≤ idx) (hidx : nx = idx) (hb2 : (idx : Int) < bd2) (hup : su < bd2) (hix : idx ≤ 4096)
    (hSt : Calls Tryz.prog 30 #[.pointer (some ⟨G, 0, none⟩)] w fun e w' => e = .returned (.agg #[.int .i64 nx, .int .i64 bd, .int .i64 q, .bool ov]) ∧ Below w.heap.size w w')
    (hW : ∀ V, Below w.heap.size w V → Calls Tryz.prog 101 #[.pointer (some ⟨TR, 0, none⟩), .pointer (some ⟨G, 0, none⟩), .int .i64 bat] V fun e w' => e = .returned (.tuple #[]) ∧ Kept X V w' ∧ Q1 w')
    (hSg : ∀ V, Q1 V → Calls Tryz.prog 52 #[.pointer (some ⟨G, 0, none⟩), .string msg] V fun e w' => e = .returned (.tuple #[.string sig, .int .i64 0]) ∧ Kept X V w' ∧ Q2 w')
    (hQ2 : ∀ V, Q2 V → ∃ bg, Blk V TR (trC H bg su go) 58)
    (hSt2 : ∀ V V2, Q2 V → Below V.heap.size V V2 → Calls Tryz.prog 30 #[.pointer (some ⟨G, 0, none⟩)] V2 fun e w' => e = .returned (.agg #[.int .i64 ((idx : Int) + 1), .int .i64 bd2, .int .i64 q2, .bool false]) ∧ Below V2.heap.size V2 w') :
    Calls Tryz.prog 59 #[.pointer (some ⟨TR, 0, none⟩), .int .i64 i, .string msg] w fun e w' => e = .returned (.bool true) ∧ ∃ V bg, Q2 V ∧ Blk V TR (trC H bg su go) 58 ∧ Blk w' TR (trC H bg bd2 ((idx : Int) + 1)) 58 ∧ Kept (fun q => q = TR) V w' := by
  have t0 : w.cell? ⟨TR, 0, none⟩ = some (.pointer (some ⟨H, 0, none⟩)) := hTR.cell 0
  have h12 : w.cell? ⟨H, 12, none⟩ = some (.slice (some ⟨g, 0, none⟩) ns sc) := hH.cell 12
  have hi3 : (i : Int) < (ns : Int) := by omega
  have hi5 : i < sc := by omega
  have hi7 : i < sc2 := by omega
  have hi6 : (i : Int) < 8796093022208 := by omega
  have HI := hide (And.intro hi3 (And.intro hi7 hi6))
  have HTR := hide hTR
  have HH := hide hH
  have HST := hide hSt
  have HX := hide hX
  have HG2 := hide (And.intro hgl hgc2)
  have HSG := hide hSg
  have HW := hide hW
  have e1 : (nx == bd) = true := by simpa using hnx
  have HVL := hide (fun V : World => kvalue_on sig V hz)
  rw [hv] at HVL
  have HQ2 := hide hQ2
  have HST2 := hide hSt2
  have z4 : decide ((4 : Int) ≤ (sig.size : Int)) = true := decide_eq_true (by omega)
  have zn : ((idx : Int) == nx) = true := by rw [hidx]; simp
  have zn2 : ((idx : Int) == (idx : Int)) = true := by simp
  have zg : decide (go ≤ (idx : Int)) = true := decide_eq_true hgo
  have zb : decide ((idx : Int) < bd2) = true := decide_eq_true hb2
  have zu : decide (su < bd2) = true := decide_eq_true hup
  have zw : IntKind.i64.wrap ((idx : Int) + 1) = (idx : Int) + 1 := by rw [IntKind.wrap_i64] <;> omega
  have ze : ((idx : Int) + 1 == (idx : Int) + 1) = true := by simp
  clear hH hTR hi hsc hsc2 hgl hgc2 hns hX hSt hSg hW hnx hz hv hgo hidx hb2 hup hix hQ2 hSt2
  go_enter Tryz.func59, Tryz.ntmps59
  go_wp2_with fail
  refine HST.out.mono ?_
  rintro e w1 ⟨rfl, hb1⟩
  obtain ⟨W2, hW2⟩ : ∃ W2, w1.alloc (.cells #[.int .i64 nx, .int .i64 bd, .int .i64 q, .bool ov] 79) = W2 := ⟨_, rfl⟩
  obtain ⟨SB, hSB⟩ : ∃ SB, w1.heap.size = SB := ⟨_, rfl⟩
  have HBX := hide (show Blk W2 SB [.int .i64 nx, .int .i64 bd, .int .i64 q, .bool ov] 79 by rw [← hW2, ← hSB]; exact Blk.new w1 _ _)
  have HB2 := hide (show Below w.heap.size w W2 by rw [← hW2]; exact hb1.alloc hb1.size _)
  have HSL := hide (show w.heap.size ≤ SB by rw [← hSB]; exact hb1.size)
  have HWE := hide hW2
  have HSE := hide hSB
  clear hb1 hW2 hSB
  clear t0 h12 hgc hi3 hi5 hi7 hi6
  have t0 : W2.cell? ⟨TR, 0, none⟩ = some (.pointer (some ⟨H, 0, none⟩)) := (HTR.out.on HB2.out).cell 0
  have h13 : W2.cell? ⟨H, 13, none⟩ = some (.slice (some ⟨g2, 0, none⟩) ns sc2) := (HH.out.on HB2.out).cell 13
  have hgb : W2.cell? ⟨g2, i, none⟩ = some (.int .i64 bat) := (HB2.out.cell (p := ⟨g2, i, none⟩) HG2.out.1).trans HG2.out.2
  have hi3 := HI.out.1
  have hi7 := HI.out.2.1
  have hi6 := HI.out.2.2
  have b0 : W2.cell? ⟨SB, 0, none⟩ = some (.int .i64 nx) := HBX.out.cell 0
  have b1 : W2.cell? ⟨SB, 1, none⟩ = some (.int .i64 bd) := HBX.out.cell 1
  have b0' : (w1.alloc (.cells #[.int .i64 nx, .int .i64 bd, .int .i64 q, .bool ov] 79)).cell? ⟨w1.heap.size, 0, none⟩ = some (.int .i64 nx) := (Blk.new w1 [.int .i64 nx, .int .i64 bd, .int .i64 q, .bool ov] 79).cell 0
  have b1' : (w1.alloc (.cells #[.int .i64 nx, .int .i64 bd, .int .i64 q, .bool ov] 79)).cell? ⟨w1.heap.size, 1, none⟩ = some (.int .i64 bd) := (Blk.new w1 [.int .i64 nx, .int .i64 bd, .int .i64 q, .bool ov] 79).cell 1
  have t0' : (w1.alloc (.cells #[.int .i64 nx, .int .i64 bd, .int .i64 q, .bool ov] 79)).cell? ⟨TR, 0, none⟩ = some (.pointer (some ⟨H, 0, none⟩)) := by rw [HWE.out]; exact t0
  have h13' : (w1.alloc (.cells #[.int .i64 nx, .int .i64 bd, .int .i64 q, .bool ov] 79)).cell? ⟨H, 13, none⟩ = some (.slice (some ⟨g2, 0, none⟩) ns sc2) := by rw [HWE.out]; exact h13
  have hgb' : (w1.alloc (.cells #[.int .i64 nx, .int .i64 bd, .int .i64 q, .bool ov] 79)).cell? ⟨g2, i, none⟩ = some (.int .i64 bat) := by rw [HWE.out]; exact hgb
  go_wp2_with fail
  rw [HWE.out]
  refine (HW.out _ HB2.out).mono ?_
  rintro e w3 ⟨rfl, hk3, hq3⟩
  have HBX3 := hide (blkK HBX.out hk3 (fun e => by have := HX.out _ e; have := HSL.out; omega))
  have HSG3 := hide (HSG.out _ hq3)
  clear t0 h13 hgb hi3 hi7 hi6 b0 b1 b0' b1' t0' h13' hgb' hk3 hq3 e1
  go_wp2_with fail
  refine HSG3.out.mono ?_
  rintro e w4 ⟨rfl, hk4, hq4⟩
  have HQ4 := hide hq4
  have HBX4 := hide (blkK HBX3.out hk4 (fun e => by have := HX.out _ e; have := HSL.out; omega))
  obtain ⟨bg4, hb4⟩ := HQ2.out _ hq4
  have HTR4 := hide hb4
  clear hk4 hq4 hb4
  go_wp2_with fail
  refine (HVL.out _).mono ?_
  rintro e w5 ⟨rfl, hb5⟩
  have HB5 := hide hb5
  have HS5 := hide (HST2.out _ _ HQ4.out hb5)
  clear hb5
  go_wp2_with fail
  refine HS5.out.mono ?_
  rintro e w6 ⟨rfl, hb6⟩
  obtain ⟨W7, hW7⟩ : ∃ W7, w6.alloc (.cells #[.int .i64 ((idx : Int) + 1), .int .i64 bd2, .int .i64 q2, .bool false] 79) = W7 := ⟨_, rfl⟩
  obtain ⟨S2, hS2⟩ : ∃ S2, w6.heap.size = S2 := ⟨_, rfl⟩
  have hb46 := heldB HB5.out hb6 (Nat.le_refl _)
  have HB7 := hide (show Below w4.heap.size w4 W7 by rw [← hW7]; exact hb46.alloc hb46.size _)
  have HBY := hide (show Blk W7 S2 [.int .i64 ((idx : Int) + 1), .int .i64 bd2, .int .i64 q2, .bool false] 79 by rw [← hW7, ← hS2]; exact Blk.new w6 _ _)
  have HTR7 := hide (HTR4.out.on HB7.out)
  have HBX7 := hide (HBX4.out.on HB7.out)
  have HSN := hide (show S2 ≠ TR ∧ SB ≠ TR by
    have a1 := HTR4.out.lt
    have a2 := hb46.size
    have a3 := HTR.out.lt
    have a4 := HSL.out
    constructor <;> omega)
  have c3 : W7.cell? ⟨TR, 3, none⟩ = some (.int .i64 go) := HTR7.out.cell 3
  have f3 : W7.frozen? ⟨TR, 3, none⟩ = false := HTR7.out.free 3
  have c3' : (w6.alloc (.cells #[.int .i64 ((idx : Int) + 1), .int .i64 bd2, .int .i64 q2, .bool false] 79)).cell? ⟨TR, 3, none⟩ = some (.int .i64 go) := by rw [hW7]; exact c3
  have f3' : (w6.alloc (.cells #[.int .i64 ((idx : Int) + 1), .int .i64 bd2, .int .i64 q2, .bool false] 79)).frozen? ⟨TR, 3, none⟩ = false := by rw [hW7]; exact f3
  obtain ⟨W8, hW8⟩ : ∃ W8, W7.setCell ⟨TR, 3, none⟩ (.int .i64 ((idx : Int) + 1)) = W8 := ⟨_, rfl⟩
  have HTR8 := hide (show Blk W8 TR (trC H bg4 su ((idx : Int) + 1)) 58 by rw [← hW8]; exact HTR7.out.set 3 _)
  have HBX8 := hide (show Blk W8 SB [.int .i64 nx, .int .i64 bd, .int .i64 q, .bool ov] 79 by rw [← hW8]; exact HBX7.out.other (a := ⟨TR, 3, none⟩) _ HSN.out.2)
  have HBY8 := hide (show Blk W8 S2 [.int .i64 ((idx : Int) + 1), .int .i64 bd2, .int .i64 q2, .bool false] 79 by rw [← hW8]; exact HBY.out.other (a := ⟨TR, 3, none⟩) _ HSN.out.1)
  have HK8 := hide (show Kept (fun q => q = TR) w4 W8 by rw [← hW8]; exact (Kept.of_below (F := fun q => q = TR) HB7.out).setCell (.inl rfl) _)
  have HS := hide (fun (V : World) (h : V.heap = W8.heap) => (⟨(cell_heap h).trans (HBY8.out.cell 1), (cell_heap h).trans (HTR8.out.cell 2)⟩ : V.cell? ⟨S2, 1, none⟩ = some (.int .i64 bd2) ∧ V.cell? ⟨TR, 2, none⟩ = some (.int .i64 su)))
  have HWE7 := hide hW7
  have HWE8 := hide hW8
  have HSE2 := hide hS2
  clear hb6 hb46 hW7 hS2 hW8
  go_wp2_with fail
  rw [HWE7.out, HWE8.out, HSE2.out]
  clear c3 f3 c3' f3'
  refine wp_region_held_drew (S := fun V => V.cell? ⟨S2, 1, none⟩ = some (.int .i64 bd2) ∧ V.cell? ⟨TR, 2, none⟩ = some (.int .i64 su)) (by kernel_rfl) (HS.out _ (rfl)) (fun hHeld => ?_)
  refine tk 0 hHeld (h := ?_)
  refine tk 1 hHeld (h := ?_)
  refine tk 2 hHeld (h := ?_)
  refine tk 3 hHeld (h := ?_)
  refine tk 4 hHeld (h := ?_)
  refine tk 5 hHeld (h := ?_)
  refine tk 6 hHeld (h := ?_)
  refine wpAnyH_done (by kernel_rfl) ?_ _
  clear hHeld
  have HTRd := hide (show Blk W8.drew TR (trC H bg4 su ((idx : Int) + 1)) 58 from HTR8.out)
  have HBXd := hide (show Blk W8.drew SB [.int .i64 nx, .int .i64 bd, .int .i64 q, .bool ov] 79 from HBX8.out)
  have HBYd := hide (show Blk W8.drew S2 [.int .i64 ((idx : Int) + 1), .int .i64 bd2, .int .i64 q2, .bool false] 79 from HBY8.out)
  have HKd := hide HK8.out.drew
  generalize W8.drew = Wd at HTRd HBXd HBYd HKd ⊢
  have x1 : Wd.cell? ⟨S2, 1, none⟩ = some (.int .i64 bd2) := HBYd.out.cell 1
  have c2 : Wd.cell? ⟨TR, 2, none⟩ = some (.int .i64 su) := HTRd.out.cell 2
  have f2 : Wd.frozen? ⟨TR, 2, none⟩ = false := HTRd.out.free 2
  have hn1 : S2 ≠ TR := HSN.out.1
  have hn2 : SB ≠ TR := HSN.out.2
  have HTR9 := hide (HTRd.out.set 2 (.int .i64 bd2))
  have HK9 := hide (show Kept (fun q => q = TR) w4 (Wd.setCell ⟨TR, 2, none⟩ (.int .i64 bd2)) from HKd.out.setCell (.inl rfl) _)
  have x1' : (Wd.setCell ⟨TR, 2, none⟩ (.int .i64 bd2)).cell? ⟨S2, 1, none⟩ = some (.int .i64 bd2) := (HBYd.out.other (a := ⟨TR, 2, none⟩) (.int .i64 bd2) hn1).cell 1
  have x0' : (Wd.setCell ⟨TR, 2, none⟩ (.int .i64 bd2)).cell? ⟨S2, 0, none⟩ = some (.int .i64 ((idx : Int) + 1)) := (HBYd.out.other (a := ⟨TR, 2, none⟩) (.int .i64 bd2) hn1).cell 0
  have y0' : (Wd.setCell ⟨TR, 2, none⟩ (.int .i64 bd2)).cell? ⟨SB, 0, none⟩ = some (.int .i64 nx) := (HBXd.out.other (a := ⟨TR, 2, none⟩) (.int .i64 bd2) hn2).cell 0
  rw [← HSE.out] at y0'
  clear hn1 hn2
  go_wp2
  go_ret
  exact ⟨rfl, w4, bg4, HQ4.out, HTR4.out, HTR9.out, HK9.out⟩
set_option maxRecDepth 20000 in
set_option maxHeartbeats 4000000 in
theorem tsignsW_on (TR H SD : Nat) (k b x t l : Int) (s1 s2 s3 o1 o2 o3 : ByteArray) (g ns sc g2 sc2 i G : Nat) (gv bg : Value) (su go : Int) (bat nx bd q : Int) (ov : Bool) (msg : ByteArray) (sig : ByteArray) (idx : Nat) (bd2 q2 : Int) (X : Nat → Prop) (Q1 Q2 : World → Prop) (w : World) (hH : Blk w H (hallC SD k b x t l s1 s2 s3 o1 o2 o3 (.slice (some ⟨g, 0, none⟩) ns sc) (.slice (some ⟨g2, 0, none⟩) ns sc2) gv) 65) (hTR : Blk w TR (trC H bg su go) 58) (hi : i < ns) (hsc : ns ≤ sc) (hsc2 : ns ≤ sc2) (hgc : w.cell? ⟨g, i, none⟩ = some (.pointer (some ⟨G, 0, none⟩))) (hgl : g2 < w.heap.size) (hgc2 : w.cell? ⟨g2, i, none⟩ = some (.int .i64 bat)) (hns : ns ≤ 8796093022208) (hX : ∀ q, X q → q < w.heap.size) (hnx : nx = bd) (hz : 4 ≤ sig.size) (hv : valN sig 0 4 = idx) (hgo : go ≤ idx) (hidx : nx = idx) (hb2 : (idx : Int) < bd2) (hup : bd2 ≤ su) (hix : idx ≤ 4096)
    (hSt : Calls Tryz.prog 30 #[.pointer (some ⟨G, 0, none⟩)] w fun e w' => e = .returned (.agg #[.int .i64 nx, .int .i64 bd, .int .i64 q, .bool ov]) ∧ Below w.heap.size w w')
    (hW : ∀ V, Below w.heap.size w V → Calls Tryz.prog 101 #[.pointer (some ⟨TR, 0, none⟩), .pointer (some ⟨G, 0, none⟩), .int .i64 bat] V fun e w' => e = .returned (.tuple #[]) ∧ Kept X V w' ∧ Q1 w')
    (hSg : ∀ V, Q1 V → Calls Tryz.prog 52 #[.pointer (some ⟨G, 0, none⟩), .string msg] V fun e w' => e = .returned (.tuple #[.string sig, .int .i64 0]) ∧ Kept X V w' ∧ Q2 w')
    (hQ2 : ∀ V, Q2 V → ∃ bg, Blk V TR (trC H bg su go) 58)
    (hSt2 : ∀ V V2, Q2 V → Below V.heap.size V V2 → Calls Tryz.prog 30 #[.pointer (some ⟨G, 0, none⟩)] V2 fun e w' => e = .returned (.agg #[.int .i64 ((idx : Int) + 1), .int .i64 bd2, .int .i64 q2, .bool false]) ∧ Below V2.heap.size V2 w') :
    Calls Tryz.prog 59 #[.pointer (some ⟨TR, 0, none⟩), .int .i64 i, .string msg] w fun e w' => e = .returned (.bool true) ∧ ∃ V bg, Q2 V ∧ Blk V TR (trC H bg su go) 58 ∧ Blk w' TR (trC H bg su ((idx : Int) + 1)) 58 ∧ Kept (fun q => q = TR) V w' := by
  have t0 : w.cell? ⟨TR, 0, none⟩ = some (.pointer (some ⟨H, 0, none⟩)) := hTR.cell 0
  have h12 : w.cell? ⟨H, 12, none⟩ = some (.slice (some ⟨g, 0, none⟩) ns sc) := hH.cell 12
  have hi3 : (i : Int) < (ns : Int) := by omega
  have hi5 : i < sc := by omega
  have hi7 : i < sc2 := by omega
  have hi6 : (i : Int) < 8796093022208 := by omega
  have HI := hide (And.intro hi3 (And.intro hi7 hi6))
  have HTR := hide hTR
  have HH := hide hH
  have HST := hide hSt
  have HX := hide hX
  have HG2 := hide (And.intro hgl hgc2)
  have HSG := hide hSg
  have HW := hide hW
  have e1 : (nx == bd) = true := by simpa using hnx
  have HVL := hide (fun V : World => kvalue_on sig V hz)
  rw [hv] at HVL
  have HQ2 := hide hQ2
  have HST2 := hide hSt2
  have z4 : decide ((4 : Int) ≤ (sig.size : Int)) = true := decide_eq_true (by omega)
  have zn : ((idx : Int) == nx) = true := by rw [hidx]; simp
  have zn2 : ((idx : Int) == (idx : Int)) = true := by simp
  have zg : decide (go ≤ (idx : Int)) = true := decide_eq_true hgo
  have zb : decide ((idx : Int) < bd2) = true := decide_eq_true hb2
  have zu : decide (su < bd2) = false := decide_eq_false (by omega)
  have zw : IntKind.i64.wrap ((idx : Int) + 1) = (idx : Int) + 1 := by rw [IntKind.wrap_i64] <;> omega
  have ze : ((idx : Int) + 1 == (idx : Int) + 1) = true := by simp
  clear hH hTR hi hsc hsc2 hgl hgc2 hns hX hSt hSg hW hnx hz hv hgo hidx hb2 hup hix hQ2 hSt2
  go_enter Tryz.func59, Tryz.ntmps59
  go_wp2_with fail
  refine HST.out.mono ?_
  rintro e w1 ⟨rfl, hb1⟩
  obtain ⟨W2, hW2⟩ : ∃ W2, w1.alloc (.cells #[.int .i64 nx, .int .i64 bd, .int .i64 q, .bool ov] 79) = W2 := ⟨_, rfl⟩
  obtain ⟨SB, hSB⟩ : ∃ SB, w1.heap.size = SB := ⟨_, rfl⟩
  have HBX := hide (show Blk W2 SB [.int .i64 nx, .int .i64 bd, .int .i64 q, .bool ov] 79 by rw [← hW2, ← hSB]; exact Blk.new w1 _ _)
  have HB2 := hide (show Below w.heap.size w W2 by rw [← hW2]; exact hb1.alloc hb1.size _)
  have HSL := hide (show w.heap.size ≤ SB by rw [← hSB]; exact hb1.size)
  have HWE := hide hW2
  have HSE := hide hSB
  clear hb1 hW2 hSB
  clear t0 h12 hgc hi3 hi5 hi7 hi6
  have t0 : W2.cell? ⟨TR, 0, none⟩ = some (.pointer (some ⟨H, 0, none⟩)) := (HTR.out.on HB2.out).cell 0
  have h13 : W2.cell? ⟨H, 13, none⟩ = some (.slice (some ⟨g2, 0, none⟩) ns sc2) := (HH.out.on HB2.out).cell 13
  have hgb : W2.cell? ⟨g2, i, none⟩ = some (.int .i64 bat) := (HB2.out.cell (p := ⟨g2, i, none⟩) HG2.out.1).trans HG2.out.2
  have hi3 := HI.out.1
  have hi7 := HI.out.2.1
  have hi6 := HI.out.2.2
  have b0 : W2.cell? ⟨SB, 0, none⟩ = some (.int .i64 nx) := HBX.out.cell 0
  have b1 : W2.cell? ⟨SB, 1, none⟩ = some (.int .i64 bd) := HBX.out.cell 1
  have b0' : (w1.alloc (.cells #[.int .i64 nx, .int .i64 bd, .int .i64 q, .bool ov] 79)).cell? ⟨w1.heap.size, 0, none⟩ = some (.int .i64 nx) := (Blk.new w1 [.int .i64 nx, .int .i64 bd, .int .i64 q, .bool ov] 79).cell 0
  have b1' : (w1.alloc (.cells #[.int .i64 nx, .int .i64 bd, .int .i64 q, .bool ov] 79)).cell? ⟨w1.heap.size, 1, none⟩ = some (.int .i64 bd) := (Blk.new w1 [.int .i64 nx, .int .i64 bd, .int .i64 q, .bool ov] 79).cell 1
  have t0' : (w1.alloc (.cells #[.int .i64 nx, .int .i64 bd, .int .i64 q, .bool ov] 79)).cell? ⟨TR, 0, none⟩ = some (.pointer (some ⟨H, 0, none⟩)) := by rw [HWE.out]; exact t0
  have h13' : (w1.alloc (.cells #[.int .i64 nx, .int .i64 bd, .int .i64 q, .bool ov] 79)).cell? ⟨H, 13, none⟩ = some (.slice (some ⟨g2, 0, none⟩) ns sc2) := by rw [HWE.out]; exact h13
  have hgb' : (w1.alloc (.cells #[.int .i64 nx, .int .i64 bd, .int .i64 q, .bool ov] 79)).cell? ⟨g2, i, none⟩ = some (.int .i64 bat) := by rw [HWE.out]; exact hgb
  go_wp2_with fail
  rw [HWE.out]
  refine (HW.out _ HB2.out).mono ?_
  rintro e w3 ⟨rfl, hk3, hq3⟩
  have HBX3 := hide (blkK HBX.out hk3 (fun e => by have := HX.out _ e; have := HSL.out; omega))
  have HSG3 := hide (HSG.out _ hq3)
  clear t0 h13 hgb hi3 hi7 hi6 b0 b1 b0' b1' t0' h13' hgb' hk3 hq3 e1
  go_wp2_with fail
  refine HSG3.out.mono ?_
  rintro e w4 ⟨rfl, hk4, hq4⟩
  have HQ4 := hide hq4
  have HBX4 := hide (blkK HBX3.out hk4 (fun e => by have := HX.out _ e; have := HSL.out; omega))
  obtain ⟨bg4, hb4⟩ := HQ2.out _ hq4
  have HTR4 := hide hb4
  clear hk4 hq4 hb4
  go_wp2_with fail
  refine (HVL.out _).mono ?_
  rintro e w5 ⟨rfl, hb5⟩
  have HB5 := hide hb5
  have HS5 := hide (HST2.out _ _ HQ4.out hb5)
  clear hb5
  go_wp2_with fail
  refine HS5.out.mono ?_
  rintro e w6 ⟨rfl, hb6⟩
  obtain ⟨W7, hW7⟩ : ∃ W7, w6.alloc (.cells #[.int .i64 ((idx : Int) + 1), .int .i64 bd2, .int .i64 q2, .bool false] 79) = W7 := ⟨_, rfl⟩
  obtain ⟨S2, hS2⟩ : ∃ S2, w6.heap.size = S2 := ⟨_, rfl⟩
  have hb46 := heldB HB5.out hb6 (Nat.le_refl _)
  have HB7 := hide (show Below w4.heap.size w4 W7 by rw [← hW7]; exact hb46.alloc hb46.size _)
  have HBY := hide (show Blk W7 S2 [.int .i64 ((idx : Int) + 1), .int .i64 bd2, .int .i64 q2, .bool false] 79 by rw [← hW7, ← hS2]; exact Blk.new w6 _ _)
  have HTR7 := hide (HTR4.out.on HB7.out)
  have HBX7 := hide (HBX4.out.on HB7.out)
  have HSN := hide (show S2 ≠ TR ∧ SB ≠ TR by
    have a1 := HTR4.out.lt
    have a2 := hb46.size
    have a3 := HTR.out.lt
    have a4 := HSL.out
    constructor <;> omega)
  have c3 : W7.cell? ⟨TR, 3, none⟩ = some (.int .i64 go) := HTR7.out.cell 3
  have f3 : W7.frozen? ⟨TR, 3, none⟩ = false := HTR7.out.free 3
  have c3' : (w6.alloc (.cells #[.int .i64 ((idx : Int) + 1), .int .i64 bd2, .int .i64 q2, .bool false] 79)).cell? ⟨TR, 3, none⟩ = some (.int .i64 go) := by rw [hW7]; exact c3
  have f3' : (w6.alloc (.cells #[.int .i64 ((idx : Int) + 1), .int .i64 bd2, .int .i64 q2, .bool false] 79)).frozen? ⟨TR, 3, none⟩ = false := by rw [hW7]; exact f3
  obtain ⟨W8, hW8⟩ : ∃ W8, W7.setCell ⟨TR, 3, none⟩ (.int .i64 ((idx : Int) + 1)) = W8 := ⟨_, rfl⟩
  have HTR8 := hide (show Blk W8 TR (trC H bg4 su ((idx : Int) + 1)) 58 by rw [← hW8]; exact HTR7.out.set 3 _)
  have HBX8 := hide (show Blk W8 SB [.int .i64 nx, .int .i64 bd, .int .i64 q, .bool ov] 79 by rw [← hW8]; exact HBX7.out.other (a := ⟨TR, 3, none⟩) _ HSN.out.2)
  have HBY8 := hide (show Blk W8 S2 [.int .i64 ((idx : Int) + 1), .int .i64 bd2, .int .i64 q2, .bool false] 79 by rw [← hW8]; exact HBY.out.other (a := ⟨TR, 3, none⟩) _ HSN.out.1)
  have HK8 := hide (show Kept (fun q => q = TR) w4 W8 by rw [← hW8]; exact (Kept.of_below (F := fun q => q = TR) HB7.out).setCell (.inl rfl) _)
  have HS := hide (fun (V : World) (h : V.heap = W8.heap) => (⟨(cell_heap h).trans (HBY8.out.cell 1), (cell_heap h).trans (HTR8.out.cell 2)⟩ : V.cell? ⟨S2, 1, none⟩ = some (.int .i64 bd2) ∧ V.cell? ⟨TR, 2, none⟩ = some (.int .i64 su)))
  have HWE7 := hide hW7
  have HWE8 := hide hW8
  have HSE2 := hide hS2
  clear hb6 hb46 hW7 hS2 hW8
  go_wp2_with fail
  rw [HWE7.out, HWE8.out, HSE2.out]
  clear c3 f3 c3' f3'
  refine wp_region_held_drew (S := fun V => V.cell? ⟨S2, 1, none⟩ = some (.int .i64 bd2) ∧ V.cell? ⟨TR, 2, none⟩ = some (.int .i64 su)) (by kernel_rfl) (HS.out _ (rfl)) (fun hHeld => ?_)
  refine tk 0 hHeld (h := ?_)
  refine tk 1 hHeld (h := ?_)
  refine tk 2 hHeld (h := ?_)
  refine tk 3 hHeld (h := ?_)
  refine tk 4 hHeld (h := ?_)
  refine tk 5 hHeld (h := ?_)
  refine tk 6 hHeld (h := ?_)
  refine wpAnyH_done (by kernel_rfl) ?_ _
  clear hHeld
  have x1 : W8.drew.cell? ⟨S2, 1, none⟩ = some (.int .i64 bd2) := HBY8.out.cell 1
  have x0 : W8.drew.cell? ⟨S2, 0, none⟩ = some (.int .i64 ((idx : Int) + 1)) := HBY8.out.cell 0
  have y0 : W8.drew.cell? ⟨SB, 0, none⟩ = some (.int .i64 nx) := HBX8.out.cell 0
  rw [← HSE.out] at y0
  go_wp2
  go_ret
  exact ⟨rfl, w4, bg4, HQ4.out, HTR4.out, HTR8.out, HK8.out.drew⟩
end Go.Proofs.YtgaoeoijdpdjiabGreatDoor

namespace Go.Proofs.YtgaoeoijdpdjiabGreatDoor
open Go.RowKit
theorem owns_ne_blk {w : World} {lo : Nat} {e : TypeId} {sz : Nat} {v : Value} {n : Nat} {xs : List Value} {b : Nat} {vs : List Value} {T : TypeId} (h : w.ownsRow lo e sz v n xs) (hb : Blk w b vs T) (hne : e ≠ T) : v.ownBlock ≠ some b := by
  intro he
  rcases h.2 with ⟨rfl, _⟩ | ⟨g, cap, cur, rfl, _, hg, _⟩
  · simp [Value.ownBlock] at he
  · have e' : g = b := by simpa [Value.ownBlock] using he
    subst e'
    unfold Blk at hb
    rw [hb] at hg
    simp only [Option.some.injEq, Obj.cells.injEq] at hg
    exact hne hg.2.1.symm
set_option maxRecDepth 20000 in
set_option maxHeartbeats 4000000 in
theorem opened_none (TR H SD : Nat) (k b x t l : Int) (s1 s2 s3 o1 o2 o3 : ByteArray) (sv bv gv bg : Value) (su go : Int) (kd a bb : Int) (tx : ByteArray) (ka : Option Addr) (kn kc : Nat) (bt : Int) (n : Nat) (c : Int) (X : Nat → Prop) (Q : World → Prop) (w : World) (hH : Blk w H (hallC SD k b x t l s1 s2 s3 o1 o2 o3 sv bv gv) 65) (hTR : Blk w TR (trC H bg su go) 58) (nT : ¬ X TR) (nH : ¬ X H) (hX : ∀ q, X q → q < w.heap.size) (hc : c ≠ 0)
    (hO : ∀ V, Below w.heap.size w V → Calls Tryz.prog 55 #[.pointer (some ⟨SD, 0, none⟩), .agg #[.int .i64 k, .int .i64 b, .int .i64 x, .int .i64 t, .int .i64 l], .agg #[.string s1, .string s2, .string s3], .int .i64 bt] V fun e w' => e = .returned (.tuple #[.pointer none, .int .i64 c]) ∧ Kept X V w' ∧ Q w') :
    Calls Tryz.prog 22 #[.pointer (some ⟨TR, 0, none⟩), .agg #[.int .i64 kd, .int .i64 a, .int .i64 bb, .string tx, .slice ka kn kc], .int .i64 bt, .int .i64 n] w fun e w' => e = .returned (.bool true) ∧ Q w' := by
  obtain ⟨W0, hW⟩ : ∃ W0, w.alloc (.cells #[.int .i64 kd, .int .i64 a, .int .i64 bb, .string tx, .slice ka kn kc] 53) = W0 := ⟨_, rfl⟩
  have HB := hide (show Below w.heap.size w W0 by subst hW; exact (Below.refl _ _).alloc (Nat.le_refl _) _)
  have HH0 := hide (hH.on HB.out)
  have HT0 := hide (hTR.on HB.out)
  have HSX := hide (show Blk W0 w.heap.size [.int .i64 kd, .int .i64 a, .int .i64 bb, .string tx, .slice ka kn kc] 53 by subst hW; exact Blk.new w _ _)
  have HX := hide (And.intro nT (And.intro nH hX))
  have HO := hide (fun (V : World) (h : Below W0.heap.size W0 V) => hO V (HB.out.trans (h.mono HB.out.size)))
  have HCN := hide (fun V : World => came_none H c bt hc V)
  have HS := hide (fun (V : World) (h : Blk V TR (trC H bg su go) 58 ∧ Blk V H (hallC SD k b x t l s1 s2 s3 o1 o2 o3 sv bv gv) 65) => (by
    obtain ⟨q1, q2⟩ := h
    exact ⟨q1.cell 0, q2.cell 0, q2.cell 1, q2.cell 2, q2.cell 3, q2.cell 4, q2.cell 5, q2.cell 6, q2.cell 7, q2.cell 11⟩ : V.cell? ⟨TR, 0, none⟩ = some (.pointer (some ⟨H, 0, none⟩)) ∧ V.cell? ⟨H, 0, none⟩ = some (.int .i64 k) ∧ V.cell? ⟨H, 1, none⟩ = some (.int .i64 b) ∧ V.cell? ⟨H, 2, none⟩ = some (.int .i64 x) ∧ V.cell? ⟨H, 3, none⟩ = some (.int .i64 t) ∧ V.cell? ⟨H, 4, none⟩ = some (.int .i64 l) ∧ V.cell? ⟨H, 5, none⟩ = some (.string s1) ∧ V.cell? ⟨H, 6, none⟩ = some (.string s2) ∧ V.cell? ⟨H, 7, none⟩ = some (.string s3) ∧ V.cell? ⟨H, 11, none⟩ = some (.pointer (some ⟨SD, 0, none⟩))))
  have HWE := hide hW
  clear hW hH hTR nT nH hX hO hc
  go_enter Tryz.func22, Tryz.ntmps22
  go_wp2_with fail
  rw [HWE.out]
  refine wp_region_held_drew (S := fun V => V.cell? ⟨TR, 0, none⟩ = some (.pointer (some ⟨H, 0, none⟩)) ∧ V.cell? ⟨H, 0, none⟩ = some (.int .i64 k) ∧ V.cell? ⟨H, 1, none⟩ = some (.int .i64 b) ∧ V.cell? ⟨H, 2, none⟩ = some (.int .i64 x) ∧ V.cell? ⟨H, 3, none⟩ = some (.int .i64 t) ∧ V.cell? ⟨H, 4, none⟩ = some (.int .i64 l) ∧ V.cell? ⟨H, 5, none⟩ = some (.string s1) ∧ V.cell? ⟨H, 6, none⟩ = some (.string s2) ∧ V.cell? ⟨H, 7, none⟩ = some (.string s3) ∧ V.cell? ⟨H, 11, none⟩ = some (.pointer (some ⟨SD, 0, none⟩))) (by kernel_rfl) (HS.out _ (⟨HT0.out, HH0.out⟩)) (fun hHeld => ?_)
  refine tk 0 hHeld (h := ?_)
  refine tk 1 hHeld (h := ?_)
  refine tk 2 hHeld (h := ?_)
  refine tk 3 hHeld (h := ?_)
  refine tk 4 hHeld (h := ?_)
  refine tk 5 hHeld (h := ?_)
  refine tk 6 hHeld (h := ?_)
  refine tk 7 hHeld (h := ?_)
  refine tk 8 hHeld (h := ?_)
  refine tk 9 hHeld (h := ?_)
  refine tk 10 hHeld (h := ?_)
  refine tk 11 hHeld (h := ?_)
  refine tk 12 hHeld (h := ?_)
  refine tk 13 hHeld (h := ?_)
  refine tk 14 hHeld (h := ?_)
  refine tk 15 hHeld (h := ?_)
  refine tk 16 hHeld (h := ?_)
  refine tk 17 hHeld (h := ?_)
  refine tk 18 hHeld (h := ?_)
  refine tk 19 hHeld (h := ?_)
  refine tk 20 hHeld (h := ?_)
  refine tk 21 hHeld (h := ?_)
  refine wpAnyH_ready (rs := [22]) (by kernel_rfl) (by simp) ?_
  refine AllReadyH.cons (o := ?oa22) ?hoa22 (fun K hK => ?hsa22) AllReadyH.nil
  case hoa22 => (simp only [List.getElem?_toArray, List.getElem?_cons_succ, List.getElem?_cons_zero]; rfl)
  go_simp
  go_at_call 55
  refine (HO.out _ ((Below.refl W0.heap.size W0).drew)).mono ?_
  rintro e w1 ⟨rfl, hk1, hq1⟩
  have HQ := hide hq1
  have HT1 := hide (blkK (w := W0.drew) HT0.out hk1 HX.out.1)
  have HH1 := hide (blkK (w := W0.drew) HH0.out hk1 HX.out.2.1)
  clear hk1 hq1
  try go_wp2_with fail
  refine hK.out _ _ (HS.out _ (⟨HT1.out, HH1.out⟩)) (fun hHeld => ?_)
  clear hK K
  try simp only [Act.put, List.setIfInBounds_toArray, List.set_cons_zero, List.set_cons_succ]
  refine tk 23 hHeld (h := ?_)
  refine tk 24 hHeld (h := ?_)
  refine tk 25 hHeld (h := ?_)
  refine tk 26 hHeld (h := ?_)
  refine tk 27 hHeld (h := ?_)
  refine wpAnyH_done (by kernel_rfl) ?_ _
  clear hHeld
  have t0 : w1.cell? ⟨TR, 0, none⟩ = some (.pointer (some ⟨H, 0, none⟩)) := HT1.out.cell 0
  go_wp2_with fail
  refine (HCN.out _).mono ?_
  rintro e w2 ⟨rfl, hw2⟩
  subst w2
  clear t0
  go_wp2
  go_ret
  exact ⟨rfl, HQ.out⟩
end Go.Proofs.YtgaoeoijdpdjiabGreatDoor
