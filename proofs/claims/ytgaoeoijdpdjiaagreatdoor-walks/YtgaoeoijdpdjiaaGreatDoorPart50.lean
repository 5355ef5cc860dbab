/-
  The statement's world: a walk more; a call of a walk; one step of a script, of the kinds of walks.
-/
import Derived.Test.YtgaoeoijdpdjiaaGreatDoorPart43
import Derived.Test.YtgaoeoijdpdjiaaGreatDoorPart49
namespace Go.Proofs.YtgaoeoijdpdjiaaGreatDoor
open Go.RowKit
theorem infoStr2 : (Tryz.prog.info? 109).map (fun i => (i.zero, i.size, i.bytes)) = some (some (.agg #[.pointer none, .pointer none]), 2, 16) := by kernel_rfl
set_option maxRecDepth 20000 in
set_option maxHeartbeats 4000000 in
theorem walk_no (Wb : Nat) (kd on a b : Int) (s t u : ByteArray) (l1 : Option Addr) (l2 l3 : Nat) (ka : Option Addr) (kn kc : Nat) (c0 c1 c2 c3 c4 : Int) (d0 d1 d2 : ByteArray) (p0 p1 p2 p3 : Int) (er : Int) (w : World)
    (hX : ∀ V, Below w.heap.size w V → Calls Tryz.prog 18 #[.agg #[.int .i64 c0, .int .i64 c1, .int .i64 c2, .int .i64 c3, .int .i64 c4], .agg #[.string d0, .string d1, .string d2], .agg #[.int .i64 p0, .int .i64 p1, .int .i64 p2, .int .i64 p3]] V fun e w' => e = .returned (.tuple #[.pointer none, .int .i64 er]) ∧ Below V.heap.size V w')
    (hR : ∀ V, Below w.heap.size w V → Calls Tryz.prog 109 #[.agg #[.int .i64 c0, .int .i64 c1, .int .i64 c2, .int .i64 c3, .int .i64 c4], .agg #[.string d0, .string d1, .string d2], .agg #[.int .i64 p0, .int .i64 p1, .int .i64 p2, .int .i64 p3]] V fun e w' => e = .returned (.tuple #[.pointer none, .int .i64 er]) ∧ Below V.heap.size V w') :
    Calls Tryz.prog 58 #[.pointer (some ⟨Wb, 0, none⟩), .agg #[.int .i64 kd, .int .i64 on, .int .i64 a, .int .i64 b, .string s, .string t, .string u, .slice l1 l2 l3, .slice ka kn kc, .int .i64 c0, .int .i64 c1, .int .i64 c2, .int .i64 c3, .int .i64 c4, .string d0, .string d1, .string d2, .int .i64 p0, .int .i64 p1, .int .i64 p2, .int .i64 p3]] w fun e w' => e = .returned (.bool true) ∧ Below w.heap.size w w' := by
  obtain ⟨W0, hW⟩ : ∃ W0, w.alloc (.cells #[.int .i64 kd, .int .i64 on, .int .i64 a, .int .i64 b, .string s, .string t, .string u, .slice l1 l2 l3, .slice ka kn kc, .int .i64 c0, .int .i64 c1, .int .i64 c2, .int .i64 c3, .int .i64 c4, .string d0, .string d1, .string d2, .int .i64 p0, .int .i64 p1, .int .i64 p2, .int .i64 p3] 77) = W0 := ⟨_, rfl⟩
  have HB := hide (show Below w.heap.size w W0 by subst hW; exact (Below.refl _ _).alloc (Nat.le_refl _) _)
  have HO0 := hide (show Blk W0 w.heap.size [.int .i64 kd, .int .i64 on, .int .i64 a, .int .i64 b, .string s, .string t, .string u, .slice l1 l2 l3, .slice ka kn kc, .int .i64 c0, .int .i64 c1, .int .i64 c2, .int .i64 c3, .int .i64 c4, .string d0, .string d1, .string d2, .int .i64 p0, .int .i64 p1, .int .i64 p2, .int .i64 p3] 77 by rw [← hW]; exact Blk.new w _ _)
  have HWE := hide hW
  have HX := hide (hX _ HB.out)
  have HR := hide hR
  have oc9 := HO0.out.cell 9
  have oc10 := HO0.out.cell 10
  have oc11 := HO0.out.cell 11
  have oc12 := HO0.out.cell 12
  have oc13 := HO0.out.cell 13
  have oc14 := HO0.out.cell 14
  have oc15 := HO0.out.cell 15
  have oc16 := HO0.out.cell 16
  have oc17 := HO0.out.cell 17
  have oc18 := HO0.out.cell 18
  have oc19 := HO0.out.cell 19
  have oc20 := HO0.out.cell 20
  simp only [List.getElem?_cons_zero, List.getElem?_cons_succ] at oc9 oc10 oc11 oc12 oc13 oc14 oc15 oc16 oc17 oc18 oc19 oc20
  clear hX hR hW
  go_enter Tryz.func58, Tryz.ntmps58
  go_wp2_with fail
  rw [HWE.out]
  refine HX.out.mono ?_
  rintro e w1 ⟨rfl, hb1⟩
  have HB1 := hide (HB.out.trans (hb1.mono HB.out.size))
  have HO1 := hide (HO0.out.on hb1)
  clear hb1 oc9 oc10 oc11 oc12 oc13 oc14 oc15 oc16 oc17 oc18 oc19 oc20
  have oc9 := HO1.out.cell 9
  have oc10 := HO1.out.cell 10
  have oc11 := HO1.out.cell 11
  have oc12 := HO1.out.cell 12
  have oc13 := HO1.out.cell 13
  have oc14 := HO1.out.cell 14
  have oc15 := HO1.out.cell 15
  have oc16 := HO1.out.cell 16
  have oc17 := HO1.out.cell 17
  have oc18 := HO1.out.cell 18
  have oc19 := HO1.out.cell 19
  have oc20 := HO1.out.cell 20
  simp only [List.getElem?_cons_zero, List.getElem?_cons_succ] at oc9 oc10 oc11 oc12 oc13 oc14 oc15 oc16 oc17 oc18 oc19 oc20
  go_wp2_with fail
  refine (HR.out _ HB1.out).mono ?_
  rintro e w2 ⟨rfl, hb2⟩
  have HB2 := hide (HB1.out.trans (hb2.mono HB1.out.size))
  clear hb2 oc9 oc10 oc11 oc12 oc13 oc14 oc15 oc16 oc17 oc18 oc19 oc20
  go_wp2_with fail
  refine (numQ_any er _).mono ?_
  rintro e w3 ⟨rfl, hw3⟩
  subst w3
  have e1 : (er != er) = false := bne_self_eq_false _
  go_wp2
  go_ret
  exact ⟨rfl, HB2.out⟩
set_option maxRecDepth 20000 in
set_option maxHeartbeats 4000000 in
theorem walk_yes (lo Wb : Nat) (kd on a b : Int) (s t u : ByteArray) (l1 : Option Addr) (l2 l3 : Nat) (ka : Option Addr) (kn kc : Nat) (c0 c1 c2 c3 c4 : Int) (d0 d1 d2 : ByteArray) (p0 p1 p2 p3 : Int) (b0 b1 b2 dv hv : Value) (wa : Option Addr) (m wc : Nat) (P : List (Nat × Nat)) (QX : Nat → World → Prop) (QR : Nat → Nat → World → Prop) (w : World) (hB : Blk w Wb (wldQ b0 b1 b2 (.slice wa m wc) dv hv) 74) (hr : w.ownsRow lo 109 2 (.slice wa m wc) m (plC P)) (hm : m ≤ 2199023255552) (hlo : lo ≤ w.heap.size)
    (hX : ∀ V, Below w.heap.size w V → Calls Tryz.prog 18 #[.agg #[.int .i64 c0, .int .i64 c1, .int .i64 c2, .int .i64 c3, .int .i64 c4], .agg #[.string d0, .string d1, .string d2], .agg #[.int .i64 p0, .int .i64 p1, .int .i64 p2, .int .i64 p3]] V fun e w' => ∃ X, e = .returned (.tuple #[.pointer (some ⟨X, 0, none⟩), .int .i64 0]) ∧ QX X w' ∧ Below V.heap.size V w')
    (hR : ∀ X V, Below w.heap.size w V → QX X V → Calls Tryz.prog 109 #[.agg #[.int .i64 c0, .int .i64 c1, .int .i64 c2, .int .i64 c3, .int .i64 c4], .agg #[.string d0, .string d1, .string d2], .agg #[.int .i64 p0, .int .i64 p1, .int .i64 p2, .int .i64 p3]] V fun e w' => ∃ R, e = .returned (.tuple #[.pointer (some ⟨R, 0, none⟩), .int .i64 0]) ∧ QR X R w' ∧ Below V.heap.size V w') :
    Calls Tryz.prog 58 #[.pointer (some ⟨Wb, 0, none⟩), .agg #[.int .i64 kd, .int .i64 on, .int .i64 a, .int .i64 b, .string s, .string t, .string u, .slice l1 l2 l3, .slice ka kn kc, .int .i64 c0, .int .i64 c1, .int .i64 c2, .int .i64 c3, .int .i64 c4, .string d0, .string d1, .string d2, .int .i64 p0, .int .i64 p1, .int .i64 p2, .int .i64 p3]] w fun e w' => e = .returned (.bool true) ∧ ∃ X R g c V, Below w.heap.size w V ∧ QR X R V ∧ Blk w' Wb (wldQ b0 b1 b2 (.slice (some ⟨g, 0, none⟩) (m + 1) c) dv hv) 74 ∧ w'.ownsRow lo 109 2 (.slice (some ⟨g, 0, none⟩) (m + 1) c) (m + 1) (plC (P ++ [(X, R)])) ∧ Kept (fun q => q = Wb ∨ (Value.slice wa m wc).ownBlock = some q) V w' ∧ ((Value.slice wa m wc).ownBlock = some g ∨ V.heap.size ≤ g) := by
  obtain ⟨i0, hi0, hz0, hz1, hz2⟩ := info_partsQ infoStr2
  obtain ⟨W0, hW⟩ : ∃ W0, w.alloc (.cells #[.int .i64 kd, .int .i64 on, .int .i64 a, .int .i64 b, .string s, .string t, .string u, .slice l1 l2 l3, .slice ka kn kc, .int .i64 c0, .int .i64 c1, .int .i64 c2, .int .i64 c3, .int .i64 c4, .string d0, .string d1, .string d2, .int .i64 p0, .int .i64 p1, .int .i64 p2, .int .i64 p3] 77) = W0 := ⟨_, rfl⟩
  have HB := hide (show Below w.heap.size w W0 by subst hW; exact (Below.refl _ _).alloc (Nat.le_refl _) _)
  have HO0 := hide (show Blk W0 w.heap.size [.int .i64 kd, .int .i64 on, .int .i64 a, .int .i64 b, .string s, .string t, .string u, .slice l1 l2 l3, .slice ka kn kc, .int .i64 c0, .int .i64 c1, .int .i64 c2, .int .i64 c3, .int .i64 c4, .string d0, .string d1, .string d2, .int .i64 p0, .int .i64 p1, .int .i64 p2, .int .i64 p3] 77 by rw [← hW]; exact Blk.new w _ _)
  have HWE := hide hW
  have HX := hide (hX _ HB.out)
  have HR := hide hR
  have HNE := hide (owns_neQ hr hB (by decide))
  have N1 : Hid (m + 1 ≤ maxLen) := by show _ ≤ _; unfold maxLen; omega
  have N2 : Hid ((m + 1) * 16 ≤ 140737488355328) := by show _ ≤ _; omega
  have HLO := hide hlo
  have HB0 := hide hB
  have HR0 := hide hr
  have oc9 := HO0.out.cell 9
  have oc10 := HO0.out.cell 10
  have oc11 := HO0.out.cell 11
  have oc12 := HO0.out.cell 12
  have oc13 := HO0.out.cell 13
  have oc14 := HO0.out.cell 14
  have oc15 := HO0.out.cell 15
  have oc16 := HO0.out.cell 16
  have oc17 := HO0.out.cell 17
  have oc18 := HO0.out.cell 18
  have oc19 := HO0.out.cell 19
  have oc20 := HO0.out.cell 20
  simp only [List.getElem?_cons_zero, List.getElem?_cons_succ] at oc9 oc10 oc11 oc12 oc13 oc14 oc15 oc16 oc17 oc18 oc19 oc20
  clear hX hR hW hB hr hm hlo
  go_enter Tryz.func58, Tryz.ntmps58
  go_wp2_with fail
  rw [HWE.out]
  refine HX.out.mono ?_
  rintro e w1 ⟨X, rfl, hx1, hb1⟩
  have HB1 := hide (HB.out.trans (hb1.mono HB.out.size))
  have HO1 := hide (HO0.out.on hb1)
  have HX1 := hide hx1
  clear hb1 hx1 oc9 oc10 oc11 oc12 oc13 oc14 oc15 oc16 oc17 oc18 oc19 oc20
  have oc9 := HO1.out.cell 9
  have oc10 := HO1.out.cell 10
  have oc11 := HO1.out.cell 11
  have oc12 := HO1.out.cell 12
  have oc13 := HO1.out.cell 13
  have oc14 := HO1.out.cell 14
  have oc15 := HO1.out.cell 15
  have oc16 := HO1.out.cell 16
  have oc17 := HO1.out.cell 17
  have oc18 := HO1.out.cell 18
  have oc19 := HO1.out.cell 19
  have oc20 := HO1.out.cell 20
  simp only [List.getElem?_cons_zero, List.getElem?_cons_succ] at oc9 oc10 oc11 oc12 oc13 oc14 oc15 oc16 oc17 oc18 oc19 oc20
  go_wp2_with fail
  refine (HR.out X _ HB1.out HX1.out).mono ?_
  rintro e w2 ⟨R, rfl, hr2, hb2⟩
  have HB2 := hide (HB1.out.trans (hb2.mono HB1.out.size))
  have HQ2 := hide hr2
  clear hb2 hr2 oc9 oc10 oc11 oc12 oc13 oc14 oc15 oc16 oc17 oc18 oc19 oc20
  have HW2 := hide (HB0.out.on HB2.out)
  have HO2 := hide (owns_kept HR0.out (Kept.of_below (F := fun _ => False) HB2.out) (fun _ _ e => e))
  go_wp2_with fail
  refine (numQ_any 0 _).mono ?_
  rintro e w3 ⟨rfl, hw3⟩
  subst w3
  have hHl := HW2.out.lt
  have c3 : w2.cell? ⟨Wb, 3, none⟩ = some (.slice wa m wc) := HW2.out.cell 3
  have c3' : ∀ o, (w2.alloc o).cell? ⟨Wb, 3, none⟩ = some (.slice wa m wc) := fun o => (World.cell?_alloc_lt _ _ _ hHl).trans c3
  clear hHl
  go_wp2_with (at_builtin; refine wpList_append_lies _ rfl _ _ 70 rfl lo 109 i0 (.agg #[.pointer none, .pointer none]) 2 16 Tryz.underlying70 hi0 hz0 hz1 hz2 rfl (by decide) (.slice wa m wc) m (plC P) rfl (HO2.out.alloc _) ⟨w2.heap.size, 0, none⟩ 1 1 [.pointer (some ⟨X, 0, none⟩), .pointer (some ⟨R, 0, none⟩)] rfl rfl (World.news_of_block (heap_alloc_new w2 _)) (fun u hu => by simp at hu; rcases hu with rfl | rfl <;> rfl) (by decide) N1.out N2.out (by rw [World.size_alloc]; exact Nat.le_succ_of_le (Nat.le_trans HLO.out HB2.out.size)) (w2.heap.size + 1) (World.size_alloc _ _) ?_)
  intro g c2' w5 hown hgrow hat hlt5
  have nR : (Value.slice wa m wc).ownBlock ≠ some Wb := HNE.out
  have gR : g ≠ Wb := by
    rcases hat with e | e
    · intro e2; subst e2; exact nR e
    · have := HW2.out.lt; omega
  have hgH := hgrow.block Wb (by rw [World.size_alloc]; exact Nat.lt_succ_of_lt HW2.out.lt) (fun e => nR e.symm)
  have hB5 : Blk w5 Wb (wldQ b0 b1 b2 (.slice wa m wc) dv hv) 74 := by
    unfold Blk
    rw [hgH]
    exact (HW2.out.alloc _ : Blk (w2.alloc _) Wb _ _)
  have f3 : w5.frozen? ⟨Wb, 3, none⟩ = false := hB5.free 3
  have e5 : w5.cell? ⟨Wb, 3, none⟩ = some (.slice wa m wc) := hB5.cell 3
  have HBF := hide (hB5.set 3 (.slice (some ⟨g, 0, none⟩) (m + 1) c2'))
  have HOF := hide (owns_kept hown (kept_set w5 ⟨Wb, 3, none⟩ (.slice (some ⟨g, 0, none⟩) (m + 1) c2')) (fun q e hk => by
    have e' : g = q := by simpa [Value.ownBlock] using e
    exact gR (e'.trans hk)))
  have HKF := hide (show Kept (fun q => q = Wb ∨ (Value.slice wa m wc).ownBlock = some q) w2 (w5.setCell ⟨Wb, 3, none⟩ (.slice (some ⟨g, 0, none⟩) (m + 1) c2')) from
    (Kept.grown (w := w2.alloc _) ((Kept.refl _ _).alloc _) hgrow (fun q e => .inl (.inr e))).setCell (.inl (.inl rfl)) _)
  have HAT := hide (show (Value.slice wa m wc).ownBlock = some g ∨ w2.heap.size ≤ g by
    rcases hat with e | e
    · exact .inl e
    · exact .inr (by omega))
  clear hown hgrow hat hlt5 hgH hB5 gR nR c3 c3'
  go_wp2
  go_ret
  refine ⟨rfl, X, R, g, c2', w2, HB2.out, HQ2.out, HBF.out, ?_, HKF.out, HAT.out⟩
  rw [plC_snoc]; exact HOF.out
set_option maxRecDepth 20000 in
set_option maxHeartbeats 4000000 in
theorem walked_at (Wb X R : Nat) (on a b : Int) (s t u : ByteArray) (l1 : Option Addr) (l2 l3 : Nat) (ka : Option Addr) (kn kc : Nat) (c0 c1 c2 c3 c4 : Int) (d0 d1 d2 : ByteArray) (p0 p1 p2 p3 : Int) (n : Int) (w : World)
    (hX : ∀ V, Below w.heap.size w V → Calls Tryz.prog 43 #[.pointer (some ⟨X, 0, none⟩)] V fun e w' => e = .returned (.int .i64 n) ∧ w' = V)
    (hR : ∀ V, Below w.heap.size w V → Calls Tryz.prog 110 #[.pointer (some ⟨R, 0, none⟩)] V fun e w' => e = .returned (.int .i64 n) ∧ w' = V) :
    Calls Tryz.prog 59 #[.pointer (some ⟨Wb, 0, none⟩), .agg #[.pointer (some ⟨X, 0, none⟩), .pointer (some ⟨R, 0, none⟩)], .agg #[.int .i64 21, .int .i64 on, .int .i64 a, .int .i64 b, .string s, .string t, .string u, .slice l1 l2 l3, .slice ka kn kc, .int .i64 c0, .int .i64 c1, .int .i64 c2, .int .i64 c3, .int .i64 c4, .string d0, .string d1, .string d2, .int .i64 p0, .int .i64 p1, .int .i64 p2, .int .i64 p3]] w fun e w' => e = .returned (.bool true) ∧ Below w.heap.size w w' := by
  obtain ⟨W0, hW⟩ : ∃ W0, (w.alloc (.cells #[.pointer (some ⟨X, 0, none⟩), .pointer (some ⟨R, 0, none⟩)] 109)).alloc (.cells #[.int .i64 21, .int .i64 on, .int .i64 a, .int .i64 b, .string s, .string t, .string u, .slice l1 l2 l3, .slice ka kn kc, .int .i64 c0, .int .i64 c1, .int .i64 c2, .int .i64 c3, .int .i64 c4, .string d0, .string d1, .string d2, .int .i64 p0, .int .i64 p1, .int .i64 p2, .int .i64 p3] 77) = W0 := ⟨_, rfl⟩
  have HB := hide (show Below w.heap.size w W0 by subst hW; exact ((Below.refl _ _).alloc (Nat.le_refl _) _).alloc (by simp) _)
  have HS0 := hide (show Blk W0 w.heap.size [.pointer (some ⟨X, 0, none⟩), .pointer (some ⟨R, 0, none⟩)] 109 by rw [← hW]; exact (Blk.new w _ _).alloc _)
  have HO0 := hide (show Blk W0 (w.heap.size + 1) [.int .i64 21, .int .i64 on, .int .i64 a, .int .i64 b, .string s, .string t, .string u, .slice l1 l2 l3, .slice ka kn kc, .int .i64 c0, .int .i64 c1, .int .i64 c2, .int .i64 c3, .int .i64 c4, .string d0, .string d1, .string d2, .int .i64 p0, .int .i64 p1, .int .i64 p2, .int .i64 p3] 77 by
    rw [← hW]
    have h := Blk.new (w.alloc (.cells #[.pointer (some ⟨X, 0, none⟩), .pointer (some ⟨R, 0, none⟩)] 109)) [.int .i64 21, .int .i64 on, .int .i64 a, .int .i64 b, .string s, .string t, .string u, .slice l1 l2 l3, .slice ka kn kc, .int .i64 c0, .int .i64 c1, .int .i64 c2, .int .i64 c3, .int .i64 c4, .string d0, .string d1, .string d2, .int .i64 p0, .int .i64 p1, .int .i64 p2, .int .i64 p3] 77
    simp only [World.size_alloc] at h
    exact h)
  have hz' : w.heap.size + 2 ≤ W0.heap.size := by subst hW; simp
  have HZL := hide hz'
  have HWE := hide hW
  clear hz'
  have HX := hide (hX _ HB.out)
  have HR := hide (hR _ HB.out)
  have sx : W0.cell? ⟨w.heap.size, 0, none⟩ = some (.pointer (some ⟨X, 0, none⟩)) := HS0.out.cell 0
  have sr : W0.cell? ⟨w.heap.size, 1, none⟩ = some (.pointer (some ⟨R, 0, none⟩)) := HS0.out.cell 1
  have o0 := HO0.out.cell 0
  have o2 := HO0.out.cell 2
  simp only [List.getElem?_cons_zero, List.getElem?_cons_succ] at o0 o2
  clear hX hR hW
  go_enter Tryz.func59, Tryz.ntmps59
  go_wp2_with fail
  rw [HWE.out]
  refine HX.out.mono ?_
  rintro e w1 ⟨rfl, hw⟩
  obtain rfl := hw.symm
  clear hw
  go_wp2_with fail
  refine HR.out.mono ?_
  rintro e w1 ⟨rfl, hw⟩
  obtain rfl := hw.symm
  clear hw
  have e1 : (n == n) = true := beq_self_eq_true _
  go_wp2
  go_ret
  exact ⟨rfl, HB.out⟩
set_option maxRecDepth 20000 in
set_option maxHeartbeats 4000000 in
theorem walked_path (Wb X R : Nat) (on a b : Int) (s t u : ByteArray) (l1 : Option Addr) (l2 l3 : Nat) (ka : Option Addr) (kn kc : Nat) (c0 c1 c2 c3 c4 : Int) (d0 d1 d2 : ByteArray) (p0 p1 p2 p3 : Int) (n : Nat) (xs : List ByteArray) (Q : World → Prop) (w : World) (hn : n ≤ 1000)
    (hX : ∀ V, Below w.heap.size w V → Calls Tryz.prog 42 #[.pointer (some ⟨X, 0, none⟩)] V fun e w' => ∃ v, e = .returned v ∧ w'.ownsRow V.heap.size 9 1 v n (xs.map .string) ∧ Below V.heap.size V w')
    (hR : ∀ V, Below w.heap.size w V → Calls Tryz.prog 111 #[.pointer (some ⟨R, 0, none⟩)] V fun e w' => ∃ v, e = .returned v ∧ w'.ownsRow V.heap.size 9 1 v n (xs.map .string) ∧ Below V.heap.size V w')
    (hK : ∀ V v, Below w.heap.size w V → V.ownsRow w.heap.size 9 1 v n (xs.map .string) → Calls Tryz.prog 113 #[.pointer (some ⟨Wb, 0, none⟩), v] V fun e w' => e = .returned (.tuple #[]) ∧ Q w') :
    Calls Tryz.prog 59 #[.pointer (some ⟨Wb, 0, none⟩), .agg #[.pointer (some ⟨X, 0, none⟩), .pointer (some ⟨R, 0, none⟩)], .agg #[.int .i64 22, .int .i64 on, .int .i64 a, .int .i64 b, .string s, .string t, .string u, .slice l1 l2 l3, .slice ka kn kc, .int .i64 c0, .int .i64 c1, .int .i64 c2, .int .i64 c3, .int .i64 c4, .string d0, .string d1, .string d2, .int .i64 p0, .int .i64 p1, .int .i64 p2, .int .i64 p3]] w fun e w' => e = .returned (.bool true) ∧ Q w' := by
  obtain ⟨W0, hW⟩ : ∃ W0, (w.alloc (.cells #[.pointer (some ⟨X, 0, none⟩), .pointer (some ⟨R, 0, none⟩)] 109)).alloc (.cells #[.int .i64 22, .int .i64 on, .int .i64 a, .int .i64 b, .string s, .string t, .string u, .slice l1 l2 l3, .slice ka kn kc, .int .i64 c0, .int .i64 c1, .int .i64 c2, .int .i64 c3, .int .i64 c4, .string d0, .string d1, .string d2, .int .i64 p0, .int .i64 p1, .int .i64 p2, .int .i64 p3] 77) = W0 := ⟨_, rfl⟩
  have HB := hide (show Below w.heap.size w W0 by subst hW; exact ((Below.refl _ _).alloc (Nat.le_refl _) _).alloc (by simp) _)
  have HS0 := hide (show Blk W0 w.heap.size [.pointer (some ⟨X, 0, none⟩), .pointer (some ⟨R, 0, none⟩)] 109 by rw [← hW]; exact (Blk.new w _ _).alloc _)
  have HO0 := hide (show Blk W0 (w.heap.size + 1) [.int .i64 22, .int .i64 on, .int .i64 a, .int .i64 b, .string s, .string t, .string u, .slice l1 l2 l3, .slice ka kn kc, .int .i64 c0, .int .i64 c1, .int .i64 c2, .int .i64 c3, .int .i64 c4, .string d0, .string d1, .string d2, .int .i64 p0, .int .i64 p1, .int .i64 p2, .int .i64 p3] 77 by
    rw [← hW]
    have h := Blk.new (w.alloc (.cells #[.pointer (some ⟨X, 0, none⟩), .pointer (some ⟨R, 0, none⟩)] 109)) [.int .i64 22, .int .i64 on, .int .i64 a, .int .i64 b, .string s, .string t, .string u, .slice l1 l2 l3, .slice ka kn kc, .int .i64 c0, .int .i64 c1, .int .i64 c2, .int .i64 c3, .int .i64 c4, .string d0, .string d1, .string d2, .int .i64 p0, .int .i64 p1, .int .i64 p2, .int .i64 p3] 77
    simp only [World.size_alloc] at h
    exact h)
  have hz' : w.heap.size + 2 ≤ W0.heap.size := by subst hW; simp
  have HZL := hide hz'
  have HWE := hide hW
  clear hz'
  have HX := hide (hX _ HB.out)
  have HR := hide hR
  have HK := hide hK
  have sx : W0.cell? ⟨w.heap.size, 0, none⟩ = some (.pointer (some ⟨X, 0, none⟩)) := HS0.out.cell 0
  have sr : W0.cell? ⟨w.heap.size, 1, none⟩ = some (.pointer (some ⟨R, 0, none⟩)) := HS0.out.cell 1
  have o0 := HO0.out.cell 0
  have o2 := HO0.out.cell 2
  simp only [List.getElem?_cons_zero, List.getElem?_cons_succ] at o0 o2
  clear hX hR hK hW
  go_enter Tryz.func59, Tryz.ntmps59
  go_wp2_with fail
  rw [HWE.out]
  refine HX.out.mono ?_
  rintro e w1 ⟨v, rfl, hr1, hb1⟩
  have HB1 := hide (HB.out.trans (hb1.mono HB.out.size))
  have HS1 := hide (HS0.out.on hb1)
  have HO1 := hide (HO0.out.on hb1)
  have HV1 := hide (owns_lower' (lo' := w.heap.size) hr1 HB.out.size)
  clear hb1 hr1 sx sr o0 o2
  have sx : w1.cell? ⟨w.heap.size, 0, none⟩ = some (.pointer (some ⟨X, 0, none⟩)) := HS1.out.cell 0
  have sr : w1.cell? ⟨w.heap.size, 1, none⟩ = some (.pointer (some ⟨R, 0, none⟩)) := HS1.out.cell 1
  have o0 := HO1.out.cell 0
  have o2 := HO1.out.cell 2
  simp only [List.getElem?_cons_zero, List.getElem?_cons_succ] at o0 o2
  go_wp2_with fail
  refine (HR.out _ HB1.out).mono ?_
  rintro e w2 ⟨u, rfl, hr2, hb2⟩
  have HB2 := hide (HB1.out.trans (hb2.mono HB1.out.size))
  have HR2 := hide hr2
  have HV2 := hide (owns_kept HV1.out (Kept.of_below (F := fun _ => False) hb2) (fun _ _ e => e))
  clear hb2 hr2 sx sr o0 o2
  go_wp2_with fail
  refine (sameT_rows _ _ v u n xs w2 HV2.out HR2.out hn).mono ?_
  rintro e w3 ⟨rfl, hb3⟩
  have HB3 := hide (HB2.out.trans (hb3.mono HB2.out.size))
  have HV3 := hide (owns_kept HV2.out (Kept.of_below (F := fun _ => False) hb3) (fun _ _ e => e))
  clear hb3
  go_wp2_with fail
  refine (HK.out w3 v HB3.out HV3.out).mono ?_
  rintro e w4 ⟨rfl, hq⟩
  have HQ := hide hq
  clear hq
  go_wp2
  go_ret
  exact ⟨rfl, HQ.out⟩
set_option maxRecDepth 20000 in
set_option maxHeartbeats 4000000 in
theorem walked_stack (Wb X R : Nat) (on a b : Int) (s t u : ByteArray) (l1 : Option Addr) (l2 l3 : Nat) (ka : Option Addr) (kn kc : Nat) (c0 c1 c2 c3 c4 : Int) (d0 d1 d2 : ByteArray) (p0 p1 p2 p3 : Int) (n : Nat) (ns : List Nd) (er : Int) (Q : World → Prop) (w : World) (hn : n ≤ 1000) (her : n = 0 ∨ er = 0)
    (hX : ∀ V, Below w.heap.size w V → Calls Tryz.prog 46 #[.pointer (some ⟨X, 0, none⟩), .int .i64 a] V fun e w' => ∃ v, e = .returned (.tuple #[v, .int .i64 er]) ∧ w'.ownsRow V.heap.size 100 3 v n (nodC ns) ∧ Below V.heap.size V w')
    (hR : ∀ V, Below w.heap.size w V → Calls Tryz.prog 114 #[.pointer (some ⟨R, 0, none⟩), .int .i64 a] V fun e w' => ∃ v, e = .returned (.tuple #[v, .int .i64 er]) ∧ w'.ownsRow V.heap.size 100 3 v n (nodC ns) ∧ Below V.heap.size V w')
    (hK : ∀ V v, Below w.heap.size w V → V.ownsRow w.heap.size 100 3 v n (nodC ns) → Calls Tryz.prog 116 #[.pointer (some ⟨Wb, 0, none⟩), v] V fun e w' => e = .returned (.tuple #[]) ∧ Q w') :
    Calls Tryz.prog 59 #[.pointer (some ⟨Wb, 0, none⟩), .agg #[.pointer (some ⟨X, 0, none⟩), .pointer (some ⟨R, 0, none⟩)], .agg #[.int .i64 23, .int .i64 on, .int .i64 a, .int .i64 b, .string s, .string t, .string u, .slice l1 l2 l3, .slice ka kn kc, .int .i64 c0, .int .i64 c1, .int .i64 c2, .int .i64 c3, .int .i64 c4, .string d0, .string d1, .string d2, .int .i64 p0, .int .i64 p1, .int .i64 p2, .int .i64 p3]] w fun e w' => e = .returned (.bool true) ∧ Q w' := by
  obtain ⟨W0, hW⟩ : ∃ W0, (w.alloc (.cells #[.pointer (some ⟨X, 0, none⟩), .pointer (some ⟨R, 0, none⟩)] 109)).alloc (.cells #[.int .i64 23, .int .i64 on, .int .i64 a, .int .i64 b, .string s, .string t, .string u, .slice l1 l2 l3, .slice ka kn kc, .int .i64 c0, .int .i64 c1, .int .i64 c2, .int .i64 c3, .int .i64 c4, .string d0, .string d1, .string d2, .int .i64 p0, .int .i64 p1, .int .i64 p2, .int .i64 p3] 77) = W0 := ⟨_, rfl⟩
  have HB := hide (show Below w.heap.size w W0 by subst hW; exact ((Below.refl _ _).alloc (Nat.le_refl _) _).alloc (by simp) _)
  have HS0 := hide (show Blk W0 w.heap.size [.pointer (some ⟨X, 0, none⟩), .pointer (some ⟨R, 0, none⟩)] 109 by rw [← hW]; exact (Blk.new w _ _).alloc _)
  have HO0 := hide (show Blk W0 (w.heap.size + 1) [.int .i64 23, .int .i64 on, .int .i64 a, .int .i64 b, .string s, .string t, .string u, .slice l1 l2 l3, .slice ka kn kc, .int .i64 c0, .int .i64 c1, .int .i64 c2, .int .i64 c3, .int .i64 c4, .string d0, .string d1, .string d2, .int .i64 p0, .int .i64 p1, .int .i64 p2, .int .i64 p3] 77 by
    rw [← hW]
    have h := Blk.new (w.alloc (.cells #[.pointer (some ⟨X, 0, none⟩), .pointer (some ⟨R, 0, none⟩)] 109)) [.int .i64 23, .int .i64 on, .int .i64 a, .int .i64 b, .string s, .string t, .string u, .slice l1 l2 l3, .slice ka kn kc, .int .i64 c0, .int .i64 c1, .int .i64 c2, .int .i64 c3, .int .i64 c4, .string d0, .string d1, .string d2, .int .i64 p0, .int .i64 p1, .int .i64 p2, .int .i64 p3] 77
    simp only [World.size_alloc] at h
    exact h)
  have hz' : w.heap.size + 2 ≤ W0.heap.size := by subst hW; simp
  have HZL := hide hz'
  have HWE := hide hW
  clear hz'
  have HX := hide (hX _ HB.out)
  have HR := hide hR
  have HK := hide hK
  have HER := hide her
  have sx : W0.cell? ⟨w.heap.size, 0, none⟩ = some (.pointer (some ⟨X, 0, none⟩)) := HS0.out.cell 0
  have sr : W0.cell? ⟨w.heap.size, 1, none⟩ = some (.pointer (some ⟨R, 0, none⟩)) := HS0.out.cell 1
  have o0 := HO0.out.cell 0
  have o2 := HO0.out.cell 2
  simp only [List.getElem?_cons_zero, List.getElem?_cons_succ] at o0 o2
  clear hX hR hK hW her
  go_enter Tryz.func59, Tryz.ntmps59
  go_wp2_with fail
  rw [HWE.out]
  refine HX.out.mono ?_
  rintro e w1 ⟨v, rfl, hr1, hb1⟩
  have HB1 := hide (HB.out.trans (hb1.mono HB.out.size))
  have HS1 := hide (HS0.out.on hb1)
  have HO1 := hide (HO0.out.on hb1)
  have HV1 := hide (owns_lower' (lo' := w.heap.size) hr1 HB.out.size)
  clear hb1 hr1 sx sr o0 o2
  have sx : w1.cell? ⟨w.heap.size, 0, none⟩ = some (.pointer (some ⟨X, 0, none⟩)) := HS1.out.cell 0
  have sr : w1.cell? ⟨w.heap.size, 1, none⟩ = some (.pointer (some ⟨R, 0, none⟩)) := HS1.out.cell 1
  have o0 := HO1.out.cell 0
  have o2 := HO1.out.cell 2
  simp only [List.getElem?_cons_zero, List.getElem?_cons_succ] at o0 o2
  go_wp2_with fail
  refine (HR.out _ HB1.out).mono ?_
  rintro e w2 ⟨u, rfl, hr2, hb2⟩
  have HB2 := hide (HB1.out.trans (hb2.mono HB1.out.size))
  have HR2 := hide hr2
  have HV2 := hide (owns_kept HV1.out (Kept.of_below (F := fun _ => False) hb2) (fun _ _ e => e))
  clear hb2 hr2 sx sr o0 o2
  obtain ⟨va, vc, hv⟩ := owns_shape HV2.out
  subst hv
  go_wp2_with fail
  refine (sameN_rows _ _ _ u n ns w2 HV2.out HR2.out hn).mono ?_
  rintro e w3 ⟨rfl, hb3⟩
  have HB3 := hide (HB2.out.trans (hb3.mono HB2.out.size))
  have HV3 := hide (owns_kept HV2.out (Kept.of_below (F := fun _ => False) hb3) (fun _ _ e => e))
  clear hb3
  go_wp2_with fail
  refine (numQ_any er _).mono ?_
  rintro e w4 ⟨rfl, hw4⟩
  subst w4
  have e1 : (er == er) = true := beq_self_eq_true _
  rcases (show ((n : Int) == 0) = true ∨ (((n : Int) == 0) = false ∧ (er == 0) = true) by
    cases h : ((n : Int) == 0) with
    | true => exact .inl rfl
    | false =>
      refine .inr ⟨rfl, ?_⟩
      rcases HER.out with h1 | h1
      · subst h1; simp at h
      · subst h1; rfl) with h | ⟨h, h'⟩
  all_goals
    clear HER
    go_wp2_with fail
    refine (HK.out w3 _ HB3.out HV3.out).mono ?_
    rintro e w5 ⟨rfl, hq⟩
    have HQ := hide hq
    clear hq
    go_wp2
    go_ret
    exact ⟨rfl, HQ.out⟩
set_option maxRecDepth 20000 in
set_option maxHeartbeats 4000000 in
theorem walked_next (Wb X R : Nat) (on a b : Int) (s t u : ByteArray) (l1 : Option Addr) (l2 l3 : Nat) (ka : Option Addr) (kn kc : Nat) (c0 c1 c2 c3 c4 : Int) (d0 d1 d2 : ByteArray) (p0 p1 p2 p3 : Int) (er : Int) (Z : Nat → Prop) (Q1 Q2 : World → Prop) (w : World) (hZ : ∀ q, Z q → q < w.heap.size)
    (hX : ∀ V, Below w.heap.size w V → Calls Tryz.prog 23 #[.pointer (some ⟨X, 0, none⟩)] V fun e w' => e = .returned (.int .i64 er) ∧ Kept Z V w' ∧ Q1 w')
    (hR : ∀ V, Q1 V → Calls Tryz.prog 117 #[.pointer (some ⟨R, 0, none⟩)] V fun e w' => e = .returned (.int .i64 er) ∧ Q2 w') :
    Calls Tryz.prog 59 #[.pointer (some ⟨Wb, 0, none⟩), .agg #[.pointer (some ⟨X, 0, none⟩), .pointer (some ⟨R, 0, none⟩)], .agg #[.int .i64 24, .int .i64 on, .int .i64 a, .int .i64 b, .string s, .string t, .string u, .slice l1 l2 l3, .slice ka kn kc, .int .i64 c0, .int .i64 c1, .int .i64 c2, .int .i64 c3, .int .i64 c4, .string d0, .string d1, .string d2, .int .i64 p0, .int .i64 p1, .int .i64 p2, .int .i64 p3]] w fun e w' => e = .returned (.bool true) ∧ Q2 w' := by
  obtain ⟨W0, hW⟩ : ∃ W0, (w.alloc (.cells #[.pointer (some ⟨X, 0, none⟩), .pointer (some ⟨R, 0, none⟩)] 109)).alloc (.cells #[.int .i64 24, .int .i64 on, .int .i64 a, .int .i64 b, .string s, .string t, .string u, .slice l1 l2 l3, .slice ka kn kc, .int .i64 c0, .int .i64 c1, .int .i64 c2, .int .i64 c3, .int .i64 c4, .string d0, .string d1, .string d2, .int .i64 p0, .int .i64 p1, .int .i64 p2, .int .i64 p3] 77) = W0 := ⟨_, rfl⟩
  have HB := hide (show Below w.heap.size w W0 by subst hW; exact ((Below.refl _ _).alloc (Nat.le_refl _) _).alloc (by simp) _)
  have HS0 := hide (show Blk W0 w.heap.size [.pointer (some ⟨X, 0, none⟩), .pointer (some ⟨R, 0, none⟩)] 109 by rw [← hW]; exact (Blk.new w _ _).alloc _)
  have HO0 := hide (show Blk W0 (w.heap.size + 1) [.int .i64 24, .int .i64 on, .int .i64 a, .int .i64 b, .string s, .string t, .string u, .slice l1 l2 l3, .slice ka kn kc, .int .i64 c0, .int .i64 c1, .int .i64 c2, .int .i64 c3, .int .i64 c4, .string d0, .string d1, .string d2, .int .i64 p0, .int .i64 p1, .int .i64 p2, .int .i64 p3] 77 by
    rw [← hW]
    have h := Blk.new (w.alloc (.cells #[.pointer (some ⟨X, 0, none⟩), .pointer (some ⟨R, 0, none⟩)] 109)) [.int .i64 24, .int .i64 on, .int .i64 a, .int .i64 b, .string s, .string t, .string u, .slice l1 l2 l3, .slice ka kn kc, .int .i64 c0, .int .i64 c1, .int .i64 c2, .int .i64 c3, .int .i64 c4, .string d0, .string d1, .string d2, .int .i64 p0, .int .i64 p1, .int .i64 p2, .int .i64 p3] 77
    simp only [World.size_alloc] at h
    exact h)
  have hz' : w.heap.size + 2 ≤ W0.heap.size := by subst hW; simp
  have HZL := hide hz'
  have HWE := hide hW
  clear hz'
  have HX := hide (hX _ HB.out)
  have HR := hide hR
  have HZ := hide hZ
  have sx : W0.cell? ⟨w.heap.size, 0, none⟩ = some (.pointer (some ⟨X, 0, none⟩)) := HS0.out.cell 0
  have sr : W0.cell? ⟨w.heap.size, 1, none⟩ = some (.pointer (some ⟨R, 0, none⟩)) := HS0.out.cell 1
  have o0 := HO0.out.cell 0
  have o2 := HO0.out.cell 2
  simp only [List.getElem?_cons_zero, List.getElem?_cons_succ] at o0 o2
  clear hX hR hW hZ
  go_enter Tryz.func59, Tryz.ntmps59
  go_wp2_with fail
  rw [HWE.out]
  refine HX.out.mono ?_
  rintro e w1 ⟨rfl, hk1, hq1⟩
  have sr1 : w1.cell? ⟨w.heap.size, 1, none⟩ = some (.pointer (some ⟨R, 0, none⟩)) := (hk1.cell (p := ⟨w.heap.size, 1, none⟩) (by have := HZL.out; show w.heap.size < _; omega) (fun e => by have := HZ.out _ e; simp only at this; omega)).trans sr
  have HQ1 := hide hq1
  clear hk1 hq1 sx sr o0 o2
  go_wp2_with fail
  refine (HR.out _ HQ1.out).mono ?_
  rintro e w2 ⟨rfl, hq2⟩
  have HQ2 := hide hq2
  clear hq2 sr1
  go_wp2_with fail
  refine (numQ_any er _).mono ?_
  rintro e w4 ⟨rfl, hw4⟩
  subst w4
  have e1 : (er == er) = true := beq_self_eq_true _
  go_wp2
  go_ret
  exact ⟨rfl, HQ2.out⟩
set_option maxRecDepth 20000 in
set_option maxHeartbeats 4000000 in
theorem walked_none (Wb X R : Nat) (kd on a b : Int) (s t u : ByteArray) (l1 : Option Addr) (l2 l3 : Nat) (ka : Option Addr) (kn kc : Nat) (c0 c1 c2 c3 c4 : Int) (d0 d1 d2 : ByteArray) (p0 p1 p2 p3 : Int) (w : World) (h1 : 24 < kd) :
    Calls Tryz.prog 59 #[.pointer (some ⟨Wb, 0, none⟩), .agg #[.pointer (some ⟨X, 0, none⟩), .pointer (some ⟨R, 0, none⟩)], .agg #[.int .i64 kd, .int .i64 on, .int .i64 a, .int .i64 b, .string s, .string t, .string u, .slice l1 l2 l3, .slice ka kn kc, .int .i64 c0, .int .i64 c1, .int .i64 c2, .int .i64 c3, .int .i64 c4, .string d0, .string d1, .string d2, .int .i64 p0, .int .i64 p1, .int .i64 p2, .int .i64 p3]] w fun e w' => e = .returned (.bool true) ∧ Below w.heap.size w w' := by
  obtain ⟨W0, hW⟩ : ∃ W0, (w.alloc (.cells #[.pointer (some ⟨X, 0, none⟩), .pointer (some ⟨R, 0, none⟩)] 109)).alloc (.cells #[.int .i64 kd, .int .i64 on, .int .i64 a, .int .i64 b, .string s, .string t, .string u, .slice l1 l2 l3, .slice ka kn kc, .int .i64 c0, .int .i64 c1, .int .i64 c2, .int .i64 c3, .int .i64 c4, .string d0, .string d1, .string d2, .int .i64 p0, .int .i64 p1, .int .i64 p2, .int .i64 p3] 77) = W0 := ⟨_, rfl⟩
  have HB := hide (show Below w.heap.size w W0 by subst hW; exact ((Below.refl _ _).alloc (Nat.le_refl _) _).alloc (by simp) _)
  have HS0 := hide (show Blk W0 w.heap.size [.pointer (some ⟨X, 0, none⟩), .pointer (some ⟨R, 0, none⟩)] 109 by rw [← hW]; exact (Blk.new w _ _).alloc _)
  have HO0 := hide (show Blk W0 (w.heap.size + 1) [.int .i64 kd, .int .i64 on, .int .i64 a, .int .i64 b, .string s, .string t, .string u, .slice l1 l2 l3, .slice ka kn kc, .int .i64 c0, .int .i64 c1, .int .i64 c2, .int .i64 c3, .int .i64 c4, .string d0, .string d1, .string d2, .int .i64 p0, .int .i64 p1, .int .i64 p2, .int .i64 p3] 77 by
    rw [← hW]
    have h := Blk.new (w.alloc (.cells #[.pointer (some ⟨X, 0, none⟩), .pointer (some ⟨R, 0, none⟩)] 109)) [.int .i64 kd, .int .i64 on, .int .i64 a, .int .i64 b, .string s, .string t, .string u, .slice l1 l2 l3, .slice ka kn kc, .int .i64 c0, .int .i64 c1, .int .i64 c2, .int .i64 c3, .int .i64 c4, .string d0, .string d1, .string d2, .int .i64 p0, .int .i64 p1, .int .i64 p2, .int .i64 p3] 77
    simp only [World.size_alloc] at h
    exact h)
  have hz' : w.heap.size + 2 ≤ W0.heap.size := by subst hW; simp
  have HZL := hide hz'
  have HWE := hide hW
  clear hz'
  have sx : W0.cell? ⟨w.heap.size, 0, none⟩ = some (.pointer (some ⟨X, 0, none⟩)) := HS0.out.cell 0
  have sr : W0.cell? ⟨w.heap.size, 1, none⟩ = some (.pointer (some ⟨R, 0, none⟩)) := HS0.out.cell 1
  have o0 := HO0.out.cell 0
  have o2 := HO0.out.cell 2
  simp only [List.getElem?_cons_zero, List.getElem?_cons_succ] at o0 o2
  have k21 : (kd == 21) = false := by
    have : kd ≠ 21 := by omega
    simpa using this
  have k22 : (kd == 22) = false := by
    have : kd ≠ 22 := by omega
    simpa using this
  have k23 : (kd == 23) = false := by
    have : kd ≠ 23 := by omega
    simpa using this
  have k24 : (kd == 24) = false := by
    have : kd ≠ 24 := by omega
    simpa using this
  clear hW h1
  go_enter Tryz.func59, Tryz.ntmps59
  go_wp2_with fail
  rw [HWE.out]
  try go_wp2
  go_ret
  exact ⟨rfl, HB.out⟩
section
attribute [local go_sem] ptrCells_at
attribute [local go_sem ↓] wp_pre_op
set_option maxRecDepth 20000 in
set_option maxHeartbeats 4000000 in
theorem lstep_walk (Wb : Nat) (on a b : Int) (s t u : ByteArray) (l1 : Option Addr) (l2 l3 : Nat) (ka : Option Addr) (kn kc : Nat) (c0 c1 c2 c3 c4 : Int) (d0 d1 d2 : ByteArray) (p0 p1 p2 p3 : Int) (b0 b1 b2 wv dv hv : Value) (Q : World → Prop) (w : World) (_hB : Blk w Wb (wldQ b0 b1 b2 wv dv hv) 74)
    (hD : ∀ V, Below w.heap.size w V → Calls Tryz.prog 58 #[.pointer (some ⟨Wb, 0, none⟩), .agg #[.int .i64 20, .int .i64 on, .int .i64 a, .int .i64 b, .string s, .string t, .string u, .slice l1 l2 l3, .slice ka kn kc, .int .i64 c0, .int .i64 c1, .int .i64 c2, .int .i64 c3, .int .i64 c4, .string d0, .string d1, .string d2, .int .i64 p0, .int .i64 p1, .int .i64 p2, .int .i64 p3]] V fun e w' => e = .returned (.bool true) ∧ Q w') :
    Calls Tryz.prog 32 #[.pointer (some ⟨Wb, 0, none⟩), .agg #[.int .i64 20, .int .i64 on, .int .i64 a, .int .i64 b, .string s, .string t, .string u, .slice l1 l2 l3, .slice ka kn kc, .int .i64 c0, .int .i64 c1, .int .i64 c2, .int .i64 c3, .int .i64 c4, .string d0, .string d1, .string d2, .int .i64 p0, .int .i64 p1, .int .i64 p2, .int .i64 p3]] w fun e w' => e = .returned (.bool true) ∧ Q w' := by
  obtain ⟨W0, hW⟩ : ∃ W0, w.alloc (.cells #[.int .i64 20, .int .i64 on, .int .i64 a, .int .i64 b, .string s, .string t, .string u, .slice l1 l2 l3, .slice ka kn kc, .int .i64 c0, .int .i64 c1, .int .i64 c2, .int .i64 c3, .int .i64 c4, .string d0, .string d1, .string d2, .int .i64 p0, .int .i64 p1, .int .i64 p2, .int .i64 p3] 77) = W0 := ⟨_, rfl⟩
  have HB := hide (show Below w.heap.size w W0 by subst hW; exact (Below.refl _ _).alloc (Nat.le_refl _) _)
  have HO0 := hide (show Blk W0 w.heap.size [.int .i64 20, .int .i64 on, .int .i64 a, .int .i64 b, .string s, .string t, .string u, .slice l1 l2 l3, .slice ka kn kc, .int .i64 c0, .int .i64 c1, .int .i64 c2, .int .i64 c3, .int .i64 c4, .string d0, .string d1, .string d2, .int .i64 p0, .int .i64 p1, .int .i64 p2, .int .i64 p3] 77 by rw [← hW]; exact Blk.new w _ _)
  have HWE := hide hW
  have HD := hide (hD _ HB.out)
  have oc0 : W0.cell? ⟨w.heap.size, 0, none⟩ = some (.int .i64 20) := HO0.out.cell 0
  have hca : cellsAt (w.alloc (.cells #[.int .i64 20, .int .i64 on, .int .i64 a, .int .i64 b, .string s, .string t, .string u, .slice l1 l2 l3, .slice ka kn kc, .int .i64 c0, .int .i64 c1, .int .i64 c2, .int .i64 c3, .int .i64 c4, .string d0, .string d1, .string d2, .int .i64 p0, .int .i64 p1, .int .i64 p2, .int .i64 p3] 77)) w.heap.size 0 21 = some [.int .i64 20, .int .i64 on, .int .i64 a, .int .i64 b, .string s, .string t, .string u, .slice l1 l2 l3, .slice ka kn kc, .int .i64 c0, .int .i64 c1, .int .i64 c2, .int .i64 c3, .int .i64 c4, .string d0, .string d1, .string d2, .int .i64 p0, .int .i64 p1, .int .i64 p2, .int .i64 p3] := blk_cellsAt (Blk.new w [.int .i64 20, .int .i64 on, .int .i64 a, .int .i64 b, .string s, .string t, .string u, .slice l1 l2 l3, .slice ka kn kc, .int .i64 c0, .int .i64 c1, .int .i64 c2, .int .i64 c3, .int .i64 c4, .string d0, .string d1, .string d2, .int .i64 p0, .int .i64 p1, .int .i64 p2, .int .i64 p3] 77)
  clear hW _hB hD
  go_enter Tryz.func32, Tryz.ntmps32
  go_wp2_with fail
  rw [HWE.out]
  refine HD.out.mono ?_
  rintro e w1 ⟨rfl, hq⟩
  have HQ := hide hq
  clear hq oc0 hca
  go_wp2
  go_ret
  exact ⟨rfl, HQ.out⟩
end
set_option maxRecDepth 20000 in
set_option maxHeartbeats 4000000 in
theorem lstep_wnone (Wb : Nat) (kd on a b : Int) (s t u : ByteArray) (l1 : Option Addr) (l2 l3 : Nat) (ka : Option Addr) (kn kc : Nat) (c0 c1 c2 c3 c4 : Int) (d0 d1 d2 : ByteArray) (p0 p1 p2 p3 : Int) (b0 b1 b2 dv hv : Value) (wa : Option Addr) (wc : Nat) (w : World) (hB : Blk w Wb (wldQ b0 b1 b2 (.slice wa 0 wc) dv hv) 74) (h1 : 20 < kd) (h2 : kd < 30) :
    Calls Tryz.prog 32 #[.pointer (some ⟨Wb, 0, none⟩), .agg #[.int .i64 kd, .int .i64 on, .int .i64 a, .int .i64 b, .string s, .string t, .string u, .slice l1 l2 l3, .slice ka kn kc, .int .i64 c0, .int .i64 c1, .int .i64 c2, .int .i64 c3, .int .i64 c4, .string d0, .string d1, .string d2, .int .i64 p0, .int .i64 p1, .int .i64 p2, .int .i64 p3]] w fun e w' => e = .returned (.bool true) ∧ Below w.heap.size w w' := by
  obtain ⟨W0, hW⟩ : ∃ W0, w.alloc (.cells #[.int .i64 kd, .int .i64 on, .int .i64 a, .int .i64 b, .string s, .string t, .string u, .slice l1 l2 l3, .slice ka kn kc, .int .i64 c0, .int .i64 c1, .int .i64 c2, .int .i64 c3, .int .i64 c4, .string d0, .string d1, .string d2, .int .i64 p0, .int .i64 p1, .int .i64 p2, .int .i64 p3] 77) = W0 := ⟨_, rfl⟩
  have HB := hide (show Below w.heap.size w W0 by subst hW; exact (Below.refl _ _).alloc (Nat.le_refl _) _)
  have HO0 := hide (show Blk W0 w.heap.size [.int .i64 kd, .int .i64 on, .int .i64 a, .int .i64 b, .string s, .string t, .string u, .slice l1 l2 l3, .slice ka kn kc, .int .i64 c0, .int .i64 c1, .int .i64 c2, .int .i64 c3, .int .i64 c4, .string d0, .string d1, .string d2, .int .i64 p0, .int .i64 p1, .int .i64 p2, .int .i64 p3] 77 by rw [← hW]; exact Blk.new w _ _)
  have HWE := hide hW
  have hWl := hB.lt
  have hB3 : w.cell? ⟨Wb, 3, none⟩ = some (.slice wa 0 wc) := hB.cell 3
  have wc3 : ∀ o, (w.alloc o).cell? ⟨Wb, 3, none⟩ = some (.slice wa 0 wc) := fun o => (World.cell?_alloc_lt _ _ _ hWl).trans hB3
  have e1 : ¬ kd < 20 := by omega
  have e2 : (kd == 20) = false := by
    have : kd ≠ 20 := by omega
    simpa using this
  have e4 : (kd == 30) = false := by
    have : kd ≠ 30 := by omega
    simpa using this
  have e5 : (kd == 40) = false := by
    have : kd ≠ 40 := by omega
    simpa using this
  have e6 : (kd == 41) = false := by
    have : kd ≠ 41 := by omega
    simpa using this
  have e7 : ¬ 41 < kd := by omega
  have e8 : ¬ 30 < kd := by omega
  have q1 : decide (kd < 20) = false := decide_eq_false e1
  have q3 : decide (kd < 30) = true := decide_eq_true h2
  have q7 : decide (41 < kd) = false := decide_eq_false e7
  have q8 : decide (30 < kd) = false := decide_eq_false e8
  clear hW hB e1 e7 e8 h1 h2 hWl hB3
  go_enter Tryz.func32, Tryz.ntmps32
  go_wp2_with fail
  try rw [HWE.out]
  try go_wp2
  go_ret
  exact ⟨rfl, by first | exact HB.out | (rw [HWE.out]; exact HB.out)⟩
set_option maxRecDepth 20000 in
set_option maxHeartbeats 4000000 in
theorem lstep_walked (lo Wb : Nat) (kd on a b : Int) (s t u : ByteArray) (l1 : Option Addr) (l2 l3 : Nat) (ka : Option Addr) (kn kc : Nat) (c0 c1 c2 c3 c4 : Int) (d0 d1 d2 : ByteArray) (p0 p1 p2 p3 : Int) (b0 b1 b2 dv hv : Value) (g m wc i X R : Nat) (P : List (Nat × Nat)) (Z : Nat → Prop) (Q : World → Prop) (w : World) (hZ : ∀ q, Z q → q < w.heap.size ∧ q ≠ g) (hB : Blk w Wb (wldQ b0 b1 b2 (.slice (some ⟨g, 0, none⟩) m wc) dv hv) 74) (hr : w.ownsRow lo 109 2 (.slice (some ⟨g, 0, none⟩) m wc) m (plC P)) (hm : m ≤ 2199023255552) (h1 : 20 < kd) (h2 : kd < 30) (ho1 : -9223372036854775808 ≤ on) (ho2 : on ≤ 9223372036854775807) (hi : pickZ on m = i) (him : i < m) (hp : P[i]? = some (X, R))
    (hT : ∀ V, Below w.heap.size w V → Calls Tryz.prog 59 #[.pointer (some ⟨Wb, 0, none⟩), .agg #[.pointer (some ⟨X, 0, none⟩), .pointer (some ⟨R, 0, none⟩)], .agg #[.int .i64 kd, .int .i64 on, .int .i64 a, .int .i64 b, .string s, .string t, .string u, .slice l1 l2 l3, .slice ka kn kc, .int .i64 c0, .int .i64 c1, .int .i64 c2, .int .i64 c3, .int .i64 c4, .string d0, .string d1, .string d2, .int .i64 p0, .int .i64 p1, .int .i64 p2, .int .i64 p3]] V fun e w' => e = .returned (.bool true) ∧ Kept Z V w' ∧ w'.cell? ⟨Wb, 3, none⟩ = V.cell? ⟨Wb, 3, none⟩ ∧ Q w') :
    Calls Tryz.prog 32 #[.pointer (some ⟨Wb, 0, none⟩), .agg #[.int .i64 kd, .int .i64 on, .int .i64 a, .int .i64 b, .string s, .string t, .string u, .slice l1 l2 l3, .slice ka kn kc, .int .i64 c0, .int .i64 c1, .int .i64 c2, .int .i64 c3, .int .i64 c4, .string d0, .string d1, .string d2, .int .i64 p0, .int .i64 p1, .int .i64 p2, .int .i64 p3]] w fun e w' => e = .returned (.bool true) ∧ Q w' := by
  obtain ⟨W0, hW⟩ : ∃ W0, w.alloc (.cells #[.int .i64 kd, .int .i64 on, .int .i64 a, .int .i64 b, .string s, .string t, .string u, .slice l1 l2 l3, .slice ka kn kc, .int .i64 c0, .int .i64 c1, .int .i64 c2, .int .i64 c3, .int .i64 c4, .string d0, .string d1, .string d2, .int .i64 p0, .int .i64 p1, .int .i64 p2, .int .i64 p3] 77) = W0 := ⟨_, rfl⟩
  have HB := hide (show Below w.heap.size w W0 by subst hW; exact (Below.refl _ _).alloc (Nat.le_refl _) _)
  have HO0 := hide (show Blk W0 w.heap.size [.int .i64 kd, .int .i64 on, .int .i64 a, .int .i64 b, .string s, .string t, .string u, .slice l1 l2 l3, .slice ka kn kc, .int .i64 c0, .int .i64 c1, .int .i64 c2, .int .i64 c3, .int .i64 c4, .string d0, .string d1, .string d2, .int .i64 p0, .int .i64 p1, .int .i64 p2, .int .i64 p3] 77 by rw [← hW]; exact Blk.new w _ _)
  have HWE := hide hW
  have HW0 := hide (hB.on HB.out)
  have HR0 := hide (owns_kept hr (Kept.of_below (F := fun _ => False) HB.out) (fun _ _ e => e))
  have HPK := hide (fun V : World => pickL_any on m V (by omega) (by omega) ho1 ho2)
  rw [hi] at HPK
  have y0 : W0.cell? ⟨g, i * 2, none⟩ = some (.pointer (some ⟨X, 0, none⟩)) := by
    rw [HR0.out.cellAt (i * 2) (by omega)]
    exact plC_get hp 0 (by decide)
  have y1 : W0.cell? ⟨g, i * 2 + 1, none⟩ = some (.pointer (some ⟨R, 0, none⟩)) := by
    rw [HR0.out.cellAt (i * 2 + 1) (by omega)]
    exact plC_get hp 1 (by decide)
  have HS := hide (fun (V : World) (h3 : V.cell? ⟨Wb, 3, none⟩ = W0.cell? ⟨Wb, 3, none⟩) (h : ∀ q, q = g ∨ q = w.heap.size → V.heap[q]? = W0.heap[q]?) => (by
    have hc : ∀ p : Addr, (p.block = g ∨ p.block = w.heap.size) → V.cell? p = W0.cell? p := fun p hp => World.cell?_of_block (w := W0) (h p.block hp)
    exact ⟨h3.trans (HW0.out.cell 3), (hc _ (.inl rfl)).trans y0, (hc _ (.inl rfl)).trans y1, (hc _ (.inr rfl)).trans (HO0.out.cell 1), blk_cellsAt (w := V) (T := 77) (by unfold Blk; rw [h _ (.inr rfl)]; exact HO0.out)⟩ : V.cell? ⟨Wb, 3, none⟩ = some (.slice (some ⟨g, 0, none⟩) m wc) ∧ V.cell? ⟨g, i * 2, none⟩ = some (.pointer (some ⟨X, 0, none⟩)) ∧ V.cell? ⟨g, i * 2 + 1, none⟩ = some (.pointer (some ⟨R, 0, none⟩)) ∧ V.cell? ⟨w.heap.size, 1, none⟩ = some (.int .i64 on) ∧ cellsAt V w.heap.size 0 21 = some [.int .i64 kd, .int .i64 on, .int .i64 a, .int .i64 b, .string s, .string t, .string u, .slice l1 l2 l3, .slice ka kn kc, .int .i64 c0, .int .i64 c1, .int .i64 c2, .int .i64 c3, .int .i64 c4, .string d0, .string d1, .string d2, .int .i64 p0, .int .i64 p1, .int .i64 p2, .int .i64 p3]))
  have HT := hide hT
  have HZ := hide (show ∀ (V V2 : World), V.heap = W0.heap → Kept Z V V2 → ∀ q, q = g ∨ q = w.heap.size → V2.heap[q]? = W0.heap[q]? from fun V V2 hV hk q hq => by
    have hgl : g < W0.heap.size := (HR0.out.lt g rfl).2
    have hol := HO0.out.lt
    rw [← hV] at hgl hol ⊢
    refine hk.block q (by rcases hq with rfl | rfl <;> assumption) (fun hz => ?_)
    obtain ⟨z1, z3⟩ := hZ q hz
    rcases hq with rfl | rfl
    · exact z3 rfl
    · omega)
  have hWl := hB.lt
  have hB3 : w.cell? ⟨Wb, 3, none⟩ = some (.slice (some ⟨g, 0, none⟩) m wc) := hB.cell 3
  have wc3 : ∀ o, (w.alloc o).cell? ⟨Wb, 3, none⟩ = some (.slice (some ⟨g, 0, none⟩) m wc) := fun o => (World.cell?_alloc_lt _ _ _ hWl).trans hB3
  have e1 : ¬ kd < 20 := by omega
  have e2 : (kd == 20) = false := by
    have : kd ≠ 20 := by omega
    simpa using this
  have e4 : (kd == 30) = false := by
    have : kd ≠ 30 := by omega
    simpa using this
  have e5 : (kd == 40) = false := by
    have : kd ≠ 40 := by omega
    simpa using this
  have e6 : (kd == 41) = false := by
    have : kd ≠ 41 := by omega
    simpa using this
  have e7 : ¬ 41 < kd := by omega
  have e8 : ¬ 30 < kd := by omega
  have q1 : decide (kd < 20) = false := decide_eq_false e1
  have q3 : decide (kd < 30) = true := decide_eq_true h2
  have q7 : decide (41 < kd) = false := decide_eq_false e7
  have q8 : decide (30 < kd) = false := decide_eq_false e8
  have dm : decide ((0 : Int) < (m : Int)) = true := decide_eq_true (by omega)
  have dm2 : (0 : Int) < (m : Int) := by omega
  have dim : (i : Int) < (m : Int) := by omega
  have di0 : 0 ≤ (i : Int) := by omega
  clear hZ hW hB hr hT e1 e7 e8 hi hp ho1 ho2 y0 y1 hWl hB3 h1 h2
  go_enter Tryz.func32, Tryz.ntmps32
  go_wp2_with fail
  rw [HWE.out]
  refine wp_region_held_drew (S := fun V => V.cell? ⟨Wb, 3, none⟩ = some (.slice (some ⟨g, 0, none⟩) m wc) ∧ V.cell? ⟨g, i * 2, none⟩ = some (.pointer (some ⟨X, 0, none⟩)) ∧ V.cell? ⟨g, i * 2 + 1, none⟩ = some (.pointer (some ⟨R, 0, none⟩)) ∧ V.cell? ⟨w.heap.size, 1, none⟩ = some (.int .i64 on) ∧ cellsAt V w.heap.size 0 21 = some [.int .i64 kd, .int .i64 on, .int .i64 a, .int .i64 b, .string s, .string t, .string u, .slice l1 l2 l3, .slice ka kn kc, .int .i64 c0, .int .i64 c1, .int .i64 c2, .int .i64 c3, .int .i64 c4, .string d0, .string d1, .string d2, .int .i64 p0, .int .i64 p1, .int .i64 p2, .int .i64 p3]) (by kernel_rfl) (HS.out _ rfl (fun _ _ => rfl)) (fun hHeld => ?_)
  refine tk 0 hHeld (h := ?_)
  refine tk 1 hHeld (h := ?_)
  refine tk 2 hHeld (h := ?_)
  refine tk 3 hHeld (h := ?_)
  refine tk 4 hHeld (h := ?_)
  refine tk 5 hHeld (h := ?_)
  refine tk 6 hHeld (h := ?_)
  refine tk 7 hHeld (h := ?_)
  refine tk 8 hHeld (h := ?_)
  refine tk 9 hHeld (h := ?_)
  refine tk 10 hHeld (h := ?_)
  refine tk 11 hHeld (h := ?_)
  refine tk 15 hHeld (hy := fun V hSV => exec_op rfl hSV.2.2.2.2) (h := ?_)
  refine wpAnyH_ready (rs := [12]) (by kernel_rfl) (by simp) ?_
  refine AllReadyH.cons (by (simp only [List.getElem?_toArray, List.getElem?_cons_succ, List.getElem?_cons_zero]; rfl)) (fun K hK => ?_) AllReadyH.nil
  go_simp
  go_at_call 60
  refine (HPK.out _).mono ?_
  rintro e w1 ⟨rfl, hw1⟩
  subst w1
  try go_wp2_with fail
  refine hK.out _ _ (HS.out _ rfl (fun _ _ => rfl)) (fun hHeld => ?_)
  clear hK K
  try simp only [Act.put, List.setIfInBounds_toArray, List.set_cons_zero, List.set_cons_succ]
  refine tk 13 hHeld (h := ?_)
  refine tk 14 hHeld (h := ?_)
  refine wpAnyH_ready (rs := [16]) (by kernel_rfl) (by simp) ?_
  refine AllReadyH.cons (by (simp only [List.getElem?_toArray, List.getElem?_cons_succ, List.getElem?_cons_zero]; rfl)) (fun K hK => ?_) AllReadyH.nil
  go_simp
  go_at_call 59
  refine (HT.out W0.drew HB.out.drew).mono ?_
  rintro e w2 ⟨rfl, hk2, h3, hq2⟩
  have HQ2 := hide hq2
  have HZ2 := hide (HZ.out W0.drew w2 rfl hk2)
  have H3 := hide (show w2.cell? ⟨Wb, 3, none⟩ = W0.cell? ⟨Wb, 3, none⟩ from h3)
  clear hk2 hq2 h3
  try go_wp2_with fail
  refine hK.out _ _ (HS.out _ H3.out HZ2.out) (fun hHeld => ?_)
  clear hK K
  try simp only [Act.put, List.setIfInBounds_toArray, List.set_cons_zero, List.set_cons_succ]
  refine tk 17 hHeld (h := ?_)
  refine wpAnyH_done (by kernel_rfl) ?_ _
  clear HS hHeld
  go_wp2
  go_ret
  exact ⟨rfl, HQ2.out⟩
end Go.Proofs.YtgaoeoijdpdjiaaGreatDoor
