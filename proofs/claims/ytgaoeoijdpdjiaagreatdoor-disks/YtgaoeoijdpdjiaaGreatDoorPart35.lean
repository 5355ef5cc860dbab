/-
  The statement's world: a disk more; one step of a script, of the kinds of disks.
-/
import Derived.Test.YtgaoeoijdpdjiaaGreatDoorPart3
import Derived.Test.YtgaoeoijdpdjiaaGreatDoorPart31
import Derived.Test.YtgaoeoijdpdjiaaGreatDoorPart27
import Derived.Test.YtgaoeoijdpdjiaaGreatDoorPart29
import Derived.Test.YtgaoeoijdpdjiaaGreatDoorPart1
import Derived.Test.YtgaoeoijdpdjiaaGreatDoorPart33
import Derived.Deep.AppendLies
namespace Go.Proofs.YtgaoeoijdpdjiaaGreatDoor
open Go.RowKit
def wldQ (b0 b1 b2 wv dv hv : Value) : List Value := [b0, b1, b2, wv, dv, hv]
def plV (p : Nat × Nat) : List Value := [.pointer (some ⟨p.1, 0, none⟩), .pointer (some ⟨p.2, 0, none⟩)]
def plC (P : List (Nat × Nat)) : List Value := P.flatMap plV
theorem plC_get {P : List (Nat × Nat)} {j : Nat} {p : Nat × Nat} (h : P[j]? = some p) (i : Nat) (hi : i < 2) : (plC P)[j * 2 + i]? = (plV p)[i]? := flat_get plV 2 P j p i (fun _ _ => rfl) h hi
theorem plC_snoc (P : List (Nat × Nat)) (p : Nat × Nat) : plC (P ++ [p]) = plC P ++ [.pointer (some ⟨p.1, 0, none⟩), .pointer (some ⟨p.2, 0, none⟩)] := by simp [plC, plV]
theorem infoPl : (Tryz.prog.info? 115).map (fun i => (i.zero, i.size, i.bytes)) = some (some (.agg #[.pointer none, .pointer none]), 2, 16) := by kernel_rfl
theorem exec_op {ev : Operand → Value} {x : Operand} {d : Option Nat} {ty : TypeId} {ps : String} {af : Array Edge} {g : Option (Nat × Bool)} {b o : Nat} {C : List Value} {V : World} (hx : ev x = .pointer (some ⟨b, o, none⟩)) (h : cellsAt V b o 21 = some C) :
    (execOp ev { dst := d, op := .load 77 x, type := ty, pos := ps, after := af, guard := g }).run Tryz.prog V = .ok (.value (.agg C.toArray)) V := by
  obtain ⟨hl, hr⟩ := cellsAt_range 21 C V b o h
  have hv := run_loadVar_mid (P := Tryz.prog) V b o 77 C _ hr Tryz.underlying77 rfl (by rw [hl]; exact sizeOp)
  unfold execOp
  simp only [hx, Instr.loadAt, Instr.sureAddr, Sem.run_bind, Sem.run_pure, Result.andThen_ok, hv]
theorem blk_cellsAt {w : World} {b : Nat} {C : List Value} {T : TypeId} (h : Blk w b C T) : cellsAt w b 0 C.length = some C := range_cellsAt C C.length w b 0 rfl (fun i u hu => by rw [Nat.zero_add]; exact (h.cell i).trans hu)
theorem pickL_any (c n : Int) (w : World) (h1 : 1 ≤ n) (h2 : n ≤ 9223372036854775807) (hc : -9223372036854775808 ≤ c) (hc2 : c ≤ 9223372036854775807) :
    Calls Tryz.prog 60 #[.int .i64 c, .int .i64 n] w fun e w' => e = .returned (.int .i64 (pickZ c n)) ∧ w' = w := by
  by_cases h : c < 0
  · go_enter Tryz.func60, Tryz.ntmps60
    go_wp2
    go_ret
    refine ⟨congrArg (fun q => Ending.returned (Value.int .i64 q)) ?_, rfl⟩
    unfold pickZ
    rw [if_pos h, ← Int.neg_tmod, Int.tmod_eq_emod_of_nonneg (by omega)]
  · go_enter Tryz.func60, Tryz.ntmps60
    go_wp2
    go_ret
    refine ⟨congrArg (fun q => Ending.returned (Value.int .i64 q)) ?_, rfl⟩
    unfold pickZ
    rw [if_neg (by omega)]
theorem looks_nil (Wb : Nat) (wv dv hv : Value) (w : World) (hB : Blk w Wb (wldQ (.slice none 0 0) (.slice none 0 0) (.slice none 0 0) wv dv hv) 74) : Calls Tryz.prog 33 #[.pointer (some ⟨Wb, 0, none⟩)] w fun e w' => e = .returned (.bool true) ∧ w' = w := by
  have k0 : w.cell? ⟨Wb, 0, none⟩ = some (.slice none 0 0) := hB.cell 0
  have k1 : w.cell? ⟨Wb, 1, none⟩ = some (.slice none 0 0) := hB.cell 1
  have k2 : w.cell? ⟨Wb, 2, none⟩ = some (.slice none 0 0) := hB.cell 2
  clear hB
  go_enter Tryz.func33, Tryz.ntmps33
  go_wp2_with fail
  go_rounds 1
  go_rounds 1
  go_rounds 1
  go_wp2
  go_ret
  exact ⟨rfl, rfl⟩
set_option maxRecDepth 20000 in
set_option maxHeartbeats 4000000 in
theorem disk_no (Wb : Nat) (n : Int) (w : World) (h : n < 1 ∨ 8 < n) : Calls Tryz.prog 61 #[.pointer (some ⟨Wb, 0, none⟩), .int .i64 n] w fun e w' => e = .returned (.bool true) ∧ w' = w := by
  have HX := hide (snew_no n w h)
  have HR := hide (rnew_no n w h)
  clear h
  go_enter Tryz.func61, Tryz.ntmps61
  go_wp2_with fail
  refine HX.out.mono ?_
  rintro e w1 ⟨rfl, hw1⟩
  subst w1
  go_wp2_with fail
  refine HR.out.mono ?_
  rintro e w1 ⟨rfl, hw1⟩
  subst w1
  go_wp2_with fail
  refine (numQ_any 2 _).mono ?_
  rintro e w1 ⟨rfl, hw1⟩
  subst w1
  go_wp2
  go_ret
  exact ⟨rfl, rfl⟩
set_option maxRecDepth 20000 in
set_option maxHeartbeats 4000000 in
theorem disk_yes (lo Wb : Nat) (n : Nat) (b0 b1 b2 wv hv : Value) (da : Option Addr) (m dc : Nat) (P : List (Nat × Nat)) (w : World) (h1 : 1 ≤ n) (h2 : n ≤ 8) (hB : Blk w Wb (wldQ b0 b1 b2 wv (.slice da m dc) hv) 74) (hr : w.ownsRow lo 115 2 (.slice da m dc) m (plC P)) (hm : m ≤ 2199023255552) (hlo : lo ≤ w.heap.size) :
    Calls Tryz.prog 61 #[.pointer (some ⟨Wb, 0, none⟩), .int .i64 n] w fun e w' => e = .returned (.bool true) ∧ ∃ X R F g c V, Below w.heap.size w V ∧ SDisk lo X (newD n) V F ∧ (∀ k, F k → w.heap.size ≤ k) ∧ Blk V R (rdC n (.slice none 0 0) 0 0 0) 259 ∧ w.heap.size ≤ R ∧ ¬ F R ∧ Blk w' Wb (wldQ b0 b1 b2 wv (.slice (some ⟨g, 0, none⟩) (m + 1) c) hv) 74 ∧ w'.ownsRow lo 115 2 (.slice (some ⟨g, 0, none⟩) (m + 1) c) (m + 1) (plC (P ++ [(X, R)])) ∧ Kept (fun q => q = Wb ∨ (Value.slice da m dc).ownBlock = some q) V w' ∧ ((Value.slice da m dc).ownBlock = some g ∨ V.heap.size ≤ g) := by
  obtain ⟨i0, hi0, hz0, hz1, hz2⟩ := info_partsQ infoPl
  have HX := hide (snew_yes n w lo h1 h2 hlo)
  have HR := hide (fun V => rnew_yes (n : Int) V (by omega) (by omega))
  have HNE := hide (owns_neQ hr hB (by decide))
  have N1 : Hid (m + 1 ≤ maxLen) := by show _ ≤ _; unfold maxLen; omega
  have N2 : Hid ((m + 1) * 16 ≤ 140737488355328) := by show _ ≤ _; omega
  have HLO := hide hlo
  have HB0 := hide hB
  have HR0 := hide hr
  clear hB hr hm hlo h1 h2
  go_enter Tryz.func61, Tryz.ntmps61
  go_wp2_with fail
  refine HX.out.mono ?_
  rintro e w1 ⟨X, F, rfl, hs1, hf1, hb1⟩
  have HS1 := hide hs1
  have HF1 := hide hf1
  have HBL := hide hb1
  clear hs1 hf1 hb1
  go_wp2_with fail
  refine (HR.out _).mono ?_
  rintro e w2 ⟨rfl, hq, hb2⟩
  have HQ := hide hq
  have HS2 := hide (HS1.out.below hb2)
  have HB2 := hide (HBL.out.trans (hb2.mono HBL.out.size))
  have HZ1 := hide (HBL.out.size)
  obtain ⟨Rr, hRr⟩ : ∃ Rr, w1.heap.size = Rr := ⟨_, rfl⟩
  rw [hRr] at HQ
  have HRE := hide hRr
  clear hq hb2
  have HW2 := hide (HB0.out.on HB2.out)
  have HO2 := hide (owns_kept HR0.out (Kept.of_below (F := fun _ => False) HB2.out) (fun _ _ e => e))
  go_wp2_with fail
  refine (numQ_any 0 _).mono ?_
  rintro e w3 ⟨rfl, hw3⟩
  subst w3
  clear hRr
  have hHl := HW2.out.lt
  have c4 : w2.cell? ⟨Wb, 4, none⟩ = some (.slice da m dc) := HW2.out.cell 4
  have c4' : ∀ o, (w2.alloc o).cell? ⟨Wb, 4, none⟩ = some (.slice da m dc) := fun o => (World.cell?_alloc_lt _ _ _ hHl).trans c4
  clear hHl
  go_wp2_with (at_builtin; refine wpList_append_lies _ rfl _ _ 71 rfl lo 115 i0 (.agg #[.pointer none, .pointer none]) 2 16 Tryz.underlying71 hi0 hz0 hz1 hz2 rfl (by decide) (.slice da m dc) m (plC P) rfl (HO2.out.alloc _) ⟨w2.heap.size, 0, none⟩ 1 1 [.pointer (some ⟨X, 0, none⟩), .pointer (some ⟨Rr, 0, none⟩)] rfl rfl (World.news_of_block (heap_alloc_new w2 _)) (fun u hu => by simp at hu; rcases hu with rfl | rfl <;> rfl) (by decide) N1.out N2.out (by rw [World.size_alloc]; exact Nat.le_succ_of_le (Nat.le_trans HLO.out HB2.out.size)) (w2.heap.size + 1) (World.size_alloc _ _) ?_)
  intro g c2 w5 hown hgrow hat hlt5
  have nR : (Value.slice da m dc).ownBlock ≠ some Wb := HNE.out
  have gR : g ≠ Wb := by
    rcases hat with e | e
    · intro e2; subst e2; exact nR e
    · have := HW2.out.lt; omega
  have hgH := hgrow.block Wb (by rw [World.size_alloc]; exact Nat.lt_succ_of_lt HW2.out.lt) (fun e => nR e.symm)
  have hB5 : Blk w5 Wb (wldQ b0 b1 b2 wv (.slice da m dc) hv) 74 := by
    unfold Blk
    rw [hgH]
    exact (HW2.out.alloc _ : Blk (w2.alloc _) Wb _ _)
  have f4 : w5.frozen? ⟨Wb, 4, none⟩ = false := hB5.free 4
  have e5 : w5.cell? ⟨Wb, 4, none⟩ = some (.slice da m dc) := hB5.cell 4
  have HBF := hide (hB5.set 4 (.slice (some ⟨g, 0, none⟩) (m + 1) c2))
  have HOF := hide (owns_kept hown (kept_set w5 ⟨Wb, 4, none⟩ (.slice (some ⟨g, 0, none⟩) (m + 1) c2)) (fun q e hk => by
    have e' : g = q := by simpa [Value.ownBlock] using e
    exact gR (e'.trans hk)))
  have HKF := hide (show Kept (fun q => q = Wb ∨ (Value.slice da m dc).ownBlock = some q) w2 (w5.setCell ⟨Wb, 4, none⟩ (.slice (some ⟨g, 0, none⟩) (m + 1) c2)) from
    (Kept.grown (w := w2.alloc _) ((Kept.refl _ _).alloc _) hgrow (fun q e => .inl (.inr e))).setCell (.inl (.inl rfl)) _)
  have HAT := hide (show (Value.slice da m dc).ownBlock = some g ∨ w2.heap.size ≤ g by
    rcases hat with e | e
    · exact .inl e
    · exact .inr (by omega))
  clear hown hgrow hat hlt5 hgH hB5 gR nR c4 c4'
  go_wp2
  go_ret
  refine ⟨rfl, X, Rr, F, g, c2, w2, HB2.out, HS2.out, HF1.out, HQ.out, ?_, ?_, HBF.out, ?_, HKF.out, HAT.out⟩
  · rw [← HRE.out]; exact HZ1.out
  · intro hf
    have := (HS1.out.lt _ hf).2
    have := HRE.out
    omega
  · rw [plC_snoc]; exact HOF.out
set_option maxRecDepth 20000 in
set_option maxHeartbeats 4000000 in
theorem lstep_disk (Wb : Nat) (on a b : Int) (s t u : ByteArray) (l1 : Option Addr) (l2 l3 : Nat) (ka : Option Addr) (kn kc : Nat) (c0 c1 c2 c3 c4 : Int) (d0 d1 d2 : ByteArray) (p0 p1 p2 p3 : Int) (b0 b1 b2 wv dv hv : Value) (Q : World → Prop) (w : World) (_hB : Blk w Wb (wldQ b0 b1 b2 wv dv hv) 74)
    (hD : ∀ V, Below w.heap.size w V → Calls Tryz.prog 61 #[.pointer (some ⟨Wb, 0, none⟩), .int .i64 a] V fun e w' => e = .returned (.bool true) ∧ Q w') :
    Calls Tryz.prog 32 #[.pointer (some ⟨Wb, 0, none⟩), .agg #[.int .i64 30, .int .i64 on, .int .i64 a, .int .i64 b, .string s, .string t, .string u, .slice l1 l2 l3, .slice ka kn kc, .int .i64 c0, .int .i64 c1, .int .i64 c2, .int .i64 c3, .int .i64 c4, .string d0, .string d1, .string d2, .int .i64 p0, .int .i64 p1, .int .i64 p2, .int .i64 p3]] w fun e w' => e = .returned (.bool true) ∧ Q w' := by
  obtain ⟨W0, hW⟩ : ∃ W0, w.alloc (.cells #[.int .i64 30, .int .i64 on, .int .i64 a, .int .i64 b, .string s, .string t, .string u, .slice l1 l2 l3, .slice ka kn kc, .int .i64 c0, .int .i64 c1, .int .i64 c2, .int .i64 c3, .int .i64 c4, .string d0, .string d1, .string d2, .int .i64 p0, .int .i64 p1, .int .i64 p2, .int .i64 p3] 77) = W0 := ⟨_, rfl⟩
  have HB := hide (show Below w.heap.size w W0 by subst hW; exact (Below.refl _ _).alloc (Nat.le_refl _) _)
  have HO0 := hide (show Blk W0 w.heap.size [.int .i64 30, .int .i64 on, .int .i64 a, .int .i64 b, .string s, .string t, .string u, .slice l1 l2 l3, .slice ka kn kc, .int .i64 c0, .int .i64 c1, .int .i64 c2, .int .i64 c3, .int .i64 c4, .string d0, .string d1, .string d2, .int .i64 p0, .int .i64 p1, .int .i64 p2, .int .i64 p3] 77 by rw [← hW]; exact Blk.new w _ _)
  have HWE := hide hW
  have HD := hide (hD _ HB.out)
  have oc0 : W0.cell? ⟨w.heap.size, 0, none⟩ = some (.int .i64 30) := HO0.out.cell 0
  have oc2 : W0.cell? ⟨w.heap.size, 2, none⟩ = some (.int .i64 a) := HO0.out.cell 2
  clear hW _hB hD
  go_enter Tryz.func32, Tryz.ntmps32
  go_wp2_with fail
  rw [HWE.out]
  refine HD.out.mono ?_
  rintro e w1 ⟨rfl, hq⟩
  have HQ := hide hq
  clear hq oc0 oc2
  go_wp2
  go_ret
  exact ⟨rfl, HQ.out⟩
set_option maxRecDepth 20000 in
set_option maxHeartbeats 4000000 in
theorem lstep_none (Wb : Nat) (kd on a b : Int) (s t u : ByteArray) (l1 : Option Addr) (l2 l3 : Nat) (ka : Option Addr) (kn kc : Nat) (c0 c1 c2 c3 c4 : Int) (d0 d1 d2 : ByteArray) (p0 p1 p2 p3 : Int) (b0 b1 b2 wv hv : Value) (da : Option Addr) (dc : Nat) (w : World) (hB : Blk w Wb (wldQ b0 b1 b2 wv (.slice da 0 dc) hv) 74) (h1 : 30 < kd) (h2 : kd < 40) :
    Calls Tryz.prog 32 #[.pointer (some ⟨Wb, 0, none⟩), .agg #[.int .i64 kd, .int .i64 on, .int .i64 a, .int .i64 b, .string s, .string t, .string u, .slice l1 l2 l3, .slice ka kn kc, .int .i64 c0, .int .i64 c1, .int .i64 c2, .int .i64 c3, .int .i64 c4, .string d0, .string d1, .string d2, .int .i64 p0, .int .i64 p1, .int .i64 p2, .int .i64 p3]] w fun e w' => e = .returned (.bool true) ∧ Below w.heap.size w w' := by
  obtain ⟨W0, hW⟩ : ∃ W0, w.alloc (.cells #[.int .i64 kd, .int .i64 on, .int .i64 a, .int .i64 b, .string s, .string t, .string u, .slice l1 l2 l3, .slice ka kn kc, .int .i64 c0, .int .i64 c1, .int .i64 c2, .int .i64 c3, .int .i64 c4, .string d0, .string d1, .string d2, .int .i64 p0, .int .i64 p1, .int .i64 p2, .int .i64 p3] 77) = W0 := ⟨_, rfl⟩
  have HB := hide (show Below w.heap.size w W0 by subst hW; exact (Below.refl _ _).alloc (Nat.le_refl _) _)
  have HO0 := hide (show Blk W0 w.heap.size [.int .i64 kd, .int .i64 on, .int .i64 a, .int .i64 b, .string s, .string t, .string u, .slice l1 l2 l3, .slice ka kn kc, .int .i64 c0, .int .i64 c1, .int .i64 c2, .int .i64 c3, .int .i64 c4, .string d0, .string d1, .string d2, .int .i64 p0, .int .i64 p1, .int .i64 p2, .int .i64 p3] 77 by rw [← hW]; exact Blk.new w _ _)
  have HWE := hide hW
  have HW0 := hide (hB.on HB.out)
  have oc0 : W0.cell? ⟨w.heap.size, 0, none⟩ = some (.int .i64 kd) := HO0.out.cell 0
  have hWl := hB.lt
  have hB4 : w.cell? ⟨Wb, 4, none⟩ = some (.slice da 0 dc) := hB.cell 4
  have wc4 : ∀ o, (w.alloc o).cell? ⟨Wb, 4, none⟩ = some (.slice da 0 dc) := fun o => (World.cell?_alloc_lt _ _ _ hWl).trans hB4
  have e1 : ¬ kd < 20 := by omega
  have e2 : (kd == 20) = false := by
    have : kd ≠ 20 := by omega
    simpa using this
  have e3 : ¬ kd < 30 := by omega
  have e4 : (kd == 30) = false := by
    have : kd ≠ 30 := by omega
    simpa using this
  have e5 : (kd == 40) = false := by
    have : kd ≠ 40 := by omega
    simpa using this
  have e6 : (kd == 41) = false := by
    have : kd ≠ 41 := by omega
    simpa using this
  have e7 : ¬ 41 < kd := by omega
  have q1 : decide (kd < 20) = false := decide_eq_false e1
  have q3 : decide (kd < 30) = false := decide_eq_false e3
  have q7 : decide (41 < kd) = false := decide_eq_false e7
  have q8 : decide (30 < kd) = true := decide_eq_true h1
  have q9 : decide (kd < 40) = true := decide_eq_true h2
  clear hW hB e1 e3 e7 h1 h2 hWl hB4 oc0
  go_enter Tryz.func32, Tryz.ntmps32
  go_wp2_with fail
  try rw [HWE.out]
  try go_wp2
  go_ret
  exact ⟨rfl, by first | exact HB.out | (rw [HWE.out]; exact HB.out)⟩
set_option maxRecDepth 20000 in
set_option maxHeartbeats 4000000 in
theorem lstep_turn (lo Wb : Nat) (kd on a b : Int) (s t u : ByteArray) (l1 : Option Addr) (l2 l3 : Nat) (ka : Option Addr) (kn kc : Nat) (c0 c1 c2 c3 c4 : Int) (d0 d1 d2 : ByteArray) (p0 p1 p2 p3 : Int) (b0 b1 b2 wv hv : Value) (g m dc i X Rr : Nat) (P : List (Nat × Nat)) (Z : Nat → Prop) (Q : World → Prop) (w : World) (hZ : ∀ q, Z q → q < w.heap.size ∧ q ≠ Wb ∧ q ≠ g) (hB : Blk w Wb (wldQ b0 b1 b2 wv (.slice (some ⟨g, 0, none⟩) m dc) hv) 74) (hr : w.ownsRow lo 115 2 (.slice (some ⟨g, 0, none⟩) m dc) m (plC P)) (hm : m ≤ 2199023255552) (h1 : 30 < kd) (h2 : kd < 40) (ho1 : -9223372036854775808 ≤ on) (ho2 : on ≤ 9223372036854775807) (hi : pickZ on m = i) (him : i < m) (hp : P[i]? = some (X, Rr)) (_hcap : m ≤ dc)
    (hT : ∀ V, Below w.heap.size w V → Calls Tryz.prog 62 #[.agg #[.pointer (some ⟨X, 0, none⟩), .pointer (some ⟨Rr, 0, none⟩)], .agg #[.int .i64 kd, .int .i64 on, .int .i64 a, .int .i64 b, .string s, .string t, .string u, .slice l1 l2 l3, .slice ka kn kc, .int .i64 c0, .int .i64 c1, .int .i64 c2, .int .i64 c3, .int .i64 c4, .string d0, .string d1, .string d2, .int .i64 p0, .int .i64 p1, .int .i64 p2, .int .i64 p3]] V fun e w' => e = .returned (.bool true) ∧ Kept Z V w' ∧ Q w') :
    Calls Tryz.prog 32 #[.pointer (some ⟨Wb, 0, none⟩), .agg #[.int .i64 kd, .int .i64 on, .int .i64 a, .int .i64 b, .string s, .string t, .string u, .slice l1 l2 l3, .slice ka kn kc, .int .i64 c0, .int .i64 c1, .int .i64 c2, .int .i64 c3, .int .i64 c4, .string d0, .string d1, .string d2, .int .i64 p0, .int .i64 p1, .int .i64 p2, .int .i64 p3]] w fun e w' => e = .returned (.bool true) ∧ Q w' := by
  obtain ⟨W0, hW⟩ : ∃ W0, w.alloc (.cells #[.int .i64 kd, .int .i64 on, .int .i64 a, .int .i64 b, .string s, .string t, .string u, .slice l1 l2 l3, .slice ka kn kc, .int .i64 c0, .int .i64 c1, .int .i64 c2, .int .i64 c3, .int .i64 c4, .string d0, .string d1, .string d2, .int .i64 p0, .int .i64 p1, .int .i64 p2, .int .i64 p3] 77) = W0 := ⟨_, rfl⟩
  have HB := hide (show Below w.heap.size w W0 by subst hW; exact (Below.refl _ _).alloc (Nat.le_refl _) _)
  have HO0 := hide (show Blk W0 w.heap.size [.int .i64 kd, .int .i64 on, .int .i64 a, .int .i64 b, .string s, .string t, .string u, .slice l1 l2 l3, .slice ka kn kc, .int .i64 c0, .int .i64 c1, .int .i64 c2, .int .i64 c3, .int .i64 c4, .string d0, .string d1, .string d2, .int .i64 p0, .int .i64 p1, .int .i64 p2, .int .i64 p3] 77 by rw [← hW]; exact Blk.new w _ _)
  have HWE := hide hW
  have HW0 := hide (hB.on HB.out)
  have HR0 := hide (owns_kept hr (Kept.of_below (F := fun _ => False) HB.out) (fun _ _ e => e))
  have HPK := hide (fun V : World => pickL_any on m V (by omega) (by omega) ho1 ho2)
  rw [hi] at HPK
  have y0 : W0.cell? ⟨g, i * 2, none⟩ = some (.pointer (some ⟨X, 0, none⟩)) := by
    rw [HR0.out.cellAt (i * 2) (by omega)]
    exact plC_get hp 0 (by decide)
  have y1 : W0.cell? ⟨g, i * 2 + 1, none⟩ = some (.pointer (some ⟨Rr, 0, none⟩)) := by
    rw [HR0.out.cellAt (i * 2 + 1) (by omega)]
    exact plC_get hp 1 (by decide)
  have HS := hide (fun (V : World) (h : ∀ q, q = Wb ∨ q = g ∨ q = w.heap.size → V.heap[q]? = W0.heap[q]?) => (by
    have hc : ∀ p : Addr, (p.block = Wb ∨ p.block = g ∨ p.block = w.heap.size) → V.cell? p = W0.cell? p := fun p hp => World.cell?_of_block (w := W0) (h p.block hp)
    exact ⟨(hc _ (.inl rfl)).trans (HW0.out.cell 4), (hc _ (.inr (.inl rfl))).trans y0, (hc _ (.inr (.inl rfl))).trans y1, (hc _ (.inr (.inr rfl))).trans (HO0.out.cell 1), blk_cellsAt (w := V) (T := 77) (by unfold Blk; rw [h _ (.inr (.inr rfl))]; exact HO0.out)⟩ : V.cell? ⟨Wb, 4, none⟩ = some (.slice (some ⟨g, 0, none⟩) m dc) ∧ V.cell? ⟨g, i * 2, none⟩ = some (.pointer (some ⟨X, 0, none⟩)) ∧ V.cell? ⟨g, i * 2 + 1, none⟩ = some (.pointer (some ⟨Rr, 0, none⟩)) ∧ V.cell? ⟨w.heap.size, 1, none⟩ = some (.int .i64 on) ∧ cellsAt V w.heap.size 0 21 = some [.int .i64 kd, .int .i64 on, .int .i64 a, .int .i64 b, .string s, .string t, .string u, .slice l1 l2 l3, .slice ka kn kc, .int .i64 c0, .int .i64 c1, .int .i64 c2, .int .i64 c3, .int .i64 c4, .string d0, .string d1, .string d2, .int .i64 p0, .int .i64 p1, .int .i64 p2, .int .i64 p3]))
  have HT := hide hT
  have HZ := hide (show ∀ (V V2 : World), V.heap = W0.heap → Kept Z V V2 → ∀ q, q = Wb ∨ q = g ∨ q = w.heap.size → V2.heap[q]? = W0.heap[q]? from fun V V2 hV hk q hq => by
    have hgl : g < W0.heap.size := (HR0.out.lt g rfl).2
    have hwl := HW0.out.lt
    have hol := HO0.out.lt
    rw [← hV] at hgl hwl hol ⊢
    refine hk.block q (by rcases hq with rfl | rfl | rfl <;> assumption) (fun hz => ?_)
    obtain ⟨z1, z2, z3⟩ := hZ q hz
    rcases hq with rfl | rfl | rfl
    · exact z2 rfl
    · exact z3 rfl
    · omega)
  have oc0 : W0.cell? ⟨w.heap.size, 0, none⟩ = some (.int .i64 kd) := HO0.out.cell 0
  have hWl := hB.lt
  have hB4 : w.cell? ⟨Wb, 4, none⟩ = some (.slice (some ⟨g, 0, none⟩) m dc) := hB.cell 4
  have wc4 : ∀ o, (w.alloc o).cell? ⟨Wb, 4, none⟩ = some (.slice (some ⟨g, 0, none⟩) m dc) := fun o => (World.cell?_alloc_lt _ _ _ hWl).trans hB4
  have e1 : ¬ kd < 20 := by omega
  have e2 : (kd == 20) = false := by
    have : kd ≠ 20 := by omega
    simpa using this
  have e3 : ¬ kd < 30 := by omega
  have e4 : (kd == 30) = false := by
    have : kd ≠ 30 := by omega
    simpa using this
  have q1 : decide (kd < 20) = false := decide_eq_false e1
  have q3 : decide (kd < 30) = false := decide_eq_false e3
  have q8 : decide (30 < kd) = true := decide_eq_true h1
  have q9 : decide (kd < 40) = true := decide_eq_true h2
  have dm : decide ((0 : Int) < (m : Int)) = true := decide_eq_true (by omega)
  have dm2 : (0 : Int) < (m : Int) := by omega
  have dim : (i : Int) < (m : Int) := by omega
  have di0 : 0 ≤ (i : Int) := by omega
  clear hZ hW hB hr hT e1 e3 hi hp ho1 ho2 y0 y1 hWl hB4 oc0
  go_enter Tryz.func32, Tryz.ntmps32
  go_wp2_with fail
  rw [HWE.out]
  refine wp_region_held_drew (S := fun V => V.cell? ⟨Wb, 4, none⟩ = some (.slice (some ⟨g, 0, none⟩) m dc) ∧ V.cell? ⟨g, i * 2, none⟩ = some (.pointer (some ⟨X, 0, none⟩)) ∧ V.cell? ⟨g, i * 2 + 1, none⟩ = some (.pointer (some ⟨Rr, 0, none⟩)) ∧ V.cell? ⟨w.heap.size, 1, none⟩ = some (.int .i64 on) ∧ cellsAt V w.heap.size 0 21 = some [.int .i64 kd, .int .i64 on, .int .i64 a, .int .i64 b, .string s, .string t, .string u, .slice l1 l2 l3, .slice ka kn kc, .int .i64 c0, .int .i64 c1, .int .i64 c2, .int .i64 c3, .int .i64 c4, .string d0, .string d1, .string d2, .int .i64 p0, .int .i64 p1, .int .i64 p2, .int .i64 p3]) (by kernel_rfl) (HS.out _ (fun _ _ => rfl)) (fun hHeld => ?_)
  refine tk 0 hHeld (h := ?_)
  refine tk 1 hHeld (h := ?_)
  refine tk 2 hHeld (h := ?_)
  refine tk 3 hHeld (h := ?_)
  refine tk 4 hHeld (h := ?_)
  refine tk 5 hHeld (h := ?_)
  refine tk 6 hHeld (h := ?_)
  refine tk 7 hHeld (h := ?_)
  refine tk 8 hHeld (h := ?_)
  refine tk 9 hHeld (h := ?_)
  refine tk 10 hHeld (h := ?_)
  refine tk 14 hHeld (hy := fun V hSV => exec_op rfl hSV.2.2.2.2) (h := ?_)
  refine wpAnyH_ready (rs := [11]) (by kernel_rfl) (by simp) ?_
  refine AllReadyH.cons (o := ?ot11) ?hot11 (fun K hK => ?hst11) AllReadyH.nil
  case hot11 => (simp only [List.getElem?_toArray, List.getElem?_cons_succ, List.getElem?_cons_zero]; rfl)
  go_simp
  go_at_call 60
  refine (HPK.out _).mono ?_
  rintro e w1 ⟨rfl, hw1⟩
  subst w1
  try go_wp2_with fail
  refine hK.out _ _ (HS.out _ (fun _ _ => rfl)) (fun hHeld => ?_)
  clear hK K
  try simp only [Act.put, List.setIfInBounds_toArray, List.set_cons_zero, List.set_cons_succ]
  refine tk 12 hHeld (h := ?_)
  refine tk 13 hHeld (h := ?_)
  refine wpAnyH_ready (rs := [15]) (by kernel_rfl) (by simp) ?_
  refine AllReadyH.cons (o := ?ot15) ?hot15 (fun K hK => ?hst15) AllReadyH.nil
  case hot15 => (simp only [List.getElem?_toArray, List.getElem?_cons_succ, List.getElem?_cons_zero]; rfl)
  go_simp
  go_at_call 62
  refine (HT.out W0.drew HB.out.drew).mono ?_
  rintro e w2 ⟨rfl, hk2, hq2⟩
  have HQ2 := hide hq2
  have HZ2 := hide (HZ.out W0.drew w2 rfl hk2)
  clear hk2 hq2
  try go_wp2_with fail
  refine hK.out _ _ (HS.out _ (HZ2.out)) (fun hHeld => ?_)
  clear hK K
  try simp only [Act.put, List.setIfInBounds_toArray, List.set_cons_zero, List.set_cons_succ]
  refine tk 16 hHeld (h := ?_)
  refine wpAnyH_done (by kernel_rfl) ?_ _
  clear HS hHeld
  go_wp2
  go_ret
  exact ⟨rfl, HQ2.out⟩
end Go.Proofs.YtgaoeoijdpdjiaaGreatDoor
