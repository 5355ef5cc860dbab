/-
  A walk goes to the next leaf. A walk's path and stacks grow.
-/
import Derived.Test.YtgaoeoijdpdjiaaGreatDoorPart22
namespace Go.Proofs.YtgaoeoijdpdjiaaGreatDoor
open Go.RowKit
theorem owns_apart {w : World} {lo lo' : Nat} {e e' : TypeId} {sz sz' : Nat} {v v' : Value} {n n' : Nat} {xs xs' : List Value} {q : Nat} (h : w.ownsRow lo e sz v n xs) (h' : w.ownsRow lo' e' sz' v' n' xs') (hne : e ≠ e') (hq : v.ownBlock = some q) : v'.ownBlock ≠ some q := by
  intro hq'
  rcases h.2 with ⟨rfl, -⟩ | ⟨g, c, cur, rfl, -, hg, -⟩
  · cases hq
  · have e1 : g = q := by simpa [Value.ownBlock] using hq
    subst e1
    exact owns_neY h' (show Blk w g cur.toList e by unfold Blk; rw [hg]) (fun x => hne x.symm) hq'
theorem blk_ne {w : World} {b : Nat} {vs us : List Value} {T U : TypeId} (h : Blk w b vs T) (k : Blk w b us U) (hne : T ≠ U) : False := by
  unfold Blk at h k
  rw [h] at k
  simp only [Option.some.injEq, Obj.cells.injEq] at k
  exact hne k.2.1
set_option maxRecDepth 20000 in
set_option maxHeartbeats 8000000 in
theorem next_on (lo : Nat) (k : Wk) (T a : Nat) (tr : Value) (tv : Nat → Nat → ByteArray) (jn : Nat → Nat → ByteArray → ByteArray → ByteArray) (w : World) (hk : k.In lo w) (hlf : k.lf = .func (.func 39) #[tr] #[]) (hjf : k.jf = .func (.func 40) #[tr] #[]) (hlv : k.lv = ((2 ^ T : Nat) : Int)) (hat : k.at' = (a : Int)) (hT1 : 1 ≤ T) (hT : T ≤ 4) (ha : a + 1 < 2 ^ T) (hKs : Lks tv T k.Ks (skAt (2 ^ T) a)) (hps : Lps tv T k.ps (pnum a)) (hTn : Tn w) (hTB : 0 < lo) (hlo : lo ≤ w.heap.size)
    (hjn : ∀ h k, jn (h + 1) k (tv h (2 * k)) (tv h (2 * k + 1)) = tv (h + 1) k) (hs : ∀ h k, (tv h k).size ≤ 16)
    (hL : ∀ (k : Nat) (V : World), k < 16 → Tn V → Calls Tryz.prog 39 #[tr, .int .i64 (k : Int)] V fun e w' => e = .returned (.string (tv 0 k)) ∧ Below V.heap.size V w')
    (hJ : ∀ (h k : Nat) (a b : ByteArray) (V : World), a.size ≤ 16 → b.size ≤ 16 → Tn V → Calls Tryz.prog 40 #[tr, .int .i64 (h : Int), .int .i64 (k : Int), .string a, .string b] V fun e w' => e = .returned (.string (jn h k a b)) ∧ Below V.heap.size V w') :
    Calls Tryz.prog 47 #[.pointer (some ⟨k.W, 0, none⟩)] w fun e w' => e = .returned (.int .i64 0) ∧ WkI lo k w tv T ((a : Int) + 1) (pnum (a + 1)) (skAt (2 ^ T) (a + 1)) w' := by
  have p16 : 2 ^ T ≤ 16 := Nat.le_trans (Nat.pow_le_pow_right (by decide) hT) (by decide)
  obtain ⟨n, hn⟩ : ∃ n, 2 ^ T = n := ⟨_, rfl⟩
  rw [hn] at hlv ha hKs p16 ⊢
  have HNE := hide hn
  have o := hk.obj
  unfold Wk.obj at o
  rw [hat, hlv] at o
  have c2 : w.cell? ⟨k.W, 2, none⟩ = some (.int .i64 (n : Int)) := o.cell 2
  have c3 : w.cell? ⟨k.W, 3, none⟩ = some (.int .i64 (a : Int)) := o.cell 3
  have c5 : w.cell? ⟨k.W, 5, none⟩ = some k.sv := o.cell 5
  have f3 := o.free 3
  have p1 : wrap64 ((n : Int) - 1) = (n : Int) - 1 := w64Y _ (by omega)
  have p2 : wrap64 ((a : Int) + 1) = (a : Int) + 1 := w64Y _ (by omega)
  have ha2 : ((a : Int) == (n : Int) - 1) = false := beq_eq_false_iff_ne.2 (by omega)
  obtain ⟨K0, hK0⟩ : ∃ K, k.Ks[0]? = some K := ⟨_, List.getElem?_eq_getElem (by rw [hKs.1]; omega)⟩
  obtain ⟨S, c, cur, hv, -⟩ := hk.block hK0
  rw [hKs.1] at hv
  rw [hv] at c5
  have HV := hide hv
  have HKW := hide hk
  have HW1 := hide (fun (V : World) (hb : Below w.heap.size w V) => show WkI lo k w tv T ((a : Int) + 1) (fun i => if i < 0 then pnum (a + 1) i else pnum a i) (fun i => if i < 0 then midA n a i else skAt n a i) (V.setCell ⟨k.W, 3, none⟩ (.int .i64 ((a : Int) + 1))) from
    ⟨k.ps, k.Ks, (hk.on hb).at_set _, hps.congr (fun i _ => by rw [if_neg (by omega)]), hKs.congr (fun i _ => by rw [if_neg (by omega)]), (Kept.of_below hb).setCell (p := ⟨k.W, 3, none⟩) (.inl (.inl rfl)) _, fun K hK q e => .inl (.inr (.inr (.inr ⟨K, hK, e⟩)))⟩)
  have HT := hide (And.intro hT (And.intro ha p16))
  have HPA := hide (fun i (hi : i < T) => @sk_path T a i hT (by rw [hn]; exact ha) hi)
  have HSA := hide (fun i (hi : i < T) => @sk_same T a i hT (by rw [hn]; exact ha) hi)
  have HDO := hide (fun i (hi : i < T) => @sk_done T a i hT (by rw [hn]; exact ha) hi)
  have HMO := hide (fun i (hi : i < T) => @sk_more T a i hT (by rw [hn]; exact ha) hi)
  have HBN := hide (fun i (hi : i < T) => @sk_bnd T a i hT (by rw [hn]; exact ha) hi)
  rw [hn] at HPA HDO HMO HBN
  obtain ⟨W, hW⟩ : ∃ W, k.W = W := ⟨_, rfl⟩
  have HWW := hide hW
  rw [hW] at c2 c3 c5 f3 HW1 ⊢
  have HTN := hide hTn
  have HLO := hide hlo
  have HTB := hide hTB
  have HLK := hide hlf
  have HJK := hide hjf
  have HLV := hide hlv
  have HWL := hide (fun (wr : World) (j : Nat) (f : Nat → Nat) (hj : j < T) (h : WkI lo k w tv T ((a : Int) + 1) f (fun i => if i < j then skAt n (a + 1) i else midA n a i) wr) => WkI.takes (jn := jn) (tr := tr) hj hT hn ha h hk hTn hTB hlo hjn hs hL hJ)
  clear o hK0 hv hk hat hlv hlf hjf hKs hps hTn hTB hlo hjn hs hL hJ hn hW
  go_enter Tryz.func47, Tryz.ntmps47
  go_wp2_with fail
  go_quiet (fail)
  have HW2 := hide (HW1.out (w.drewN nq) (below_drewN (Below.refl _ _) _))
  go_wp2_with fail
  generalize (w.drewN nq).setCell ⟨W, 3, none⟩ (.int .i64 ((a : Int) + 1)) = wd at HW2 ⊢
  (try simp only [ha2])
  clear c2 c3 c5 f3 p1 p2 ha2 HW1
  go_loopw [27] (fun x wr => ∃ j : Nat, j ≤ T ∧ x = .int .i64 j ∧ Hid (WkI lo k w tv T ((a : Int) + 1) (fun i => if i < j then pnum (a + 1) i else pnum a i) (fun i => if i < j then midA n a i else skAt n a i) wr)) (fun x _ => T - (intOf x).toNat)
  case atStart => exact ⟨0, Nat.zero_le _, rfl, HW2.out⟩
  case round =>
    obtain ⟨j, hj, rfl, hI⟩ := hrel
    by_cases hlt : j < T
    · have HJT := hide hlt
      have HOB := hide hI.out.cells
      rw [HWW.out, HLV.out] at HOB
      have q3 : wr.cell? ⟨W, 3, none⟩ = some (.int .i64 ((a : Int) + 1)) := (HOB.out wr (Below.refl _ _)).cell 3
      obtain ⟨z, hz⟩ : ∃ z, 2 ^ j = z := ⟨_, rfl⟩
      have hz2 : 1 ≤ z ∧ z ≤ 8 := by
        subst hz
        have := HT.out
        rcases (show j = 0 ∨ j = 1 ∨ j = 2 ∨ j = 3 by omega) with rfl | rfl | rfl | rfl <;> decide
      have pz : wrap64 ((2 : Int) ^ j) = (z : Int) := by
        have e : (2 : Int) ^ j = ((2 ^ j : Nat) : Int) := by simp
        rw [e, hz, w64Y]
        omega
      have HZE := hide hz
      have hjT : (j : Int) < (T : Int) := by omega
      have pj : wrap64 ((j : Int) + 1) = (j : Int) + 1 := w64Y _ (by omega)
      by_cases hm : (a + 1) % z = 0
      · have pm : (((a : Int) + 1) % (z : Int) == 0) = true := by
          have : ((a : Int) + 1) % (z : Int) = (((a + 1) % z : Nat) : Int) := by simp
          rw [this, hm]; rfl
        have HM := hide (show (a + 1) % 2 ^ j = 0 by rw [HZE.out]; exact hm)
        obtain ⟨P, cP, hP, hPV⟩ := hI.out.pathsV hlt
        obtain ⟨S1, c1, cur1, na, nc, e1, e2, e3, e4, e5, e6, e7, -⟩ := hI.out.stk hlt
        simp only [Nat.lt_irrefl, if_false] at e4 e7
        rw [HPA.out j hlt HM.out] at e4 e7
        change cur1[j * 3]? = some (.slice na 1 nc) at e4
        change wr.ownsRow _ _ 3 (.slice na 1 nc) 1 [.int .i64 (j : Int), .int .i64 (pnum (a + 1) j : Int), .string (tv j (pnum (a + 1) j))] at e7
        obtain ⟨g, cap, hgv, hg1, hg2⟩ := e7.form (by omega)
        simp only [Value.slice.injEq] at hgv
        obtain ⟨rfl, _, rfl⟩ := hgv
        have gl : g < wr.heap.size := (owns_loY e7 g rfl).2
        have HSF := hide (fun (V : World) (hb : Below wr.heap.size wr V) => show V.cell? ⟨W, 4, none⟩ = some (.slice (some ⟨P, 0, none⟩) T cP) ∧ V.cell? ⟨W, 5, none⟩ = some (.slice (some ⟨S1, 0, none⟩) T c1) ∧ V.cell? ⟨S1, j * 3, none⟩ = some (.slice (some ⟨g, 0, none⟩) 1 nc) ∧ V.cell? ⟨g, 2, none⟩ = some (.string (tv j (pnum (a + 1) j))) from ⟨by rw [(HOB.out V hb).cell, ← hP]; rfl, by rw [(HOB.out V hb).cell, ← e1]; rfl, (hb.cell (p := ⟨S1, j * 3, none⟩) e3.lt).trans ((e3.cell _).trans e4), (hb.cell (p := ⟨g, 2, none⟩) gl).trans (e7.cellAt 2 (by omega))⟩)
        have HPV := hide hPV
        have hPB : k.pv.ownBlock = some P := by rw [hP]; rfl
        have NE := hide (show P ≠ W ∧ P ≠ S1 ∧ P ≠ g by
          obtain ⟨ps, Ks, i1, -⟩ := hI.out
          refine ⟨fun e => owns_neY i1.path (HOB.out wr (Below.refl _ _)) (by decide) (e ▸ hPB), fun e => owns_neY i1.path e3 (by decide) (e ▸ hPB), fun e => owns_apart i1.path e7 (by decide) hPB (by rw [e]; rfl)⟩)
        have HII := hide hI.out
        clear hP hPV hPB e1 e2 e3 e4 e5 e6 e7 hg1 hg2 gl hm hj hlt hI
        go_wp2_with fail
        go_quiet (fail)
        go_wp2_with fail
        refine wp_region_held_drew (S := fun V => V.cell? ⟨W, 4, none⟩ = some (.slice (some ⟨P, 0, none⟩) T cP) ∧ V.cell? ⟨W, 5, none⟩ = some (.slice (some ⟨S1, 0, none⟩) T c1) ∧ V.cell? ⟨S1, j * 3, none⟩ = some (.slice (some ⟨g, 0, none⟩) 1 nc) ∧ V.cell? ⟨g, 2, none⟩ = some (.string (tv j (pnum (a + 1) j)))) (by kernel_rfl) (HSF.out _ (below_drewN (Below.refl _ _) _).drew) (fun hHeld => ?_)
        have HB2 := hide ((below_drewN (Below.refl wr.heap.size wr) nq).drew)
        generalize World.drew (wr.drewN nq) = V2 at HB2 hHeld ⊢
        refine tk 0 hHeld (h := ?_)
        refine tk 1 hHeld (h := ?_)
        refine tk 2 hHeld (h := ?_)
        refine tk 3 hHeld (h := ?_)
        refine tk 4 hHeld (h := ?_)
        refine tk 5 hHeld (h := ?_)
        refine tk 6 hHeld (h := ?_)
        refine tk 7 hHeld (h := ?_)
        refine tk 8 hHeld (h := ?_)
        refine tk 9 hHeld (h := ?_)
        refine tk 10 hHeld (h := ?_)
        refine tk 11 hHeld (h := ?_)
        refine tk 12 hHeld (h := ?_)
        refine tk 13 hHeld (h := ?_)
        refine tk 14 hHeld (h := ?_)
        refine tk 15 hHeld (h := ?_)
        refine tk 16 hHeld (h := ?_)
        obtain ⟨⟨s0, v1⟩, v2, v3⟩ := HPV.out V2 HB2.out
        have v4 := v3 (fun i => if i < (j + 1) then pnum (a + 1) i else pnum a i) (fun i hi => by
          by_cases e2 : i < j
          · rw [if_pos e2, if_pos (by omega)]
          · rw [if_neg e2, if_neg (by omega)])
        (try dsimp only at v4)
        rw [if_pos (show j < j + 1 by omega)] at v4
        have HI8 := hide v4
        have HS8 := hide (show (V2.setCell ⟨P, j, none⟩ (.string (tv j (pnum (a + 1) j)))).cell? ⟨W, 4, none⟩ = some (.slice (some ⟨P, 0, none⟩) T cP) ∧ (V2.setCell ⟨P, j, none⟩ (.string (tv j (pnum (a + 1) j)))).cell? ⟨W, 5, none⟩ = some (.slice (some ⟨S1, 0, none⟩) T c1) ∧ (V2.setCell ⟨P, j, none⟩ (.string (tv j (pnum (a + 1) j)))).cell? ⟨S1, j * 3, none⟩ = some (.slice (some ⟨g, 0, none⟩) 1 nc) ∧ (V2.setCell ⟨P, j, none⟩ (.string (tv j (pnum (a + 1) j)))).cell? ⟨g, 2, none⟩ = some (.string (tv j (pnum (a + 1) j))) by
          obtain ⟨x1, x2, x3, x4⟩ := HSF.out V2 HB2.out
          exact ⟨(World.cell?_of_block (Below.heap_setCell _ _ _ _ (fun e => NE.out.1 e.symm))).trans x1, (World.cell?_of_block (Below.heap_setCell _ _ _ _ (fun e => NE.out.1 e.symm))).trans x2, (World.cell?_of_block (Below.heap_setCell _ _ _ _ (fun e => NE.out.2.1 e.symm))).trans x3, (World.cell?_of_block (Below.heap_setCell _ _ _ _ (fun e => NE.out.2.2 e.symm))).trans x4⟩)
        clear v3 v4
        refine wpAnyH_ready (rs := [17]) (by kernel_rfl) (by simp) ?_
        refine AllReadyH.cons (o := ?o1) ?h1 (fun K hK => ?s1) AllReadyH.nil
        case h1 => (simp only [List.getElem?_toArray, List.getElem?_cons_succ, List.getElem?_cons_zero]; rfl)
        go_simp
        clear v1 v2
        refine hK.out _ _ (HS8.out) (fun hHeld => ?_)
        clear hK K
        try simp only [Act.put, List.setIfInBounds_toArray, List.set_cons_zero, List.set_cons_succ]
        refine wpAnyH_done (by kernel_rfl) ?_ _
        clear hHeld HS8
        generalize (V2.setCell ⟨P, j, none⟩ (.string (tv j (pnum (a + 1) j)))) = V8 at HI8 ⊢
        clear HSF HPV NE HB2 HOB HII
        have HOB := hide HI8.out.cells
        rw [HWW.out, HLV.out] at HOB
        obtain ⟨S9, c9, cur9, na9, nc9, e1, e2, e3, e4, e5, e6, -, e8⟩ := HI8.out.stk HJT.out
        have HE1 := hide e1
        have HE3 := hide e3
        have HE4 := hide e4
        have HE5 := hide e5
        have HE6 := hide e6
        have HE8 := hide e8
        have HSF := hide (fun (V : World) (hb : Below V8.heap.size V8 V) => show V.cell? ⟨W, 5, none⟩ = some (.slice (some ⟨S9, 0, none⟩) T c9) from by rw [(HOB.out V hb).cell, ← e1]; rfl)
        have NS := hide (show S9 ≠ W from fun e => blk_ne (HOB.out V8 (Below.refl _ _)) (e ▸ e3) (by decide))
        have HAN := hide (fun (V : World) (hb : Below V8.heap.size V8 V) => anew_on W _ (a + 1) n j V (HOB.out V hb) rfl (congrArg some (congrArg (Value.int .i64) (by simp))) (by have := HJT.out; have := HT.out; omega) (by have := HT.out; omega) HT.out.2.2)
        clear e1 e2 e3 e4 e5 e6 e8
        go_wp2_with fail
        refine wp_region_held_drew (S := fun V => V.cell? ⟨W, 5, none⟩ = some (.slice (some ⟨S9, 0, none⟩) T c9)) (by kernel_rfl) (HSF.out _ (Below.refl V8.heap.size V8).drew) (fun hHeld => ?_)
        have HB3 := hide ((Below.refl V8.heap.size V8).drew)
        generalize World.drew V8 = V3 at HB3 hHeld ⊢
        refine tk 0 hHeld (h := ?_)
        refine tk 1 hHeld (h := ?_)
        refine tk 2 hHeld (h := ?_)
        refine tk 3 hHeld (h := ?_)
        refine tk 4 hHeld (h := ?_)
        refine tk 5 hHeld (h := ?_)
        refine tk 6 hHeld (h := ?_)
        refine wpAnyH_ready (rs := [7]) (by kernel_rfl) (by simp) ?_
        refine AllReadyH.cons (o := ?o2) ?h2 (fun K hK => ?s2) AllReadyH.nil
        case h2 => (simp only [List.getElem?_toArray, List.getElem?_cons_succ, List.getElem?_cons_zero]; rfl)
        go_simp
        go_at_call 84
        refine (HAN.out V3 HB3.out).mono ?_
        rintro e w9 ⟨rfl, hb9⟩
        have HB9 := hide (HB3.out.trans (hb9.mono HB3.out.size))
        clear hb9
        (try go_wp2_with fail)
        refine hK.out _ _ (HSF.out w9 HB9.out) (fun hHeld => ?_)
        clear hK K
        try simp only [Act.put, List.setIfInBounds_toArray, List.set_cons_zero, List.set_cons_succ]
        refine tk 8 hHeld (h := ?_)
        have HC9 := hide (HE3.out.on HB9.out)
        have q0 : w9.cell? ⟨S9, j * 3, none⟩ = some _ := (HC9.out.cell _).trans HE4.out
        have q1 : w9.cell? ⟨S9, j * 3 + 1, none⟩ = some _ := (HC9.out.cell _).trans HE5.out
        have q2 : w9.cell? ⟨S9, j * 3 + 2, none⟩ = some _ := (HC9.out.cell _).trans HE6.out
        have f0 := HC9.out.free (j * 3)
        have f1 := HC9.out.free (j * 3 + 1)
        have f2 := HC9.out.free (j * 3 + 2)
        have HSX := hide (show (((w9.setCell ⟨S9, j * 3, none⟩ (.slice none 0 0)).setCell ⟨S9, j * 3 + 1, none⟩ (.int .i64 ((anewP n (a + 1) j).1 : Int))).setCell ⟨S9, j * 3 + 2, none⟩ (.int .i64 ((anewP n (a + 1) j).2 : Int))).cell? ⟨W, 5, none⟩ = some (.slice (some ⟨S9, 0, none⟩) T c9) from (World.cell?_of_block (Below.heap_setCell _ _ _ _ (fun e => NS.out e.symm))).trans ((World.cell?_of_block (Below.heap_setCell _ _ _ _ (fun e => NS.out e.symm))).trans ((World.cell?_of_block (Below.heap_setCell _ _ _ _ (fun e => NS.out e.symm))).trans (HSF.out w9 HB9.out))))
        have HN9 := hide (show WkI lo k w tv T ((a : Int) + 1) (fun i => if i < (j + 1) then pnum (a + 1) i else pnum a i) (fun i => if i < (j + 1) then midA n a i else skAt n a i) (((w9.setCell ⟨S9, j * 3, none⟩ (.slice none 0 0)).setCell ⟨S9, j * 3 + 1, none⟩ (.int .i64 ((anewP n (a + 1) j).1 : Int))).setCell ⟨S9, j * 3 + 2, none⟩ (.int .i64 ((anewP n (a + 1) j).2 : Int))) from HE8.out [] (anewP n (a + 1) j).1 (anewP n (a + 1) j).2 _ _ (fun i hi => by
          by_cases e2 : i < j
          · rw [if_pos e2, if_pos (by omega)]
          · rw [if_neg e2, if_neg (by omega)]) (by rw [if_pos (by omega)]; unfold midA; rw [if_pos HM.out]) (StkI.of_on HB9.out (stkI_none HC9.out)))
        refine wpAnyH_ready (rs := [9]) (by kernel_rfl) (by simp) ?_
        refine AllReadyH.cons (o := ?o3) ?h3 (fun K hK => ?s3) AllReadyH.nil
        case h3 => (simp only [List.getElem?_toArray, List.getElem?_cons_succ, List.getElem?_cons_zero]; rfl)
        go_simp
        clear q0 q1 q2 f0 f1 f2
        refine hK.out _ _ (HSX.out) (fun hHeld => ?_)
        clear hK K
        try simp only [Act.put, List.setIfInBounds_toArray, List.set_cons_zero, List.set_cons_succ]
        refine wpAnyH_done (by kernel_rfl) ?_ _
        clear hHeld HSX
        generalize (((w9.setCell ⟨S9, j * 3, none⟩ (.slice none 0 0)).setCell ⟨S9, j * 3 + 1, none⟩ (.int .i64 ((anewP n (a + 1) j).1 : Int))).setCell ⟨S9, j * 3 + 2, none⟩ (.int .i64 ((anewP n (a + 1) j).2 : Int))) = V9 at HN9 ⊢
        go_wp2_with fail
        go_roundw
        case rel => exact ⟨j + 1, HJT.out, by go_num, HN9.out⟩
        case measure => have := HJT.out; simp [intOf]; omega
      · have pm : (((a : Int) + 1) % (z : Int) == 0) = false := by
          have : ((a : Int) + 1) % (z : Int) = (((a + 1) % z : Nat) : Int) := by simp
          rw [this]; exact beq_eq_false_iff_ne.2 (by omega)
        have HM := hide (show ¬ (a + 1) % 2 ^ j = 0 by rw [HZE.out]; exact hm)
        have HNX := hide (fun (V : World) (hb : Below wr.heap.size wr V) => show WkI lo k w tv T ((a : Int) + 1) (fun i => if i < (j + 1) then pnum (a + 1) i else pnum a i) (fun i => if i < (j + 1) then midA n a i else skAt n a i) V from (hI.out.on hb).congr (fun i _ => by
          by_cases e : i = j
          · subst e; rw [if_neg (by omega), if_pos (by omega)]; exact HSA.out i hlt HM.out
          · by_cases e2 : i < j
            · rw [if_pos e2, if_pos (by omega)]
            · rw [if_neg e2, if_neg (by omega)]) (fun i _ => by
          by_cases e : i = j
          · subst e; rw [if_neg (by omega), if_pos (by omega)]; unfold midA; rw [if_neg HM.out]
          · by_cases e2 : i < j
            · rw [if_pos e2, if_pos (by omega)]
            · rw [if_neg e2, if_neg (by omega)]))
        clear hm hj hlt hI
        go_wp2_with fail
        go_quiet (fail)
        go_wp2_with fail
        go_roundw
        case rel => exact ⟨j + 1, HJT.out, by go_num, HNX.out _ (below_drewN (Below.refl _ _) _)⟩
        case measure => have := HJT.out; simp [intOf]; omega
    · obtain rfl : T = j := by omega
      have HI2 := hide (show WkI lo k w tv T ((a : Int) + 1) (pnum (a + 1)) (fun i => if i < 0 then skAt n (a + 1) i else midA n a i) wr from hI.out.congr (fun i hi => by rw [if_pos hi]) (fun i hi => by rw [if_pos hi, if_neg (by omega)]))
      have HOB := hide hI.out.cells
      rw [HWW.out, HLV.out, HV.out] at HOB
      have q5 : wr.cell? ⟨W, 5, none⟩ = some (.slice (some ⟨S, 0, none⟩) T c) := (HOB.out wr (Below.refl _ _)).cell 5
      clear hj hlt hI HOB
      go_wp2_with fail
      clear q5
      go_loopw [70] (fun x wr => ∃ j : Nat, j ≤ T ∧ x = .int .i64 j ∧ Hid (WkI lo k w tv T ((a : Int) + 1) (pnum (a + 1)) (fun i => if i < j then skAt n (a + 1) i else midA n a i) wr)) (fun x _ => T - (intOf x).toNat)
      case atStart => exact ⟨0, Nat.zero_le _, rfl, HI2.out⟩
      case round =>
        clear HI2
        obtain ⟨j, hj, rfl, hI⟩ := hrel
        by_cases hlt : j < T
        · have HJT := hide hlt
          have HSF := hide (fun (f : Nat → Nat) (g : Nat → List Hk × Nat × Nat) (U : World) (hU : WkI lo k w tv T ((a : Int) + 1) f g U) (V : World) (hb : Below U.heap.size U V) => show V.cell? ⟨W, 0, none⟩ = some (.func (.func 39) #[tr] #[]) ∧ V.cell? ⟨W, 1, none⟩ = some (.func (.func 40) #[tr] #[]) ∧ V.cell? ⟨W, 5, none⟩ = some (.slice (some ⟨S, 0, none⟩) T c) by
            have ob := hU.cells V hb
            rw [HWW.out, HLV.out, HV.out, HLK.out, HJK.out] at ob
            exact ⟨ob.cell 0, ob.cell 1, ob.cell 5⟩)
          have HII := hide hI.out
          have HTA := hide (fun (V : World) (hb : Below wr.heap.size wr V) => show Calls Tryz.prog 85 #[.pointer (some ⟨S, j * 3, none⟩), (.func (.func 39) #[tr] #[]), (.func (.func 40) #[tr] #[])] V fun e w' => e = .returned (.tuple #[]) ∧ WkI lo k w tv T ((a : Int) + 1) (pnum (a + 1)) (fun i => if i < (j + 1) then skAt n (a + 1) i else midA n a i) w' by
            obtain ⟨S2, c2, e1, hC⟩ := HWL.out V j _ HJT.out (HII.out.on hb)
            rw [HV.out] at e1
            simp only [Value.slice.injEq, Option.some.injEq, Addr.mk.injEq] at e1
            obtain ⟨⟨rfl, -⟩, -, -⟩ := e1
            exact hC)
          have hjT : (j : Int) < (T : Int) := by omega
          have pj : wrap64 ((j : Int) + 1) = (j : Int) + 1 := w64Y _ (by omega)
          clear hI hlt hj
          go_wp2_with fail
          refine wp_region_held_drew (S := fun V => V.cell? ⟨W, 0, none⟩ = some (.func (.func 39) #[tr] #[]) ∧ V.cell? ⟨W, 1, none⟩ = some (.func (.func 40) #[tr] #[]) ∧ V.cell? ⟨W, 5, none⟩ = some (.slice (some ⟨S, 0, none⟩) T c)) (by kernel_rfl) (HSF.out _ _ wr HII.out _ (Below.refl wr.heap.size wr).drew) (fun hHeld => ?_)
          have HB2 := hide ((Below.refl wr.heap.size wr).drew)
          generalize World.drew wr = V2 at HB2 hHeld ⊢
          refine tk 0 hHeld (h := ?_)
          refine tk 1 hHeld (h := ?_)
          refine tk 2 hHeld (h := ?_)
          refine tk 3 hHeld (h := ?_)
          refine tk 4 hHeld (h := ?_)
          refine tk 5 hHeld (h := ?_)
          refine tk 6 hHeld (h := ?_)
          refine tk 7 hHeld (h := ?_)
          refine tk 8 hHeld (h := ?_)
          refine tk 9 hHeld (h := ?_)
          refine tk 10 hHeld (h := ?_)
          refine tk 11 hHeld (h := ?_)
          refine tk 12 hHeld (h := ?_)
          refine tk 13 hHeld (h := ?_)
          refine wpAnyH_ready (rs := [14]) (by kernel_rfl) (by simp) ?_
          refine AllReadyH.cons (o := ?o4) ?h4 (fun K hK => ?s4) AllReadyH.nil
          case h4 => (simp only [List.getElem?_toArray, List.getElem?_cons_succ, List.getElem?_cons_zero]; rfl)
          go_simp
          go_at_call 85
          refine (HTA.out V2 HB2.out).mono ?_
          rintro e w5 ⟨rfl, h5⟩
          have H5 := hide h5
          clear h5
          (try go_wp2_with fail)
          refine hK.out _ _ (HSF.out _ _ w5 H5.out w5 (Below.refl _ _)) (fun hHeld => ?_)
          clear hK K
          try simp only [Act.put, List.setIfInBounds_toArray, List.set_cons_zero, List.set_cons_succ]
          refine wpAnyH_done (by kernel_rfl) ?_ _
          clear hHeld
          go_wp2_with fail
          go_roundw
          case rel => exact ⟨j + 1, HJT.out, by go_num, H5.out⟩
          case measure => have := HJT.out; simp [intOf]; omega
        · obtain rfl : T = j := by omega
          have HFI := hide (show WkI lo k w tv T ((a : Int) + 1) (pnum (a + 1)) (skAt n (a + 1)) wr from hI.out.congr (fun i hi => rfl) (fun i hi => by rw [if_pos hi]))
          clear hI hj hlt
          go_wp2_with fail
          go_ret
          exact ⟨rfl, HFI.out⟩
end Go.Proofs.YtgaoeoijdpdjiaaGreatDoor

namespace Go.Proofs.YtgaoeoijdpdjiaaGreatDoor
open Go.RowKit
theorem Wk.In.path_app {lo : Nat} {k : Wk} {w w8 : World} {v : Value} {s : ByteArray} (h : k.In lo w) (hk8 : Kept (fun q => k.pv.ownBlock = some q) w w8) (hown : w8.ownsRow lo 9 1 v (k.ps.length + 1) (k.ps.map .string ++ [.string s])) (hv : ∀ q, v.ownBlock = some q → k.pv.ownBlock = some q ∨ w.heap.size ≤ q) :
    Wk.In lo { k with pv := v, ps := k.ps ++ [s] } (w8.setCell ⟨k.W, 4, none⟩ v) := by
  have ks := kept_set w8 ⟨k.W, 4, none⟩ v
  have hpW : k.pv.ownBlock ≠ some k.W := owns_neY h.path h.obj (by decide)
  refine ⟨(blkY h.obj hk8 hpW).set 4 v, ?_, ?_, fun K hK => ?_, h.apart, h.low⟩
  · have := owns_kept hown ks (fun q e hq => by
      subst hq
      rcases hv _ e with e | e
      · exact hpW e
      · exact absurd h.obj.lt (Nat.not_lt.2 e))
    simpa using this
  · exact owns_kept (owns_kept h.stks hk8 (fun q e hq => owns_apart h.path h.stks (by decide) hq e)) ks (fun q e hq => by subst hq; exact owns_neY h.stks h.obj (by decide) e)
  · exact owns_kept (owns_kept (h.rows K hK) hk8 (fun q e hq => owns_apart h.path (h.rows K hK) (by decide) hq e)) ks (fun q e hq => by subst hq; exact owns_neY (h.rows K hK) h.obj (by decide) e)
theorem Wk.In.stk_app {lo : Nat} {k : Wk} {w w8 : World} {v : Value} {K : StkR} (h : k.In lo w) (hk8 : Kept (fun q => k.sv.ownBlock = some q) w w8) (hown : w8.ownsRow lo 137 3 v (k.Ks.length + 1) (k.Ks.flatMap StkR.cells ++ K.cells)) (hv : ∀ q, v.ownBlock = some q → k.sv.ownBlock = some q ∨ w.heap.size ≤ q)
    (hr : w.ownsRow lo 100 3 K.v K.ns.length (nodC K.ns)) (hd : ∀ A ∈ k.Ks, ∀ q, A.v.ownBlock = some q → K.v.ownBlock ≠ some q) :
    Wk.In lo { k with sv := v, Ks := k.Ks ++ [K] } (w8.setCell ⟨k.W, 5, none⟩ v) := by
  have ks := kept_set w8 ⟨k.W, 5, none⟩ v
  have hpW : k.sv.ownBlock ≠ some k.W := owns_neY h.stks h.obj (by decide)
  have hrow : ∀ A : StkR, w.ownsRow lo 100 3 A.v A.ns.length (nodC A.ns) → (w8.setCell ⟨k.W, 5, none⟩ v).ownsRow lo 100 3 A.v A.ns.length (nodC A.ns) := fun A hA =>
    owns_kept (owns_kept hA hk8 (fun q e hq => owns_apart h.stks hA (by decide) hq e)) ks (fun q e hq => by subst hq; exact owns_neY hA h.obj (by decide) e)
  refine ⟨(blkY h.obj hk8 hpW).set 5 v, ?_, ?_, fun A hA => ?_, ?_, h.low⟩
  · exact owns_kept (owns_kept h.path hk8 (fun q e hq => owns_apart h.stks h.path (by decide) hq e)) ks (fun q e hq => by subst hq; exact owns_neY h.path h.obj (by decide) e)
  · have := owns_kept hown ks (fun q e hq => by
      subst hq
      rcases hv _ e with e | e
      · exact hpW e
      · exact absurd h.obj.lt (Nat.not_lt.2 e))
    simpa using this
  · rcases List.mem_append.1 hA with hA | hA
    · exact hrow A (h.rows A hA)
    · rw [List.mem_singleton] at hA
      subst hA
      exact hrow A hr
  · refine List.pairwise_append.2 ⟨h.apart, List.pairwise_singleton _ _, fun A hA B hB q e => ?_⟩
    rw [List.mem_singleton] at hB
    subst hB
    exact hd A hA q e
theorem Lps.app {tv : Nat → Nat → ByteArray} {m : Nat} {ps : List ByteArray} {f : Nat → Nat} (h : Lps tv m ps f) : Lps tv (m + 1) (ps ++ [tv m (f m)]) f := by
  refine ⟨by simp [h.1], fun i hi => ?_⟩
  by_cases e : i < m
  · rw [List.getElem?_append_left (by rw [h.1]; exact e)]
    exact h.2 i e
  · obtain rfl : i = m := by omega
    rw [List.getElem?_append_right (by rw [h.1]; exact Nat.le_refl _), h.1, Nat.sub_self]
    rfl
theorem Lks.app {tv : Nat → Nat → ByteArray} {m : Nat} {Ks : List StkR} {g : Nat → List Hk × Nat × Nat} (h : Lks tv m Ks g) {K : StkR} (hK : Like tv K (g m)) : Lks tv (m + 1) (Ks ++ [K]) g := by
  refine ⟨by simp [h.1], fun i hi => ?_⟩
  by_cases e : i < m
  · rw [List.getElem?_append_left (by rw [h.1]; exact e)]
    exact h.2 i e
  · obtain rfl : i = m := by omega
    exact ⟨K, by rw [List.getElem?_append_right (by rw [h.1]; exact Nat.le_refl _), h.1, Nat.sub_self]; rfl, hK⟩
end Go.Proofs.YtgaoeoijdpdjiaaGreatDoor
