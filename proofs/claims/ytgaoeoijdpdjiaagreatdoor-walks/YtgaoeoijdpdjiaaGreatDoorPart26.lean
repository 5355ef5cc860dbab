/-
  A walk is begun.
-/
import Derived.Test.YtgaoeoijdpdjiaaGreatDoorPart25
import Derived.Test.YtgaoeoijdpdjiaaGreatDoorPart23
namespace Go.Proofs.YtgaoeoijdpdjiaaGreatDoor
open Go.RowKit
theorem infoSk : (Tryz.prog.info? 137).map (fun i => (i.zero, i.size, i.bytes)) = some (some (.agg #[.slice none 0 0, .int .i64 0, .int .i64 0]), 3, 40) := by kernel_rfl
/-- The walk that is being begun, j heights of it. -/
def NewI (w : World) (W F : Nat) (lf jf : Value) (n : Nat) (tv : Nat → Nat → ByteArray) (j : Nat) (wr : World) : Prop := ∃ pv sv ps Ks, Wk.In w.heap.size ⟨W, lf, jf, (n : Int), 0, pv, sv, ps, Ks⟩ wr ∧ Lps tv j ps (fun _ => 1) ∧ Lks tv j Ks (fun i => ([(i, 0)], 0, 0)) ∧ Blk wr F [.int .i64 (j : Int), .int .i64 0, .string (tv j 0)] 100 ∧ (∀ K ∈ Ks, K.v.ownBlock ≠ some F) ∧ F ≠ W ∧ w.heap.size ≤ F ∧ Below w.heap.size w wr
theorem NewI.on {w wr V : World} {W F : Nat} {lf jf : Value} {n : Nat} {tv : Nat → Nat → ByteArray} {j : Nat} (h : NewI w W F lf jf n tv j wr) (hb : Below wr.heap.size wr V) : NewI w W F lf jf n tv j V := by
  obtain ⟨pv, sv, ps, Ks, h1, h2, h3, h4, h5, h6, h7, h8⟩ := h
  exact ⟨pv, sv, ps, Ks, h1.on hb, h2, h3, h4.on hb, h5, h6, h7, h8.trans (hb.mono h8.size)⟩
set_option maxRecDepth 20000 in
set_option maxHeartbeats 8000000 in
theorem new_on (T : Nat) (tr : Value) (tv : Nat → Nat → ByteArray) (jn : Nat → Nat → ByteArray → ByteArray → ByteArray) (w : World) (hT1 : 1 ≤ T) (hT : T ≤ 4) (hTn : Tn w)
    (hjn : ∀ h k, jn (h + 1) k (tv h (2 * k)) (tv h (2 * k + 1)) = tv (h + 1) k) (hs : ∀ h k, (tv h k).size ≤ 16)
    (hL : ∀ (k : Nat) (V : World), k < 16 → Tn V → Calls Tryz.prog 39 #[tr, .int .i64 (k : Int)] V fun e w' => e = .returned (.string (tv 0 k)) ∧ Below V.heap.size V w')
    (hJ : ∀ (h k : Nat) (a b : ByteArray) (V : World), a.size ≤ 16 → b.size ≤ 16 → Tn V → Calls Tryz.prog 40 #[tr, .int .i64 (h : Int), .int .i64 (k : Int), .string a, .string b] V fun e w' => e = .returned (.string (jn h k a b)) ∧ Below V.heap.size V w') :
    Calls Tryz.prog 38 #[.int .i64 (T : Int), (.func (.func 39) #[tr] #[]), (.func (.func 40) #[tr] #[])] w fun e w' => ∃ W F, e = .returned (.pointer (some ⟨W, 0, none⟩)) ∧ NewI w W F (.func (.func 39) #[tr] #[]) (.func (.func 40) #[tr] #[]) (2 ^ T) tv T w' := by
  obtain ⟨n, hn⟩ : ∃ n, 2 ^ T = n := ⟨_, rfl⟩
  have hn16 : n ≤ 16 := by rw [← hn]; exact Nat.le_trans (Nat.pow_le_pow_right (by decide) hT) (by decide)
  rw [hn]
  have pz : wrap64 ((2 : Int) ^ T) = (n : Int) := by
    have e : (2 : Int) ^ T = ((2 ^ T : Nat) : Int) := by simp
    rw [e, hn, w64Y]
    omega
  obtain ⟨w1, e1⟩ : ∃ W1, w.alloc (.cells #[(.func (.func 39) #[tr] #[]), (.func (.func 40) #[tr] #[]), .int .i64 (n : Int), .int .i64 0, .slice none 0 0, .slice none 0 0] 134) = W1 := ⟨_, rfl⟩
  obtain ⟨W, e2⟩ : ∃ X, w.heap.size = X := ⟨_, rfl⟩
  have HOB := hide (show Blk w1 W [(.func (.func 39) #[tr] #[]), (.func (.func 40) #[tr] #[]), .int .i64 (n : Int), .int .i64 0, .slice none 0 0, .slice none 0 0] 134 by rw [← e1, ← e2]; exact Blk.new w _ _)
  have HB1 := hide (show Below w.heap.size w w1 by rw [← e1]; exact (Below.refl _ _).alloc (Nat.le_refl _) _)
  have HWE := hide (show w.heap.size ≤ W by omega)
  have HTN := hide hTn
  have HWH := hide (fun (h q : Nat) (V : World) (ws : List Value) (hh : h < 4) (hq : (q + 1) * 2 ^ h ≤ 16) (hV : Blk V W ws 134) (h0 : ws[0]? = some (.func (.func 39) #[tr] #[])) (h1 : ws[1]? = some (.func (.func 40) #[tr] #[])) (hb : Below w.heap.size w V) => whole_on W ws tr h q tv jn V hV h0 h1 hh hq (hTn.on hb) hjn hs hL hJ)
  have HW0 := hide (show Calls Tryz.prog 72 #[.pointer (some ⟨W, 0, none⟩), .int .i64 0, .int .i64 0] w1 fun e w' => e = .returned (.agg #[.int .i64 0, .int .i64 0, .string (tv 0 0)]) ∧ Below w1.heap.size w1 w' from HWH.out 0 0 w1 _ (by decide) (by decide) HOB.out rfl rfl HB1.out)
  have HJO := hide (fun (h : Nat) (V : World) (hb : Below w.heap.size w V) => hJ (h + 1) 0 (tv h 0) (tv h 1) V (hs _ _) (hs _ _) (hTn.on hb))
  have HJN := hide (fun h => hjn h 0)
  clear hTn hjn hs hL hJ hn
  go_enter Tryz.func38, Tryz.ntmps38
  go_wp2_with fail
  (try rw [e1])
  (try rw [e2])
  refine HW0.out.mono ?_
  rintro e w2 ⟨rfl, hb2⟩
  have HB2 := hide (HB1.out.trans (hb2.mono HB1.out.size))
  have HO2 := hide (HOB.out.on hb2)
  clear hb2 e1 e2 pz
  have HI0 := hide (show NewI w W w2.heap.size (.func (.func 39) #[tr] #[]) (.func (.func 40) #[tr] #[]) n tv 0 (w2.alloc (.cells #[.int .i64 0, .int .i64 0, .string (tv 0 0)] 100)) from
    ⟨.slice none 0 0, .slice none 0 0, [], [], ⟨HO2.out.alloc _, ⟨rfl, .inl ⟨rfl, rfl⟩⟩, ⟨rfl, .inl ⟨rfl, rfl⟩⟩, fun K hK => (by cases hK), List.Pairwise.nil, HWE.out⟩, ⟨rfl, fun i hi => by omega⟩, ⟨rfl, fun i hi => by omega⟩, Blk.new w2 _ _, fun K hK => (by cases hK), by have := HO2.out.lt; omega, HB2.out.size, HB2.out.alloc HB2.out.size _⟩)
  go_wp2_with fail
  generalize w2.alloc (.cells #[.int .i64 0, .int .i64 0, .string (tv 0 0)] 100) = w3 at HI0 ⊢
  generalize w2.heap.size = F at HI0 ⊢
  go_loopw [20] (fun x wr => ∃ j : Nat, j ≤ T ∧ x = .int .i64 j ∧ Hid (NewI w W F (.func (.func 39) #[tr] #[]) (.func (.func 40) #[tr] #[]) n tv j wr)) (fun x _ => T - (intOf x).toNat)
  case atStart => exact ⟨0, Nat.zero_le _, rfl, HI0.out⟩
  case round =>
    obtain ⟨j, hj, rfl, hI⟩ := hrel
    by_cases hlt : j < T
    · have HJT := hide hlt
      obtain ⟨pv, sv, ps, Ks, h1, h2, h3, h4, h5, h6, h7, h8⟩ := hI.out
      have HWJ := hide (show Calls Tryz.prog 72 #[.pointer (some ⟨W, 0, none⟩), .int .i64 (j : Int), .int .i64 1] wr fun e w' => e = .returned (.agg #[.int .i64 (j : Int), .int .i64 1, .string (tv j 1)]) ∧ Below wr.heap.size wr w' from HWH.out j 1 wr _ (by omega) (by rcases (show j = 0 ∨ j = 1 ∨ j = 2 ∨ j = 3 by omega) with rfl | rfl | rfl | rfl <;> decide) h1.obj rfl rfl h8)
      clear h1 h2 h3 h4 h5 h6 h7 h8 pv sv ps Ks
      have HIJ := hide hI.out
      have hjT : (j : Int) < (T : Int) := by omega
      have pj : wrap64 ((j : Int) + 1) = (j : Int) + 1 := w64Y _ (by omega)
      have HT := hide (And.intro hT hlt)
      clear hI hlt hj
      go_wp2_with fail
      refine HWJ.out.mono ?_
      rintro e w4 ⟨rfl, hb4⟩
      obtain ⟨V6, hV6⟩ : ∃ X, w4.alloc (.cells #[.int .i64 (j : Int), .int .i64 1, .string (tv j 1)] 100) = X := ⟨_, rfl⟩
      obtain ⟨G, hG⟩ : ∃ X, w4.heap.size = X := ⟨_, rfl⟩
      have HG := hide (show Blk V6 G [.int .i64 (j : Int), .int .i64 1, .string (tv j 1)] 100 by rw [← hV6, ← hG]; exact Blk.new w4 _ _)
      have HI6 := hide (show NewI w W F (.func (.func 39) #[tr] #[]) (.func (.func 40) #[tr] #[]) n tv j V6 by rw [← hV6]; exact HIJ.out.on (hb4.alloc hb4.size _))
      have HGR := hide (show wr.heap.size ≤ G by rw [← hG]; exact hb4.size)
      have HWL := hide (show W < wr.heap.size by obtain ⟨pv, sv, ps, Ks, h1, -⟩ := HIJ.out; exact h1.obj.lt)
      have HRW := hide (show w.heap.size ≤ wr.heap.size by obtain ⟨pv, sv, ps, Ks, -, -, -, -, -, -, -, h8⟩ := HIJ.out; exact h8.size)
      go_wp2_with fail
      (try rw [hV6])
      (try rw [hG])
      clear hV6 hG hb4
      have HM6 := hide (show ∃ pv0 sv0 ps0 Ks0, Wk.In w.heap.size ⟨W, (.func (.func 39) #[tr] #[]), (.func (.func 40) #[tr] #[]), (n : Int), 0, pv0, sv0, ps0, Ks0⟩ V6 ∧ Lps tv j ps0 (fun _ => 1) ∧ Lks tv j Ks0 (fun i => ([(i, 0)], 0, 0)) ∧ Blk V6 F [.int .i64 (j : Int), .int .i64 0, .string (tv j 0)] 100 ∧ (∀ K ∈ Ks0, K.v.ownBlock ≠ some F) ∧ Blk V6 G [.int .i64 (j : Int), .int .i64 1, .string (tv j 1)] 100 ∧ F ≠ W ∧ G ≠ W ∧ w.heap.size ≤ F ∧ w.heap.size ≤ G ∧ Below w.heap.size w V6 by
        obtain ⟨pv, sv, ps, Ks, h1, h2, h3, h4, h5, h6, h7, h8⟩ := HI6.out
        exact ⟨pv, sv, ps, Ks, h1, h2, h3, h4, h5, HG.out, h6, by have := HWL.out; have := HGR.out; omega, h7, Nat.le_trans HRW.out HGR.out, h8⟩)
      clear HG HI6 HGR HRW HWL HWJ
      go_cut [7] from 26 to 36 (fun x7 wx => x7 = .pointer (some ⟨W, 0, none⟩) ∧ Hid (∃ pv0 sv0 ps0 Ks0, Wk.In w.heap.size ⟨W, (.func (.func 39) #[tr] #[]), (.func (.func 40) #[tr] #[]), (n : Int), 0, pv0, sv0, ps0, Ks0⟩ wx ∧ Lps tv (j + 1) ps0 (fun _ => 1) ∧ Lks tv j Ks0 (fun i => ([(i, 0)], 0, 0)) ∧ Blk wx F [.int .i64 (j : Int), .int .i64 0, .string (tv j 0)] 100 ∧ (∀ K ∈ Ks0, K.v.ownBlock ≠ some F) ∧ Blk wx G [.int .i64 (j : Int), .int .i64 1, .string (tv j 1)] 100 ∧ F ≠ W ∧ G ≠ W ∧ w.heap.size ≤ F ∧ w.heap.size ≤ G ∧ Below w.heap.size w wx))
      case first =>
        obtain ⟨pv, sv, ps, Ks, h1, h2, h3, h4, h5, hg, h6, hgw, h7, hgl, h8⟩ := HM6.out
        have H1 := hide h1
        have H2 := hide h2
        have H3 := hide h3
        have H4 := hide h4
        have H5 := hide h5
        have HG := hide hg
        have H6 := hide h6
        have HGW := hide hgw
        have H7 := hide h7
        have HGL := hide hgl
        have H8 := hide h8
        clear h1 h2 h3 h4 h5 hg h6 hgw h7 hgl h8 HM6
        have HRO := hide (H1.out.path)
        have HNF := hide (show ¬ (pv).ownBlock = some F from owns_neY HRO.out H4.out (by decide))
        have HNG := hide (show ¬ (pv).ownBlock = some G from owns_neY HRO.out HG.out (by decide))
        have HNW := hide (show ¬ (pv).ownBlock = some W from owns_neY HRO.out H1.out.obj (by decide))
        have HPL := hide (fun q e => (owns_loY HRO.out q e).2)
        have HLO := hide (show w.heap.size ≤ V6.heap.size from H8.out.size)
        have hlen : ps.length ≤ 4 := by have := H2.out.1; have := HT.out; omega
        have N1 : Hid (ps.length + 1 ≤ maxLen) := by show _ ≤ _; unfold maxLen; omega
        have N2 : Hid ((ps.length + 1) * 16 ≤ 140737488355328) := by show _ ≤ _; omega
        have HWB := hide (fun (V : World) (hk : Kept (fun q => (pv).ownBlock = some q) V6 V) => blkY H1.out.obj hk HNW.out)
        have HWC := hide (fun (V : World) (hb : Below V6.heap.size V6 V) => show V.cell? ⟨W, 4, none⟩ = some (pv) from (H1.out.obj.on hb).cell 4)
        clear hlen
        obtain ⟨i1, hi1, hy0, hy1, hy2⟩ := info_parts infoSt
        have HSF := hide (fun (V : World) (hb : Below V6.heap.size V6 V) => show V.cell? ⟨G, 2, none⟩ = some (.string (tv j 1)) from (HG.out.on hb).cell 2)
        have HSK := hide (fun (V : World) (hk : Kept (fun q => pv.ownBlock = some q) V6 V) => show V.cell? ⟨G, 2, none⟩ = some (.string (tv j 1)) from (blkY HG.out hk HNG.out).cell 2)
        have HSW := hide (fun (V : World) (v : Value) (h : V.cell? ⟨G, 2, none⟩ = some (.string (tv j 1))) => show (V.setCell ⟨W, 4, none⟩ v).cell? ⟨G, 2, none⟩ = some (.string (tv j 1)) from (World.cell?_of_block (Below.heap_setCell _ _ _ _ HGW.out)).trans h)
        refine wp_region_held_drew (S := fun V => V.cell? ⟨G, 2, none⟩ = some (.string (tv j 1))) (by kernel_rfl) (HSF.out _ (Below.refl V6.heap.size V6).drew) (fun hHeld => ?_)
        have HB0 := hide ((Below.refl V6.heap.size V6).drew)
        generalize World.drew V6 = V2 at HB0 hHeld ⊢
        refine tk 0 hHeld (h := ?_)
        refine tk 1 hHeld (h := ?_)
        refine tk 2 hHeld (h := ?_)
        refine tk 3 hHeld (h := ?_)
        refine tk 5 hHeld (h := ?_)
        refine tk 6 hHeld (h := ?_)
        refine wpAnyH_ready (rs := [4, 7]) (by kernel_rfl) (by simp) ?_
        refine (AllReadyH.cons (o := ?o1) ?h1 (fun K hK => ?s1) (AllReadyH.cons (o := ?o2) ?h2 (fun K hK => ?s2) AllReadyH.nil))
        case h1 => (simp only [List.getElem?_toArray, List.getElem?_cons_succ, List.getElem?_cons_zero]; rfl)
        case h2 => (simp only [List.getElem?_toArray, List.getElem?_cons_succ, List.getElem?_cons_zero]; rfl)
        case s1 =>
          have c0 : V2.cell? ⟨W, 4, none⟩ = some (pv) := HWC.out _ HB0.out
          go_simp
          clear c0
          refine hK.out _ _ (HSF.out _ HB0.out) (fun hHeld => ?_)
          clear hK K
          try simp only [Act.put, List.setIfInBounds_toArray, List.set_cons_zero, List.set_cons_succ]
          refine wpAnyH_ready (rs := [7]) (by kernel_rfl) (by simp) ?_
          refine (AllReadyH.cons (o := ?o3) ?h3 (fun K hK => ?s3) AllReadyH.nil)
          case h3 => (simp only [List.getElem?_toArray, List.getElem?_cons_succ, List.getElem?_cons_zero]; rfl)
          case s3 =>
            go_simp
            obtain ⟨Bx, hBx⟩ : ∃ X, V2.heap.size = X := ⟨_, rfl⟩
            obtain ⟨U4, hU⟩ : ∃ Wk, V2.alloc (.cells #[.string (tv j 1)] 9) = Wk := ⟨_, rfl⟩
            have HB4 := hide (show Below V6.heap.size V6 U4 by rw [← hU]; exact HB0.out.alloc HB0.out.size _)
            have HBx := hide (show Blk U4 Bx [.string (tv j 1)] 9 by rw [← hU, ← hBx]; exact Blk.new V2 _ _)
            have HLBx := hide (show V6.heap.size ≤ Bx ∧ U4.heap.size = Bx + 1 by have := HB0.out.size; rw [← hU, World.size_alloc]; omega)
            rw [hU, hBx]
            clear hU hBx
            refine hK.out _ _ (HSF.out _ HB4.out) (fun hHeld => ?_)
            clear hK K
            try simp only [Act.put, List.setIfInBounds_toArray, List.set_cons_zero, List.set_cons_succ]
            refine wpAnyH_ready (rs := [8]) (by kernel_rfl) (by simp) ?_
            refine (AllReadyH.cons (o := ?o5) ?h5 (fun K hK => ?s5) AllReadyH.nil)
            case h5 => (simp only [List.getElem?_toArray, List.getElem?_cons_succ, List.getElem?_cons_zero]; rfl)
            case s5 =>
              refine step_append_lies _ (by rfl) (.tmp 30) (.tmp 33) 50 (by rfl) w.heap.size 9 i1 (.string ⟨#[]⟩) 1 16 Tryz.underlying50 hi1 hy0 hy1 hy2 (by rfl) (by decide) (pv) (ps.length) (ps.map .string) (by rfl) (owns_kept HRO.out (Kept.of_below (F := fun _ => False) HB4.out) (fun _ _ e => e)) ⟨Bx, 0, none⟩ 1 1 [.string (tv j 1)] (by rfl) (by rfl) (fun j u h => by rw [Addr.add_mid, Nat.zero_add]; exact (HBx.out.cell j).trans h) (fun u hu => by simp at hu; first | (rcases hu with rfl | rfl | rfl <;> rfl) | (subst hu; rfl)) (by decide) N1.out N2.out (Nat.le_trans HLO.out HB4.out.size) (Bx + 1) HLBx.out.2 ?_
              intro g2 cap w8 hown hgrow hat hlt
              have HK8 := hide (Kept.grown (F := fun q => (pv).ownBlock = some q) (Kept.of_below HB4.out) hgrow (fun q e => .inl e))
              have HAT := hide (show ∀ q, (Value.slice (some ⟨g2, 0, none⟩) (ps.length + 1) cap).ownBlock = some q → (pv).ownBlock = some q ∨ U4.heap.size ≤ q by
                intro q e
                have e' : g2 = q := by simpa [Value.ownBlock] using e
                subst e'
                rcases hat with e | e
                · exact .inl e
                · have := HLBx.out; exact .inr (by omega))
              have HOW := hide hown
              have HKU := hide (kept_grown hgrow)
              have HIU := hide (H1.out.on HB4.out)
              clear hown hgrow hat hlt
              have HS8 := hide (HSK.out _ HK8.out)
              refine hK.out _ _ (HS8.out) (fun hHeld => ?_)
              clear hK K
              try simp only [Act.put, List.setIfInBounds_toArray, List.set_cons_zero, List.set_cons_succ]
              refine tk 9 hHeld (h := ?_)
              refine tk 10 hHeld (h := ?_)
              have c1 : w8.cell? ⟨W, 4, none⟩ = some (pv) := (HWB.out _ HK8.out).cell 4
              have f1 := (HWB.out _ HK8.out).free 4
              have HS9 := hide (HSW.out w8 (.slice (some ⟨g2, 0, none⟩) (ps.length + 1) cap) HS8.out)
              have HFIN := hide (show ∃ pv0 sv0 ps0 Ks0, Wk.In w.heap.size ⟨W, (.func (.func 39) #[tr] #[]), (.func (.func 40) #[tr] #[]), (n : Int), 0, pv0, sv0, ps0, Ks0⟩ (w8.setCell ⟨W, 4, none⟩ (.slice (some ⟨g2, 0, none⟩) (ps.length + 1) cap)) ∧ Lps tv (j + 1) ps0 (fun _ => 1) ∧ Lks tv j Ks0 (fun i => ([(i, 0)], 0, 0)) ∧ Blk (w8.setCell ⟨W, 4, none⟩ (.slice (some ⟨g2, 0, none⟩) (ps.length + 1) cap)) F [.int .i64 (j : Int), .int .i64 0, .string (tv j 0)] 100 ∧ (∀ K ∈ Ks0, K.v.ownBlock ≠ some F) ∧ Blk (w8.setCell ⟨W, 4, none⟩ (.slice (some ⟨g2, 0, none⟩) (ps.length + 1) cap)) G [.int .i64 (j : Int), .int .i64 1, .string (tv j 1)] 100 ∧ F ≠ W ∧ G ≠ W ∧ w.heap.size ≤ F ∧ w.heap.size ≤ G ∧ Below w.heap.size w (w8.setCell ⟨W, 4, none⟩ (.slice (some ⟨g2, 0, none⟩) (ps.length + 1) cap)) from ⟨(.slice (some ⟨g2, 0, none⟩) (ps.length + 1) cap), sv, ps ++ [tv j 1], Ks, HIU.out.path_app HKU.out HOW.out HAT.out, H2.out.app, H3.out, blkY (blkY H4.out HK8.out HNF.out) (kept_set w8 ⟨W, 4, none⟩ _) H6.out, H5.out, blkY (blkY HG.out HK8.out HNG.out) (kept_set w8 ⟨W, 4, none⟩ _) HGW.out, H6.out, HGW.out, H7.out, HGL.out, (H8.out.trans (HK8.out.below (fun q e => (owns_loY HRO.out q e).1) HLO.out)).setCell (p := ⟨W, 4, none⟩) H1.out.low _⟩)
              refine wpAnyH_ready (rs := [11]) (by kernel_rfl) (by simp) ?_
              refine (AllReadyH.cons (o := ?o6) ?h6 (fun K hK => ?s6) AllReadyH.nil)
              case h6 => (simp only [List.getElem?_toArray, List.getElem?_cons_succ, List.getElem?_cons_zero]; rfl)
              case s6 =>
                go_simp
                clear c1 f1
                refine hK.out _ _ (HS9.out) (fun hHeld => ?_)
                clear hK K
                try simp only [Act.put, List.setIfInBounds_toArray, List.set_cons_zero, List.set_cons_succ]
                refine wpAnyH_done (by kernel_rfl) ?_ _
                clear hHeld
                go_wp2_with fail
                go_meet
                exact ⟨rfl, HFIN.out⟩
        case s2 =>
          go_simp
          obtain ⟨Bx, hBx⟩ : ∃ X, V2.heap.size = X := ⟨_, rfl⟩
          obtain ⟨U7, hU⟩ : ∃ Wk, V2.alloc (.cells #[.string (tv j 1)] 9) = Wk := ⟨_, rfl⟩
          have HB7 := hide (show Below V6.heap.size V6 U7 by rw [← hU]; exact HB0.out.alloc HB0.out.size _)
          have HBx := hide (show Blk U7 Bx [.string (tv j 1)] 9 by rw [← hU, ← hBx]; exact Blk.new V2 _ _)
          have HLBx := hide (show V6.heap.size ≤ Bx ∧ U7.heap.size = Bx + 1 by have := HB0.out.size; rw [← hU, World.size_alloc]; omega)
          rw [hU, hBx]
          clear hU hBx
          refine hK.out _ _ (HSF.out _ HB7.out) (fun hHeld => ?_)
          clear hK K
          try simp only [Act.put, List.setIfInBounds_toArray, List.set_cons_zero, List.set_cons_succ]
          refine wpAnyH_ready (rs := [4]) (by kernel_rfl) (by simp) ?_
          refine (AllReadyH.cons (o := ?o8) ?h8 (fun K hK => ?s8) AllReadyH.nil)
          case h8 => (simp only [List.getElem?_toArray, List.getElem?_cons_succ, List.getElem?_cons_zero]; rfl)
          case s8 =>
            have c0 : U7.cell? ⟨W, 4, none⟩ = some (pv) := HWC.out _ HB7.out
            go_simp
            clear c0
            refine hK.out _ _ (HSF.out _ HB7.out) (fun hHeld => ?_)
            clear hK K
            try simp only [Act.put, List.setIfInBounds_toArray, List.set_cons_zero, List.set_cons_succ]
            refine wpAnyH_ready (rs := [8]) (by kernel_rfl) (by simp) ?_
            refine (AllReadyH.cons (o := ?o9) ?h9 (fun K hK => ?s9) AllReadyH.nil)
            case h9 => (simp only [List.getElem?_toArray, List.getElem?_cons_succ, List.getElem?_cons_zero]; rfl)
            case s9 =>
              refine step_append_lies _ (by rfl) (.tmp 30) (.tmp 33) 50 (by rfl) w.heap.size 9 i1 (.string ⟨#[]⟩) 1 16 Tryz.underlying50 hi1 hy0 hy1 hy2 (by rfl) (by decide) (pv) (ps.length) (ps.map .string) (by rfl) (owns_kept HRO.out (Kept.of_below (F := fun _ => False) HB7.out) (fun _ _ e => e)) ⟨Bx, 0, none⟩ 1 1 [.string (tv j 1)] (by rfl) (by rfl) (fun j u h => by rw [Addr.add_mid, Nat.zero_add]; exact (HBx.out.cell j).trans h) (fun u hu => by simp at hu; first | (rcases hu with rfl | rfl | rfl <;> rfl) | (subst hu; rfl)) (by decide) N1.out N2.out (Nat.le_trans HLO.out HB7.out.size) (Bx + 1) HLBx.out.2 ?_
              intro g2 cap w8 hown hgrow hat hlt
              have HK8 := hide (Kept.grown (F := fun q => (pv).ownBlock = some q) (Kept.of_below HB7.out) hgrow (fun q e => .inl e))
              have HAT := hide (show ∀ q, (Value.slice (some ⟨g2, 0, none⟩) (ps.length + 1) cap).ownBlock = some q → (pv).ownBlock = some q ∨ U7.heap.size ≤ q by
                intro q e
                have e' : g2 = q := by simpa [Value.ownBlock] using e
                subst e'
                rcases hat with e | e
                · exact .inl e
                · have := HLBx.out; exact .inr (by omega))
              have HOW := hide hown
              have HKU := hide (kept_grown hgrow)
              have HIU := hide (H1.out.on HB7.out)
              clear hown hgrow hat hlt
              have HS8 := hide (HSK.out _ HK8.out)
              refine hK.out _ _ (HS8.out) (fun hHeld => ?_)
              clear hK K
              try simp only [Act.put, List.setIfInBounds_toArray, List.set_cons_zero, List.set_cons_succ]
              refine tk 9 hHeld (h := ?_)
              refine tk 10 hHeld (h := ?_)
              have c1 : w8.cell? ⟨W, 4, none⟩ = some (pv) := (HWB.out _ HK8.out).cell 4
              have f1 := (HWB.out _ HK8.out).free 4
              have HS9 := hide (HSW.out w8 (.slice (some ⟨g2, 0, none⟩) (ps.length + 1) cap) HS8.out)
              have HFIN := hide (show ∃ pv0 sv0 ps0 Ks0, Wk.In w.heap.size ⟨W, (.func (.func 39) #[tr] #[]), (.func (.func 40) #[tr] #[]), (n : Int), 0, pv0, sv0, ps0, Ks0⟩ (w8.setCell ⟨W, 4, none⟩ (.slice (some ⟨g2, 0, none⟩) (ps.length + 1) cap)) ∧ Lps tv (j + 1) ps0 (fun _ => 1) ∧ Lks tv j Ks0 (fun i => ([(i, 0)], 0, 0)) ∧ Blk (w8.setCell ⟨W, 4, none⟩ (.slice (some ⟨g2, 0, none⟩) (ps.length + 1) cap)) F [.int .i64 (j : Int), .int .i64 0, .string (tv j 0)] 100 ∧ (∀ K ∈ Ks0, K.v.ownBlock ≠ some F) ∧ Blk (w8.setCell ⟨W, 4, none⟩ (.slice (some ⟨g2, 0, none⟩) (ps.length + 1) cap)) G [.int .i64 (j : Int), .int .i64 1, .string (tv j 1)] 100 ∧ F ≠ W ∧ G ≠ W ∧ w.heap.size ≤ F ∧ w.heap.size ≤ G ∧ Below w.heap.size w (w8.setCell ⟨W, 4, none⟩ (.slice (some ⟨g2, 0, none⟩) (ps.length + 1) cap)) from ⟨(.slice (some ⟨g2, 0, none⟩) (ps.length + 1) cap), sv, ps ++ [tv j 1], Ks, HIU.out.path_app HKU.out HOW.out HAT.out, H2.out.app, H3.out, blkY (blkY H4.out HK8.out HNF.out) (kept_set w8 ⟨W, 4, none⟩ _) H6.out, H5.out, blkY (blkY HG.out HK8.out HNG.out) (kept_set w8 ⟨W, 4, none⟩ _) HGW.out, H6.out, HGW.out, H7.out, HGL.out, (H8.out.trans (HK8.out.below (fun q e => (owns_loY HRO.out q e).1) HLO.out)).setCell (p := ⟨W, 4, none⟩) H1.out.low _⟩)
              refine wpAnyH_ready (rs := [11]) (by kernel_rfl) (by simp) ?_
              refine (AllReadyH.cons (o := ?o10) ?h10 (fun K hK => ?s10) AllReadyH.nil)
              case h10 => (simp only [List.getElem?_toArray, List.getElem?_cons_succ, List.getElem?_cons_zero]; rfl)
              case s10 =>
                go_simp
                clear c1 f1
                refine hK.out _ _ (HS9.out) (fun hHeld => ?_)
                clear hK K
                try simp only [Act.put, List.setIfInBounds_toArray, List.set_cons_zero, List.set_cons_succ]
                refine wpAnyH_done (by kernel_rfl) ?_ _
                clear hHeld
                go_wp2_with fail
                go_meet
                exact ⟨rfl, HFIN.out⟩
      case rest =>
        obtain ⟨rfl, HM7⟩ := hcut
        clear HM6
        generalize wc = V6 at HM7 ⊢
        go_wp2_with fail
        go_cut [7] from 37 to 48 (fun x7 wx => x7 = .pointer (some ⟨W, 0, none⟩) ∧ Hid (∃ pv0 sv0 ps0 Ks0, Wk.In w.heap.size ⟨W, (.func (.func 39) #[tr] #[]), (.func (.func 40) #[tr] #[]), (n : Int), 0, pv0, sv0, ps0, Ks0⟩ wx ∧ Lps tv (j + 1) ps0 (fun _ => 1) ∧ Lks tv (j + 1) Ks0 (fun i => ([(i, 0)], 0, 0)) ∧ Blk wx F [.int .i64 (j : Int), .int .i64 0, .string (tv j 0)] 100 ∧ (∀ K ∈ Ks0, K.v.ownBlock ≠ some F) ∧ Blk wx G [.int .i64 (j : Int), .int .i64 1, .string (tv j 1)] 100 ∧ F ≠ W ∧ G ≠ W ∧ w.heap.size ≤ F ∧ w.heap.size ≤ G ∧ Below w.heap.size w wx))
        case first =>
          obtain ⟨pv, sv, ps, Ks, h1, h2, h3, h4, h5, hg, h6, hgw, h7, hgl, h8⟩ := HM7.out
          have H1 := hide h1
          have H2 := hide h2
          have H3 := hide h3
          have H4 := hide h4
          have H5 := hide h5
          have HG := hide hg
          have H6 := hide h6
          have HGW := hide hgw
          have H7 := hide h7
          have HGL := hide hgl
          have H8 := hide h8
          clear h1 h2 h3 h4 h5 hg h6 hgw h7 hgl h8 HM7
          have HRO := hide (H1.out.stks)
          have HNF := hide (show ¬ (sv).ownBlock = some F from owns_neY HRO.out H4.out (by decide))
          have HNG := hide (show ¬ (sv).ownBlock = some G from owns_neY HRO.out HG.out (by decide))
          have HNW := hide (show ¬ (sv).ownBlock = some W from owns_neY HRO.out H1.out.obj (by decide))
          have HPL := hide (fun q e => (owns_loY HRO.out q e).2)
          have HLO := hide (show w.heap.size ≤ V6.heap.size from H8.out.size)
          have hlen : Ks.length ≤ 4 := by have := H3.out.1; have := HT.out; omega
          have N1 : Hid (Ks.length + 1 ≤ maxLen) := by show _ ≤ _; unfold maxLen; omega
          have N2 : Hid ((Ks.length + 1) * 40 ≤ 140737488355328) := by show _ ≤ _; omega
          have HWB := hide (fun (V : World) (hk : Kept (fun q => (sv).ownBlock = some q) V6 V) => blkY H1.out.obj hk HNW.out)
          have HWC := hide (fun (V : World) (hb : Below V6.heap.size V6 V) => show V.cell? ⟨W, 5, none⟩ = some (sv) from (H1.out.obj.on hb).cell 5)
          clear hlen
          obtain ⟨i1, hi1, hy0, hy1, hy2⟩ := info_parts infoSk
          have HSF := hide (fun (V : World) (hb : Below V6.heap.size V6 V) => show V.cell? ⟨F, 0, none⟩ = some (.int .i64 (j : Int)) ∧ V.cell? ⟨F, 1, none⟩ = some (.int .i64 0) ∧ V.cell? ⟨F, 2, none⟩ = some (.string (tv j 0)) from ⟨(H4.out.on hb).cell 0, (H4.out.on hb).cell 1, (H4.out.on hb).cell 2⟩)
          have HSK := hide (fun (V : World) (hk : Kept (fun q => sv.ownBlock = some q) V6 V) => show V.cell? ⟨F, 0, none⟩ = some (.int .i64 (j : Int)) ∧ V.cell? ⟨F, 1, none⟩ = some (.int .i64 0) ∧ V.cell? ⟨F, 2, none⟩ = some (.string (tv j 0)) from ⟨(blkY H4.out hk HNF.out).cell 0, (blkY H4.out hk HNF.out).cell 1, (blkY H4.out hk HNF.out).cell 2⟩)
          have HSW := hide (fun (V : World) (v : Value) (h : V.cell? ⟨F, 0, none⟩ = some (.int .i64 (j : Int)) ∧ V.cell? ⟨F, 1, none⟩ = some (.int .i64 0) ∧ V.cell? ⟨F, 2, none⟩ = some (.string (tv j 0))) => show (V.setCell ⟨W, 5, none⟩ v).cell? ⟨F, 0, none⟩ = some (.int .i64 (j : Int)) ∧ (V.setCell ⟨W, 5, none⟩ v).cell? ⟨F, 1, none⟩ = some (.int .i64 0) ∧ (V.setCell ⟨W, 5, none⟩ v).cell? ⟨F, 2, none⟩ = some (.string (tv j 0)) from ⟨(World.cell?_of_block (Below.heap_setCell _ _ _ _ H6.out)).trans h.1, (World.cell?_of_block (Below.heap_setCell _ _ _ _ H6.out)).trans h.2.1, (World.cell?_of_block (Below.heap_setCell _ _ _ _ H6.out)).trans h.2.2⟩)
          refine wp_region_held_drew (S := fun V => V.cell? ⟨F, 0, none⟩ = some (.int .i64 (j : Int)) ∧ V.cell? ⟨F, 1, none⟩ = some (.int .i64 0) ∧ V.cell? ⟨F, 2, none⟩ = some (.string (tv j 0))) (by kernel_rfl) (HSF.out _ (Below.refl V6.heap.size V6).drew) (fun hHeld => ?_)
          have HB0 := hide ((Below.refl V6.heap.size V6).drew)
          generalize World.drew V6 = V2 at HB0 hHeld ⊢
          refine tk 0 hHeld (h := ?_)
          refine tk 1 hHeld (h := ?_)
          refine tk 2 hHeld (h := ?_)
          refine tk 3 hHeld (h := ?_)
          refine tk 5 hHeld (h := ?_)
          refine wpAnyH_ready (rs := [4, 6]) (by kernel_rfl) (by simp) ?_
          refine (AllReadyH.cons (o := ?o11) ?h11 (fun K hK => ?s11) (AllReadyH.cons (o := ?o12) ?h12 (fun K hK => ?s12) AllReadyH.nil))
          case h11 => (simp only [List.getElem?_toArray, List.getElem?_cons_succ, List.getElem?_cons_zero]; rfl)
          case h12 => (simp only [List.getElem?_toArray, List.getElem?_cons_succ, List.getElem?_cons_zero]; rfl)
          case s11 =>
            have c0 : V2.cell? ⟨W, 5, none⟩ = some (sv) := HWC.out _ HB0.out
            go_simp
            clear c0
            refine hK.out _ _ (HSF.out _ HB0.out) (fun hHeld => ?_)
            clear hK K
            try simp only [Act.put, List.setIfInBounds_toArray, List.set_cons_zero, List.set_cons_succ]
            refine wpAnyH_ready (rs := [6]) (by kernel_rfl) (by simp) ?_
            refine (AllReadyH.cons (o := ?o13) ?h13 (fun K hK => ?s13) AllReadyH.nil)
            case h13 => (simp only [List.getElem?_toArray, List.getElem?_cons_succ, List.getElem?_cons_zero]; rfl)
            case s13 =>
              go_simp
              obtain ⟨Rw, hRw⟩ : ∃ X, V2.heap.size = X := ⟨_, rfl⟩
              obtain ⟨U14, hU⟩ : ∃ Wk, V2.alloc (.cells #[.int .i64 (j : Int), .int .i64 0, .string (tv j 0)] 100) = Wk := ⟨_, rfl⟩
              have HB14 := hide (show Below V6.heap.size V6 U14 by rw [← hU]; exact HB0.out.alloc HB0.out.size _)
              have HRw := hide (show Blk U14 Rw [.int .i64 (j : Int), .int .i64 0, .string (tv j 0)] 100 by rw [← hU, ← hRw]; exact Blk.new V2 _ _)
              have HLRw := hide (show V6.heap.size ≤ Rw ∧ U14.heap.size = Rw + 1 by have := HB0.out.size; rw [← hU, World.size_alloc]; omega)
              rw [hU, hRw]
              clear hU hRw
              refine hK.out _ _ (HSF.out _ HB14.out) (fun hHeld => ?_)
              clear hK K
              try simp only [Act.put, List.setIfInBounds_toArray, List.set_cons_zero, List.set_cons_succ]
              refine tk 7 hHeld (h := ?_)
              refine wpAnyH_ready (rs := [8]) (by kernel_rfl) (by simp) ?_
              refine (AllReadyH.cons (o := ?o15) ?h15 (fun K hK => ?s15) AllReadyH.nil)
              case h15 => (simp only [List.getElem?_toArray, List.getElem?_cons_succ, List.getElem?_cons_zero]; rfl)
              case s15 =>
                go_simp
                obtain ⟨Bx, hBx⟩ : ∃ X, U14.heap.size = X := ⟨_, rfl⟩
                obtain ⟨U16, hU⟩ : ∃ Wk, U14.alloc (.cells #[.slice (some ⟨Rw, 0, none⟩) 1 1, .int .i64 0, .int .i64 0] 137) = Wk := ⟨_, rfl⟩
                have HB16 := hide (show Below V6.heap.size V6 U16 by rw [← hU]; exact HB14.out.alloc HB14.out.size _)
                have HBx := hide (show Blk U16 Bx [.slice (some ⟨Rw, 0, none⟩) 1 1, .int .i64 0, .int .i64 0] 137 by rw [← hU, ← hBx]; exact Blk.new U14 _ _)
                have HLBx := hide (show V6.heap.size ≤ Bx ∧ U16.heap.size = Bx + 1 by have := HB14.out.size; rw [← hU, World.size_alloc]; omega)
                have HRw := hide (show Blk U16 Rw [.int .i64 (j : Int), .int .i64 0, .string (tv j 0)] 100 by rw [← hU]; exact HRw.out.alloc _)
                rw [hU, hBx]
                clear hU hBx
                refine hK.out _ _ (HSF.out _ HB16.out) (fun hHeld => ?_)
                clear hK K
                try simp only [Act.put, List.setIfInBounds_toArray, List.set_cons_zero, List.set_cons_succ]
                refine wpAnyH_ready (rs := [9]) (by kernel_rfl) (by simp) ?_
                refine (AllReadyH.cons (o := ?o17) ?h17 (fun K hK => ?s17) AllReadyH.nil)
                case h17 => (simp only [List.getElem?_toArray, List.getElem?_cons_succ, List.getElem?_cons_zero]; rfl)
                case s17 =>
                  refine step_append_lies _ (by rfl) (.tmp 41) (.tmp 45) 132 (by rfl) w.heap.size 137 i1 (.agg #[.slice none 0 0, .int .i64 0, .int .i64 0]) 3 40 Tryz.underlying132 hi1 hy0 hy1 hy2 (by rfl) (by decide) (sv) (Ks.length) (Ks.flatMap StkR.cells) (by rfl) (owns_kept HRO.out (Kept.of_below (F := fun _ => False) HB16.out) (fun _ _ e => e)) ⟨Bx, 0, none⟩ 1 1 [.slice (some ⟨Rw, 0, none⟩) 1 1, .int .i64 0, .int .i64 0] (by rfl) (by rfl) (fun j u h => by rw [Addr.add_mid, Nat.zero_add]; exact (HBx.out.cell j).trans h) (fun u hu => by simp at hu; first | (rcases hu with rfl | rfl | rfl <;> rfl) | (subst hu; rfl)) (by decide) N1.out N2.out (Nat.le_trans HLO.out HB16.out.size) (Bx + 1) HLBx.out.2 ?_
                  intro g2 cap w8 hown hgrow hat hlt
                  have HK8 := hide (Kept.grown (F := fun q => (sv).ownBlock = some q) (Kept.of_below HB16.out) hgrow (fun q e => .inl e))
                  have HAT := hide (show ∀ q, (Value.slice (some ⟨g2, 0, none⟩) (Ks.length + 1) cap).ownBlock = some q → (sv).ownBlock = some q ∨ U16.heap.size ≤ q by
                    intro q e
                    have e' : g2 = q := by simpa [Value.ownBlock] using e
                    subst e'
                    rcases hat with e | e
                    · exact .inl e
                    · have := HLBx.out; exact .inr (by omega))
                  have HOW := hide hown
                  have HKU := hide (kept_grown hgrow)
                  have HIU := hide (H1.out.on HB16.out)
                  clear hown hgrow hat hlt
                  have HS8 := hide (HSK.out _ HK8.out)
                  refine hK.out _ _ (HS8.out) (fun hHeld => ?_)
                  clear hK K
                  try simp only [Act.put, List.setIfInBounds_toArray, List.set_cons_zero, List.set_cons_succ]
                  refine tk 10 hHeld (h := ?_)
                  refine tk 11 hHeld (h := ?_)
                  have c1 : w8.cell? ⟨W, 5, none⟩ = some (sv) := (HWB.out _ HK8.out).cell 5
                  have f1 := (HWB.out _ HK8.out).free 5
                  have HS9 := hide (HSW.out w8 (.slice (some ⟨g2, 0, none⟩) (Ks.length + 1) cap) HS8.out)
                  have HRR := hide (show U16.ownsRow w.heap.size 100 3 (⟨some ⟨Rw, 0, none⟩, 1, [(j, 0, tv j 0)], 0, 0⟩ : StkR).v 1 (nodC [(j, 0, tv j 0)]) from ⟨rfl, .inr ⟨Rw, 1, #[.int .i64 (j : Int), .int .i64 0, .string (tv j 0)], rfl, Nat.le_trans HLO.out HLRw.out.1, HRw.out, Nat.le_refl _, by decide, rfl, rfl⟩⟩)
                  have HRD := hide (show ∀ A ∈ Ks, ∀ q, A.v.ownBlock = some q → (⟨some ⟨Rw, 0, none⟩, 1, [(j, 0, tv j 0)], 0, 0⟩ : StkR).v.ownBlock ≠ some q from fun A hA q e e2 => by
                    have e3 : Rw = q := by simpa [StkR.v, Value.ownBlock] using e2
                    have := (owns_loY (H1.out.rows A hA) q e).2
                    have := HLRw.out.1
                    omega)
                  have HFIN := hide (show ∃ pv0 sv0 ps0 Ks0, Wk.In w.heap.size ⟨W, (.func (.func 39) #[tr] #[]), (.func (.func 40) #[tr] #[]), (n : Int), 0, pv0, sv0, ps0, Ks0⟩ (w8.setCell ⟨W, 5, none⟩ (.slice (some ⟨g2, 0, none⟩) (Ks.length + 1) cap)) ∧ Lps tv (j + 1) ps0 (fun _ => 1) ∧ Lks tv (j + 1) Ks0 (fun i => ([(i, 0)], 0, 0)) ∧ Blk (w8.setCell ⟨W, 5, none⟩ (.slice (some ⟨g2, 0, none⟩) (Ks.length + 1) cap)) F [.int .i64 (j : Int), .int .i64 0, .string (tv j 0)] 100 ∧ (∀ K ∈ Ks0, K.v.ownBlock ≠ some F) ∧ Blk (w8.setCell ⟨W, 5, none⟩ (.slice (some ⟨g2, 0, none⟩) (Ks.length + 1) cap)) G [.int .i64 (j : Int), .int .i64 1, .string (tv j 1)] 100 ∧ F ≠ W ∧ G ≠ W ∧ w.heap.size ≤ F ∧ w.heap.size ≤ G ∧ Below w.heap.size w (w8.setCell ⟨W, 5, none⟩ (.slice (some ⟨g2, 0, none⟩) (Ks.length + 1) cap)) from ⟨pv, (.slice (some ⟨g2, 0, none⟩) (Ks.length + 1) cap), ps, Ks ++ [(⟨some ⟨Rw, 0, none⟩, 1, [(j, 0, tv j 0)], 0, 0⟩ : StkR)], HIU.out.stk_app (K := (⟨some ⟨Rw, 0, none⟩, 1, [(j, 0, tv j 0)], 0, 0⟩ : StkR)) HKU.out HOW.out HAT.out HRR.out HRD.out, H2.out, H3.out.app ⟨rfl, rfl, rfl⟩, blkY (blkY H4.out HK8.out HNF.out) (kept_set w8 ⟨W, 5, none⟩ _) H6.out, fun A hA => by
                      rcases List.mem_append.1 hA with hA | hA
                      · exact H5.out A hA
                      · rw [List.mem_singleton] at hA
                        subst hA
                        intro e
                        have e3 : Rw = F := by simpa [StkR.v, Value.ownBlock] using e
                        have := H4.out.lt
                        have := HLRw.out.1
                        omega,
                      blkY (blkY HG.out HK8.out HNG.out) (kept_set w8 ⟨W, 5, none⟩ _) HGW.out, H6.out, HGW.out, H7.out, HGL.out, (H8.out.trans (HK8.out.below (fun q e => (owns_loY HRO.out q e).1) HLO.out)).setCell (p := ⟨W, 5, none⟩) H1.out.low _⟩)
                  refine wpAnyH_ready (rs := [12]) (by kernel_rfl) (by simp) ?_
                  refine (AllReadyH.cons (o := ?o18) ?h18 (fun K hK => ?s18) AllReadyH.nil)
                  case h18 => (simp only [List.getElem?_toArray, List.getElem?_cons_succ, List.getElem?_cons_zero]; rfl)
                  case s18 =>
                    go_simp
                    clear c1 f1
                    refine hK.out _ _ (HS9.out) (fun hHeld => ?_)
                    clear hK K
                    try simp only [Act.put, List.setIfInBounds_toArray, List.set_cons_zero, List.set_cons_succ]
                    refine wpAnyH_done (by kernel_rfl) ?_ _
                    clear hHeld
                    go_wp2_with fail
                    go_meet
                    exact ⟨rfl, HFIN.out⟩
          case s12 =>
            go_simp
            obtain ⟨Rw, hRw⟩ : ∃ X, V2.heap.size = X := ⟨_, rfl⟩
            obtain ⟨U19, hU⟩ : ∃ Wk, V2.alloc (.cells #[.int .i64 (j : Int), .int .i64 0, .string (tv j 0)] 100) = Wk := ⟨_, rfl⟩
            have HB19 := hide (show Below V6.heap.size V6 U19 by rw [← hU]; exact HB0.out.alloc HB0.out.size _)
            have HRw := hide (show Blk U19 Rw [.int .i64 (j : Int), .int .i64 0, .string (tv j 0)] 100 by rw [← hU, ← hRw]; exact Blk.new V2 _ _)
            have HLRw := hide (show V6.heap.size ≤ Rw ∧ U19.heap.size = Rw + 1 by have := HB0.out.size; rw [← hU, World.size_alloc]; omega)
            rw [hU, hRw]
            clear hU hRw
            refine hK.out _ _ (HSF.out _ HB19.out) (fun hHeld => ?_)
            clear hK K
            try simp only [Act.put, List.setIfInBounds_toArray, List.set_cons_zero, List.set_cons_succ]
            refine tk 7 hHeld (h := ?_)
            refine wpAnyH_ready (rs := [4, 8]) (by kernel_rfl) (by simp) ?_
            refine (AllReadyH.cons (o := ?o20) ?h20 (fun K hK => ?s20) (AllReadyH.cons (o := ?o21) ?h21 (fun K hK => ?s21) AllReadyH.nil))
            case h20 => (simp only [List.getElem?_toArray, List.getElem?_cons_succ, List.getElem?_cons_zero]; rfl)
            case h21 => (simp only [List.getElem?_toArray, List.getElem?_cons_succ, List.getElem?_cons_zero]; rfl)
            case s20 =>
              have c0 : U19.cell? ⟨W, 5, none⟩ = some (sv) := HWC.out _ HB19.out
              go_simp
              clear c0
              refine hK.out _ _ (HSF.out _ HB19.out) (fun hHeld => ?_)
              clear hK K
              try simp only [Act.put, List.setIfInBounds_toArray, List.set_cons_zero, List.set_cons_succ]
              refine wpAnyH_ready (rs := [8]) (by kernel_rfl) (by simp) ?_
              refine (AllReadyH.cons (o := ?o22) ?h22 (fun K hK => ?s22) AllReadyH.nil)
              case h22 => (simp only [List.getElem?_toArray, List.getElem?_cons_succ, List.getElem?_cons_zero]; rfl)
              case s22 =>
                go_simp
                obtain ⟨Bx, hBx⟩ : ∃ X, U19.heap.size = X := ⟨_, rfl⟩
                obtain ⟨U23, hU⟩ : ∃ Wk, U19.alloc (.cells #[.slice (some ⟨Rw, 0, none⟩) 1 1, .int .i64 0, .int .i64 0] 137) = Wk := ⟨_, rfl⟩
                have HB23 := hide (show Below V6.heap.size V6 U23 by rw [← hU]; exact HB19.out.alloc HB19.out.size _)
                have HBx := hide (show Blk U23 Bx [.slice (some ⟨Rw, 0, none⟩) 1 1, .int .i64 0, .int .i64 0] 137 by rw [← hU, ← hBx]; exact Blk.new U19 _ _)
                have HLBx := hide (show V6.heap.size ≤ Bx ∧ U23.heap.size = Bx + 1 by have := HB19.out.size; rw [← hU, World.size_alloc]; omega)
                have HRw := hide (show Blk U23 Rw [.int .i64 (j : Int), .int .i64 0, .string (tv j 0)] 100 by rw [← hU]; exact HRw.out.alloc _)
                rw [hU, hBx]
                clear hU hBx
                refine hK.out _ _ (HSF.out _ HB23.out) (fun hHeld => ?_)
                clear hK K
                try simp only [Act.put, List.setIfInBounds_toArray, List.set_cons_zero, List.set_cons_succ]
                refine wpAnyH_ready (rs := [9]) (by kernel_rfl) (by simp) ?_
                refine (AllReadyH.cons (o := ?o24) ?h24 (fun K hK => ?s24) AllReadyH.nil)
                case h24 => (simp only [List.getElem?_toArray, List.getElem?_cons_succ, List.getElem?_cons_zero]; rfl)
                case s24 =>
                  refine step_append_lies _ (by rfl) (.tmp 41) (.tmp 45) 132 (by rfl) w.heap.size 137 i1 (.agg #[.slice none 0 0, .int .i64 0, .int .i64 0]) 3 40 Tryz.underlying132 hi1 hy0 hy1 hy2 (by rfl) (by decide) (sv) (Ks.length) (Ks.flatMap StkR.cells) (by rfl) (owns_kept HRO.out (Kept.of_below (F := fun _ => False) HB23.out) (fun _ _ e => e)) ⟨Bx, 0, none⟩ 1 1 [.slice (some ⟨Rw, 0, none⟩) 1 1, .int .i64 0, .int .i64 0] (by rfl) (by rfl) (fun j u h => by rw [Addr.add_mid, Nat.zero_add]; exact (HBx.out.cell j).trans h) (fun u hu => by simp at hu; first | (rcases hu with rfl | rfl | rfl <;> rfl) | (subst hu; rfl)) (by decide) N1.out N2.out (Nat.le_trans HLO.out HB23.out.size) (Bx + 1) HLBx.out.2 ?_
                  intro g2 cap w8 hown hgrow hat hlt
                  have HK8 := hide (Kept.grown (F := fun q => (sv).ownBlock = some q) (Kept.of_below HB23.out) hgrow (fun q e => .inl e))
                  have HAT := hide (show ∀ q, (Value.slice (some ⟨g2, 0, none⟩) (Ks.length + 1) cap).ownBlock = some q → (sv).ownBlock = some q ∨ U23.heap.size ≤ q by
                    intro q e
                    have e' : g2 = q := by simpa [Value.ownBlock] using e
                    subst e'
                    rcases hat with e | e
                    · exact .inl e
                    · have := HLBx.out; exact .inr (by omega))
                  have HOW := hide hown
                  have HKU := hide (kept_grown hgrow)
                  have HIU := hide (H1.out.on HB23.out)
                  clear hown hgrow hat hlt
                  have HS8 := hide (HSK.out _ HK8.out)
                  refine hK.out _ _ (HS8.out) (fun hHeld => ?_)
                  clear hK K
                  try simp only [Act.put, List.setIfInBounds_toArray, List.set_cons_zero, List.set_cons_succ]
                  refine tk 10 hHeld (h := ?_)
                  refine tk 11 hHeld (h := ?_)
                  have c1 : w8.cell? ⟨W, 5, none⟩ = some (sv) := (HWB.out _ HK8.out).cell 5
                  have f1 := (HWB.out _ HK8.out).free 5
                  have HS9 := hide (HSW.out w8 (.slice (some ⟨g2, 0, none⟩) (Ks.length + 1) cap) HS8.out)
                  have HRR := hide (show U23.ownsRow w.heap.size 100 3 (⟨some ⟨Rw, 0, none⟩, 1, [(j, 0, tv j 0)], 0, 0⟩ : StkR).v 1 (nodC [(j, 0, tv j 0)]) from ⟨rfl, .inr ⟨Rw, 1, #[.int .i64 (j : Int), .int .i64 0, .string (tv j 0)], rfl, Nat.le_trans HLO.out HLRw.out.1, HRw.out, Nat.le_refl _, by decide, rfl, rfl⟩⟩)
                  have HRD := hide (show ∀ A ∈ Ks, ∀ q, A.v.ownBlock = some q → (⟨some ⟨Rw, 0, none⟩, 1, [(j, 0, tv j 0)], 0, 0⟩ : StkR).v.ownBlock ≠ some q from fun A hA q e e2 => by
                    have e3 : Rw = q := by simpa [StkR.v, Value.ownBlock] using e2
                    have := (owns_loY (H1.out.rows A hA) q e).2
                    have := HLRw.out.1
                    omega)
                  have HFIN := hide (show ∃ pv0 sv0 ps0 Ks0, Wk.In w.heap.size ⟨W, (.func (.func 39) #[tr] #[]), (.func (.func 40) #[tr] #[]), (n : Int), 0, pv0, sv0, ps0, Ks0⟩ (w8.setCell ⟨W, 5, none⟩ (.slice (some ⟨g2, 0, none⟩) (Ks.length + 1) cap)) ∧ Lps tv (j + 1) ps0 (fun _ => 1) ∧ Lks tv (j + 1) Ks0 (fun i => ([(i, 0)], 0, 0)) ∧ Blk (w8.setCell ⟨W, 5, none⟩ (.slice (some ⟨g2, 0, none⟩) (Ks.length + 1) cap)) F [.int .i64 (j : Int), .int .i64 0, .string (tv j 0)] 100 ∧ (∀ K ∈ Ks0, K.v.ownBlock ≠ some F) ∧ Blk (w8.setCell ⟨W, 5, none⟩ (.slice (some ⟨g2, 0, none⟩) (Ks.length + 1) cap)) G [.int .i64 (j : Int), .int .i64 1, .string (tv j 1)] 100 ∧ F ≠ W ∧ G ≠ W ∧ w.heap.size ≤ F ∧ w.heap.size ≤ G ∧ Below w.heap.size w (w8.setCell ⟨W, 5, none⟩ (.slice (some ⟨g2, 0, none⟩) (Ks.length + 1) cap)) from ⟨pv, (.slice (some ⟨g2, 0, none⟩) (Ks.length + 1) cap), ps, Ks ++ [(⟨some ⟨Rw, 0, none⟩, 1, [(j, 0, tv j 0)], 0, 0⟩ : StkR)], HIU.out.stk_app (K := (⟨some ⟨Rw, 0, none⟩, 1, [(j, 0, tv j 0)], 0, 0⟩ : StkR)) HKU.out HOW.out HAT.out HRR.out HRD.out, H2.out, H3.out.app ⟨rfl, rfl, rfl⟩, blkY (blkY H4.out HK8.out HNF.out) (kept_set w8 ⟨W, 5, none⟩ _) H6.out, fun A hA => by
                      rcases List.mem_append.1 hA with hA | hA
                      · exact H5.out A hA
                      · rw [List.mem_singleton] at hA
                        subst hA
                        intro e
                        have e3 : Rw = F := by simpa [StkR.v, Value.ownBlock] using e
                        have := H4.out.lt
                        have := HLRw.out.1
                        omega,
                      blkY (blkY HG.out HK8.out HNG.out) (kept_set w8 ⟨W, 5, none⟩ _) HGW.out, H6.out, HGW.out, H7.out, HGL.out, (H8.out.trans (HK8.out.below (fun q e => (owns_loY HRO.out q e).1) HLO.out)).setCell (p := ⟨W, 5, none⟩) H1.out.low _⟩)
                  refine wpAnyH_ready (rs := [12]) (by kernel_rfl) (by simp) ?_
                  refine (AllReadyH.cons (o := ?o25) ?h25 (fun K hK => ?s25) AllReadyH.nil)
                  case h25 => (simp only [List.getElem?_toArray, List.getElem?_cons_succ, List.getElem?_cons_zero]; rfl)
                  case s25 =>
                    go_simp
                    clear c1 f1
                    refine hK.out _ _ (HS9.out) (fun hHeld => ?_)
                    clear hK K
                    try simp only [Act.put, List.setIfInBounds_toArray, List.set_cons_zero, List.set_cons_succ]
                    refine wpAnyH_done (by kernel_rfl) ?_ _
                    clear hHeld
                    go_wp2_with fail
                    go_meet
                    exact ⟨rfl, HFIN.out⟩
            case s21 =>
              go_simp
              obtain ⟨Bx, hBx⟩ : ∃ X, U19.heap.size = X := ⟨_, rfl⟩
              obtain ⟨U26, hU⟩ : ∃ Wk, U19.alloc (.cells #[.slice (some ⟨Rw, 0, none⟩) 1 1, .int .i64 0, .int .i64 0] 137) = Wk := ⟨_, rfl⟩
              have HB26 := hide (show Below V6.heap.size V6 U26 by rw [← hU]; exact HB19.out.alloc HB19.out.size _)
              have HBx := hide (show Blk U26 Bx [.slice (some ⟨Rw, 0, none⟩) 1 1, .int .i64 0, .int .i64 0] 137 by rw [← hU, ← hBx]; exact Blk.new U19 _ _)
              have HLBx := hide (show V6.heap.size ≤ Bx ∧ U26.heap.size = Bx + 1 by have := HB19.out.size; rw [← hU, World.size_alloc]; omega)
              have HRw := hide (show Blk U26 Rw [.int .i64 (j : Int), .int .i64 0, .string (tv j 0)] 100 by rw [← hU]; exact HRw.out.alloc _)
              rw [hU, hBx]
              clear hU hBx
              refine hK.out _ _ (HSF.out _ HB26.out) (fun hHeld => ?_)
              clear hK K
              try simp only [Act.put, List.setIfInBounds_toArray, List.set_cons_zero, List.set_cons_succ]
              refine wpAnyH_ready (rs := [4]) (by kernel_rfl) (by simp) ?_
              refine (AllReadyH.cons (o := ?o27) ?h27 (fun K hK => ?s27) AllReadyH.nil)
              case h27 => (simp only [List.getElem?_toArray, List.getElem?_cons_succ, List.getElem?_cons_zero]; rfl)
              case s27 =>
                have c0 : U26.cell? ⟨W, 5, none⟩ = some (sv) := HWC.out _ HB26.out
                go_simp
                clear c0
                refine hK.out _ _ (HSF.out _ HB26.out) (fun hHeld => ?_)
                clear hK K
                try simp only [Act.put, List.setIfInBounds_toArray, List.set_cons_zero, List.set_cons_succ]
                refine wpAnyH_ready (rs := [9]) (by kernel_rfl) (by simp) ?_
                refine (AllReadyH.cons (o := ?o28) ?h28 (fun K hK => ?s28) AllReadyH.nil)
                case h28 => (simp only [List.getElem?_toArray, List.getElem?_cons_succ, List.getElem?_cons_zero]; rfl)
                case s28 =>
                  refine step_append_lies _ (by rfl) (.tmp 41) (.tmp 45) 132 (by rfl) w.heap.size 137 i1 (.agg #[.slice none 0 0, .int .i64 0, .int .i64 0]) 3 40 Tryz.underlying132 hi1 hy0 hy1 hy2 (by rfl) (by decide) (sv) (Ks.length) (Ks.flatMap StkR.cells) (by rfl) (owns_kept HRO.out (Kept.of_below (F := fun _ => False) HB26.out) (fun _ _ e => e)) ⟨Bx, 0, none⟩ 1 1 [.slice (some ⟨Rw, 0, none⟩) 1 1, .int .i64 0, .int .i64 0] (by rfl) (by rfl) (fun j u h => by rw [Addr.add_mid, Nat.zero_add]; exact (HBx.out.cell j).trans h) (fun u hu => by simp at hu; first | (rcases hu with rfl | rfl | rfl <;> rfl) | (subst hu; rfl)) (by decide) N1.out N2.out (Nat.le_trans HLO.out HB26.out.size) (Bx + 1) HLBx.out.2 ?_
                  intro g2 cap w8 hown hgrow hat hlt
                  have HK8 := hide (Kept.grown (F := fun q => (sv).ownBlock = some q) (Kept.of_below HB26.out) hgrow (fun q e => .inl e))
                  have HAT := hide (show ∀ q, (Value.slice (some ⟨g2, 0, none⟩) (Ks.length + 1) cap).ownBlock = some q → (sv).ownBlock = some q ∨ U26.heap.size ≤ q by
                    intro q e
                    have e' : g2 = q := by simpa [Value.ownBlock] using e
                    subst e'
                    rcases hat with e | e
                    · exact .inl e
                    · have := HLBx.out; exact .inr (by omega))
                  have HOW := hide hown
                  have HKU := hide (kept_grown hgrow)
                  have HIU := hide (H1.out.on HB26.out)
                  clear hown hgrow hat hlt
                  have HS8 := hide (HSK.out _ HK8.out)
                  refine hK.out _ _ (HS8.out) (fun hHeld => ?_)
                  clear hK K
                  try simp only [Act.put, List.setIfInBounds_toArray, List.set_cons_zero, List.set_cons_succ]
                  refine tk 10 hHeld (h := ?_)
                  refine tk 11 hHeld (h := ?_)
                  have c1 : w8.cell? ⟨W, 5, none⟩ = some (sv) := (HWB.out _ HK8.out).cell 5
                  have f1 := (HWB.out _ HK8.out).free 5
                  have HS9 := hide (HSW.out w8 (.slice (some ⟨g2, 0, none⟩) (Ks.length + 1) cap) HS8.out)
                  have HRR := hide (show U26.ownsRow w.heap.size 100 3 (⟨some ⟨Rw, 0, none⟩, 1, [(j, 0, tv j 0)], 0, 0⟩ : StkR).v 1 (nodC [(j, 0, tv j 0)]) from ⟨rfl, .inr ⟨Rw, 1, #[.int .i64 (j : Int), .int .i64 0, .string (tv j 0)], rfl, Nat.le_trans HLO.out HLRw.out.1, HRw.out, Nat.le_refl _, by decide, rfl, rfl⟩⟩)
                  have HRD := hide (show ∀ A ∈ Ks, ∀ q, A.v.ownBlock = some q → (⟨some ⟨Rw, 0, none⟩, 1, [(j, 0, tv j 0)], 0, 0⟩ : StkR).v.ownBlock ≠ some q from fun A hA q e e2 => by
                    have e3 : Rw = q := by simpa [StkR.v, Value.ownBlock] using e2
                    have := (owns_loY (H1.out.rows A hA) q e).2
                    have := HLRw.out.1
                    omega)
                  have HFIN := hide (show ∃ pv0 sv0 ps0 Ks0, Wk.In w.heap.size ⟨W, (.func (.func 39) #[tr] #[]), (.func (.func 40) #[tr] #[]), (n : Int), 0, pv0, sv0, ps0, Ks0⟩ (w8.setCell ⟨W, 5, none⟩ (.slice (some ⟨g2, 0, none⟩) (Ks.length + 1) cap)) ∧ Lps tv (j + 1) ps0 (fun _ => 1) ∧ Lks tv (j + 1) Ks0 (fun i => ([(i, 0)], 0, 0)) ∧ Blk (w8.setCell ⟨W, 5, none⟩ (.slice (some ⟨g2, 0, none⟩) (Ks.length + 1) cap)) F [.int .i64 (j : Int), .int .i64 0, .string (tv j 0)] 100 ∧ (∀ K ∈ Ks0, K.v.ownBlock ≠ some F) ∧ Blk (w8.setCell ⟨W, 5, none⟩ (.slice (some ⟨g2, 0, none⟩) (Ks.length + 1) cap)) G [.int .i64 (j : Int), .int .i64 1, .string (tv j 1)] 100 ∧ F ≠ W ∧ G ≠ W ∧ w.heap.size ≤ F ∧ w.heap.size ≤ G ∧ Below w.heap.size w (w8.setCell ⟨W, 5, none⟩ (.slice (some ⟨g2, 0, none⟩) (Ks.length + 1) cap)) from ⟨pv, (.slice (some ⟨g2, 0, none⟩) (Ks.length + 1) cap), ps, Ks ++ [(⟨some ⟨Rw, 0, none⟩, 1, [(j, 0, tv j 0)], 0, 0⟩ : StkR)], HIU.out.stk_app (K := (⟨some ⟨Rw, 0, none⟩, 1, [(j, 0, tv j 0)], 0, 0⟩ : StkR)) HKU.out HOW.out HAT.out HRR.out HRD.out, H2.out, H3.out.app ⟨rfl, rfl, rfl⟩, blkY (blkY H4.out HK8.out HNF.out) (kept_set w8 ⟨W, 5, none⟩ _) H6.out, fun A hA => by
                      rcases List.mem_append.1 hA with hA | hA
                      · exact H5.out A hA
                      · rw [List.mem_singleton] at hA
                        subst hA
                        intro e
                        have e3 : Rw = F := by simpa [StkR.v, Value.ownBlock] using e
                        have := H4.out.lt
                        have := HLRw.out.1
                        omega,
                      blkY (blkY HG.out HK8.out HNG.out) (kept_set w8 ⟨W, 5, none⟩ _) HGW.out, H6.out, HGW.out, H7.out, HGL.out, (H8.out.trans (HK8.out.below (fun q e => (owns_loY HRO.out q e).1) HLO.out)).setCell (p := ⟨W, 5, none⟩) H1.out.low _⟩)
                  refine wpAnyH_ready (rs := [12]) (by kernel_rfl) (by simp) ?_
                  refine (AllReadyH.cons (o := ?o29) ?h29 (fun K hK => ?s29) AllReadyH.nil)
                  case h29 => (simp only [List.getElem?_toArray, List.getElem?_cons_succ, List.getElem?_cons_zero]; rfl)
                  case s29 =>
                    go_simp
                    clear c1 f1
                    refine hK.out _ _ (HS9.out) (fun hHeld => ?_)
                    clear hK K
                    try simp only [Act.put, List.setIfInBounds_toArray, List.set_cons_zero, List.set_cons_succ]
                    refine wpAnyH_done (by kernel_rfl) ?_ _
                    clear hHeld
                    go_wp2_with fail
                    go_meet
                    exact ⟨rfl, HFIN.out⟩
        case rest =>
          obtain ⟨rfl, HM8⟩ := hcut
          generalize wc = V6 at HM8 ⊢
          obtain ⟨pv, sv, ps, Ks, h1, h2, h3, h4, h5, hg, h6, hgw, h7, hgl, h8⟩ := HM8.out
          have H1 := hide h1
          have H2 := hide h2
          have H3 := hide h3
          have H4 := hide h4
          have H5 := hide h5
          have H6 := hide h6
          have H7 := hide h7
          have H8 := hide h8
          have t2 : V6.cell? ⟨F, 2, none⟩ = some (.string (tv j 0)) := h4.cell 2
          have u2 : V6.cell? ⟨G, 2, none⟩ = some (.string (tv j 1)) := hg.cell 2
          have hen : ∀ (args : Array Value) (V : World), Sem.run Tryz.prog (callFunc 40 args) V = .ok (.enter 40 args) V := fun args V => enter_y _ _ Tryz.func40 (by kernel_rfl) (by kernel_rfl) args V
          have HJ9 := hide (show Calls Tryz.prog 40 #[tr, .int .i64 ((j : Int) + 1), .int .i64 0, .string (tv j 0), .string (tv j 1)] V6 fun e w' => e = .returned (.string (tv (j + 1) 0)) ∧ Below V6.heap.size V6 w' by
            have a := HJO.out j V6 h8
            rw [show jn (j + 1) 0 (tv j 0) (tv j 1) = tv (j + 1) 0 from HJN.out j] at a
            exact a)
          clear h1 h2 h3 h4 h5 hg h6 hgw h7 hgl h8 HM8 HM7
          go_wp2_with fail
          go_at_call 40
          refine HJ9.out.mono ?_
          rintro e w9 ⟨rfl, hb9⟩
          have HB9 := hide hb9
          have HF9 := hide (H4.out.on hb9)
          clear hb9 t2 u2 hen
          have t0 : w9.cell? ⟨F, 0, none⟩ = some (.int .i64 (j : Int)) := HF9.out.cell 0
          have f0 := HF9.out.free 0
          have t1 : w9.cell? ⟨F, 1, none⟩ = some (.int .i64 0) := HF9.out.cell 1
          have f1 := HF9.out.free 1
          have t2 : w9.cell? ⟨F, 2, none⟩ = some (.string (tv j 0)) := HF9.out.cell 2
          have f2 := HF9.out.free 2
          have HKF := hide (show Kept (fun q => q = F) w9 (((w9.setCell ⟨F, 0, none⟩ (.int .i64 ((j : Int) + 1))).setCell ⟨F, 1, none⟩ (.int .i64 0)).setCell ⟨F, 2, none⟩ (.string (tv (j + 1) 0))) from (((Kept.refl (fun q => q = F) w9).setCell (p := ⟨F, 0, none⟩) (.inl rfl) _).setCell (p := ⟨F, 1, none⟩) (.inl rfl) _).setCell (p := ⟨F, 2, none⟩) (.inl rfl) _)
          have HN9 := hide (show NewI w W F (.func (.func 39) #[tr] #[]) (.func (.func 40) #[tr] #[]) n tv (j + 1) (((w9.setCell ⟨F, 0, none⟩ (.int .i64 ((j : Int) + 1))).setCell ⟨F, 1, none⟩ (.int .i64 0)).setCell ⟨F, 2, none⟩ (.string (tv (j + 1) 0))) from ⟨pv, sv, ps, Ks, (H1.out.on HB9.out).kept HKF.out (fun q hq e => by
              subst e
              rcases hq with e | e | e | ⟨K, hK, e⟩
              · exact H6.out e
              · exact owns_neY H1.out.path H4.out (by decide) e
              · exact owns_neY H1.out.stks H4.out (by decide) e
              · exact H5.out K hK e), H2.out, H3.out, ((HF9.out.set 0 _).set 1 _).set 2 _, H5.out, H6.out, H7.out, (H8.out.trans (HB9.out.mono H8.out.size)).trans (HKF.out.below (fun q e => e ▸ H7.out) (Nat.le_trans H8.out.size HB9.out.size))⟩)
          go_wp2_with fail
          go_roundw
          case rel => exact ⟨j + 1, HJT.out, by go_num, HN9.out⟩
          case measure => have := HJT.out; simp [intOf]; omega
    · obtain rfl : T = j := by omega
      have HFI := hide hI.out
      clear hI hj hlt
      go_wp2_with fail
      go_ret
      exact ⟨W, F, rfl, HFI.out⟩
end Go.Proofs.YtgaoeoijdpdjiaaGreatDoor
