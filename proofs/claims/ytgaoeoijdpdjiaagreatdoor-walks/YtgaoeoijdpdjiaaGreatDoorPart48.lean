/-
  The document's stacks, by the leaf's number alone.
-/
import Derived.Test.YtgaoeoijdpdjiaaGreatDoorPart46
import Derived.Test.YtgaoeoijdpdjiaaGreatDoorPart5
import Derived.Test.YtgaoeoijdpdjiaaGreatDoorPart23
import Derived.Test.YtgaoeoijdpdjiaaGreatDoorPart4
namespace Go.Proofs.YtgaoeoijdpdjiaaGreatDoor
open Go.RowKit
set_option maxRecDepth 20000 in
set_option maxHeartbeats 8000000 in
theorem rstack_on (lo : Nat) (p0 p1 p2 p3 : Int) (ra : Option Addr) (rc T a h : Nat) (vs : List Value) (tv : Nat → Nat → ByteArray) (w : World) (hT : T ≤ 4) (ha : a < 2 ^ T) (hh : h < T) (hg : GrI lo w (.slice ra (T + 1) rc) vs (T + 1) T tv) :
    Calls Tryz.prog 195 #[.agg #[.int .i64 p0, .int .i64 p1, .int .i64 p2, .int .i64 p3, .slice ra (T + 1) rc], .int .i64 (a : Int), .int .i64 (h : Int)] w fun e w' => ∃ v, e = .returned v ∧ w'.ownsRow w.heap.size 100 3 v (skAt (2 ^ T) a h).1.length (nodC ((skAt (2 ^ T) a h).1.map (ndT tv))) ∧ Below w.heap.size w w' := by
  obtain ⟨i0, hi, hy0, hy1, hy2⟩ := info_parts infoNd
  obtain ⟨gr, rfl, hgr, hnode⟩ := hg.node (by omega)
  have hn16 : 2 ^ T ≤ 16 := Nat.le_trans (Nat.pow_le_pow_right (by decide) hT) (by decide)
  have hE8 : 2 ^ h ≤ 8 := Nat.le_trans (Nat.pow_le_pow_right (by decide) (show h ≤ 3 by omega)) (by decide)
  have hE1 : 1 ≤ 2 ^ h := Nat.one_le_two_pow
  have HSK := hide (rf_sk hT ha hh)
  have HLE := hide (rf_le hT ha hh)
  have HNODE := hide hnode
  have HGR := hide hgr
  have HFD := hide (show rfF a h = if a / 2 ^ h = 0 then 0 else if a / 2 ^ h % 2 = 1 then a / 2 ^ h * 2 ^ h + 2 * 2 ^ h else a / 2 ^ h * 2 ^ h from rfl)
  have HTD := hide (show rfT a h = if a / 2 ^ h = 0 then 2 ^ h else a - a / 2 ^ h * 2 ^ h + 1 from rfl)
  have HPW := hide (fun (c : Nat) (hc : c ≤ 4) (V : World) => power_any 2 c V (by decide) (by omega) (Nat.le_trans (Nat.pow_le_pow_right (by decide) hc) (by decide)) (by decide))
  have HPE := hide (HPW.out h (by omega))
  have hqE : a / 2 ^ h * 2 ^ h ≤ a := Nat.div_mul_le_self _ _
  have hdiv : Int.tdiv (a : Int) ((2 ^ h : Nat) : Int) = ((a / 2 ^ h : Nat) : Int) := by rw [Int.tdiv_eq_ediv_of_nonneg (by omega), Int.natCast_ediv]
  have hdv2 : Int.tdiv ((a / 2 ^ h * 2 ^ h : Nat) : Int) ((2 ^ h : Nat) : Int) = ((a / 2 ^ h : Nat) : Int) := by rw [Int.tdiv_eq_ediv_of_nonneg (by omega), ← Int.natCast_ediv, Nat.mul_div_cancel _ (by omega)]
  have hmul : ((a / 2 ^ h : Nat) : Int) * ((2 ^ h : Nat) : Int) = ((a / 2 ^ h * 2 ^ h : Nat) : Int) := (Int.natCast_mul _ _).symm
  have hq0 : a / 2 ^ h = 0 ↔ a / 2 ^ h * 2 ^ h = 0 := by
    constructor
    · intro e; rw [e, Nat.zero_mul]
    · intro e; rcases Nat.mul_eq_zero.1 e with e | e <;> omega
  clear hg hnode hgr
  generalize rfF a h = F at *
  generalize rfT a h = t0 at *
  generalize (skAt (2 ^ T) a h).1 = SK at *
  obtain ⟨n, hn⟩ : ∃ n, 2 ^ T = n := ⟨_, rfl⟩
  obtain ⟨E, hE⟩ : ∃ E, 2 ^ h = E := ⟨_, rfl⟩
  rw [hn] at ha hn16 HSK HLE
  rw [hE] at hE8 hE1 HFD HTD HPE hqE hdiv hdv2 hmul hq0
  obtain ⟨q, hq⟩ : ∃ q, a / E = q := ⟨_, rfl⟩
  rw [hq] at HFD HTD hqE hdiv hdv2 hmul hq0
  obtain ⟨s, hs⟩ : ∃ s, q * E = s := ⟨_, rfl⟩
  rw [hs] at HFD HTD hqE hdv2 hmul hq0
  have hq16 : q ≤ 16 := by rw [← hq]; exact Nat.le_trans (Nat.div_le_self _ _) (by omega)
  have hE0 : E ≠ 0 := by omega
  have HN := hide hn
  clear hq hs hn hE
  have HK := hide (And.intro hdiv (And.intro hdv2 (And.intro hmul hq0)))
  clear hdiv hdv2 hmul hq0
  obtain ⟨u, hu⟩ : ∃ u, a - s + 1 = u := ⟨_, rfl⟩
  rw [hu] at HTD
  obtain ⟨gi, ci, y0, hgi, -⟩ := HNODE.out 0 (by omega)
  rw [Nat.sub_zero, HN.out] at y0
  obtain ⟨W0, hW⟩ : ∃ W0, w.alloc (.cells #[.int .i64 p0, .int .i64 p1, .int .i64 p2, .int .i64 p3, .slice (some ⟨gr, 0, none⟩) (T + 1) rc] 246) = W0 := ⟨_, rfl⟩
  have HB0 := hide (show Below w.heap.size w W0 by subst hW; exact (Below.refl _ _).alloc (Nat.le_refl _) _)
  have HX := hide (show Blk W0 w.heap.size [.int .i64 p0, .int .i64 p1, .int .i64 p2, .int .i64 p3, .slice (some ⟨gr, 0, none⟩) (T + 1) rc] 246 by subst hW; exact Blk.new w _ _)
  have hz' : w.heap.size + 1 ≤ W0.heap.size := by subst hW; simp
  have x4 := HX.out.cell 4
  have z0 := (HB0.out.cell (p := ⟨gr, 0, none⟩) HGR.out).trans y0
  simp only [List.getElem?_cons_zero, List.getElem?_cons_succ] at x4
  have hTi : (0 : Int) < (T : Int) + 1 := by omega
  have HWE := hide hW
  have HQ16 := hide (And.intro hq16 hqE)
  have HUA := hide hu
  clear hW y0 hgi hqE
  have HNIL := hide (show ∀ V : World, V.ownsRow w.heap.size 100 3 (.slice none 0 0) ([] : List Hk).length (nodC (([] : List Hk).map (ndT tv))) from fun V => World.ownsRow_nil _ _ _ _)
  have hq0 := HK.out.2.2.2
  have HCASE : (q = 0 ∧ s = 0 ∧ F = s ∧ t0 = E ∧ ¬ n ≤ F) ∨ (s ≠ 0 ∧ q % 2 = 1 ∧ F = s + 2 * E ∧ n ≤ F) ∨ (s ≠ 0 ∧ q % 2 = 1 ∧ F = s + 2 * E ∧ t0 = u ∧ ¬ n ≤ F) ∨ (s ≠ 0 ∧ q % 2 ≠ 1 ∧ F = s ∧ t0 = u ∧ ¬ n ≤ F) := by
    have h1 := HFD.out
    have h2 := HTD.out
    have h3 := HQ16.out.2
    by_cases c0 : q = 0
    · have c1 := hq0.1 c0
      rw [if_pos c0] at h1 h2
      exact .inl ⟨c0, c1, by omega, h2, by omega⟩
    · have c1 : s ≠ 0 := fun e => c0 (hq0.2 e)
      rw [if_neg c0] at h1 h2
      by_cases c2 : q % 2 = 1
      · rw [if_pos c2] at h1
        by_cases hn : n ≤ F
        · exact .inr (.inl ⟨c1, c2, h1, hn⟩)
        · exact .inr (.inr (.inl ⟨c1, c2, h1, h2, hn⟩))
      · rw [if_neg c2] at h1
        exact .inr (.inr (.inr ⟨c1, c2, h1, h2, by omega⟩))
  clear hq0 hq16 HFD HTD
  have hqE := HQ16.out.2
  rcases HCASE with ⟨c0, c1, FE, TE, hFn⟩ | ⟨c1, c2, FE, hFn⟩ | ⟨c1, c2, FE, TE, hFn⟩ | ⟨c1, c2, FE, TE, hFn⟩
  case inr.inl =>
    have e1 : ((s : Int) == 0) = false := beq_eq_false_iff_ne.2 (by omega)
    have e2 : (((q % 2 : Nat) : Int) == 1) = true := by rw [c2]; rfl
    have e3 : (n : Int) ≤ (s : Int) + 2 * (E : Int) := by omega
    have HE := hide (show SK = [] by have := HSK.out; rw [if_pos hFn] at this; exact this)
    clear c1 c2 hFn FE HSK HLE
    have d8 := tmod_two q
    obtain ⟨hdiv, hdv2, hmul, -⟩ := HK.out
    obtain ⟨b1, b2⟩ := HQ16.out
    try generalize q % 2 = r2 at *
    go_enter Tryz.func195, Tryz.ntmps195
    go_wp2_with fail
    rw [HWE.out]
    refine (HPE.out _).mono ?_
    rintro e w1 ⟨rfl, hw1⟩
    obtain rfl := hw1.symm
    clear hw1
    go_wp2_with fail
    go_ret
    exact ⟨_, rfl, by rw [HE.out]; exact HNIL.out _, HB0.out⟩
  case' inl =>
    have e1 : ((s : Int) == 0) = true := by rw [c1]; rfl
    have e3 : ¬ (n : Int) ≤ (s : Int) := by omega
    have e4 : decide ((n : Int) ≤ (s : Int)) = false := decide_eq_false e3
    have e5 : decide (n ≤ s) = false := decide_eq_false (by omega)
    have HST := hide (show (s : Int) = (F : Int) ∧ (E : Int) = (t0 : Int) from ⟨by omega, by omega⟩)
    clear c0
  case' inr.inr.inl =>
    have e1 : ((s : Int) == 0) = false := beq_eq_false_iff_ne.2 (by omega)
    have e2 : (((q % 2 : Nat) : Int) == 1) = true := by rw [c2]; rfl
    have e3 : ¬ (n : Int) ≤ (s : Int) + 2 * (E : Int) := by omega
    have e4 : decide ((n : Int) ≤ (s : Int) + 2 * (E : Int)) = false := decide_eq_false e3
    have HST := hide (show (s : Int) + 2 * (E : Int) = (F : Int) ∧ (a : Int) - (s : Int) + 1 = (t0 : Int) from ⟨by omega, by omega⟩)
    clear c2
  case' inr.inr.inr =>
    have e1 : ((s : Int) == 0) = false := beq_eq_false_iff_ne.2 (by omega)
    have e2 : (((q % 2 : Nat) : Int) == 1) = false := beq_eq_false_iff_ne.2 (by omega)
    have e3 : ¬ (n : Int) ≤ (s : Int) := by have := HQ16.out.2; omega
    have e4 : decide ((n : Int) ≤ (s : Int)) = false := decide_eq_false e3
    have e5 : decide (n ≤ s) = false := decide_eq_false (by omega)
    have HST := hide (show (s : Int) = (F : Int) ∧ (a : Int) - (s : Int) + 1 = (t0 : Int) from ⟨by omega, by omega⟩)
    clear c2
  all_goals
    have HSB := hide (show SK = binH F t0 h by have := HSK.out; rw [if_neg hFn] at this; exact this)
    have HFT := hide (HLE.out hFn)
    have HN16 := hide hn16
    clear c1 hFn FE TE HSK HLE
    have d8 := tmod_two q
    obtain ⟨hdiv, hdv2, hmul, -⟩ := HK.out
    obtain ⟨b1, b2⟩ := HQ16.out
    try generalize q % 2 = r2 at *
    go_enter Tryz.func195, Tryz.ntmps195
    go_wp2_with fail
    rw [HWE.out]
    refine (HPE.out _).mono ?_
    rintro e w1 ⟨rfl, hw1⟩
    obtain rfl := hw1.symm
    clear hw1
    go_wp2_with fail
    clear hdiv hdv2 hmul b1 b2 d8 e1 e3 e4 x4 z0 hE8 hE1 hn16
    try clear e2
    try clear e5
    go_loopw [9, 10, 11, 12, 13] (fun fv tv' l k sz wr => ∃ (kk f t : Nat) (D : List Hk) (la : Option Addr) (lc : Nat), kk ≤ h + 1 ∧ l = .slice la D.length lc ∧ fv = .int .i64 (f : Int) ∧ tv' = .int .i64 (t : Int) ∧ k = .int .i64 ((kk : Int) - 1) ∧ Hid (D ++ restH f t kk = binH F t0 h) ∧ f + t ≤ n ∧ Hid (wr.ownsRow (w.heap.size + 1) 100 3 l D.length (nodC (D.map (ndT tv)))) ∧ Hid (Below (w.heap.size + 1) W0 wr) ∧ w.heap.size + 1 ≤ wr.heap.size ∧ D.length + kk ≤ h + 1) (fun _ _ _ k _ _ => (intOf k + 1).toNat)
    case atStart => exact ⟨h + 1, F, t0, [], none, 0, Nat.le_refl _, rfl, by rw [← HST.out.1], by rw [← HST.out.2], congrArg (Value.int .i64) (by omega), rfl, HFT.out, World.ownsRow_nil _ _ _ _, Below.refl _ _, hz', by simp⟩
    case round =>
      obtain ⟨kk, f, t, D, la, lc, hkk, rfl, rfl, rfl, rfl, hD, hft, ho, hb, hzr, hDl⟩ := hrel
      cases kk with
      | zero =>
        have k1 : ¬ (0 : Int) ≤ ((0 : Nat) : Int) - 1 := by omega
        have k2 : decide ((0 : Int) ≤ ((0 : Nat) : Int) - 1) = false := decide_eq_false k1
        have HOE := hide (show wr.ownsRow w.heap.size 100 3 _ SK.length (nodC (SK.map (ndT tv))) by
          have h1 := hD.out
          rw [restH, List.append_nil, ← HSB.out] at h1
          rw [← h1]
          exact owns_lower' ho.out (Nat.le_succ _))
        have HBE := hide (HB0.out.trans (hb.out.mono (by omega)))
        clear ho hb hD
        go_wp2_with fail
        go_ret
        exact ⟨_, rfl, HOE.out, HBE.out⟩
      | succ c =>
        have hkc : ((c + 1 : Nat) : Int) - 1 = (c : Int) := by omega
        rw [hkc]
        have k1 : (0 : Int) ≤ (c : Int) := by omega
        have k3 : (c : Int) < (T : Int) + 1 := by omega
        have HPC := hide (HPW.out c (by omega) wr)
        have HND := hide (HNODE.out c (by omega))
        have HRS := hide (restH_step f t c)
        have HMF := hide (show 2 ^ c ≤ t → f / 2 ^ c < 2 ^ (T - c) from fun hp => Nat.div_lt_of_lt_mul (by rw [← Nat.pow_add, show c + (T - c) = T by omega, HN.out]; have : 1 ≤ 2 ^ c := Nat.one_le_two_pow; omega))
        have hP8 : 2 ^ c ≤ 8 := Nat.le_trans (Nat.pow_le_pow_right (by decide) (show c ≤ 3 by omega)) (by decide)
        have hP1 : 1 ≤ 2 ^ c := Nat.one_le_two_pow
        have hn16 := HN16.out
        generalize 2 ^ c = P at *
        generalize 2 ^ (T - c) = N at *
        have HKC := hide hkc
        clear hkc
        by_cases hP : P ≤ t
        · have hPi : (P : Int) ≤ (t : Int) := by omega
          obtain ⟨gi, ci, y0, hgi, hy⟩ := HND.out
          have hfN := HMF.out hP
          obtain ⟨fq, hfq⟩ : ∃ fq, f / P = fq := ⟨_, rfl⟩
          have hdf : Int.tdiv (f : Int) (P : Int) = (fq : Int) := by rw [Int.tdiv_eq_ediv_of_nonneg (by omega), ← hfq, Int.natCast_ediv]
          rw [hfq] at hfN HRS
          have hfn : (fq : Int) < (N : Int) := by omega
          have hwf : IntKind.i64.wrap (fq : Int) = (fq : Int) := by rw [IntKind.wrap_i64] <;> (have := Nat.div_le_self f P; omega)
          have hP0 : P ≠ 0 := by omega
          have HYQ := hide (hy fq hfN)
          generalize hyv : tv c fq = y at HYQ
          have HYV := hide hyv
          have HTS := hide (fun (V : World) (hV : Below (w.heap.size + 1) W0 V) => (⟨(HX.out.below hV (Nat.lt_succ_self _)).cell 4, ((HB0.out.trans (hV.mono (Nat.le_succ _))).cell (p := ⟨gr, c, none⟩) HGR.out).trans y0, ((HB0.out.trans (hV.mono (Nat.le_succ _))).cell (p := ⟨gi, fq, none⟩) hgi).trans HYQ.out⟩ : V.cell? ⟨w.heap.size, 4, none⟩ = some (.slice (some ⟨gr, 0, none⟩) (T + 1) rc) ∧ V.cell? ⟨gr, c, none⟩ = some (.slice (some ⟨gi, 0, none⟩) N ci) ∧ V.cell? ⟨gi, fq, none⟩ = some (.string y)))
          obtain ⟨m, hm⟩ : ∃ m, D.length = m := ⟨_, rfl⟩
          rw [hm] at ho hDl ⊢
          have HSN := hide (show nodC ((D ++ [(c, fq)]).map (ndT tv)) = nodC (D.map (ndT tv)) ++ [.int .i64 (c : Int), .int .i64 (fq : Int), .string y] by
            rw [List.map_append, List.map_cons, List.map_nil, nodC_snoc]
            show _ ++ [_, _, Value.string (tv c fq)] = _
            rw [hyv]
            rfl)
          have HM := hide hm
          have N1 : Hid (m + 1 ≤ maxLen) := by show _ ≤ _; unfold maxLen; omega
          have N2 : Hid ((m + 1) * 32 ≤ 140737488355328) := by show _ ≤ _; omega
          have HFQ := hide hfq
          clear hyv hy y0 hgi hm hfq hfN
          go_wp2_with fail
          refine HPC.out.mono ?_
          rintro e w2 ⟨rfl, hw2⟩
          obtain rfl := hw2.symm
          clear hw2 HPC
          go_wp2_with fail
          refine wp_region_held_drew (S := fun V => V.cell? ⟨w.heap.size, 4, none⟩ = some (.slice (some ⟨gr, 0, none⟩) (T + 1) rc) ∧ V.cell? ⟨gr, c, none⟩ = some (.slice (some ⟨gi, 0, none⟩) N ci) ∧ V.cell? ⟨gi, fq, none⟩ = some (.string y)) (by kernel_rfl) (HTS.out _ hb.out.drew) (fun hHeld => ?_)
          refine tk 0 hHeld (h := ?_)
          refine tk 1 hHeld (h := ?_)
          refine tk 2 hHeld (h := ?_)
          refine tk 3 hHeld (h := ?_)
          refine tk 4 hHeld (h := ?_)
          refine tk 5 hHeld (h := ?_)
          refine tk 6 hHeld (h := ?_)
          refine tk 7 hHeld (h := ?_)
          refine tk 8 hHeld (h := ?_)
          refine tk 9 hHeld (h := ?_)
          refine tk 10 hHeld (h := ?_)
          refine tk 11 hHeld (h := ?_)
          refine tk 12 hHeld (h := ?_)
          refine tk 13 hHeld (h := ?_)
          refine tk 14 hHeld (h := ?_)
          refine tk 15 hHeld (h := ?_)
          have HB2 := hide hb.out.drew
          have HO2 := hide (owns_kept ho.out (Kept.of_below (F := fun _ => False) (Below.refl _ wr).drew) (fun _ _ e => e))
          have hz2 : w.heap.size + 1 ≤ wr.drew.heap.size := hzr
          generalize World.drew wr = V2 at HB2 HO2 hHeld hz2 ⊢
          refine wpAnyH_ready (rs := [16]) (by kernel_rfl) (by simp) ?_
          refine AllReadyH.cons (by (simp only [List.getElem?_toArray, List.getElem?_cons_succ, List.getElem?_cons_zero]; rfl)) (fun K hK => ?_) AllReadyH.nil
          go_simp
          obtain ⟨W1, hW1⟩ : ∃ W1, V2.alloc (.cells #[.int .i64 (c : Int), .int .i64 (fq : Int), .string y] 100) = W1 := ⟨_, rfl⟩
          have HNW := hide (show ∀ j u, [.int .i64 (c : Int), .int .i64 (fq : Int), .string y][j]? = some u → W1.cell? ((⟨V2.heap.size, 0, none⟩ : Addr).add j) = some u by rw [← hW1]; intro j u h; rw [Addr.add_mid, Nat.zero_add]; exact ((Blk.new V2 [.int .i64 (c : Int), .int .i64 (fq : Int), .string y] 100).cell j).trans h)
          have HZ := hide (show W1.heap.size = V2.heap.size + 1 by rw [← hW1]; exact World.size_alloc _ _)
          have HB3 := hide (show Below (w.heap.size + 1) W0 W1 by rw [← hW1]; exact HB2.out.alloc hz2 _)
          have HO3 := hide (show W1.ownsRow (w.heap.size + 1) 100 3 (.slice la m lc) m (nodC (D.map (ndT tv))) by rw [← hW1]; exact HO2.out.alloc _)
          rw [hW1]
          clear hW1
          refine hK.out _ _ (HTS.out _ HB3.out) (fun hHeld => ?_)
          clear hK K
          try simp only [Act.put, List.setIfInBounds_toArray, List.set_cons_zero, List.set_cons_succ]
          refine wpAnyH_ready (rs := [17]) (by kernel_rfl) (by simp) ?_
          refine AllReadyH.cons (by (simp only [List.getElem?_toArray, List.getElem?_cons_succ, List.getElem?_cons_zero]; rfl)) (fun K hK => ?_) AllReadyH.nil
          refine step_append_lies _ (by rfl) (.tmp 56) (.tmp 72) 96 (by rfl) (w.heap.size + 1) 100 i0 (.agg #[.int .i64 0, .int .i64 0, .string ⟨#[]⟩]) 3 32 Tryz.underlying96 hi hy0 hy1 hy2 (by rfl) (by decide) (.slice la m lc) m (nodC (D.map (ndT tv))) (by rfl) HO3.out ⟨V2.heap.size, 0, none⟩ 1 1 [.int .i64 (c : Int), .int .i64 (fq : Int), .string y] (by rfl) (by rfl) HNW.out (fun u hu => by simp at hu; rcases hu with rfl | rfl | rfl <;> rfl) (by decide) N1.out N2.out (by have := HZ.out; omega) (V2.heap.size + 1) HZ.out ?_
          intro g2 cap w8 hown hgrow hat hlt
          have HB8 := hide (HB3.out.grown hgrow (by have := HZ.out; omega) (fun q hq => (row_blkZ HO3.out hq).1))
          have hz8 : w.heap.size + 1 ≤ w8.heap.size := by have := hgrow.size; have := HZ.out; omega
          have HO8 : Hid (w8.ownsRow (w.heap.size + 1) 100 3 (.slice (some ⟨g2, 0, none⟩) (m + 1) cap) (m + 1) (nodC ((D ++ [(c, fq)]).map (ndT tv)))) := by
            show w8.ownsRow (w.heap.size + 1) 100 3 (.slice (some ⟨g2, 0, none⟩) (m + 1) cap) (m + 1) (nodC ((D ++ [(c, fq)]).map (ndT tv)))
            rw [HSN.out]
            exact hown
          clear hown hgrow hat hlt HB3 HO3 HO2 HB2 HNW HZ hz2 ho hb hzr
          refine hK.out _ _ (HTS.out _ HB8.out) (fun hHeld => ?_)
          clear hK K
          try simp only [Act.put, List.setIfInBounds_toArray, List.set_cons_zero, List.set_cons_succ]
          refine tk 18 hHeld (h := ?_)
          refine wpAnyH_done (by kernel_rfl) ?_ _
          clear hdf hwf hfn
          have HDN : Hid (D ++ [(c, fq)] ++ restH (f + P) (t - P) c = binH F t0 h) := by
            have h1 := hD.out
            rw [HRS.out, if_pos hP] at h1
            show D ++ [(c, fq)] ++ restH (f + P) (t - P) c = binH F t0 h
            rw [List.append_assoc]
            exact h1
          have HLN := hide (show (D ++ [(c, fq)]).length = m + 1 by rw [List.length_append, HM.out]; rfl)
          go_wp2_with fail
          go_roundw
          case rel =>
            have R : ∃ (kk f' t' : Nat) (D' : List Hk) (la' : Option Addr) (lc' : Nat), kk ≤ h + 1 ∧ Value.slice (some ⟨g2, 0, none⟩) (m + 1) cap = .slice la' D'.length lc' ∧ Value.int .i64 ((f : Int) + (P : Int)) = .int .i64 (f' : Int) ∧ Value.int .i64 ((t : Int) - (P : Int)) = .int .i64 (t' : Int) ∧ Value.int .i64 ((c : Int) - 1) = .int .i64 ((kk : Int) - 1) ∧ Hid (D' ++ restH f' t' kk = binH F t0 h) ∧ f' + t' ≤ n ∧ Hid (w8.ownsRow (w.heap.size + 1) 100 3 (Value.slice (some ⟨g2, 0, none⟩) (m + 1) cap) D'.length (nodC (D'.map (ndT tv)))) ∧ Hid (Below (w.heap.size + 1) W0 w8) ∧ w.heap.size + 1 ≤ w8.heap.size ∧ D'.length + kk ≤ h + 1 := ⟨c, f + P, t - P, D ++ [(c, fq)], some ⟨g2, 0, none⟩, cap, by omega, by rw [HLN.out], congrArg _ (by omega), congrArg _ (by omega), rfl, HDN, by omega, by rw [HLN.out]; exact HO8, HB8, hz8, by rw [HLN.out]; omega⟩
            first | exact R | ((repeat apply Exists.intro); exact ⟨R, rfl⟩)
          case measure => simp [intOf]
        · have hPi : ¬ (P : Int) ≤ (t : Int) := by omega
          have hPd : decide ((P : Int) ≤ (t : Int)) = false := decide_eq_false hPi
          clear HND HMF
          go_wp2_with fail
          refine HPC.out.mono ?_
          rintro e w2 ⟨rfl, hw2⟩
          obtain rfl := hw2.symm
          clear hw2 HPC
          have HDN : Hid (D ++ restH f t c = binH F t0 h) := by
            have h1 := hD.out
            rw [HRS.out, if_neg hP] at h1
            exact h1
          go_wp2_with fail
          go_roundw
          case rel =>
            have R : ∃ (kk f' t' : Nat) (D' : List Hk) (la' : Option Addr) (lc' : Nat), kk ≤ h + 1 ∧ Value.slice la D.length lc = .slice la' D'.length lc' ∧ Value.int .i64 (f : Int) = .int .i64 (f' : Int) ∧ Value.int .i64 (t : Int) = .int .i64 (t' : Int) ∧ Value.int .i64 ((c : Int) - 1) = .int .i64 ((kk : Int) - 1) ∧ Hid (D' ++ restH f' t' kk = binH F t0 h) ∧ f' + t' ≤ n ∧ Hid (wr.ownsRow (w.heap.size + 1) 100 3 (Value.slice la D.length lc) D'.length (nodC (D'.map (ndT tv)))) ∧ Hid (Below (w.heap.size + 1) W0 wr) ∧ w.heap.size + 1 ≤ wr.heap.size ∧ D'.length + kk ≤ h + 1 := ⟨c, f, t, D, la, lc, by omega, rfl, rfl, rfl, rfl, HDN, hft, ho, hb, hzr, by omega⟩
            first | exact R | ((repeat apply Exists.intro); exact ⟨R, rfl⟩)
          case measure => simp [intOf]
end Go.Proofs.YtgaoeoijdpdjiaaGreatDoor
