/-
  The document's own fold.
-/
import Derived.Test.YtgaoeoijdpdjiaaGreatDoorPart19
import Derived.Test.YtgaoeoijdpdjiaaGreatDoorPart18
namespace Go.Proofs.YtgaoeoijdpdjiaaGreatDoor
open Go.RowKit
/-- The first q pairs of a round. -/
def halfS (k b : Int) (pub : ByteArray) (p0 p1 p2 r : Int) (xs : List ByteArray) (q : Nat) : List ByteArray := (List.range q).map (fun q => pv k b pub p0 p1 p2 r xs q q)
theorem halfS_succ (k b : Int) (pub : ByteArray) (p0 p1 p2 r : Int) (xs : List ByteArray) (q : Nat) : halfS k b pub p0 p1 p2 r xs (q + 1) = halfS k b pub p0 p1 p2 r xs q ++ [pv k b pub p0 p1 p2 r xs q q] := by simp [halfS, List.range_succ]
theorem halfS_all (k b : Int) (pub : ByteArray) (p0 p1 p2 r : Int) (xs : List ByteArray) : halfS k b pub p0 p1 p2 r xs ((xs.length + 1) / 2) = roundS k b pub p0 p1 p2 r xs := rfl
set_option maxRecDepth 20000 in
set_option maxHeartbeats 8000000 in
theorem rfold_any (k x t l p0 p1 p2 p3 : Int) (b : Nat) (pub : ByteArray) (hk : k = 1 ∨ k = 2) (h1 : 1 ≤ b) (h2 : b ≤ 16) (hs : pub.size ≤ 16) (q0 : 0 ≤ p0 ∧ p0 ≤ 100000) (q1 : 0 ≤ p1 ∧ p1 ≤ 100000) (q2 : 0 ≤ p2 ∧ p2 ≤ 100000) : ∀ (f : Nat) (r : Nat) (g o c : Nat) (xs : List ByteArray) (w : World) (_ : r + f ≤ 100) (_ : ∀ (j : Nat) y, xs[j]? = some y → w.cell? ⟨g, o + j, none⟩ = some (.string y)) (_ : g < w.heap.size) (_ : xs.length ≤ c) (_ : 1 ≤ xs.length) (_ : xs.length ≤ 2 ^ f) (_ : xs.length ≤ 64) (_ : ∀ y ∈ xs, (y.size : Int) = b),
    Calls Tryz.prog 167 #[.agg #[.int .i64 k, .int .i64 b, .int .i64 x, .int .i64 t, .int .i64 l], .string pub, .agg #[.int .i64 p0, .int .i64 p1, .int .i64 p2, .int .i64 p3], .int .i64 r, .slice (some ⟨g, o, none⟩) xs.length c] w fun e w' => e = .returned (.string (foldS k b pub p0 p1 p2 f r xs)) ∧ Below w.heap.size w w' := by
  intro f
  induction f with
  | zero =>
    intro r g o c xs w _ hce hg hc hx1 hxf _ _
    obtain ⟨y, rfl⟩ : ∃ y, xs = [y] := List.length_eq_one_iff.1 (by simp at hxf; omega)
    have c0 : ∀ o1 o2, ((w.alloc o1).alloc o2).cell? ⟨g, o, none⟩ = some (.string y) := fun o1 o2 => (World.cell?_alloc_past _ _ _ (by simp; omega)).trans ((World.cell?_alloc_past _ _ _ hg).trans (hce 0 y rfl))
    go_enter Tryz.func167, Tryz.ntmps167
    go_wp2
    go_ret
    exact ⟨rfl, ((Below.refl _ _).alloc (Nat.le_refl _) _).alloc (by simp) _⟩
  | succ f ih =>
    intro r g o c xs w hr hce hg hc hx1 hxf hx64 hxs
    by_cases hone : xs.length = 1
    · obtain ⟨y, rfl⟩ : ∃ y, xs = [y] := List.length_eq_one_iff.1 hone
      have c0 : ∀ o1 o2, ((w.alloc o1).alloc o2).cell? ⟨g, o, none⟩ = some (.string y) := fun o1 o2 => (World.cell?_alloc_past _ _ _ (by simp; omega)).trans ((World.cell?_alloc_past _ _ _ hg).trans (hce 0 y rfl))
      clear ih
      go_enter Tryz.func167, Tryz.ntmps167
      go_wp2
      go_ret
      exact ⟨rfl, ((Below.refl _ _).alloc (Nat.le_refl _) _).alloc (by simp) _⟩
    · obtain ⟨i0, hi, hz0, hz1, hz2⟩ := info_parts infoStr
      have HI := hide ih
      have HXS := hide hxs
      have HX2 := hide (show 2 ≤ xs.length by omega)
      obtain ⟨W0, hW⟩ : ∃ W0, (w.alloc (.cells #[.int .i64 k, .int .i64 b, .int .i64 x, .int .i64 t, .int .i64 l] 23)).alloc (.cells #[.int .i64 p0, .int .i64 p1, .int .i64 p2, .int .i64 p3] 27) = W0 := ⟨_, rfl⟩
      have HF := hide (show FiveC w.heap.size W0 k b x t l by subst hW; refine ⟨?_, ?_, ?_, ?_, ?_⟩ <;> simp [go_sem])
      have HP := hide (show FourC (w.heap.size + 1) W0 p0 p1 p2 p3 by subst hW; refine ⟨?_, ?_, ?_, ?_⟩ <;> simp [go_sem])
      have HB := hide (show Below w.heap.size w W0 by subst hW; exact ((Below.refl _ _).alloc (Nat.le_refl _) _).alloc (by simp) _)
      have hz : W0.heap.size ≤ w.heap.size + 2 := by subst hW; simp
      have hz' : w.heap.size + 2 ≤ W0.heap.size := by subst hW; simp
      have e0 : ((xs.length : Int) == 0) = false := by rw [beq_eq_false_iff_ne]; omega
      have e1 : ((xs.length : Int) == 1) = false := by rw [beq_eq_false_iff_ne]; omega
      have HCE := hide (fun (j : Nat) (y : ByteArray) (hj : xs[j]? = some y) => (HB.out.cell (p := ⟨g, o + j, none⟩) hg).trans (hce j y hj))
      have HT := hide (fun V : World => rtree_any p0 p1 p2 p3 V q0.1 q0.2 q1.1 q1.2)
      have HN2 := hide (fun V : World => refNumber_any 1 p2 V (by decide) q2.1 (by omega))
      have HN3 := hide (fun V : World => refNumber_any 1 r V (by decide) (by omega) (by omega))
      have HN4 := hide (fun (q : Nat) (h : q ≤ 100) (V : World) => refNumber_any 1 q V (by decide) (by omega) (by omega))
      have HH := hide (fun (q : Nat) (y z : ByteArray) (hy : y.size ≤ 16) (hz : z.size ≤ 16) (V : World) => rhash_any k x t l 3 b (pub ++ (numB 1 p0 ++ numB 4 p1) ++ numB 1 p2 ++ numB 1 r ++ numB 1 q ++ y ++ z) V hk h1 h2 (by simp only [ByteArray.size_append, numB_size]; omega) (by omega) (by omega))
      have HPS := hide (fun (q : Nat) (y z : ByteArray) => (by unfold pairS; simp only [append_three] : hv k b (numB 1 3 ++ (pub ++ (numB 1 p0 ++ numB 4 p1) ++ numB 1 p2 ++ numB 1 r ++ numB 1 q ++ y ++ z)) = pairS k b pub p0 p1 p2 r q y z))
      have HRS := hide (roundS_size k b pub p0 p1 p2 r xs hk (by omega) (by omega) hs hxs)
      have HFS : Hid (foldS k b pub p0 p1 p2 (f + 1) r xs = foldS k b pub p0 p1 p2 f (r + 1) (roundS k b pub p0 p1 p2 r xs)) := by
        show foldS k b pub p0 p1 p2 (f + 1) r xs = foldS k b pub p0 p1 p2 f (r + 1) (roundS k b pub p0 p1 p2 r xs)
        rw [foldS, if_neg (by omega)]
      have cc1 := sadd pub (numB 1 p0 ++ numB 4 p1) (by omega) (by simp only [ByteArray.size_append, numB_size]; omega)
      have cc2 := sadd (pub ++ (numB 1 p0 ++ numB 4 p1)) (numB 1 p2) (by simp only [ByteArray.size_append, numB_size]; omega) (by rw [numB_size]; omega)
      have cc3 := sadd (pub ++ (numB 1 p0 ++ numB 4 p1) ++ numB 1 p2) (numB 1 r) (by simp only [ByteArray.size_append, numB_size]; omega) (by rw [numB_size]; omega)
      have hxf' := hxf
      have HXF := hide hxf'
      clear ih hce hxs q0 q1 q2 hxf hxf'
      rw [HFS.out]
      go_enter Tryz.func167, Tryz.ntmps167
      go_wp2_with fail
      try rw [hW]
      clear hW
      go_loopw [11, 12] (fun v i wr => ∃ (n q : Nat), Hid (n = 2 * q) ∧ n ≤ xs.length ∧ i = .int .i64 n ∧ Hid (wr.ownsRow W0.heap.size 9 1 v q ((halfS k b pub p0 p1 p2 r xs q).map Value.string)) ∧ Hid (Below W0.heap.size W0 wr)) (fun _ i _ => xs.length - (intOf i).toNat)
      case atStart => exact ⟨0, 0, rfl, Nat.zero_le _, rfl, World.ownsRow_nil _ _ _ _, Below.refl _ _⟩
      case round =>
        obtain ⟨n, q, hnq, hn, rfl, ho, hb⟩ := hrel
        by_cases hlt : n + 1 < xs.length
        · obtain ⟨y0, hy0⟩ : ∃ y, xs[n]? = some y := ⟨_, List.getElem?_eq_getElem (by omega)⟩
          obtain ⟨y1, hy1⟩ : ∃ y, xs[n + 1]? = some y := ⟨_, List.getElem?_eq_getElem hlt⟩
          have z0 : y0.size ≤ 16 := by have := HXS.out y0 (List.mem_of_getElem? hy0); omega
          have z1 : y1.size ≤ 16 := by have := HXS.out y1 (List.mem_of_getElem? hy1); omega
          have HPV := hide (show pv k b pub p0 p1 p2 r xs q q = pairS k b pub p0 p1 p2 r q y0 y1 by
            unfold pv
            rw [← hnq.out, if_pos hlt, List.getD_eq_getElem?_getD, List.getD_eq_getElem?_getD, hy0, hy1]
            rfl)
          have HS := hide (fun (V : World) (h' : Below wr.heap.size wr V) => (by
            have h := heldB hb.out h' (Nat.le_refl _)
            obtain ⟨c0, c1, c2, c3, c4⟩ := HF.out.below h (by omega)
            obtain ⟨d0, d1, d2, d3⟩ := HP.out.below h (by omega)
            exact ⟨c0, c1, c2, c3, c4, d0, d1, d2, d3, (h.cell (p := ⟨g, o + n, none⟩) (by show g < _; omega)).trans (HCE.out n y0 hy0), (h.cell (p := ⟨g, o + (n + 1), none⟩) (by show g < _; omega)).trans (HCE.out (n + 1) y1 hy1), h'⟩ : V.cell? ⟨w.heap.size, 0, none⟩ = some (.int .i64 k) ∧ V.cell? ⟨w.heap.size, 1, none⟩ = some (.int .i64 b) ∧ V.cell? ⟨w.heap.size, 2, none⟩ = some (.int .i64 x) ∧ V.cell? ⟨w.heap.size, 3, none⟩ = some (.int .i64 t) ∧ V.cell? ⟨w.heap.size, 4, none⟩ = some (.int .i64 l) ∧ V.cell? ⟨w.heap.size + 1, 0, none⟩ = some (.int .i64 p0) ∧ V.cell? ⟨w.heap.size + 1, 1, none⟩ = some (.int .i64 p1) ∧ V.cell? ⟨w.heap.size + 1, 2, none⟩ = some (.int .i64 p2) ∧ V.cell? ⟨w.heap.size + 1, 3, none⟩ = some (.int .i64 p3) ∧ V.cell? ⟨g, o + n, none⟩ = some (.string y0) ∧ V.cell? ⟨g, o + (n + 1), none⟩ = some (.string y1) ∧ Below wr.heap.size wr V))
          have HN5 := hide (HN4.out q (by have := hnq.out; omega))
          have HHQ := hide (HH.out q y0 y1 z0 z1)
          have cc4 := sadd (pub ++ (numB 1 p0 ++ numB 4 p1) ++ numB 1 p2 ++ numB 1 r) (numB 1 q) (by simp only [ByteArray.size_append, numB_size]; omega) (by rw [numB_size]; omega)
          have cc5 := sadd (pub ++ (numB 1 p0 ++ numB 4 p1) ++ numB 1 p2 ++ numB 1 r ++ numB 1 q) y0 (by simp only [ByteArray.size_append, numB_size]; omega) (by omega)
          have cc6 := sadd (pub ++ (numB 1 p0 ++ numB 4 p1) ++ numB 1 p2 ++ numB 1 r ++ numB 1 q ++ y0) y1 (by simp only [ByteArray.size_append, numB_size]; omega) (by omega)
          have hn0 : (0 : Int) ≤ (n : Int) := by omega
          have hn1 : (n : Int) < (xs.length : Int) := by omega
          have hn2 : (n : Int) + 1 < (xs.length : Int) := by omega
          have hn3 : (0 : Int) ≤ (n : Int) + 1 := by omega
          have hw1 : IntKind.i64.wrap ((n : Int) + 1) = (n : Int) + 1 := by rw [IntKind.wrap_i64]; omega
          have hdv : Int.tdiv (n : Int) 2 = (q : Int) := by rw [Int.tdiv_eq_ediv_of_nonneg hn0]; have := hnq.out; omega
          have hwq : IntKind.i64.wrap (q : Int) = (q : Int) := by rw [IntKind.wrap_i64]; have := hnq.out; omega
          have htn : ((n : Int) + 1).toNat = n + 1 := by omega
          clear hy0 hy1
          go_wp2_with fail
          go_region_held3 (fun V => V.cell? ⟨w.heap.size, 0, none⟩ = some (.int .i64 k) ∧ V.cell? ⟨w.heap.size, 1, none⟩ = some (.int .i64 b) ∧ V.cell? ⟨w.heap.size, 2, none⟩ = some (.int .i64 x) ∧ V.cell? ⟨w.heap.size, 3, none⟩ = some (.int .i64 t) ∧ V.cell? ⟨w.heap.size, 4, none⟩ = some (.int .i64 l) ∧ V.cell? ⟨w.heap.size + 1, 0, none⟩ = some (.int .i64 p0) ∧ V.cell? ⟨w.heap.size + 1, 1, none⟩ = some (.int .i64 p1) ∧ V.cell? ⟨w.heap.size + 1, 2, none⟩ = some (.int .i64 p2) ∧ V.cell? ⟨w.heap.size + 1, 3, none⟩ = some (.int .i64 p3) ∧ V.cell? ⟨g, o + n, none⟩ = some (.string y0) ∧ V.cell? ⟨g, o + (n + 1), none⟩ = some (.string y1) ∧ Below wr.heap.size wr V) (first | exact HS.out _ hS5 | exact HS.out _ hS4 | exact HS.out _ hS3 | exact HS.out _ hS2 | exact HS.out _ hS1 | exact HS.out _ (Below.refl wr.heap.size wr).drew) (first | (go_at_call 92; refine (HT.out _).mono ?_; rintro e w1 ⟨rfl, hb1⟩; have hS1 := heldB (Below.refl wr.heap.size wr).drew hb1 (Nat.le_refl _)) | (go_at_call 93; have hx := hS3; clear hx; refine (HN5.out _).mono ?_; rintro e w4 ⟨rfl, hb4⟩; have hS4 := heldB hS3 hb4 (Nat.le_refl _)) | (go_at_call 93; have hx := hS2; clear hx; refine (HN3.out _).mono ?_; rintro e w3 ⟨rfl, hb3⟩; have hS3 := heldB hS2 hb3 (Nat.le_refl _)) | (go_at_call 93; refine (HN2.out _).mono ?_; rintro e w2 ⟨rfl, hb2⟩; have hS2 := heldB hS1 hb2 (Nat.le_refl _)) | (go_at_call 91; refine (HHQ.out _).mono ?_; rintro e w5 ⟨rfl, hb5⟩; have hS5 := heldB hS4 hb5 (Nat.le_refl _)))
          have HB5 := hide (heldB hb.out hS5 (Nat.le_refl _))
          have HO5 := hide (ho.out.kept (grown_of_below hS5) (by cases Value.ownBlock _ with | none => exact .inl rfl | some _ => exact .inr (by simp)))
          rw [HPS.out q y0 y1]
          have HSU := hide (halfS_succ k b pub p0 p1 p2 r xs q)
          rw [HPV.out] at HSU
          clear hS1 hS2 hS3 hS4 hS5 hb1 hb2 hb3 hb4 hb5 ho hb HPV HS HN5 HHQ cc4 cc5 cc6
          generalize pairS k b pub p0 p1 p2 r q y0 y1 = en at HSU ⊢
          go_wp2_with (at_builtin; refine wpList_append_own _ rfl _ _ 50 rfl W0.heap.size 9 i0 (.string ⟨#[]⟩) 1 16 Tryz.underlying50 hi hz0 hz1 hz2 rfl (by decide) _ _ _ rfl (HO5.out.alloc _) ⟨w5.heap.size, 0, none⟩ 1 1 [_] rfl rfl (one_new _ _ _) ?c2 ?c3 ?c4 ?c5 ?_)
          case c2 => intro y hy; simp at hy; subst hy; rfl
          case c3 => unfold maxLen; have := hnq.out; omega
          case c4 => have := hnq.out; omega
          case c5 => have := HB5.out.size; simp; omega
          intro v' w6 ho6 hgrow _
          have HB6 := hide ((HB5.out.alloc HB5.out.size _).grown hgrow (by have := HB5.out.size; simp; omega) (fun p hp => (owns_lt HO5.out p hp).1))
          have HO6 : Hid (w6.ownsRow W0.heap.size 9 1 v' (q + 1) ((halfS k b pub p0 p1 p2 r xs (q + 1)).map Value.string)) := by
            show w6.ownsRow W0.heap.size 9 1 v' (q + 1) ((halfS k b pub p0 p1 p2 r xs (q + 1)).map Value.string)
            rw [HSU.out, List.map_append]
            exact ho6
          clear ho6 hgrow HO5 HB5 hdv hwq hw1 htn
          go_wp2
          go_roundw
          case rel =>
            have R : ∃ (n' q' : Nat), Hid (n' = 2 * q') ∧ n' ≤ xs.length ∧ Value.int .i64 ((n : Int) + 2) = .int .i64 n' ∧ Hid (w6.ownsRow W0.heap.size 9 1 v' q' ((halfS k b pub p0 p1 p2 r xs q').map Value.string)) ∧ Hid (Below W0.heap.size W0 w6) := ⟨n + 2, q + 1, (by have := hnq.out; show n + 2 = 2 * (q + 1); omega), by omega, by go_num, HO6.out, HB6.out⟩
            first | exact R | ((repeat apply Exists.intro); exact ⟨R, rfl⟩)
          case measure => simp [intOf]; omega
        · have HIR := hide (fun (g' c' : Nat) (V : World) (hb' : Below W0.heap.size W0 V) (hg' : g' < V.heap.size) (hc' : (roundS k b pub p0 p1 p2 r xs).length ≤ c') (hce' : ∀ (j : Nat) y, (roundS k b pub p0 p1 p2 r xs)[j]? = some y → V.cell? ⟨g', 0 + j, none⟩ = some (.string y)) => HI.out (r + 1) g' 0 c' (roundS k b pub p0 p1 p2 r xs) V (by omega) hce' hg' hc' (by rw [roundS_length]; omega) (by rw [roundS_length]; have := HXF.out; rw [Nat.pow_succ] at this; omega) (by rw [roundS_length]; omega) HRS.out)
          have hrl := roundS_length k b pub p0 p1 p2 r xs
          by_cases hev : n = xs.length
          · have HO := ho.out
            rw [show q = (xs.length + 1) / 2 by have := hnq.out; omega, halfS_all, ← hrl] at HO
            obtain ⟨g', c', rfl, hcc, hg1, hg2, hce'⟩ := owns_strs HO (by omega)
            have HIC := hide (HIR.out g' c' wr hb.out hg2 hcc hce')
            obtain ⟨c0, c1, c2, c3, c4⟩ := HF.out.below hb.out (by omega)
            obtain ⟨d0, d1, d2, d3⟩ := HP.out.below hb.out (by omega)
            have hmo : Int.tmod (xs.length : Int) 2 = 0 := by rw [Int.tmod_eq_emod_of_nonneg (by omega)]; have := hnq.out; omega
            have HBW := hide (HB.out.trans (hb.out.mono (by omega)))
            clear hce' HIR hrl HO ho hb
            obtain ⟨zs, hzs⟩ : ∃ zs, roundS k b pub p0 p1 p2 r xs = zs := ⟨_, rfl⟩
            rw [hzs] at HIC hcc ⊢
            have HZS := hide hzs
            clear hzs
            have hr1 : ((r + 1 : Nat) : Int) = (r : Int) + 1 := by omega
            rw [hr1] at HIC
            go_wp2_with fail
            refine HIC.out.mono ?_
            rintro e w1 ⟨rfl, hb1⟩
            have HB1 := hide (HBW.out.trans (hb1.mono HBW.out.size))
            clear hb1 c0 c1 c2 c3 c4 d0 d1 d2 d3
            go_wp2
            go_ret
            exact ⟨by rw [HZS.out]; rfl, HB1.out⟩
          · have hod : n + 1 = xs.length := by omega
            obtain ⟨y0, hy0⟩ : ∃ y, xs[n]? = some y := ⟨_, List.getElem?_eq_getElem (by omega)⟩
            have HPV := hide (show pv k b pub p0 p1 p2 r xs q q = y0 by
              unfold pv
              rw [← hnq.out, if_neg (by omega), List.getD_eq_getElem?_getD, hy0]
              rfl)
            have HSU := hide (halfS_succ k b pub p0 p1 p2 r xs q)
            rw [HPV.out] at HSU
            obtain ⟨c0, c1, c2, c3, c4⟩ := HF.out.below hb.out (by omega)
            obtain ⟨d0, d1, d2, d3⟩ := HP.out.below hb.out (by omega)
            have cy : wr.cell? ⟨g, o + n, none⟩ = some (.string y0) := (hb.out.cell (p := ⟨g, o + n, none⟩) (by show g < _; omega)).trans (HCE.out n y0 hy0)
            have hmo : Int.tmod (xs.length : Int) 2 = 1 := by rw [Int.tmod_eq_emod_of_nonneg (by omega)]; have := hnq.out; omega
            have htl : ((xs.length : Int) - 1).toNat = n := by omega
            have hl0 : (0 : Int) ≤ (xs.length : Int) - 1 := by omega
            have HBW := hide (HB.out.trans (hb.out.mono (by omega)))
            clear hy0 HPV
            go_wp2_with (at_builtin; refine wpList_append_own _ rfl _ _ 50 rfl W0.heap.size 9 i0 (.string ⟨#[]⟩) 1 16 Tryz.underlying50 hi hz0 hz1 hz2 rfl (by decide) _ _ _ rfl (ho.out.alloc _) ⟨wr.heap.size, 0, none⟩ 1 1 [_] rfl rfl (one_new _ _ _) ?c2 ?c3 ?c4 ?c5 ?_)
            case c2 => intro y hy; simp at hy; subst hy; rfl
            case c3 => unfold maxLen; have := hnq.out; omega
            case c4 => have := hnq.out; omega
            case c5 => have := hb.out.size; simp; omega
            intro v' w6 ho6 hgrow _
            have HB6 := hide ((hb.out.alloc hb.out.size _).grown hgrow (by have := hb.out.size; simp; omega) (fun p hp => (owns_lt ho.out p hp).1))
            have HO6 : Hid (w6.ownsRow W0.heap.size 9 1 v' (roundS k b pub p0 p1 p2 r xs).length ((roundS k b pub p0 p1 p2 r xs).map Value.string)) := by
              show w6.ownsRow W0.heap.size 9 1 v' (roundS k b pub p0 p1 p2 r xs).length ((roundS k b pub p0 p1 p2 r xs).map Value.string)
              rw [hrl, ← halfS_all, show (xs.length + 1) / 2 = q + 1 by have := hnq.out; omega, HSU.out, List.map_append]
              exact ho6
            obtain ⟨g', c', rfl, hcc, hg1, hg2, hce'⟩ := owns_strs HO6.out (by omega)
            have HIC := hide (HIR.out g' c' w6 HB6.out hg2 hcc hce')
            clear c0 c1 c2 c3 c4 d0 d1 d2 d3 cy hce' HIR ho6 hgrow HO6 ho hb HSU HBW
            obtain ⟨c0, c1, c2, c3, c4⟩ := HF.out.below HB6.out (by omega)
            obtain ⟨d0, d1, d2, d3⟩ := HP.out.below HB6.out (by omega)
            have HBW := hide (HB.out.trans (HB6.out.mono (by omega)))
            clear HB6 hrl
            obtain ⟨zs, hzs⟩ : ∃ zs, roundS k b pub p0 p1 p2 r xs = zs := ⟨_, rfl⟩
            rw [hzs] at HIC hcc ⊢
            have HZS := hide hzs
            clear hzs
            have hr1 : ((r + 1 : Nat) : Int) = (r : Int) + 1 := by omega
            rw [hr1] at HIC
            go_wp2_with fail
            refine HIC.out.mono ?_
            rintro e w1 ⟨rfl, hb1⟩
            have HB1 := hide (HBW.out.trans (hb1.mono HBW.out.size))
            clear hb1 c0 c1 c2 c3 c4 d0 d1 d2 d3
            go_wp2
            go_ret
            exact ⟨by rw [HZS.out]; rfl, HB1.out⟩
end Go.Proofs.YtgaoeoijdpdjiaaGreatDoor
