/-
  The document's Split where it takes the text. The statement's looks: all lists of texts of the book still read as marks. The statement's own whole: the list that was lent is as it was, its room too.
-/
import Derived.Test.YtgaoeoijdpdjiabGreatDoorPart26
import Derived.Test.YtgaoeoijdpdjiabGreatDoorPart34
import Derived.Test.YtgaoeoijdpdjiabGreatDoorPart29
import Derived.Deep.AppendLies
import Derived.Deep.RegionLaw
import Derived.Test.YtgaoeoijdpdjiabGreatDoorPart33
import Derived.Test.YtgaoeoijdpdjiabGreatDoorPart31
namespace Go.Proofs.YtgaoeoijdpdjiabGreatDoor
open Go.RowKit

theorem cellO {w : World} {a p : Addr} (u : Value) (h : p.block ≠ a.block) : (w.setCell a u).cell? p = w.cell? p := World.cell?_of_block (w := w) (Below.heap_setCell _ _ _ _ h)
/-- The first n pieces of length b, from a place on. -/
def cutA (s : ByteArray) (a b n : Nat) : List ByteArray := (List.range n).map fun i => s.extract (a + i * b) (a + i * b + b)
theorem cutA_length (s : ByteArray) (a b n : Nat) : (cutA s a b n).length = n := by simp [cutA]
theorem cutA_succ (s : ByteArray) (a b n : Nat) : cutA s a b (n + 1) = cutA s a b n ++ [s.extract (a + n * b) (a + n * b + b)] := by simp [cutA, List.range_succ]

set_option maxRecDepth 20000 in
set_option maxHeartbeats 4000000 in
theorem refSplit_yes (k x t l a0 a1 a2 a3 a4 a5 v : Int) (b n : Nat) (sig : ByteArray) (w : World) (hb1 : 1 ≤ b) (hb2 : b ≤ 8) (hn1 : 1 ≤ n) (hn : n ≤ 200) (hs : sig.size = 4 + b + n * b) (hsz : (sig.size : Int) = a4) (hv : v < a3)
    (hC : ∀ V : World, Calls Tryz.prog 82 #[.agg #[.int .i64 k, .int .i64 b, .int .i64 x, .int .i64 t, .int .i64 l]] V fun e w' => e = .returned (.int .i64 0) ∧ Below V.heap.size V w')
    (hZ : ∀ V : World, Calls Tryz.prog 83 #[.agg #[.int .i64 k, .int .i64 b, .int .i64 x, .int .i64 t, .int .i64 l]] V fun e w' => e = .returned (.agg #[.int .i64 a0, .int .i64 a1, .int .i64 a2, .int .i64 a3, .int .i64 a4, .int .i64 a5]) ∧ Below V.heap.size V w')
    (hV : ∀ V : World, Calls Tryz.prog 84 #[.string sig, .int .i64 0, .int .i64 4] V fun e w' => e = .returned (.int .i64 v) ∧ w' = V) :
    Calls Tryz.prog 36 #[.agg #[.int .i64 k, .int .i64 b, .int .i64 x, .int .i64 t, .int .i64 l], .string sig] w fun r w' => ∃ g c, r = .returned (.tuple #[.agg #[.int .i64 v, .string (sig.extract 4 (4 + b)), .slice (some ⟨g, 0, none⟩) n c], .int .i64 0]) ∧ w.heap.size ≤ g ∧ n ≤ c ∧ g < w'.heap.size ∧ (∀ (j : Nat) y, (cutA sig (4 + b) b n)[j]? = some y → w'.cell? ⟨g, 0 + j, none⟩ = some (.string y)) ∧ Below w.heap.size w w' := by
  obtain ⟨i0, hi, hz0, hz1, hz2⟩ := info_parts infoStr
  have n0 : ((sig.size : Int) != a4) = false := by simp [hsz]
  have n1 : ((sig.size : Int) == a4) = true := by simp [hsz]
  have n2 : decide (a3 ≤ v) = false := by simp; omega
  have hnb : n * b ≤ 1600 := Nat.le_trans (Nat.mul_le_mul hn hb2) (by decide)
  have hs1 : ∀ wx, (Instr.slice 9 (.string sig) (some (.int .i64 4)) (some (.int .i64 (4 + (b : Int)))) none).run Tryz.prog wx = .ok (.string (sig.extract 4 (4 + b))) wx := fun wx => by
    have h := sliceV sig 4 (4 + b) (by omega) (by omega) wx
    rw [Int.natCast_add] at h
    exact h
  have HSL := hide (fun (I : Nat) (h : I + b ≤ sig.size) => sliceV sig I (I + b) (by omega) h)
  have HSU := hide (fun m => cutA_succ sig (4 + b) b m)
  have HLE := hide (fun m => cutA_length sig (4 + b) b m)
  have HMU := hide (fun (m : Nat) (hm : m < n) => (show 4 + b + m * b + b ≤ sig.size ∧ 4 + b + (m + 1) * b = 4 + b + m * b + b by
    have h1 : (m + 1) * b ≤ n * b := Nat.mul_le_mul_right _ hm
    have h2 : (m + 1) * b = m * b + b := by rw [Nat.add_mul, Nat.one_mul]
    omega))
  have hss : sig.size ≤ 2000 := by omega
  have HSZ := hide hs
  have HC := hide hC
  have HZ := hide hZ
  have HV := hide hV
  clear hC hZ hV hs hsz hnb
  obtain ⟨W0, hW⟩ : ∃ W0, (w.alloc (.cells #[.int .i64 k, .int .i64 b, .int .i64 x, .int .i64 t, .int .i64 l] 26)).alloc (.cells #[.int .i64 0, .string ⟨#[]⟩, .slice none 0 0] 29) = W0 := ⟨_, rfl⟩
  have HK := hide (show Blk W0 w.heap.size [.int .i64 k, .int .i64 b, .int .i64 x, .int .i64 t, .int .i64 l] 26 by rw [← hW]; exact (Blk.new w _ _).alloc _)
  have HR := hide (show Blk W0 (w.heap.size + 1) [.int .i64 0, .string ⟨#[]⟩, .slice none 0 0] 29 by
    rw [← hW]
    have h := Blk.new (w.alloc (.cells #[.int .i64 k, .int .i64 b, .int .i64 x, .int .i64 t, .int .i64 l] 26)) [.int .i64 0, .string ⟨#[]⟩, .slice none 0 0] 29
    simp only [World.size_alloc] at h
    exact h)
  have HB := hide (show Below w.heap.size w W0 by subst hW; exact ((Below.refl _ _).alloc (Nat.le_refl _) _).alloc (by simp) _)
  have hz' : w.heap.size + 2 ≤ W0.heap.size := by subst hW; simp
  have HS := hide (fun (V : World) (h : Below W0.heap.size W0 V) => (by
    have q1 := HK.out.on h
    have q2 := HR.out.on h
    exact ⟨q1.cell 0, q1.cell 1, q1.cell 2, q1.cell 3, q1.cell 4, q2.cell 0, q2.cell 1, q2.cell 2, q2.free 0, q2.free 1, q2.free 2⟩ : V.cell? ⟨w.heap.size, 0, none⟩ = some (.int .i64 k) ∧ V.cell? ⟨w.heap.size, 1, none⟩ = some (.int .i64 b) ∧ V.cell? ⟨w.heap.size, 2, none⟩ = some (.int .i64 x) ∧ V.cell? ⟨w.heap.size, 3, none⟩ = some (.int .i64 t) ∧ V.cell? ⟨w.heap.size, 4, none⟩ = some (.int .i64 l) ∧ V.cell? ⟨w.heap.size + 1, 0, none⟩ = some (.int .i64 0) ∧ V.cell? ⟨w.heap.size + 1, 1, none⟩ = some (.string ⟨#[]⟩) ∧ V.cell? ⟨w.heap.size + 1, 2, none⟩ = some (.slice none 0 0) ∧ V.frozen? ⟨w.heap.size + 1, 0, none⟩ = false ∧ V.frozen? ⟨w.heap.size + 1, 1, none⟩ = false ∧ V.frozen? ⟨w.heap.size + 1, 2, none⟩ = false))
  obtain ⟨c0, c1, c2, c3, c4, r0, r1, r2, f0, f1, f2⟩ := HS.out W0 (Below.refl _ _)
  have HWE := hide hW
  clear hW
  go_enter Tryz.func36, Tryz.ntmps36
  go_wp2_with fail
  rw [HWE.out]
  refine (HC.out _).mono ?_
  rintro e w1 ⟨rfl, hb1⟩
  have HB1 := hide (heldB (Below.refl W0.heap.size W0) hb1 (Nat.le_refl _))
  clear hb1 c0 c1 c2 c3 c4 r0 r1 r2 f0 f1 f2 HWE
  obtain ⟨c0, c1, c2, c3, c4, r0, r1, r2, f0, f1, f2⟩ := HS.out w1 HB1.out
  go_wp2_with fail
  refine (HZ.out _).mono ?_
  rintro e w2 ⟨rfl, hb2⟩
  have HB2 := hide (heldB HB1.out hb2 (Nat.le_refl _))
  clear hb2 c0 c1 c2 c3 c4 r0 r1 r2 f0 f1 f2
  have HB3 := hide (HB2.out.alloc HB2.out.size (.cells #[.int .i64 a0, .int .i64 a1, .int .i64 a2, .int .i64 a3, .int .i64 a4, .int .i64 a5] 158))
  have HZ3 := hide (Blk.new w2 [.int .i64 a0, .int .i64 a1, .int .i64 a2, .int .i64 a3, .int .i64 a4, .int .i64 a5] 158)
  obtain ⟨W3, hW3⟩ : ∃ W3, w2.alloc (.cells #[.int .i64 a0, .int .i64 a1, .int .i64 a2, .int .i64 a3, .int .i64 a4, .int .i64 a5] 158) = W3 := ⟨_, rfl⟩
  rw [hW3] at HB3 HZ3
  obtain ⟨c0, c1, c2, c3, c4, r0, r1, r2, f0, f1, f2⟩ := HS.out W3 HB3.out
  go_wp2_with fail
  try rw [hW3]
  clear hW3
  refine (HV.out _).mono ?_
  rintro e W3 ⟨rfl, hw⟩
  obtain rfl := hw.symm
  clear hw
  have z3 := HZ3.out.cell 3
  have z4 := HZ3.out.cell 4
  simp only [List.getElem?_cons_zero, List.getElem?_cons_succ] at z3 z4
  have HP0 := hide (Blk.new W3 [.int .i64 v, .string (sig.extract 4 (4 + b)), .slice none 0 0] 29)
  have HBA := hide ((Below.refl W3.heap.size W3).alloc (Nat.le_refl _) (.cells #[.int .i64 v, .string (sig.extract 4 (4 + b)), .slice none 0 0] 29))
  have hzA : (W3.alloc (.cells #[.int .i64 v, .string (sig.extract 4 (4 + b)), .slice none 0 0] 29)).heap.size = W3.heap.size + 1 := by simp
  generalize hrnd : sig.extract 4 (4 + b) = rnd at hs1 HP0 HBA hzA ⊢
  have HRND := hide hrnd
  clear hrnd
  obtain ⟨WA, hWA⟩ : ∃ WA, W3.alloc (.cells #[.int .i64 v, .string rnd, .slice none 0 0] 29) = WA := ⟨_, rfl⟩
  rw [hWA] at HP0 HBA hzA
  have HZA := hide hzA
  have HWA := hide hWA
  have hwlt : w.heap.size < W3.heap.size := by have := HB3.out.size; omega
  have g1 : ∀ o : Obj, (W3.alloc o).cell? ⟨w.heap.size, 1, none⟩ = some (.int .i64 b) := fun o => (World.cell?_alloc_past o _ _ hwlt).trans c1
  clear hzA hWA
  go_wp2_with fail
  rw [HWA.out]
  have hbi : 4 + (b : Int) = ((4 + b : Nat) : Int) := by omega
  clear HWA g1 z3 z4 c0 c1 c2 c3 c4 r0 r1 r2 f0 f1 f2 n0 n1 n2 hs1 HC HZ HV HZ3
  go_loopw [10] (fun i wr => ∃ (m I : Nat) (ao : Option Addr) (cp : Nat), m ≤ n ∧ i = .int .i64 I ∧ Hid (I = 4 + b + m * b) ∧ Hid (Blk wr W3.heap.size [.int .i64 v, .string rnd, .slice ao m cp] 29) ∧ Hid (wr.ownsRow (W3.heap.size + 1) 9 1 (.slice ao m cp) m ((cutA sig (4 + b) b m).map Value.string)) ∧ Hid (Below W3.heap.size W3 wr) ∧ Hid (W3.heap.size + 1 ≤ wr.heap.size)) (fun i _ => sig.size - (intOf i).toNat)
  case atStart => exact ⟨0, 4 + b, none, 0, Nat.zero_le _, by rw [hbi], by show _ = _; omega, HP0.out, World.ownsRow_nil _ _ _ _, HBA.out, Nat.le_of_eq HZA.out.symm⟩
  case round =>
    clear hbi
    obtain ⟨m, I, ao, cp, hm, rfl, hI, hp, ho, hb, hzr⟩ := hrel
    have HBW := hide (HB3.out.trans (hb.out.mono HB3.out.size))
    obtain ⟨c0, c1, c2, c3, c4, r0, r1, r2, f0, f1, f2⟩ := HS.out wr HBW.out
    have d0 := hp.out.cell 0
    have d1 := hp.out.cell 1
    have d2 := hp.out.cell 2
    have e2 := hp.out.free 2
    simp only [List.getElem?_cons_zero, List.getElem?_cons_succ] at d0 d1 d2
    by_cases hlt : m < n
    · have HMM := hide (show I + b ≤ sig.size ∧ 4 + b + (m + 1) * b = I + b by rw [hI.out]; exact HMU.out m hlt)
      have hIs : I + b ≤ sig.size := HMM.out.1
      have hsl := HSL.out I hIs
      obtain ⟨J, hJ⟩ : ∃ J, I + b = J := ⟨_, rfl⟩
      have v1 : IntKind.i64.wrap ((I : Int) + (b : Int)) = (J : Int) := by
        rw [← hJ, IntKind.wrap_i64] <;> omega
      have hst := HSU.out m
      rw [← hI.out, hJ] at hst
      rw [hJ] at hsl
      generalize sig.extract I J = pS at hsl hst
      have HST := hide hst
      have hlti : (I : Int) < (sig.size : Int) := by omega
      have HJ := hide hJ
      clear hst r0 r1 r2 f0 f1 f2 d0 d1 hJ
      have N1 : Hid (m + 1 ≤ maxLen) := by show _ ≤ _; unfold maxLen; omega
      have N2 : Hid ((m + 1) * 16 ≤ 140737488355328) := by show _ ≤ _; omega
      have N8 : Hid (∀ u ∈ [Value.string pS], u.oneCell' = true) := by intro u hu; simp at hu; subst hu; rfl
      have HRO := hide (fun o : Obj => (show (wr.alloc o).drew.ownsRow (W3.heap.size + 1) 9 1 (.slice ao m cp) m ((cutA sig (4 + b) b m).map Value.string) from ho.out.alloc o))
      have HLO := hide (fun o : Obj => (show W3.heap.size + 1 ≤ (wr.alloc o).heap.size by have h := hzr.out; rw [World.size_alloc]; exact Nat.le_succ_of_le h))
      have HXL := hide (fun o : Obj => (show W3.heap.size < (wr.alloc o).heap.size by have h := hzr.out; rw [World.size_alloc]; exact Nat.lt_of_lt_of_le (Nat.lt_succ_self _) (Nat.le_succ_of_le h)))
      have HSX := hide (show (some W3.heap.size : Option Nat) ≠ (Value.slice ao m cp).ownBlock from fun e => by have := (owns_lt ho.out _ e.symm).1; omega)
      have HPA := hide (fun o : Obj => (show Blk (wr.alloc o).drew W3.heap.size [.int .i64 v, .string rnd, .slice ao m cp] 29 from hp.out.alloc o))
      have d2a : ∀ o : Obj, (wr.alloc o).cell? ⟨W3.heap.size, 2, none⟩ = some (.slice ao m cp) := fun o => (HPA.out o).cell 2
      have c1a : ∀ o : Obj, (wr.alloc o).cell? ⟨w.heap.size, 1, none⟩ = some (.int .i64 b) := fun o => (World.cell?_alloc_past o _ _ (by have h1 := HB3.out.size; have h2 := hzr.out; omega)).trans c1
      have NEW := hide (show ∀ j u, [Value.string pS][j]? = some u → (wr.alloc (.cells #[Value.string pS] 9)).drew.cell? ((Addr.mk wr.heap.size 0 none).add j) = some u from one_new wr (.string pS) 9)
      go_wp2_with fail
      go_region_law ((refine step_append_lies _ (by rfl) (.tmp 52) (.tmp 60) 27 (by rfl) (W3.heap.size + 1) 9 i0 (.string ⟨#[]⟩) 1 16 Tryz.underlying27 hi hz0 hz1 hz2 (by rfl) (by decide) (.slice ao m cp) m ((cutA sig (4 + b) b m).map Value.string) (by rfl) (HRO.out _) ⟨wr.heap.size, 0, none⟩ 1 1 [.string pS] (by rfl) (by rfl) NEW.out N8.out (by decide) N1.out N2.out (HLO.out _) (wr.heap.size + 1) (by simp) ?_; intro g cap w6 hown hgrow hat hlt6; have e61 : w6.cell? ⟨W3.heap.size, 2, none⟩ = some (.slice ao m cp) := (hgrow.cell_far ⟨W3.heap.size, 2, none⟩ (HXL.out _) HSX.out).trans ((HPA.out _).cell 2); have e62 : w6.frozen? ⟨W3.heap.size, 2, none⟩ = false := (hgrow.frozen_far ⟨W3.heap.size, 2, none⟩ (HXL.out _) HSX.out).trans ((HPA.out _).free 2)))
      all_goals
        have HO6 := hide (show (w6.setCell ⟨W3.heap.size, 2, none⟩ (.slice (some ⟨g, 0, none⟩) (m + 1) cap)).ownsRow (W3.heap.size + 1) 9 1 (.slice (some ⟨g, 0, none⟩) (m + 1) cap) (m + 1) ((cutA sig (4 + b) b (m + 1)).map Value.string) by
          rw [HST.out, List.map_append]
          exact hown.kept (grownBy_cell w6 W3.heap.size 2 _) (own_ne hown (Nat.lt_succ_self _)))
        have HP6 := hide ((blk_grown (HPA.out _) hgrow (fun p hp => by have := (owns_lt ho.out p hp).1; omega)).set 2 (.slice (some ⟨g, 0, none⟩) (m + 1) cap))
        have HB6 := hide (((hb.out.alloc (Nat.le_of_succ_le hzr.out) _).drew.grown hgrow (show W3.heap.size ≤ _ from Nat.le_of_lt (HXL.out _)) (fun p hp => by have := (owns_lt ho.out p hp).1; omega)).setCell (p := ⟨W3.heap.size, 2, none⟩) (Nat.le_refl _) (.slice (some ⟨g, 0, none⟩) (m + 1) cap))
        have HZ6 := hide (show W3.heap.size + 1 ≤ (w6.setCell ⟨W3.heap.size, 2, none⟩ (.slice (some ⟨g, 0, none⟩) (m + 1) cap)).heap.size by
          rw [World.size_setCell]
          exact Nat.le_trans (HLO.out _) hgrow.size)
        clear hown hgrow hat hlt6 e61 e62
        generalize World.setCell w6 { block := W3.heap.size, off := 2 } _ = W6 at *
        have hb6 := HB3.out.trans (HB6.out.mono HB3.out.size)
        obtain ⟨c0, c1, c2, c3, c4, _, _, _, _, _, _⟩ := HS.out W6 hb6
        go_wp2
        go_roundw
        case rel =>
          have R : ∃ (m' I' : Nat) (ao' : Option Addr) (cp' : Nat), m' ≤ n ∧ Value.int .i64 (J : Int) = .int .i64 I' ∧ Hid (I' = 4 + b + m' * b) ∧ Hid (Blk W6 W3.heap.size [.int .i64 v, .string rnd, .slice ao' m' cp'] 29) ∧ Hid (W6.ownsRow (W3.heap.size + 1) 9 1 (.slice ao' m' cp') m' ((cutA sig (4 + b) b m').map Value.string)) ∧ Hid (Below W3.heap.size W3 W6) ∧ Hid (W3.heap.size + 1 ≤ W6.heap.size) := ⟨m + 1, J, some ⟨g, 0, none⟩, cap, by omega, rfl, by show _ = _; rw [HMM.out.2, HJ.out], HP6.out, HO6.out, HB6.out, HZ6.out⟩
          first | exact R | ((repeat apply Exists.intro); exact ⟨R, rfl⟩)
        case measure => have := HJ.out; simp [intOf]; omega
    · obtain rfl : m = n := by omega
      have hIe : I = sig.size := by rw [hI.out, HSZ.out]
      have hlti : ¬ (I : Int) < (sig.size : Int) := by omega
      have hel := HLE.out m
      obtain ⟨g', c', hvv, hcc, hg1, hg2, hce'⟩ := owns_strs (ys := cutA sig (4 + b) b m) (by rw [hel]; exact ho.out) (by omega)
      rw [hel] at hvv hcc
      simp only [Value.slice.injEq] at hvv
      obtain ⟨rfl, _, hcp⟩ := hvv
      subst hcp
      have HCE := hide hce'
      have HG1 := hide hg1
      have HG2 := hide hg2
      have HCC := hide hcc
      have HBE := hide (HB.out.trans (HBW.out.mono HB.out.size))
      have hW3 : W0.heap.size ≤ W3.heap.size := HB3.out.size
      clear hce' hg1 hg2 hcc hel hIe HBW hp ho hb
      go_wp2
      refine bodyPost_ret (v := .tuple #[.agg #[.int .i64 v, .string rnd, .slice (some ⟨g', 0, none⟩) m cp], .int .i64 0]) (by simp [results, Tryz.results36, go_sem, r0, r1, r2]) rfl ⟨g', cp, by rw [HRND.out], ?_, HCC.out, ?_, ?_, ?_⟩
      · have := HG1.out; omega
      · simp only [World.size_setCell]; exact HG2.out
      · intro j y hj
        have hne : g' ≠ w.heap.size + 1 := by have := HG1.out; omega
        have hh := HCE.out j y hj
        rw [Nat.zero_add] at hh
        try rw [Nat.zero_add]
        rw [cellO (p := ⟨g', j, none⟩) (a := ⟨w.heap.size + 1, 2, none⟩) _ hne, cellO (p := ⟨g', j, none⟩) (a := ⟨w.heap.size + 1, 1, none⟩) _ hne, cellO (p := ⟨g', j, none⟩) (a := ⟨w.heap.size + 1, 0, none⟩) _ hne]
        exact hh
      · have HBB := HBE.out
        iterate 3 refine Below.setCell ?_ (by simp <;> omega) _
        exact HBB
end Go.Proofs.YtgaoeoijdpdjiabGreatDoor

namespace Go.Proofs.YtgaoeoijdpdjiabGreatDoor
open Go.RowKit

set_option maxRecDepth 20000 in
set_option maxHeartbeats 4000000 in
theorem looksT_any (B bk : Nat) (v : Value) (S : List Value) (w : World) (hB : BookT w B bk v S) (h0 : 0 < S.length) :
    Calls Tryz.prog 13 #[.pointer (some ⟨bk, 0, none⟩)] w fun r w' => r = .returned (.bool true) ∧ Below w.heap.size w w' := by
  obtain ⟨gv, cap, cur, hv, _, hh, hc1, _, hc2, hc3⟩ : ∃ gv cap cur, v = .slice (some ⟨gv, 0, none⟩) S.length cap ∧ B ≤ gv ∧ w.heap[gv]? = some (.cells cur 27 (0, 0)) ∧ S.length ≤ cap ∧ cap ≤ maxLen ∧ cur.size = cap * 1 ∧ cur.toList.take (S.length * 1) = S := by
    rcases hB.row.2 with ⟨_, h⟩ | h
    · omega
    · exact h
  subst hv
  have hS := hB.len
  have hgv := lt_of_block hh
  have hbk := lt_of_block hB.blk
  have HROW := hide (show ∀ i s, S[i]? = some s → w.cell? ⟨gv, i, none⟩ = some s by
    intro i s hs
    have hi : i < S.length := (List.getElem?_eq_some_iff.1 hs).1
    rw [← hc3, List.getElem?_take_of_lt (by omega)] at hs
    simp only [World.cell?, hh]
    simpa using hs)
  have HLIST := hide hB.lists
  have HBK := hide (fun (V : World) (h : Below w.heap.size w V) => (by
    have e := hB.blk
    have b0 : w.cell? ⟨bk, 0, none⟩ = some (.slice none 0 0) := by simp [World.cell?, e]
    have b1 : w.cell? ⟨bk, 1, none⟩ = some (.slice (some ⟨gv, 0, none⟩) S.length cap) := by simp [World.cell?, e]
    have b2 : w.cell? ⟨bk, 2, none⟩ = some (.slice none 0 0) := by simp [World.cell?, e]
    exact ⟨(h.cell (p := ⟨bk, 0, none⟩) hbk).trans b0, (h.cell (p := ⟨bk, 1, none⟩) hbk).trans b1, (h.cell (p := ⟨bk, 2, none⟩) hbk).trans b2⟩ : V.cell? ⟨bk, 0, none⟩ = some (.slice none 0 0) ∧ V.cell? ⟨bk, 1, none⟩ = some (.slice (some ⟨gv, 0, none⟩) S.length cap) ∧ V.cell? ⟨bk, 2, none⟩ = some (.slice none 0 0)))
  obtain ⟨k0, k1, k2⟩ := HBK.out w (Below.refl _ _)
  clear hB hh hc1 hc2 hc3
  go_enter Tryz.func13, Tryz.ntmps13
  go_wp2
  refine wp_loop_rounds 1 ?_
  rw [rounds_succ]
  go_wp2_with fail
  clear k0 k1 k2
  go_loopw [5] (fun i wr => ∃ a : Nat, a ≤ S.length ∧ i = .int .i64 a ∧ Hid (Below w.heap.size w wr)) (fun i _ => S.length - (intOf i).toNat)
  case atStart => exact ⟨0, by omega, rfl, Below.refl _ _⟩
  case round =>
    obtain ⟨a, ha, rfl, hw⟩ := hrel
    obtain ⟨k0, k1, k2⟩ := HBK.out wr hw.out
    by_cases hlt : a < S.length
    · obtain ⟨wo, rfl⟩ : ∃ wo : World, wo = wr := ⟨_, rfl⟩
      have hs : S[a]? = some S[a] := List.getElem?_eq_getElem hlt
      have HC := hide (HROW.out a _ hs)
      obtain ⟨n, hn, _, hm⟩ := HLIST.out a _ hs
      generalize S[a] = s at hs HC hm
      clear hs
      have hai : (a : Int) < (S.length : Int) := by omega
      rcases hm with ⟨rfl, rfl⟩ | ⟨g, c, cur, rfl, _, hh, _, _, _, ht⟩
      · have ks : wo.cell? ⟨gv, a, none⟩ = some (.slice none 0 0) := (hw.out.cell (p := ⟨gv, a, none⟩) hgv).trans HC.out
        go_wp2
        refine wp_loop_rounds 1 ?_
        rw [rounds_succ]
        go_wp2
        go_roundw
        case rel => exact ⟨a + 1, by omega, by go_num, hw⟩
        case measure => simp [intOf]; omega
      · have hg := lt_of_block hh
        have HE := hide (show ∀ j, j < n → w.cell? ⟨g, j, none⟩ = some (.string (markS (a / 4 * 4))) by
          intro j hj
          have h1 : (cur.toList.take (n * 1))[j]? = (List.replicate n (Value.string (markS (a / 4 * 4))))[j]? := by rw [ht]
          rw [List.getElem?_take_of_lt (by omega)] at h1
          simp only [World.cell?, hh]
          simpa [hj] using h1)
        clear hh ht
        have ks : wo.cell? ⟨gv, a, none⟩ = some (.slice (some ⟨g, 0, none⟩) n c) := (hw.out.cell (p := ⟨gv, a, none⟩) hgv).trans HC.out
        obtain ⟨A4, hA4⟩ : ∃ A4, a / 4 = A4 := ⟨_, rfl⟩
        obtain ⟨A16, hA16⟩ : ∃ A16, A4 * 4 = A16 := ⟨_, rfl⟩
        rw [hA4, hA16] at HE
        have q1 : Int.tdiv (a : Int) 4 = (A4 : Int) := by rw [← hA4, Int.tdiv_eq_ediv_of_nonneg (by omega)]; omega
        have q2 : IntKind.i64.wrap (A4 : Int) = (A4 : Int) := by rw [IntKind.wrap_i64] <;> omega
        have q3 : IntKind.i64.wrap ((A4 : Int) * 4) = (A16 : Int) := by
          rw [show (A4 : Int) * 4 = (A16 : Int) by omega, IntKind.wrap_i64] <;> omega
        have HMT := hide (fun V : World => markText_any A16 V (by omega))
        clear hA4 hA16
        generalize markS A16 = mk at HE HMT
        go_wp2
        go_loopw [6] (fun i wr => ∃ j : Nat, j ≤ n ∧ i = .int .i64 j ∧ Hid (Below w.heap.size w wr)) (fun i _ => n - (intOf i).toNat)
        case atStart => exact ⟨0, by omega, rfl, hw⟩
        case round =>
          clear k0 k1 k2 ks
          obtain ⟨j, hj, rfl, hw2⟩ := hrel
          have HSV := hide (fun (V : World) (h : Below wr.heap.size wr V) => (by
            have hk := heldN hw2.out h (Nat.le_refl _)
            exact ⟨(HBK.out V hk).2.1, (hk.cell (p := ⟨gv, a, none⟩) hgv).trans HC.out, fun j hj => (hk.cell (p := ⟨g, j, none⟩) hg).trans (HE.out j hj)⟩ : V.cell? ⟨bk, 1, none⟩ = some (.slice (some ⟨gv, 0, none⟩) S.length cap) ∧ V.cell? ⟨gv, a, none⟩ = some (.slice (some ⟨g, 0, none⟩) n c) ∧ ∀ j, j < n → V.cell? ⟨g, j, none⟩ = some (.string mk)))
          obtain ⟨m0, m1, _⟩ := HSV.out wr (Below.refl _ _)
          by_cases hlt2 : j < n
          · have hji : (j : Int) < (n : Int) := by omega
            go_wp2_with fail
            go_region_held3 (fun V => V.cell? ⟨bk, 1, none⟩ = some (.slice (some ⟨gv, 0, none⟩) S.length cap) ∧ V.cell? ⟨gv, a, none⟩ = some (.slice (some ⟨g, 0, none⟩) n c) ∧ V.cell? ⟨g, j, none⟩ = some (.string mk)) (first | exact ⟨(HSV.out _ hS1).1, (HSV.out _ hS1).2.1, (HSV.out _ hS1).2.2 j hlt2⟩ | exact ⟨(HSV.out _ (Below.refl wr.heap.size wr).drew).1, (HSV.out _ (Below.refl wr.heap.size wr).drew).2.1, (HSV.out _ (Below.refl wr.heap.size wr).drew).2.2 j hlt2⟩) ((go_at_call 47; refine (HMT.out _).mono ?_; rintro e w5 ⟨rfl, hb5⟩; have hS1 := heldB (Below.refl wr.heap.size wr).drew hb5 (Nat.le_refl _)))
            have HW5 := hide (heldN hw2.out hS1 (Nat.le_refl _))
            clear hS1 hb5 m0 m1
            go_wp2
            go_roundw
            case rel =>
              have R : ∃ j' : Nat, j' ≤ n ∧ Value.int .i64 ((j : Int) + 1) = .int .i64 j' ∧ Hid (Below w.heap.size w w5) := ⟨j + 1, by omega, by go_num, HW5.out⟩
              first | exact R | ((repeat apply Exists.intro); exact ⟨R, rfl⟩)
            case measure => simp [intOf]; omega
          · go_wp2
            go_roundw
            case rel =>
              have R : ∃ a' : Nat, a' ≤ S.length ∧ Value.int .i64 ((a : Int) + 1) = .int .i64 a' ∧ Hid (Below w.heap.size w wr) := ⟨a + 1, by omega, by go_num, hw2⟩
              first | exact R | ((repeat apply Exists.intro); exact ⟨R, rfl⟩)
            case measure => simp [intOf]; omega
    · go_wp2
      refine wp_loop_rounds 1 ?_
      rw [rounds_succ]
      go_wp2
      go_ret
      exact ⟨rfl, hw.out⟩
end Go.Proofs.YtgaoeoijdpdjiabGreatDoor

namespace Go.Proofs.YtgaoeoijdpdjiabGreatDoor
open Go.RowKit

set_option maxRecDepth 20000 in
set_option maxHeartbeats 2000000 in
theorem whole_some (g bk o c : Nat) (xs : List ByteArray) (w : World) (hcells : ∀ (j : Nat) y, xs[j]? = some y → w.cell? ⟨bk, o + j, none⟩ = some (.string y)) (hbk : bk < g) (hN : xs.length ≤ 8796093022208) (hr0 : Blk w g (mixL (xs.length + 5) (fun _ => spoiltS) (lentV xs) 0) 9) :
    Calls Tryz.prog 43 #[.slice (some ⟨g, 0, none⟩) xs.length (xs.length + 5), .slice (some ⟨bk, o, none⟩) xs.length c] w fun e w' => e = .returned (.bool true) ∧ Below g w w' := by
  have HC := hide (fun (V : World) (h : Below g w V) (j : Nat) (y : ByteArray) (hj : xs[j]? = some y) => (h.cell (p := ⟨bk, o + j, none⟩) hbk).trans (hcells j y hj))
  have HR0 := hide hr0
  have HSET := hide (fun m => mixL_set (xs.length + 5) (fun _ => spoiltS) (lentV xs) m)
  have HAT := hide (fun m h => mixL_at (xs.length + 5) (fun _ => spoiltS) (lentV xs) m h)
  have HLV := hide (fun m (h : xs.length ≤ m) => (show lentV xs m = beyondS by unfold lentV; rw [if_neg (by omega)]))
  have HLX := hide (fun m y (h : xs[m]? = some y) => (show lentV xs m = y by
    have hl : m < xs.length := (List.getElem?_eq_some_iff.1 h).1
    unfold lentV
    rw [if_pos hl, List.getD_eq_getElem?_getD, h]; rfl))
  clear hcells hr0
  have heq := fun V : World => Lib.run_eql_slice_nil (P := Tryz.prog) V 27 9 (some ⟨bk, o, none⟩) xs.length c 0 0 Tryz.underlying27
  go_enter Tryz.func43, Tryz.ntmps43
  go_wp2_with fail
  go_loopw [7, 8] (fun ok i wr => ∃ m : Nat, m ≤ xs.length + 5 ∧ ok = .bool true ∧ i = .int .i64 m ∧ Hid (Blk wr g (mixL (xs.length + 5) (fun _ => spoiltS) (lentV xs) m) 9) ∧ Hid (Below g w wr)) (fun _ i _ => xs.length + 5 - (intOf i).toNat)
  case atStart => exact ⟨0, Nat.zero_le _, rfl, rfl, HR0.out, Below.refl _ _⟩
  case round =>
    obtain ⟨m, hm, rfl, rfl, hr, hb⟩ := hrel
    by_cases hlt : m < xs.length + 5
    · have hc0 := (hr.out.cell m).trans (HAT.out m hlt)
      have hf := hr.out.free m
      have HST := hide (hr.out.set m (.string spoiltS))
      rw [show (mixL (xs.length + 5) (fun _ => spoiltS) (lentV xs) m).set m (.string spoiltS) = mixL (xs.length + 5) (fun _ => spoiltS) (lentV xs) (m + 1) from HSET.out m] at HST
      have hlt' : (m : Int) < (xs.length : Int) + 5 := by omega
      by_cases hin : m < xs.length
      · obtain ⟨y, hy⟩ : ∃ y, xs[m]? = some y := ⟨_, List.getElem?_eq_getElem hin⟩
        have cx := HC.out wr hb.out m y hy
        have hc : wr.cell? ⟨g, m, none⟩ = some (.string y) := by rw [hc0, HLX.out m y hy]
        clear hy hc0
        go_wp2
        go_roundw
        case rel => exact ⟨m + 1, by omega, rfl, by go_num, HST.out, hb.out.setCell (Nat.le_refl _) _⟩
        case measure => simp [intOf]; omega
      · have hc : wr.cell? ⟨g, m, none⟩ = some (.string ⟨#[98, 101, 121, 111, 110, 100]⟩) := by rw [hc0, HLV.out m (by omega)]; rfl
        clear hc0
        go_wp2
        go_roundw
        case rel => exact ⟨m + 1, by omega, rfl, by go_num, HST.out, hb.out.setCell (Nat.le_refl _) _⟩
        case measure => simp [intOf]; omega
    · obtain rfl : m = xs.length + 5 := by omega
      go_wp2
      go_ret
      exact ⟨rfl, hb.out⟩

set_option maxRecDepth 20000 in
set_option maxHeartbeats 2000000 in
theorem whole_emp (g : Nat) (a : Addr) (c : Nat) (xs : List ByteArray) (w : World) (hX : xs = []) (hr0 : Blk w g (mixL (xs.length + 5) (fun _ => spoiltS) (lentV xs) 0) 9) :
    Calls Tryz.prog 43 #[.slice (some ⟨g, 0, none⟩) xs.length (xs.length + 5), .slice (some a) xs.length c] w fun e w' => e = .returned (.bool true) ∧ Below g w w' := by
  have hN : xs.length ≤ 0 := by rw [hX]; simp
  have HR0 := hide hr0
  have HSET := hide (fun m => mixL_set (xs.length + 5) (fun _ => spoiltS) (lentV xs) m)
  have HAT := hide (fun m h => mixL_at (xs.length + 5) (fun _ => spoiltS) (lentV xs) m h)
  have HLV := hide (fun m (h : xs.length ≤ m) => (show lentV xs m = beyondS by unfold lentV; rw [if_neg (by omega)]))
  clear hX hr0
  have heq := fun V : World => Lib.run_eql_slice_nil (P := Tryz.prog) V 27 9 (some a) xs.length c 0 0 Tryz.underlying27
  go_enter Tryz.func43, Tryz.ntmps43
  go_wp2_with fail
  go_loopw [7, 8] (fun ok i wr => ∃ m : Nat, m ≤ xs.length + 5 ∧ ok = .bool true ∧ i = .int .i64 m ∧ Hid (Blk wr g (mixL (xs.length + 5) (fun _ => spoiltS) (lentV xs) m) 9) ∧ Hid (Below g w wr)) (fun _ i _ => xs.length + 5 - (intOf i).toNat)
  case atStart => exact ⟨0, Nat.zero_le _, rfl, rfl, HR0.out, Below.refl _ _⟩
  case round =>
    obtain ⟨m, hm, rfl, rfl, hr, hb⟩ := hrel
    by_cases hlt : m < xs.length + 5
    · have hc0 := (hr.out.cell m).trans (HAT.out m hlt)
      have hf := hr.out.free m
      have HST := hide (hr.out.set m (.string spoiltS))
      rw [show (mixL (xs.length + 5) (fun _ => spoiltS) (lentV xs) m).set m (.string spoiltS) = mixL (xs.length + 5) (fun _ => spoiltS) (lentV xs) (m + 1) from HSET.out m] at HST
      have hlt' : (m : Int) < (xs.length : Int) + 5 := by omega
      · have hc : wr.cell? ⟨g, m, none⟩ = some (.string ⟨#[98, 101, 121, 111, 110, 100]⟩) := by rw [hc0, HLV.out m (by omega)]; rfl
        clear hc0
        go_wp2
        go_roundw
        case rel => exact ⟨m + 1, by omega, rfl, by go_num, HST.out, hb.out.setCell (Nat.le_refl _) _⟩
        case measure => simp [intOf]; omega
    · obtain rfl : m = xs.length + 5 := by omega
      go_wp2
      go_ret
      exact ⟨rfl, hb.out⟩

set_option maxRecDepth 20000 in
theorem whole_nil (w : World) : Calls Tryz.prog 43 #[.slice none 0 0, .slice none 0 0] w fun e w' => e = .returned (.bool true) ∧ w' = w := by
  have heq := fun V : World => Lib.run_eql_slice_nil (P := Tryz.prog) V 27 9 none 0 0 0 0 Tryz.underlying27
  go_enter Tryz.func43, Tryz.ntmps43
  go_wp2
  go_ret
  exact ⟨rfl, rfl⟩
end Go.Proofs.YtgaoeoijdpdjiabGreatDoor
