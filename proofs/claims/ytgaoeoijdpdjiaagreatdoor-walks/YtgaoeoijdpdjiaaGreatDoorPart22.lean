/-
  A walk begins a stack anew. A walk by heights and numbers alone: its path, its stacks, and a step. A walk in memory, on the way to the next leaf.
-/
import Derived.Test.YtgaoeoijdpdjiaaGreatDoorPart21
namespace Go.Proofs.YtgaoeoijdpdjiaaGreatDoor
open Go.RowKit
theorem w64Y (n : Int) (h : -9223372036854775808 ≤ n ∧ n ≤ 9223372036854775807) : wrap64 n = n := by unfold wrap64; omega
/-- Where a stack begins anew, and how many leaves it will take. -/
def anewP (lv at' h : Nat) : Nat × Nat := if lv ≤ (if at' / 2 ^ h % 2 = 1 then at' + 2 * 2 ^ h else at') then (0, 0) else ((if at' / 2 ^ h % 2 = 1 then at' + 2 * 2 ^ h else at'), 2 ^ h)
set_option maxRecDepth 20000 in
set_option maxHeartbeats 4000000 in
theorem anew_on (W : Nat) (ws : List Value) (at' lv h : Nat) (w : World) (hW : Blk w W ws 134) (h2 : ws[2]? = some (.int .i64 (lv : Int))) (h3 : ws[3]? = some (.int .i64 (at' : Int))) (hh : h < 4) (ha : at' < 16) (hl : lv ≤ 16) :
    Calls Tryz.prog 84 #[.pointer (some ⟨W, 0, none⟩), .int .i64 (h : Int)] w fun e w' => e = .returned (.agg #[.slice none 0 0, .int .i64 ((anewP lv at' h).1 : Int), .int .i64 ((anewP lv at' h).2 : Int)]) ∧ Below w.heap.size w w' := by
  obtain ⟨z, hz⟩ : ∃ z, 2 ^ h = z := ⟨_, rfl⟩
  have hz2 : 1 ≤ z ∧ z ≤ 8 := by
    subst hz
    rcases (show h = 0 ∨ h = 1 ∨ h = 2 ∨ h = 3 by omega) with rfl | rfl | rfl | rfl <;> decide
  have pz : wrap64 ((2 : Int) ^ h) = (z : Int) := by
    have e : (2 : Int) ^ h = ((2 ^ h : Nat) : Int) := by simp
    rw [e, hz, w64Y]
    omega
  unfold anewP
  rw [hz]
  obtain ⟨d, hd⟩ : ∃ d, at' / z = d := ⟨_, rfl⟩
  have hdl : d ≤ at' := by rw [← hd]; exact Nat.div_le_self _ _
  have pd : wrap64 ((at' : Int) / (z : Int)) = (d : Int) := by
    have e : (at' : Int) / (z : Int) = ((at' / z : Nat) : Int) := by simp
    rw [e, hd, w64Y]
    omega
  rw [hd]
  have p2 : wrap64 (2 * (z : Int)) = 2 * (z : Int) := w64Y _ (by omega)
  have p3 : wrap64 ((at' : Int) + 2 * (z : Int)) = (at' : Int) + 2 * (z : Int) := w64Y _ (by omega)
  have HB := hide (fun (a b : Int) (V : World) => begun_any a b V)
  obtain ⟨w1, e1⟩ : ∃ W1, w.alloc (.cells #[.slice none 0 0, .int .i64 0, .int .i64 0] 137) = W1 := ⟨_, rfl⟩
  obtain ⟨R, e2⟩ : ∃ X, w.heap.size = X := ⟨_, rfl⟩
  have HR := hide (show Blk w1 R [.slice none 0 0, .int .i64 0, .int .i64 0] 137 by rw [← e1, ← e2]; exact Blk.new w _ _)
  have HW1 := hide (show Below R w w1 by rw [← e1, ← e2]; exact (Below.refl _ _).alloc (Nat.le_refl _) _)
  have HRL := hide (show R ≤ w1.heap.size by rw [← e1, World.size_alloc, e2]; omega)
  have hW1 : Blk w1 W ws 134 := by rw [← e1]; exact hW.alloc _
  have c2 : w1.cell? ⟨W, 2, none⟩ = some (.int .i64 (lv : Int)) := (hW1.cell 2).trans h2
  have c3 : w1.cell? ⟨W, 3, none⟩ = some (.int .i64 (at' : Int)) := (hW1.cell 3).trans h3
  have f0 := HR.out.free 0
  have f1 := HR.out.free 1
  have f2 := HR.out.free 2
  have z0 : w1.cell? ⟨R, 0, none⟩ = some (.slice none 0 0) := HR.out.cell 0
  have z1 : w1.cell? ⟨R, 1, none⟩ = some (.int .i64 0) := HR.out.cell 1
  have z2 : w1.cell? ⟨R, 2, none⟩ = some (.int .i64 0) := HR.out.cell 2
  rw [e2]
  have HD := hide hdl
  clear hW hW1 h2 h3 hz hd hdl
  by_cases ho : d % 2 = 1
  · by_cases hp : lv ≤ at' + 2 * z
    · have pm : ((d : Int).tmod 2 == 1) = true := by rw [Int.tmod_eq_emod_of_nonneg (by omega)]; simp; omega
      have hp2 : (lv : Int) ≤ ((at' : Int) + 2 * (z : Int)) := by omega
      rw [if_pos ho, if_pos hp]
      go_enter Tryz.func84, Tryz.ntmps84
      have HF := hide (show Blk (((w1.setCell ⟨R, 0, none⟩ (.slice none 0 0)).setCell ⟨R, 1, none⟩ (.int .i64 0)).setCell ⟨R, 2, none⟩ (.int .i64 0)) R [.slice none 0 0, .int .i64 0, .int .i64 0] 137 from ((HR.out.set 0 _).set 1 _).set 2 _)
      have HFB := hide (show Below R w (((w1.setCell ⟨R, 0, none⟩ (.slice none 0 0)).setCell ⟨R, 1, none⟩ (.int .i64 0)).setCell ⟨R, 2, none⟩ (.int .i64 0)) from ((HW1.out.setCell (p := ⟨R, 0, none⟩) (Nat.le_refl _) _).setCell (p := ⟨R, 1, none⟩) (Nat.le_refl _) _).setCell (p := ⟨R, 2, none⟩) (Nat.le_refl _) _)
      have y0 := HF.out.cell 0
      have y1 := HF.out.cell 1
      have y2 := HF.out.cell 2
      go_wp2_with fail
      refine bodyPost_ret (v := .agg #[.slice none 0 0, .int .i64 0, .int .i64 0]) (by simp [results, Tryz.results84, go_sem, y0, y1, y2]) rfl ⟨rfl, ?_⟩
      exact HFB.out
    · have pm : ((d : Int).tmod 2 == 1) = true := by rw [Int.tmod_eq_emod_of_nonneg (by omega)]; simp; omega
      have hp2 : ¬ (lv : Int) ≤ ((at' : Int) + 2 * (z : Int)) := by omega
      rw [if_pos ho, if_neg hp]
      go_enter Tryz.func84, Tryz.ntmps84
      clear f0 f1 f2 z0 z1 z2
      go_wp2_with fail
      go_at_call 151
      refine (HB.out _ _ _).mono ?_
      rintro e w5 ⟨rfl, hb⟩
      have HR5 := hide (HR.out.on hb)
      have HW5 := hide (HW1.out.trans (hb.mono HRL.out))
      clear hb
      have f0 := HR5.out.free 0
      have z0 : w5.cell? ⟨R, 0, none⟩ = some (.slice none 0 0) := HR5.out.cell 0
      have f1 := HR5.out.free 1
      have z1 : w5.cell? ⟨R, 1, none⟩ = some (.int .i64 0) := HR5.out.cell 1
      have f2 := HR5.out.free 2
      have z2 : w5.cell? ⟨R, 2, none⟩ = some (.int .i64 0) := HR5.out.cell 2
      have HF := hide (show Blk (((w5.setCell ⟨R, 0, none⟩ (.slice none 0 0)).setCell ⟨R, 1, none⟩ (.int .i64 ((at' : Int) + 2 * (z : Int)))).setCell ⟨R, 2, none⟩ (.int .i64 (z : Int))) R [.slice none 0 0, .int .i64 ((at' : Int) + 2 * (z : Int)), .int .i64 (z : Int)] 137 from ((HR5.out.set 0 _).set 1 _).set 2 _)
      have HFB := hide (show Below R w (((w5.setCell ⟨R, 0, none⟩ (.slice none 0 0)).setCell ⟨R, 1, none⟩ (.int .i64 ((at' : Int) + 2 * (z : Int)))).setCell ⟨R, 2, none⟩ (.int .i64 (z : Int))) from ((HW5.out.setCell (p := ⟨R, 0, none⟩) (Nat.le_refl _) _).setCell (p := ⟨R, 1, none⟩) (Nat.le_refl _) _).setCell (p := ⟨R, 2, none⟩) (Nat.le_refl _) _)
      have y0 := HF.out.cell 0
      have y1 := HF.out.cell 1
      have y2 := HF.out.cell 2
      go_wp2_with fail
      refine bodyPost_ret (v := .agg #[.slice none 0 0, .int .i64 ((at' : Int) + 2 * (z : Int)), .int .i64 (z : Int)]) (by simp [results, Tryz.results84, go_sem, y0, y1, y2]) rfl ⟨by simp, ?_⟩
      exact HFB.out
  · by_cases hp : lv ≤ at'
    · have pm : ((d : Int).tmod 2 == 1) = false := by rw [Int.tmod_eq_emod_of_nonneg (by omega)]; simp; omega
      have hp2 : (lv : Int) ≤ (at' : Int) := by omega
      rw [if_neg ho, if_pos hp]
      go_enter Tryz.func84, Tryz.ntmps84
      have HF := hide (show Blk (((w1.setCell ⟨R, 0, none⟩ (.slice none 0 0)).setCell ⟨R, 1, none⟩ (.int .i64 0)).setCell ⟨R, 2, none⟩ (.int .i64 0)) R [.slice none 0 0, .int .i64 0, .int .i64 0] 137 from ((HR.out.set 0 _).set 1 _).set 2 _)
      have HFB := hide (show Below R w (((w1.setCell ⟨R, 0, none⟩ (.slice none 0 0)).setCell ⟨R, 1, none⟩ (.int .i64 0)).setCell ⟨R, 2, none⟩ (.int .i64 0)) from ((HW1.out.setCell (p := ⟨R, 0, none⟩) (Nat.le_refl _) _).setCell (p := ⟨R, 1, none⟩) (Nat.le_refl _) _).setCell (p := ⟨R, 2, none⟩) (Nat.le_refl _) _)
      have y0 := HF.out.cell 0
      have y1 := HF.out.cell 1
      have y2 := HF.out.cell 2
      go_wp2_with fail
      refine bodyPost_ret (v := .agg #[.slice none 0 0, .int .i64 0, .int .i64 0]) (by simp [results, Tryz.results84, go_sem, y0, y1, y2]) rfl ⟨rfl, ?_⟩
      exact HFB.out
    · have pm : ((d : Int).tmod 2 == 1) = false := by rw [Int.tmod_eq_emod_of_nonneg (by omega)]; simp; omega
      have hp2 : ¬ (lv : Int) ≤ (at' : Int) := by omega
      rw [if_neg ho, if_neg hp]
      go_enter Tryz.func84, Tryz.ntmps84
      clear f0 f1 f2 z0 z1 z2
      go_wp2_with fail
      go_at_call 151
      refine (HB.out _ _ _).mono ?_
      rintro e w5 ⟨rfl, hb⟩
      have HR5 := hide (HR.out.on hb)
      have HW5 := hide (HW1.out.trans (hb.mono HRL.out))
      clear hb
      have f0 := HR5.out.free 0
      have z0 : w5.cell? ⟨R, 0, none⟩ = some (.slice none 0 0) := HR5.out.cell 0
      have f1 := HR5.out.free 1
      have z1 : w5.cell? ⟨R, 1, none⟩ = some (.int .i64 0) := HR5.out.cell 1
      have f2 := HR5.out.free 2
      have z2 : w5.cell? ⟨R, 2, none⟩ = some (.int .i64 0) := HR5.out.cell 2
      have HF := hide (show Blk (((w5.setCell ⟨R, 0, none⟩ (.slice none 0 0)).setCell ⟨R, 1, none⟩ (.int .i64 (at' : Int))).setCell ⟨R, 2, none⟩ (.int .i64 (z : Int))) R [.slice none 0 0, .int .i64 (at' : Int), .int .i64 (z : Int)] 137 from ((HR5.out.set 0 _).set 1 _).set 2 _)
      have HFB := hide (show Below R w (((w5.setCell ⟨R, 0, none⟩ (.slice none 0 0)).setCell ⟨R, 1, none⟩ (.int .i64 (at' : Int))).setCell ⟨R, 2, none⟩ (.int .i64 (z : Int))) from ((HW5.out.setCell (p := ⟨R, 0, none⟩) (Nat.le_refl _) _).setCell (p := ⟨R, 1, none⟩) (Nat.le_refl _) _).setCell (p := ⟨R, 2, none⟩) (Nat.le_refl _) _)
      have y0 := HF.out.cell 0
      have y1 := HF.out.cell 1
      have y2 := HF.out.cell 2
      go_wp2_with fail
      refine bodyPost_ret (v := .agg #[.slice none 0 0, .int .i64 (at' : Int), .int .i64 (z : Int)]) (by simp [results, Tryz.results84, go_sem, y0, y1, y2]) rfl ⟨rfl, ?_⟩
      exact HFB.out
end Go.Proofs.YtgaoeoijdpdjiaaGreatDoor

namespace Go.Proofs.YtgaoeoijdpdjiaaGreatDoor
open Go.RowKit
/-- The number of the path's node of the height i at the leaf a. -/
def pnum (a i : Nat) : Nat := if a / 2 ^ i % 2 = 1 then a / 2 ^ i - 1 else a / 2 ^ i + 1
/-- The stack of the height i at the leaf a: its nodes, the leaf it takes next, how many it takes yet. -/
def skAt (n a i : Nat) : List Hk × Nat × Nat :=
  if a / 2 ^ i = 0 then ([(i, 0)], 0, 0)
  else if n ≤ (anewP (n + 64) (a / 2 ^ i * 2 ^ i) i).1 then ([], 0, 0)
  else (binH (anewP (n + 64) (a / 2 ^ i * 2 ^ i) i).1 (a % 2 ^ i + 1) i, (anewP (n + 64) (a / 2 ^ i * 2 ^ i) i).1 + (a % 2 ^ i + 1), 2 ^ i - (a % 2 ^ i + 1))
def midA (n a i : Nat) : List Hk × Nat × Nat := if (a + 1) % 2 ^ i = 0 then ([], (anewP n (a + 1) i).1, (anewP n (a + 1) i).2) else skAt n a i
def skOk (T a i : Nat) : Bool :=
  (if (a + 1) % 2 ^ i = 0 then (skAt (2 ^ T) a i).1 == [(i, pnum (a + 1) i)] else pnum a i == pnum (a + 1) i) &&
  (if (midA (2 ^ T) a i).2.2 = 0 then midA (2 ^ T) a i == skAt (2 ^ T) (a + 1) i
   else (List.range 16).any (fun q => (List.range 8).any (fun t => decide ((q + 1) * 2 ^ i ≤ 16) && decide (t < 2 ^ i) && (midA (2 ^ T) a i == (binH (q * 2 ^ i) t i, q * 2 ^ i + t, (midA (2 ^ T) a i).2.2)) && (skAt (2 ^ T) (a + 1) i == (binH (q * 2 ^ i) (t + 1) i, q * 2 ^ i + t + 1, (midA (2 ^ T) a i).2.2 - 1)))))
theorem skOk_all : ((List.range 5).all fun T => (List.range 16).all fun a => (List.range 4).all fun i => !(decide (a + 1 < 2 ^ T) && decide (i < T)) || skOk T a i) = true := by kernel_rfl
theorem skOk_on {T a i : Nat} (hT : T ≤ 4) (ha : a + 1 < 2 ^ T) (hi : i < T) : skOk T a i = true := by
  have p2 : 2 ^ T ≤ 2 ^ 4 := Nat.pow_le_pow_right (by decide) hT
  have x := List.all_eq_true.1 (List.all_eq_true.1 (List.all_eq_true.1 skOk_all T (List.mem_range.2 (by omega))) a (List.mem_range.2 (by omega))) i (List.mem_range.2 (by omega))
  rw [show (decide (a + 1 < 2 ^ T) && decide (i < T)) = true by rw [decide_eq_true ha, decide_eq_true hi]; rfl] at x
  simpa using x
theorem sk_path {T a i : Nat} (hT : T ≤ 4) (ha : a + 1 < 2 ^ T) (hi : i < T) (h : (a + 1) % 2 ^ i = 0) : (skAt (2 ^ T) a i).1 = [(i, pnum (a + 1) i)] := by
  have x := skOk_on hT ha hi
  unfold skOk at x
  rw [if_pos h, Bool.and_eq_true] at x
  exact beq_iff_eq.1 x.1
theorem sk_same {T a i : Nat} (hT : T ≤ 4) (ha : a + 1 < 2 ^ T) (hi : i < T) (h : ¬ (a + 1) % 2 ^ i = 0) : pnum a i = pnum (a + 1) i := by
  have x := skOk_on hT ha hi
  unfold skOk at x
  rw [if_neg h, Bool.and_eq_true] at x
  exact beq_iff_eq.1 x.1
theorem sk_done {T a i : Nat} (hT : T ≤ 4) (ha : a + 1 < 2 ^ T) (hi : i < T) (h : (midA (2 ^ T) a i).2.2 = 0) : midA (2 ^ T) a i = skAt (2 ^ T) (a + 1) i := by
  have x := skOk_on hT ha hi
  unfold skOk at x
  rw [Bool.and_eq_true, if_pos h] at x
  exact beq_iff_eq.1 x.2
theorem sk_more {T a i : Nat} (hT : T ≤ 4) (ha : a + 1 < 2 ^ T) (hi : i < T) (h : ¬ (midA (2 ^ T) a i).2.2 = 0) : ∃ q t, (q + 1) * 2 ^ i ≤ 16 ∧ t < 2 ^ i ∧ midA (2 ^ T) a i = (binH (q * 2 ^ i) t i, q * 2 ^ i + t, (midA (2 ^ T) a i).2.2) ∧ skAt (2 ^ T) (a + 1) i = (binH (q * 2 ^ i) (t + 1) i, q * 2 ^ i + t + 1, (midA (2 ^ T) a i).2.2 - 1) := by
  have x := skOk_on hT ha hi
  unfold skOk at x
  rw [Bool.and_eq_true, if_neg h] at x
  obtain ⟨q, -, y⟩ := List.any_eq_true.1 x.2
  obtain ⟨t, -, z⟩ := List.any_eq_true.1 y
  simp only [Bool.and_eq_true, decide_eq_true_eq, beq_iff_eq] at z
  exact ⟨q, t, z.1.1.1, z.1.1.2, z.1.2, z.2⟩
def bndOk (T a i : Nat) : Bool := decide ((midA (2 ^ T) a i).2.1 ≤ 100) && decide ((midA (2 ^ T) a i).2.2 ≤ 100) && decide ((midA (2 ^ T) a i).1.length ≤ 4)
theorem bndOk_all : ((List.range 5).all fun T => (List.range 16).all fun a => (List.range 4).all fun i => !(decide (a + 1 < 2 ^ T) && decide (i < T)) || bndOk T a i) = true := by kernel_rfl
theorem sk_bnd {T a i : Nat} (hT : T ≤ 4) (ha : a + 1 < 2 ^ T) (hi : i < T) : (midA (2 ^ T) a i).2.1 ≤ 100 ∧ (midA (2 ^ T) a i).2.2 ≤ 100 ∧ (midA (2 ^ T) a i).1.length ≤ 4 := by
  have p2 : 2 ^ T ≤ 2 ^ 4 := Nat.pow_le_pow_right (by decide) hT
  have x := List.all_eq_true.1 (List.all_eq_true.1 (List.all_eq_true.1 bndOk_all T (List.mem_range.2 (by omega))) a (List.mem_range.2 (by omega))) i (List.mem_range.2 (by omega))
  rw [show (decide (a + 1 < 2 ^ T) && decide (i < T)) = true by rw [decide_eq_true ha, decide_eq_true hi]; rfl] at x
  have y : bndOk T a i = true := by simpa using x
  unfold bndOk at y
  simp only [Bool.and_eq_true, decide_eq_true_eq] at y
  exact ⟨y.1.1, y.1.2, y.2⟩
/-- A stack in memory is the one that is told. -/
def Like (tv : Nat → Nat → ByteArray) (K : StkR) (x : List Hk × Nat × Nat) : Prop := K.ns = x.1.map (ndT tv) ∧ K.nx = (x.2.1 : Int) ∧ K.lf = (x.2.2 : Int)
def Lks (tv : Nat → Nat → ByteArray) (m : Nat) (Ks : List StkR) (f : Nat → List Hk × Nat × Nat) : Prop := Ks.length = m ∧ ∀ i, i < m → ∃ K, Ks[i]? = some K ∧ Like tv K (f i)
def Lps (tv : Nat → Nat → ByteArray) (m : Nat) (ps : List ByteArray) (f : Nat → Nat) : Prop := ps.length = m ∧ ∀ i, i < m → ps[i]? = some (tv i (f i))
theorem Lks.set {tv : Nat → Nat → ByteArray} {m : Nat} {Ks : List StkR} {f g : Nat → List Hk × Nat × Nat} (h : Lks tv m Ks f) {j : Nat} {K : StkR} (hK : Like tv K (g j)) (hfg : ∀ i, i ≠ j → f i = g i) : Lks tv m (Ks.set j K) g := by
  refine ⟨by rw [List.length_set]; exact h.1, fun i hi => ?_⟩
  by_cases e : i = j
  · subst e
    exact ⟨K, by rw [List.getElem?_set_self (by rw [h.1]; exact hi)], hK⟩
  · obtain ⟨A, hA, hL⟩ := h.2 i hi
    exact ⟨A, by rw [List.getElem?_set_ne (fun x => e x.symm)]; exact hA, by rw [← hfg i e]; exact hL⟩
theorem Lks.congr {tv : Nat → Nat → ByteArray} {m : Nat} {Ks : List StkR} {f g : Nat → List Hk × Nat × Nat} (h : Lks tv m Ks f) (hfg : ∀ i, i < m → f i = g i) : Lks tv m Ks g := ⟨h.1, fun i hi => by rw [← hfg i hi]; exact h.2 i hi⟩
theorem Lps.set {tv : Nat → Nat → ByteArray} {m : Nat} {ps : List ByteArray} {f g : Nat → Nat} (h : Lps tv m ps f) {j : Nat} (hfg : ∀ i, i ≠ j → f i = g i) : Lps tv m (ps.set j (tv j (g j))) g := by
  refine ⟨by rw [List.length_set]; exact h.1, fun i hi => ?_⟩
  by_cases e : i = j
  · subst e
    rw [List.getElem?_set_self (by rw [h.1]; exact hi)]
  · rw [List.getElem?_set_ne (fun x => e x.symm), ← hfg i e]
    exact h.2 i hi
theorem Lps.congr {tv : Nat → Nat → ByteArray} {m : Nat} {ps : List ByteArray} {f g : Nat → Nat} (h : Lps tv m ps f) (hfg : ∀ i, i < m → f i = g i) : Lps tv m ps g := ⟨h.1, fun i hi => by rw [← hfg i hi]; exact h.2 i hi⟩
/-- The walk's leaf is counted on. -/
theorem Wk.In.at_set {lo : Nat} {k : Wk} {w : World} (h : k.In lo w) (a : Int) : Wk.In lo { k with at' := a } (w.setCell ⟨k.W, 3, none⟩ (.int .i64 a)) := by
  have hk := kept_set w ⟨k.W, 3, none⟩ (.int .i64 a)
  refine ⟨h.obj.set 3 _, owns_kept h.path hk (fun q e hq => ?_), owns_kept h.stks hk (fun q e hq => ?_), fun K hK => owns_kept (h.rows K hK) hk (fun q e hq => ?_), h.apart, h.low⟩
  · subst hq; exact owns_neY h.path h.obj (by decide) e
  · subst hq; exact owns_neY h.stks h.obj (by decide) e
  · subst hq; exact owns_neY (h.rows K hK) h.obj (by decide) e
/-- The path's block. -/
theorem Wk.In.pathAt {lo : Nat} {k : Wk} {w : World} (h : k.In lo w) {j : Nat} {s : ByteArray} (hs : k.ps[j]? = some s) : ∃ P c, k.pv = .slice (some ⟨P, 0, none⟩) k.ps.length c ∧ w.cell? ⟨P, j, none⟩ = some (.string s) ∧ w.frozen? ⟨P, j, none⟩ = false ∧ P < w.heap.size ∧ ∀ x, Wk.In lo { k with ps := k.ps.set j x } (w.setCell ⟨P, j, none⟩ (.string x)) := by
  have hj := (List.getElem?_eq_some_iff.1 hs).1
  rcases h.path.2 with ⟨-, e⟩ | ⟨P, c, cur, hv, hb, hg, h1, h2, h3, h4⟩
  · omega
  · have hB : Blk w P cur.toList 9 := by unfold Blk; rw [hg]
    have hpv : k.pv.ownBlock = some P := by rw [hv]; rfl
    have hc : cur.toList[j]? = some (.string s) := by
      have : (cur.toList.take (k.ps.length * 1))[j]? = some (.string s) := by rw [h4, List.getElem?_map, hs]; rfl
      rwa [List.getElem?_take_of_lt (by omega)] at this
    refine ⟨P, c, hv, (hB.cell j).trans hc, hB.free j, hB.lt, fun x => ?_⟩
    have hk := kept_set w ⟨P, j, none⟩ (.string x)
    have hPW : P ≠ k.W := fun e => owns_neY h.path h.obj (by decide) (e ▸ hpv)
    refine ⟨blkY h.obj hk (fun e => hPW e.symm), ?_, owns_kept h.stks hk (fun q e hq => ?_), fun K hK => owns_kept (h.rows K hK) hk (fun q e hq => ?_), h.apart, h.low⟩
    · refine ⟨by simp, .inr ⟨P, c, (cur.toList.set j (.string x)).toArray, by simpa using hv, hb, hB.set j _, by simpa using h1, h2, by simpa using h3, ?_⟩⟩
      show (cur.toList.set j _).take ((k.ps.set j x).length * 1) = _
      rw [List.length_set, List.take_set, h4, List.map_set]
    · subst hq; exact owns_neY h.stks hB (by decide) e
    · subst hq; exact owns_neY (h.rows K hK) hB (by decide) e
end Go.Proofs.YtgaoeoijdpdjiaaGreatDoor

namespace Go.Proofs.YtgaoeoijdpdjiaaGreatDoor
open Go.RowKit
/-- The walk k of the world w, at another leaf, in the world wr. -/
def WkI (lo : Nat) (k : Wk) (w : World) (tv : Nat → Nat → ByteArray) (T : Nat) (a : Int) (f : Nat → Nat) (g : Nat → List Hk × Nat × Nat) (wr : World) : Prop := ∃ ps Ks, Wk.In lo { k with at' := a, ps := ps, Ks := Ks } wr ∧ Lps tv T ps f ∧ Lks tv T Ks g ∧ Kept k.foot w wr ∧ ∀ K ∈ Ks, ∀ q, K.v.ownBlock = some q → k.foot q ∨ w.heap.size ≤ q
theorem WkI.on {lo : Nat} {k : Wk} {w wr V : World} {tv : Nat → Nat → ByteArray} {T : Nat} {a : Int} {f : Nat → Nat} {g : Nat → List Hk × Nat × Nat} (h : WkI lo k w tv T a f g wr) (hb : Below wr.heap.size wr V) : WkI lo k w tv T a f g V := by
  obtain ⟨ps, Ks, h1, h2, h3, h4, h5⟩ := h
  exact ⟨ps, Ks, h1.on hb, h2, h3, h4.after hb, h5⟩
theorem WkI.congr {lo : Nat} {k : Wk} {w wr : World} {tv : Nat → Nat → ByteArray} {T : Nat} {a : Int} {f f' : Nat → Nat} {g g' : Nat → List Hk × Nat × Nat} (h : WkI lo k w tv T a f g wr) (hf : ∀ i, i < T → f i = f' i) (hg : ∀ i, i < T → g i = g' i) : WkI lo k w tv T a f' g' wr := by
  obtain ⟨ps, Ks, h1, h2, h3, h4, h5⟩ := h
  exact ⟨ps, Ks, h1, h2.congr hf, h3.congr hg, h4, h5⟩
theorem WkI.low {lo : Nat} {k : Wk} {w wr : World} {tv : Nat → Nat → ByteArray} {T : Nat} {a : Int} {f : Nat → Nat} {g : Nat → List Hk × Nat × Nat} (h : WkI lo k w tv T a f g wr) (hk : k.In lo w) (hlo : lo ≤ w.heap.size) : Below lo w wr := by
  obtain ⟨ps, Ks, h1, h2, h3, h4, h5⟩ := h
  exact h4.below (fun q hq => (hk.foot_lt q hq).1) hlo
theorem footN {k : Wk} {w : World} {ps : List ByteArray} {Ks : List StkR} {a : Int} (h5 : ∀ K ∈ Ks, ∀ q, K.v.ownBlock = some q → k.foot q ∨ w.heap.size ≤ q) : ∀ q, Wk.foot { k with at' := a, ps := ps, Ks := Ks } q → k.foot q ∨ w.heap.size ≤ q := by
  intro q hq
  rcases hq with e | e | e | ⟨K, hK, e⟩
  · exact .inl (.inl e)
  · exact .inl (.inr (.inl e))
  · exact .inl (.inr (.inr (.inl e)))
  · exact h5 K hK q e
theorem WkI.paths {lo : Nat} {k : Wk} {w wr : World} {tv : Nat → Nat → ByteArray} {T : Nat} {a : Int} {f : Nat → Nat} {g : Nat → List Hk × Nat × Nat} (h : WkI lo k w tv T a f g wr) {j : Nat} (hj : j < T) :
    ∃ P c s, k.pv = .slice (some ⟨P, 0, none⟩) T c ∧ wr.cell? ⟨P, j, none⟩ = some (.string s) ∧ wr.frozen? ⟨P, j, none⟩ = false ∧ P < wr.heap.size ∧ ∀ f' : Nat → Nat, (∀ i, i ≠ j → f i = f' i) → WkI lo k w tv T a f' g (wr.setCell ⟨P, j, none⟩ (.string (tv j (f' j)))) := by
  obtain ⟨ps, Ks, h1, h2, h3, h4, h5⟩ := h
  obtain ⟨P, c, e1, e2, e3, e4, e5⟩ := h1.pathAt (h2.2 j hj)
  refine ⟨P, c, _, by rw [← h2.1]; exact e1, e2, e3, e4, fun f' hf => ⟨ps.set j (tv j (f' j)), Ks, e5 _, h2.set hf, h3, h4.setCell (p := ⟨P, j, none⟩) (.inl (.inr (.inl (by rw [show k.pv = _ from e1]; rfl)))) _, h5⟩⟩
theorem WkI.stk {lo : Nat} {k : Wk} {w wr : World} {tv : Nat → Nat → ByteArray} {T : Nat} {a : Int} {f : Nat → Nat} {g : Nat → List Hk × Nat × Nat} (h : WkI lo k w tv T a f g wr) {j : Nat} (hj : j < T) :
    ∃ S c cur na nc, k.sv = .slice (some ⟨S, 0, none⟩) T c ∧ lo ≤ S ∧ Blk wr S cur 137 ∧ cur[j * 3]? = some (.slice na (g j).1.length nc) ∧ cur[j * 3 + 1]? = some (.int .i64 ((g j).2.1 : Int)) ∧ cur[j * 3 + 2]? = some (.int .i64 ((g j).2.2 : Int)) ∧
      wr.ownsRow lo 100 3 (.slice na (g j).1.length nc) (g j).1.length (nodC ((g j).1.map (ndT tv))) ∧
      ∀ (x : List Hk) (y z : Nat) (g' : Nat → List Hk × Nat × Nat) (w' : World), (∀ i, i ≠ j → g i = g' i) → g' j = (x, y, z) → StkI lo S (j * 3) cur (y : Int) (z : Int) (.slice na (g j).1.length nc) (x.map (ndT tv)) wr w' → WkI lo k w tv T a f g' w' := by
  obtain ⟨ps, Ks, h1, h2, h3, h4, h5⟩ := h
  obtain ⟨K, hK, l1, l2, l3⟩ := h3.2 j hj
  obtain ⟨S, c, cur, hv, hS, hB, hl, hc, hcl, hcu, d0, d1, d2⟩ := h1.block hK
  have hm : K ∈ Ks := List.mem_of_getElem? hK
  have el : K.ns.length = (g j).1.length := by rw [l1, List.length_map]
  have ev : K.v = .slice K.na (g j).1.length K.nc := by unfold StkR.v; rw [el]
  have hr := h1.rows K hm
  rw [ev, el, l1] at hr
  refine ⟨S, c, cur, K.na, K.nc, by rw [← h3.1]; exact hv, hS, hB, by rw [← ev]; exact d0, by rw [← l2]; exact d1, by rw [← l3]; exact d2, hr, fun x y z g' w' hg hj' hI => ?_⟩
  rw [← ev] at hI
  obtain ⟨na, nc, i1, i2, i3⟩ := h1.taken hK hv hS hB hl hc hcl hcu hI
  refine ⟨ps, Ks.set j ⟨na, nc, x.map (ndT tv), y, z⟩, i1, h2, h3.set (by rw [hj']; exact ⟨rfl, rfl, rfl⟩) hg, h4.trans i2 (fun q e => footN h5 q e), fun A hA q e => ?_⟩
  obtain ⟨b, hb⟩ := List.getElem?_of_mem hA
  by_cases hbj : b = j
  · subst hbj
    rw [List.getElem?_set_self (by rw [h3.1]; exact hj)] at hb
    cases hb
    rcases i3 q e with e | e
    · exact h5 K hm q e
    · exact .inr (Nat.le_trans h4.size e)
  · rw [List.getElem?_set_ne (fun x => hbj x.symm)] at hb
    exact h5 A (List.mem_of_getElem? hb) q e
theorem stkI_none {lo S o : Nat} {cur : List Value} {x y : Int} {v : Value} {w : World} (hB : Blk w S cur 137) :
    StkI lo S o cur x y v [] w (((w.setCell ⟨S, o, none⟩ (.slice none 0 0)).setCell ⟨S, o + 1, none⟩ (.int .i64 x)).setCell ⟨S, o + 2, none⟩ (.int .i64 y)) :=
  ⟨none, 0, ((hB.set o _).set (o + 1) _).set (o + 2) _, ⟨rfl, .inl ⟨rfl, rfl⟩⟩, (((Kept.refl _ _).setCell (p := ⟨S, o, none⟩) (.inl (.inl rfl)) _).setCell (p := ⟨S, o + 1, none⟩) (.inl (.inl rfl)) _).setCell (p := ⟨S, o + 2, none⟩) (.inl (.inl rfl)) _, fun q e => by cases e⟩
/-- A stack of the walk takes a leaf, if it takes one yet. -/
theorem WkI.takes {lo : Nat} {k : Wk} {w wr : World} {tv : Nat → Nat → ByteArray} {jn : Nat → Nat → ByteArray → ByteArray → ByteArray} {T : Nat} {at' : Int} {a n : Nat} {f : Nat → Nat} {j : Nat} {tr : Value} (hj : j < T) (hT : T ≤ 4) (hn : 2 ^ T = n) (ha : a + 1 < n) (h : WkI lo k w tv T at' f (fun i => if i < j then skAt n (a + 1) i else midA n a i) wr) (hk : k.In lo w) (hTn : Tn w) (hTB : 0 < lo) (hlo : lo ≤ w.heap.size)
    (hjn : ∀ h k, jn (h + 1) k (tv h (2 * k)) (tv h (2 * k + 1)) = tv (h + 1) k) (hs : ∀ h k, (tv h k).size ≤ 16)
    (hL : ∀ (k : Nat) (V : World), k < 16 → Tn V → Calls Tryz.prog 39 #[tr, .int .i64 (k : Int)] V fun e w' => e = .returned (.string (tv 0 k)) ∧ Below V.heap.size V w')
    (hJ : ∀ (h k : Nat) (a b : ByteArray) (V : World), a.size ≤ 16 → b.size ≤ 16 → Tn V → Calls Tryz.prog 40 #[tr, .int .i64 (h : Int), .int .i64 (k : Int), .string a, .string b] V fun e w' => e = .returned (.string (jn h k a b)) ∧ Below V.heap.size V w') :
    ∃ S c, k.sv = .slice (some ⟨S, 0, none⟩) T c ∧ Calls Tryz.prog 85 #[.pointer (some ⟨S, j * 3, none⟩), .func (.func 39) #[tr] #[], .func (.func 40) #[tr] #[]] wr fun e w' => e = .returned (.tuple #[]) ∧ WkI lo k w tv T at' f (fun i => if i < j + 1 then skAt n (a + 1) i else midA n a i) w' := by
  subst hn
  have hlow := h.low hk hlo
  have hsz : w.heap.size ≤ wr.heap.size := hlow.size
  have hTr : Tn wr := hTn.below hlow hTB
  have hcg : ∀ i, i ≠ j → (if i < j then skAt (2 ^ T) (a + 1) i else midA (2 ^ T) a i) = (if i < j + 1 then skAt (2 ^ T) (a + 1) i else midA (2 ^ T) a i) := fun i hi => by
    by_cases e : i < j
    · rw [if_pos e, if_pos (by omega)]
    · rw [if_neg e, if_neg (by omega)]
  obtain ⟨S, c, cur, na, nc, e1, e2, e3, e4, e5, e6, e7, e8⟩ := h.stk hj
  simp only [Nat.lt_irrefl, if_false] at e4 e5 e6 e7 e8
  refine ⟨S, c, e1, ?_⟩
  by_cases hz : (midA (2 ^ T) a j).2.2 = 0
  · rw [hz] at e6
    refine (take_none S (j * 3) cur _ _ wr e3 e6).mono ?_
    rintro e w' ⟨rfl, rfl⟩
    refine ⟨rfl, h.congr (fun _ _ => rfl) (fun i _ => ?_)⟩
    by_cases e : i = j
    · subst e
      rw [if_neg (by omega), if_pos (by omega)]
      exact sk_done hT ha hj hz
    · exact hcg i e
  · obtain ⟨q, t, q1, q2, q3, q4⟩ := sk_more hT ha hj hz
    obtain ⟨lf, hlf⟩ : ∃ lf, (midA (2 ^ T) a j).2.2 = lf + 1 := ⟨(midA (2 ^ T) a j).2.2 - 1, by omega⟩
    obtain ⟨b1, b2, b3⟩ := sk_bnd hT ha hj
    obtain ⟨r, l, l0, l1, l2, l3⟩ := sk_take hjn hs (h := j) (q := q) (t := t) (by omega) q1 q2
    have m1 : (midA (2 ^ T) a j).1 = binH (q * 2 ^ j) t j := by rw [q3]
    have m2 : (midA (2 ^ T) a j).2.1 = q * 2 ^ j + t := by rw [q3]
    have q5 : q * 2 ^ j + 2 ^ j ≤ 16 := by rw [Nat.add_mul, Nat.one_mul] at q1; exact q1
    rw [hlf] at e6 b2 q4
    rw [m2] at e5 b1
    rw [m1] at e4 e7 e8 b3
    have elm : ((binH (q * 2 ^ j) t j).map (ndT tv)).length = (binH (q * 2 ^ j) t j).length := List.length_map _
    rw [← elm] at e4 e7 e8
    refine (take_on lo S (j * 3) cur na nc _ (q * 2 ^ j + t) lf tr (tv 0 (q * 2 ^ j + t)) jn r l wr e3 e4 e5 e6 e7 (by rw [elm]; omega) b1 (by omega) (Nat.le_trans hlo hsz) e2 hTr hTB l0 l1 l2 (fun V hV => hL _ V (by omega) hV) (fun x y u v V z1 z2 hV => hJ x y u v V z1 z2 hV)).mono ?_
    rintro e w' ⟨rfl, hI⟩
    refine ⟨rfl, e8 (binH (q * 2 ^ j) (t + 1) j) (q * 2 ^ j + t + 1) lf _ w' hcg ?_ ?_⟩
    · rw [if_pos (by omega), q4]
      rfl
    · rw [l3] at hI
      exact hI
theorem WkI.pathsV {lo : Nat} {k : Wk} {w wr : World} {tv : Nat → Nat → ByteArray} {T : Nat} {a : Int} {f : Nat → Nat} {g : Nat → List Hk × Nat × Nat} (h : WkI lo k w tv T a f g wr) {j : Nat} (hj : j < T) :
    ∃ P c, k.pv = .slice (some ⟨P, 0, none⟩) T c ∧ ∀ V, Below wr.heap.size wr V → (∃ s, V.cell? ⟨P, j, none⟩ = some (.string s)) ∧ V.frozen? ⟨P, j, none⟩ = false ∧ ∀ f' : Nat → Nat, (∀ i, i ≠ j → f i = f' i) → WkI lo k w tv T a f' g (V.setCell ⟨P, j, none⟩ (.string (tv j (f' j)))) := by
  obtain ⟨P, c, s, e1, e2, -⟩ := h.paths hj
  refine ⟨P, c, e1, fun V hb => ?_⟩
  obtain ⟨P2, c2, s2, d1, d2, d3, -, d5⟩ := (h.on hb).paths hj
  rw [e1] at d1
  simp only [Value.slice.injEq, Option.some.injEq, Addr.mk.injEq] at d1
  obtain ⟨⟨rfl, -⟩, -, -⟩ := d1
  exact ⟨⟨s2, d2⟩, d3, d5⟩
theorem StkI.of_on {lo S o : Nat} {cs : List Value} {nx lf : Int} {na0 : Value} {ns : List Nd} {w V w' : World} (hb : Below w.heap.size w V) (h : StkI lo S o cs nx lf na0 ns V w') : StkI lo S o cs nx lf na0 ns w w' := by
  obtain ⟨na, nc, h1, h2, h3, h4⟩ := h
  exact ⟨na, nc, h1, h2, (Kept.of_below hb).trans h3 (fun i hi => .inl hi), fun q e => (h4 q e).imp id (Nat.le_trans hb.size)⟩
theorem WkI.cells {lo : Nat} {k : Wk} {w wr : World} {tv : Nat → Nat → ByteArray} {T : Nat} {a : Int} {f : Nat → Nat} {g : Nat → List Hk × Nat × Nat} (h : WkI lo k w tv T a f g wr) : ∀ V, Below wr.heap.size wr V → Blk V k.W [k.lf, k.jf, .int .i64 k.lv, .int .i64 a, k.pv, k.sv] 134 := by
  intro V hb
  obtain ⟨ps, Ks, h1, -⟩ := h
  exact (h1.on hb).obj
end Go.Proofs.YtgaoeoijdpdjiaaGreatDoor
