/-
  A walk begins a stack anew.
-/
import Derived.Test.YtgaoeoijdpdjiaaGreatDoorPart23
namespace Go.Proofs.YtgaoeoijdpdjiaaGreatDoor
open Go.RowKit
theorem w64Y (n : Int) (h : -9223372036854775808 ≤ n ∧ n ≤ 9223372036854775807) : wrap64 n = n := by unfold wrap64; omega
/-- Where a stack begins anew, and how many leaves it will take. -/
def anewP (lv at' h : Nat) : Nat × Nat := if lv ≤ (if at' / 2 ^ h % 2 = 1 then at' + 2 * 2 ^ h else at') then (0, 0) else ((if at' / 2 ^ h % 2 = 1 then at' + 2 * 2 ^ h else at'), 2 ^ h)
set_option maxRecDepth 20000 in
set_option maxHeartbeats 4000000 in
theorem anew_on (W : Nat) (ws : List Value) (at' lv h : Nat) (w : World) (hW : Blk w W ws 134) (h2 : ws[2]? = some (.int .i64 (lv : Int))) (h3 : ws[3]? = some (.int .i64 (at' : Int))) (hh : h < 4) (ha : at' < 16) (hl : lv ≤ 16) :
    Calls Tryz.prog 84 #[.pointer (some ⟨W, 0, none⟩), .int .i64 (h : Int)] w fun e w' => e = .returned (.agg #[.slice none 0 0, .int .i64 ((anewP lv at' h).1 : Int), .int .i64 ((anewP lv at' h).2 : Int)]) ∧ Below w.heap.size w w' := by
  obtain ⟨z, hz⟩ : ∃ z, 2 ^ h = z := ⟨_, rfl⟩
  have hz2 : 1 ≤ z ∧ z ≤ 8 := by
    subst hz
    rcases (show h = 0 ∨ h = 1 ∨ h = 2 ∨ h = 3 by omega) with rfl | rfl | rfl | rfl <;> decide
  have pz : wrap64 ((2 : Int) ^ h) = (z : Int) := by
    have e : (2 : Int) ^ h = ((2 ^ h : Nat) : Int) := by simp
    rw [e, hz, w64Y]
    omega
  unfold anewP
  rw [hz]
  obtain ⟨d, hd⟩ : ∃ d, at' / z = d := ⟨_, rfl⟩
  have hdl : d ≤ at' := by rw [← hd]; exact Nat.div_le_self _ _
  have pd : wrap64 ((at' : Int) / (z : Int)) = (d : Int) := by
    have e : (at' : Int) / (z : Int) = ((at' / z : Nat) : Int) := by simp
    rw [e, hd, w64Y]
    omega
  rw [hd]
  have p2 : wrap64 (2 * (z : Int)) = 2 * (z : Int) := w64Y _ (by omega)
  have p3 : wrap64 ((at' : Int) + 2 * (z : Int)) = (at' : Int) + 2 * (z : Int) := w64Y _ (by omega)
  have HB := hide (fun (a b : Int) (V : World) => begun_any a b V)
  obtain ⟨w1, e1⟩ : ∃ W1, w.alloc (.cells #[.slice none 0 0, .int .i64 0, .int .i64 0] 137) = W1 := ⟨_, rfl⟩
  obtain ⟨R, e2⟩ : ∃ X, w.heap.size = X := ⟨_, rfl⟩
  have HR := hide (show Blk w1 R [.slice none 0 0, .int .i64 0, .int .i64 0] 137 by rw [← e1, ← e2]; exact Blk.new w _ _)
  have HW1 := hide (show Below R w w1 by rw [← e1, ← e2]; exact (Below.refl _ _).alloc (Nat.le_refl _) _)
  have HRL := hide (show R ≤ w1.heap.size by rw [← e1, World.size_alloc, e2]; omega)
  have hW1 : Blk w1 W ws 134 := by rw [← e1]; exact hW.alloc _
  have c2 : w1.cell? ⟨W, 2, none⟩ = some (.int .i64 (lv : Int)) := (hW1.cell 2).trans h2
  have c3 : w1.cell? ⟨W, 3, none⟩ = some (.int .i64 (at' : Int)) := (hW1.cell 3).trans h3
  have f0 := HR.out.free 0
  have f1 := HR.out.free 1
  have f2 := HR.out.free 2
  have z0 : w1.cell? ⟨R, 0, none⟩ = some (.slice none 0 0) := HR.out.cell 0
  have z1 : w1.cell? ⟨R, 1, none⟩ = some (.int .i64 0) := HR.out.cell 1
  have z2 : w1.cell? ⟨R, 2, none⟩ = some (.int .i64 0) := HR.out.cell 2
  rw [e2]
  have HD := hide hdl
  clear hW hW1 h2 h3 hz hd hdl
  by_cases ho : d % 2 = 1
  · by_cases hp : lv ≤ at' + 2 * z
    · have pm : ((d : Int).tmod 2 == 1) = true := by rw [Int.tmod_eq_emod_of_nonneg (by omega)]; simp; omega
      have hp2 : (lv : Int) ≤ ((at' : Int) + 2 * (z : Int)) := by omega
      rw [if_pos ho, if_pos hp]
      go_enter Tryz.func84, Tryz.ntmps84
      have HF := hide (show Blk (((w1.setCell ⟨R, 0, none⟩ (.slice none 0 0)).setCell ⟨R, 1, none⟩ (.int .i64 0)).setCell ⟨R, 2, none⟩ (.int .i64 0)) R [.slice none 0 0, .int .i64 0, .int .i64 0] 137 from ((HR.out.set 0 _).set 1 _).set 2 _)
      have HFB := hide (show Below R w (((w1.setCell ⟨R, 0, none⟩ (.slice none 0 0)).setCell ⟨R, 1, none⟩ (.int .i64 0)).setCell ⟨R, 2, none⟩ (.int .i64 0)) from ((HW1.out.setCell (p := ⟨R, 0, none⟩) (Nat.le_refl _) _).setCell (p := ⟨R, 1, none⟩) (Nat.le_refl _) _).setCell (p := ⟨R, 2, none⟩) (Nat.le_refl _) _)
      have y0 := HF.out.cell 0
      have y1 := HF.out.cell 1
      have y2 := HF.out.cell 2
      go_wp2_with fail
      refine bodyPost_ret (v := .agg #[.slice none 0 0, .int .i64 0, .int .i64 0]) (by simp [results, Tryz.results84, go_sem, y0, y1, y2]) rfl ⟨rfl, ?_⟩
      exact HFB.out
    · have pm : ((d : Int).tmod 2 == 1) = true := by rw [Int.tmod_eq_emod_of_nonneg (by omega)]; simp; omega
      have hp2 : ¬ (lv : Int) ≤ ((at' : Int) + 2 * (z : Int)) := by omega
      rw [if_pos ho, if_neg hp]
      go_enter Tryz.func84, Tryz.ntmps84
      clear f0 f1 f2 z0 z1 z2
      go_wp2_with fail
      go_at_call 151
      refine (HB.out _ _ _).mono ?_
      rintro e w5 ⟨rfl, hb⟩
      have HR5 := hide (HR.out.on hb)
      have HW5 := hide (HW1.out.trans (hb.mono HRL.out))
      clear hb
      have f0 := HR5.out.free 0
      have z0 : w5.cell? ⟨R, 0, none⟩ = some (.slice none 0 0) := HR5.out.cell 0
      have f1 := HR5.out.free 1
      have z1 : w5.cell? ⟨R, 1, none⟩ = some (.int .i64 0) := HR5.out.cell 1
      have f2 := HR5.out.free 2
      have z2 : w5.cell? ⟨R, 2, none⟩ = some (.int .i64 0) := HR5.out.cell 2
      have HF := hide (show Blk (((w5.setCell ⟨R, 0, none⟩ (.slice none 0 0)).setCell ⟨R, 1, none⟩ (.int .i64 ((at' : Int) + 2 * (z : Int)))).setCell ⟨R, 2, none⟩ (.int .i64 (z : Int))) R [.slice none 0 0, .int .i64 ((at' : Int) + 2 * (z : Int)), .int .i64 (z : Int)] 137 from ((HR5.out.set 0 _).set 1 _).set 2 _)
      have HFB := hide (show Below R w (((w5.setCell ⟨R, 0, none⟩ (.slice none 0 0)).setCell ⟨R, 1, none⟩ (.int .i64 ((at' : Int) + 2 * (z : Int)))).setCell ⟨R, 2, none⟩ (.int .i64 (z : Int))) from ((HW5.out.setCell (p := ⟨R, 0, none⟩) (Nat.le_refl _) _).setCell (p := ⟨R, 1, none⟩) (Nat.le_refl _) _).setCell (p := ⟨R, 2, none⟩) (Nat.le_refl _) _)
      have y0 := HF.out.cell 0
      have y1 := HF.out.cell 1
      have y2 := HF.out.cell 2
      go_wp2_with fail
      refine bodyPost_ret (v := .agg #[.slice none 0 0, .int .i64 ((at' : Int) + 2 * (z : Int)), .int .i64 (z : Int)]) (by simp [results, Tryz.results84, go_sem, y0, y1, y2]) rfl ⟨by simp, ?_⟩
      exact HFB.out
  · by_cases hp : lv ≤ at'
    · have pm : ((d : Int).tmod 2 == 1) = false := by rw [Int.tmod_eq_emod_of_nonneg (by omega)]; simp; omega
      have hp2 : (lv : Int) ≤ (at' : Int) := by omega
      rw [if_neg ho, if_pos hp]
      go_enter Tryz.func84, Tryz.ntmps84
      have HF := hide (show Blk (((w1.setCell ⟨R, 0, none⟩ (.slice none 0 0)).setCell ⟨R, 1, none⟩ (.int .i64 0)).setCell ⟨R, 2, none⟩ (.int .i64 0)) R [.slice none 0 0, .int .i64 0, .int .i64 0] 137 from ((HR.out.set 0 _).set 1 _).set 2 _)
      have HFB := hide (show Below R w (((w1.setCell ⟨R, 0, none⟩ (.slice none 0 0)).setCell ⟨R, 1, none⟩ (.int .i64 0)).setCell ⟨R, 2, none⟩ (.int .i64 0)) from ((HW1.out.setCell (p := ⟨R, 0, none⟩) (Nat.le_refl _) _).setCell (p := ⟨R, 1, none⟩) (Nat.le_refl _) _).setCell (p := ⟨R, 2, none⟩) (Nat.le_refl _) _)
      have y0 := HF.out.cell 0
      have y1 := HF.out.cell 1
      have y2 := HF.out.cell 2
      go_wp2_with fail
      refine bodyPost_ret (v := .agg #[.slice none 0 0, .int .i64 0, .int .i64 0]) (by simp [results, Tryz.results84, go_sem, y0, y1, y2]) rfl ⟨rfl, ?_⟩
      exact HFB.out
    · have pm : ((d : Int).tmod 2 == 1) = false := by rw [Int.tmod_eq_emod_of_nonneg (by omega)]; simp; omega
      have hp2 : ¬ (lv : Int) ≤ (at' : Int) := by omega
      rw [if_neg ho, if_neg hp]
      go_enter Tryz.func84, Tryz.ntmps84
      clear f0 f1 f2 z0 z1 z2
      go_wp2_with fail
      go_at_call 151
      refine (HB.out _ _ _).mono ?_
      rintro e w5 ⟨rfl, hb⟩
      have HR5 := hide (HR.out.on hb)
      have HW5 := hide (HW1.out.trans (hb.mono HRL.out))
      clear hb
      have f0 := HR5.out.free 0
      have z0 : w5.cell? ⟨R, 0, none⟩ = some (.slice none 0 0) := HR5.out.cell 0
      have f1 := HR5.out.free 1
      have z1 : w5.cell? ⟨R, 1, none⟩ = some (.int .i64 0) := HR5.out.cell 1
      have f2 := HR5.out.free 2
      have z2 : w5.cell? ⟨R, 2, none⟩ = some (.int .i64 0) := HR5.out.cell 2
      have HF := hide (show Blk (((w5.setCell ⟨R, 0, none⟩ (.slice none 0 0)).setCell ⟨R, 1, none⟩ (.int .i64 (at' : Int))).setCell ⟨R, 2, none⟩ (.int .i64 (z : Int))) R [.slice none 0 0, .int .i64 (at' : Int), .int .i64 (z : Int)] 137 from ((HR5.out.set 0 _).set 1 _).set 2 _)
      have HFB := hide (show Below R w (((w5.setCell ⟨R, 0, none⟩ (.slice none 0 0)).setCell ⟨R, 1, none⟩ (.int .i64 (at' : Int))).setCell ⟨R, 2, none⟩ (.int .i64 (z : Int))) from ((HW5.out.setCell (p := ⟨R, 0, none⟩) (Nat.le_refl _) _).setCell (p := ⟨R, 1, none⟩) (Nat.le_refl _) _).setCell (p := ⟨R, 2, none⟩) (Nat.le_refl _) _)
      have y0 := HF.out.cell 0
      have y1 := HF.out.cell 1
      have y2 := HF.out.cell 2
      go_wp2_with fail
      refine bodyPost_ret (v := .agg #[.slice none 0 0, .int .i64 (at' : Int), .int .i64 (z : Int)]) (by simp [results, Tryz.results84, go_sem, y0, y1, y2]) rfl ⟨rfl, ?_⟩
      exact HFB.out
end Go.Proofs.YtgaoeoijdpdjiaaGreatDoor
