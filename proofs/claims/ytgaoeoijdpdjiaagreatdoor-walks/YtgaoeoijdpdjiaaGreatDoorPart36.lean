/-
  sets.Measure at the sets that are right, by the two numbers that its digits hang on. sets.Measure at the sets that are right, by the two numbers that its digits hang on.
-/
import Derived.Test.YtgaoeoijdpdjiaaGreatDoorPart34
namespace Go.Proofs.YtgaoeoijdpdjiaaGreatDoor
open Go.RowKit
theorem wrap_sig_4_16 (t l : Int) (h1 : 1 ≤ t) (h2 : t ≤ 4) (h3 : 1 ≤ l) (h4 : l ≤ 3) : IntKind.i64.wrap (IntKind.i64.wrap 8 + IntKind.i64.wrap (IntKind.i64.wrap (l * IntKind.i64.wrap (10 + t)) * 4)) = sigZ 4 16 t l := by
  rcases (show t = 1 ∨ t = 2 ∨ t = 3 ∨ t = 4 by omega) with rfl | rfl | rfl | rfl <;> rcases (show l = 1 ∨ l = 2 ∨ l = 3 by omega) with rfl | rfl | rfl <;> rfl
set_option maxHeartbeats 1000000 in
theorem measure_4_16 (k t l : Int) (w : World) (hk : k = 1 ∨ k = 2) (h1 : 1 ≤ t) (h2 : t ≤ 4) (h3 : 1 ≤ l) (h4 : l ≤ 3) :
    Calls Tryz.prog 69 #[.agg #[.int .i64 k, .int .i64 4, .int .i64 16, .int .i64 t, .int .i64 l]] w fun e w' =>
      e = .returned (.tuple #[.agg #[.int .i64 8, .int .i64 2, .int .i64 10, .int .i64 (totalZ t l), .int .i64 (sigZ 4 16 t l), .int .i64 13], .int .i64 0]) ∧ Below w.heap.size w w' := by
  have HR : Hid (rightB k 4 16 t l = true) := by show rightB k 4 16 t l = true; simp [rightB, hk, h1, h2, h3, h4]
  have hsh := shift_total t l h1 h2 h3 h4
  go_enter Tryz.func69, Tryz.ntmps69
  go_wp2_with (go_at_call 86; refine (check_any _ _ _ _ _ _).mono ?_; rintro e w' ⟨rfl, hb⟩; rw [HR.out]; obtain ⟨hc, hf⟩ := bcell hb; have hz := hb.size; simp at hz; have c1 : w'.cell? ⟨w.heap.size, 1, none⟩ = some (.int .i64 4) := (hb.cell (by simp <;> omega)).trans (by simp [go_sem, World.cell?_alloc_past]); have c2 : w'.cell? ⟨w.heap.size, 2, none⟩ = some (.int .i64 16) := (hb.cell (by simp <;> omega)).trans (by simp [go_sem, World.cell?_alloc_past]); have c3 : w'.cell? ⟨w.heap.size, 3, none⟩ = some (.int .i64 t) := (hb.cell (by simp <;> omega)).trans (by simp [go_sem, World.cell?_alloc_past]); have c4 : w'.cell? ⟨w.heap.size, 4, none⟩ = some (.int .i64 l) := (hb.cell (by simp <;> omega)).trans (by simp [go_sem, World.cell?_alloc_past]))
  obtain ⟨z0, z1, z2, z3, z4, z5⟩ := six_zero hb
  have HB : Hid (Below w.heap.size w w') := ((((Below.refl _ _).alloc (Nat.le_refl _) _).alloc (by simp) _).trans (hb.mono (by simp; omega)))
  have f0 : ∀ o, w'.frozen? ⟨w.heap.size + 1, o, none⟩ = false := fun o => (hf _ o (by simp)).trans (by simp [go_sem])
  clear hb hc hf
  go_quiet ((go_at_call 148; exact Calls.quiet_of_same (perByte_16 _)))
  go_wp2_with fail
  refine (count_120 _).mono ?_
  rintro e w'' ⟨rfl, rfl⟩
  go_wp2
  go_region_held3 (fun w' => w'.cell? ⟨w.heap.size, 1, none⟩ = some (.int .i64 4) ∧ w'.cell? ⟨w.heap.size, 3, none⟩ = some (.int .i64 t) ∧ w'.cell? ⟨w.heap.size, 4, none⟩ = some (.int .i64 l)) (simp [go_sem, c1, c3, c4]) (fail)
  go_wp2
  rw [wrap_sig_4_16 t l h1 h2 h3 h4]
  refine bodyPost_ret (v := .tuple #[.agg #[.int .i64 8, .int .i64 2, .int .i64 10, .int .i64 (totalZ t l), .int .i64 (sigZ 4 16 t l), .int .i64 13], .int .i64 0]) (by simp [results, Tryz.results69, go_sem, z0, z1, z2, z3, z4, z5]; rfl) rfl ⟨rfl, ?_⟩
  repeat refine Below.setCell ?_ (by simp) _
  exact below_drewN HB.out _
end Go.Proofs.YtgaoeoijdpdjiaaGreatDoor

namespace Go.Proofs.YtgaoeoijdpdjiaaGreatDoor
open Go.RowKit
theorem wrap_sig_8_16 (t l : Int) (h1 : 1 ≤ t) (h2 : t ≤ 4) (h3 : 1 ≤ l) (h4 : l ≤ 3) : IntKind.i64.wrap (IntKind.i64.wrap 12 + IntKind.i64.wrap (IntKind.i64.wrap (l * IntKind.i64.wrap (18 + t)) * 8)) = sigZ 8 16 t l := by
  rcases (show t = 1 ∨ t = 2 ∨ t = 3 ∨ t = 4 by omega) with rfl | rfl | rfl | rfl <;> rcases (show l = 1 ∨ l = 2 ∨ l = 3 by omega) with rfl | rfl | rfl <;> rfl
set_option maxHeartbeats 1000000 in
theorem measure_8_16 (k t l : Int) (w : World) (hk : k = 1 ∨ k = 2) (h1 : 1 ≤ t) (h2 : t ≤ 4) (h3 : 1 ≤ l) (h4 : l ≤ 3) :
    Calls Tryz.prog 69 #[.agg #[.int .i64 k, .int .i64 8, .int .i64 16, .int .i64 t, .int .i64 l]] w fun e w' =>
      e = .returned (.tuple #[.agg #[.int .i64 16, .int .i64 2, .int .i64 18, .int .i64 (totalZ t l), .int .i64 (sigZ 8 16 t l), .int .i64 21], .int .i64 0]) ∧ Below w.heap.size w w' := by
  have HR : Hid (rightB k 8 16 t l = true) := by show rightB k 8 16 t l = true; simp [rightB, hk, h1, h2, h3, h4]
  have hsh := shift_total t l h1 h2 h3 h4
  go_enter Tryz.func69, Tryz.ntmps69
  go_wp2_with (go_at_call 86; refine (check_any _ _ _ _ _ _).mono ?_; rintro e w' ⟨rfl, hb⟩; rw [HR.out]; obtain ⟨hc, hf⟩ := bcell hb; have hz := hb.size; simp at hz; have c1 : w'.cell? ⟨w.heap.size, 1, none⟩ = some (.int .i64 8) := (hb.cell (by simp <;> omega)).trans (by simp [go_sem, World.cell?_alloc_past]); have c2 : w'.cell? ⟨w.heap.size, 2, none⟩ = some (.int .i64 16) := (hb.cell (by simp <;> omega)).trans (by simp [go_sem, World.cell?_alloc_past]); have c3 : w'.cell? ⟨w.heap.size, 3, none⟩ = some (.int .i64 t) := (hb.cell (by simp <;> omega)).trans (by simp [go_sem, World.cell?_alloc_past]); have c4 : w'.cell? ⟨w.heap.size, 4, none⟩ = some (.int .i64 l) := (hb.cell (by simp <;> omega)).trans (by simp [go_sem, World.cell?_alloc_past]))
  obtain ⟨z0, z1, z2, z3, z4, z5⟩ := six_zero hb
  have HB : Hid (Below w.heap.size w w') := ((((Below.refl _ _).alloc (Nat.le_refl _) _).alloc (by simp) _).trans (hb.mono (by simp; omega)))
  have f0 : ∀ o, w'.frozen? ⟨w.heap.size + 1, o, none⟩ = false := fun o => (hf _ o (by simp)).trans (by simp [go_sem])
  clear hb hc hf
  go_quiet ((go_at_call 148; exact Calls.quiet_of_same (perByte_16 _)))
  go_wp2_with fail
  refine (count_240 _).mono ?_
  rintro e w'' ⟨rfl, rfl⟩
  go_wp2
  go_region_held3 (fun w' => w'.cell? ⟨w.heap.size, 1, none⟩ = some (.int .i64 8) ∧ w'.cell? ⟨w.heap.size, 3, none⟩ = some (.int .i64 t) ∧ w'.cell? ⟨w.heap.size, 4, none⟩ = some (.int .i64 l)) (simp [go_sem, c1, c3, c4]) (fail)
  go_wp2
  rw [wrap_sig_8_16 t l h1 h2 h3 h4]
  refine bodyPost_ret (v := .tuple #[.agg #[.int .i64 16, .int .i64 2, .int .i64 18, .int .i64 (totalZ t l), .int .i64 (sigZ 8 16 t l), .int .i64 21], .int .i64 0]) (by simp [results, Tryz.results69, go_sem, z0, z1, z2, z3, z4, z5]; rfl) rfl ⟨rfl, ?_⟩
  repeat refine Below.setCell ?_ (by simp) _
  exact below_drewN HB.out _
end Go.Proofs.YtgaoeoijdpdjiaaGreatDoor
