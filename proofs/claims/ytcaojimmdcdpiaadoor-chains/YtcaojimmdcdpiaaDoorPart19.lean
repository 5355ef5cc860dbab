/-
  sets.Check and sets.Measure, by their contracts. sets.Measure at the sets that are right, by the two numbers that its digits hang on. sets.Measure at the sets that are right, by the two numbers that its digits hang on. sets.Measure at the sets that are right, by the two numbers that its digits hang on. sets.Measure at the sets that are right, by the two numbers that its digits hang on. The statement's own small functions: fit, chains. The document's own answer, its small functions: Power, Leaves, Check.
-/
import Derived.Test.YtcaojimmdcdpiaaDoorPart18
import Derived.Deep.RegionHeld3
namespace Go.Proofs.YtcaojimmdcdpiaaDoor
open Go.RowKit

theorem bcell {W w1 : World} (hb : Below W.heap.size W w1) : (∀ b o, b < W.heap.size → w1.cell? ⟨b, o, none⟩ = W.cell? ⟨b, o, none⟩) ∧ (∀ b o, b < W.heap.size → w1.frozen? ⟨b, o, none⟩ = W.frozen? ⟨b, o, none⟩) :=
  ⟨fun b o h => hb.cell (p := ⟨b, o, none⟩) h, fun b o h => hb.frozen (p := ⟨b, o, none⟩) h⟩

set_option maxHeartbeats 400000 in
theorem check_any (k b x t l : Int) (w : World) :
    Calls Tryd.prog 101 #[.agg #[.int .i64 k, .int .i64 b, .int .i64 x, .int .i64 t, .int .i64 l]] w fun e w' => e = .returned (.int .i64 (if rightB k b x t l then 0 else 1)) ∧ Below w.heap.size w w' := by
  cases hr : rightB k b x t l
  all_goals
    go_enter Tryd.func101, Tryd.ntmps101
    go_wp2_with (go_at_call 136; refine (right_any _ _ _ _ _ _).mono ?_; rintro e w' ⟨rfl, hb⟩)
    go_ret
    refine ⟨rfl, ?_⟩
    exact ((Below.refl _ _).alloc (Nat.le_refl _) _).trans (hb.mono (by simp))

/-- What follows from a set that is right. -/
def firstZ (b x : Int) : Int := b * each x
def lastZ (b x : Int) : Int := if x = 16 then 2 else if b = 4 then 3 else 4
def chainsZ (b x : Int) : Int := firstZ b x + lastZ b x
def totalZ (t l : Int) : Int := 2 ^ (t * l).toNat
def sigZ (b x t l : Int) : Int := 4 + b + l * (chainsZ b x + t) * b

theorem shift_total (t l : Int) (h1 : 1 ≤ t) (h2 : t ≤ 4) (h3 : 1 ≤ l) (h4 : l ≤ 3) : ∀ w : World, Sem.run Tryd.prog (Op.shift BinOp.shl IntKind.i64 1 IntKind.i64 (IntKind.i64.wrap (t * l))) w = .ok (.int .i64 (totalZ t l)) w := by
  rcases (show t = 1 ∨ t = 2 ∨ t = 3 ∨ t = 4 by omega) with rfl | rfl | rfl | rfl <;> rcases (show l = 1 ∨ l = 2 ∨ l = 3 by omega) with rfl | rfl | rfl <;> intro w <;> rfl

theorem cell_other {w : World} {a p : Addr} (v : Value) (h : p.block ≠ a.block) : (w.setCell a v).cell? p = w.cell? p := World.cell?_of_block (Below.heap_setCell _ _ _ _ h)
theorem five_other {w : World} {B C o : Nat} {k b x t l : Int} (h : Five w B k b x t l) (v : Value) (hne : B ≠ C) : Five (w.setCell ⟨C, o, none⟩ v) B k b x t l :=
  ⟨(cell_other v hne).trans h.1, (cell_other v hne).trans h.2.1, (cell_other v hne).trans h.2.2.1, (cell_other v hne).trans h.2.2.2.1, (cell_other v hne).trans h.2.2.2.2⟩

/-- The new variable of the sizes holds noughts. -/
theorem six_zero {w w' : World} {o : Array Value} (hb : Below ((w.alloc (.cells o 25)).alloc (.cells #[.int .i64 0, .int .i64 0, .int .i64 0, .int .i64 0, .int .i64 0, .int .i64 0] 106)).heap.size ((w.alloc (.cells o 25)).alloc (.cells #[.int .i64 0, .int .i64 0, .int .i64 0, .int .i64 0, .int .i64 0, .int .i64 0] 106)) w') :
    w'.cell? ⟨w.heap.size + 1, 0, none⟩ = some (.int .i64 0) ∧ w'.cell? ⟨w.heap.size + 1, 1, none⟩ = some (.int .i64 0) ∧ w'.cell? ⟨w.heap.size + 1, 2, none⟩ = some (.int .i64 0) ∧
    w'.cell? ⟨w.heap.size + 1, 3, none⟩ = some (.int .i64 0) ∧ w'.cell? ⟨w.heap.size + 1, 4, none⟩ = some (.int .i64 0) ∧ w'.cell? ⟨w.heap.size + 1, 5, none⟩ = some (.int .i64 0) := by
  refine ⟨?_, ?_, ?_, ?_, ?_, ?_⟩ <;> exact (hb.cell (by simp)).trans (by simp [go_sem])
end Go.Proofs.YtcaojimmdcdpiaaDoor

namespace Go.Proofs.YtcaojimmdcdpiaaDoor
open Go.RowKit

theorem wrap_sig_4_4 (t l : Int) (h1 : 1 ≤ t) (h2 : t ≤ 4) (h3 : 1 ≤ l) (h4 : l ≤ 3) : IntKind.i64.wrap (IntKind.i64.wrap 8 + IntKind.i64.wrap (IntKind.i64.wrap (l * IntKind.i64.wrap (19 + t)) * 4)) = sigZ 4 4 t l := by
  rcases (show t = 1 ∨ t = 2 ∨ t = 3 ∨ t = 4 by omega) with rfl | rfl | rfl | rfl <;> rcases (show l = 1 ∨ l = 2 ∨ l = 3 by omega) with rfl | rfl | rfl <;> rfl
set_option maxHeartbeats 1000000 in
theorem measure_4_4 (k t l : Int) (w : World) (hk : k = 1 ∨ k = 2) (h1 : 1 ≤ t) (h2 : t ≤ 4) (h3 : 1 ≤ l) (h4 : l ≤ 3) :
    Calls Tryd.prog 81 #[.agg #[.int .i64 k, .int .i64 4, .int .i64 4, .int .i64 t, .int .i64 l]] w fun e w' =>
      e = .returned (.tuple #[.agg #[.int .i64 16, .int .i64 3, .int .i64 19, .int .i64 (totalZ t l), .int .i64 (sigZ 4 4 t l), .int .i64 13], .int .i64 0]) ∧ Below w.heap.size w w' := by
  have HR : Hid (rightB k 4 4 t l = true) := by show rightB k 4 4 t l = true; simp [rightB, hk, h1, h2, h3, h4]
  have hsh := shift_total t l h1 h2 h3 h4
  go_enter Tryd.func81, Tryd.ntmps81
  go_wp2_with (go_at_call 101; refine (check_any _ _ _ _ _ _).mono ?_; rintro e w' ⟨rfl, hb⟩; rw [HR.out]; obtain ⟨hc, hf⟩ := bcell hb; have hz := hb.size; simp at hz; have c1 : w'.cell? ⟨w.heap.size, 1, none⟩ = some (.int .i64 4) := (hb.cell (by simp <;> omega)).trans (by simp [go_sem, World.cell?_alloc_past]); have c2 : w'.cell? ⟨w.heap.size, 2, none⟩ = some (.int .i64 4) := (hb.cell (by simp <;> omega)).trans (by simp [go_sem, World.cell?_alloc_past]); have c3 : w'.cell? ⟨w.heap.size, 3, none⟩ = some (.int .i64 t) := (hb.cell (by simp <;> omega)).trans (by simp [go_sem, World.cell?_alloc_past]); have c4 : w'.cell? ⟨w.heap.size, 4, none⟩ = some (.int .i64 l) := (hb.cell (by simp <;> omega)).trans (by simp [go_sem, World.cell?_alloc_past]))
  obtain ⟨z0, z1, z2, z3, z4, z5⟩ := six_zero hb
  have HB : Hid (Below w.heap.size w w') := ((((Below.refl _ _).alloc (Nat.le_refl _) _).alloc (by simp) _).trans (hb.mono (by simp; omega)))
  have f0 : ∀ o, w'.frozen? ⟨w.heap.size + 1, o, none⟩ = false := fun o => (hf _ o (by simp)).trans (by simp [go_sem])
  clear hb hc hf
  go_quiet ((go_at_call 112; exact Calls.quiet_of_same (perByte_4 _)))
  go_wp2_with fail
  refine (count_48 _).mono ?_
  rintro e w'' ⟨rfl, rfl⟩
  go_wp2
  go_region_held3 (fun w' => w'.cell? ⟨w.heap.size, 1, none⟩ = some (.int .i64 4) ∧ w'.cell? ⟨w.heap.size, 3, none⟩ = some (.int .i64 t) ∧ w'.cell? ⟨w.heap.size, 4, none⟩ = some (.int .i64 l)) (simp [go_sem, c1, c3, c4]) (fail)
  go_wp2
  rw [wrap_sig_4_4 t l h1 h2 h3 h4]
  refine bodyPost_ret (v := .tuple #[.agg #[.int .i64 16, .int .i64 3, .int .i64 19, .int .i64 (totalZ t l), .int .i64 (sigZ 4 4 t l), .int .i64 13], .int .i64 0]) (by simp [results, Tryd.results81, go_sem, z0, z1, z2, z3, z4, z5]; rfl) rfl ⟨rfl, ?_⟩
  repeat refine Below.setCell ?_ (by simp) _
  exact below_drewN HB.out _

end Go.Proofs.YtcaojimmdcdpiaaDoor

namespace Go.Proofs.YtcaojimmdcdpiaaDoor
open Go.RowKit

theorem wrap_sig_8_4 (t l : Int) (h1 : 1 ≤ t) (h2 : t ≤ 4) (h3 : 1 ≤ l) (h4 : l ≤ 3) : IntKind.i64.wrap (IntKind.i64.wrap 12 + IntKind.i64.wrap (IntKind.i64.wrap (l * IntKind.i64.wrap (36 + t)) * 8)) = sigZ 8 4 t l := by
  rcases (show t = 1 ∨ t = 2 ∨ t = 3 ∨ t = 4 by omega) with rfl | rfl | rfl | rfl <;> rcases (show l = 1 ∨ l = 2 ∨ l = 3 by omega) with rfl | rfl | rfl <;> rfl
set_option maxHeartbeats 1000000 in
theorem measure_8_4 (k t l : Int) (w : World) (hk : k = 1 ∨ k = 2) (h1 : 1 ≤ t) (h2 : t ≤ 4) (h3 : 1 ≤ l) (h4 : l ≤ 3) :
    Calls Tryd.prog 81 #[.agg #[.int .i64 k, .int .i64 8, .int .i64 4, .int .i64 t, .int .i64 l]] w fun e w' =>
      e = .returned (.tuple #[.agg #[.int .i64 32, .int .i64 4, .int .i64 36, .int .i64 (totalZ t l), .int .i64 (sigZ 8 4 t l), .int .i64 21], .int .i64 0]) ∧ Below w.heap.size w w' := by
  have HR : Hid (rightB k 8 4 t l = true) := by show rightB k 8 4 t l = true; simp [rightB, hk, h1, h2, h3, h4]
  have hsh := shift_total t l h1 h2 h3 h4
  go_enter Tryd.func81, Tryd.ntmps81
  go_wp2_with (go_at_call 101; refine (check_any _ _ _ _ _ _).mono ?_; rintro e w' ⟨rfl, hb⟩; rw [HR.out]; obtain ⟨hc, hf⟩ := bcell hb; have hz := hb.size; simp at hz; have c1 : w'.cell? ⟨w.heap.size, 1, none⟩ = some (.int .i64 8) := (hb.cell (by simp <;> omega)).trans (by simp [go_sem, World.cell?_alloc_past]); have c2 : w'.cell? ⟨w.heap.size, 2, none⟩ = some (.int .i64 4) := (hb.cell (by simp <;> omega)).trans (by simp [go_sem, World.cell?_alloc_past]); have c3 : w'.cell? ⟨w.heap.size, 3, none⟩ = some (.int .i64 t) := (hb.cell (by simp <;> omega)).trans (by simp [go_sem, World.cell?_alloc_past]); have c4 : w'.cell? ⟨w.heap.size, 4, none⟩ = some (.int .i64 l) := (hb.cell (by simp <;> omega)).trans (by simp [go_sem, World.cell?_alloc_past]))
  obtain ⟨z0, z1, z2, z3, z4, z5⟩ := six_zero hb
  have HB : Hid (Below w.heap.size w w') := ((((Below.refl _ _).alloc (Nat.le_refl _) _).alloc (by simp) _).trans (hb.mono (by simp; omega)))
  have f0 : ∀ o, w'.frozen? ⟨w.heap.size + 1, o, none⟩ = false := fun o => (hf _ o (by simp)).trans (by simp [go_sem])
  clear hb hc hf
  go_quiet ((go_at_call 112; exact Calls.quiet_of_same (perByte_4 _)))
  go_wp2_with fail
  refine (count_96 _).mono ?_
  rintro e w'' ⟨rfl, rfl⟩
  go_wp2
  go_region_held3 (fun w' => w'.cell? ⟨w.heap.size, 1, none⟩ = some (.int .i64 8) ∧ w'.cell? ⟨w.heap.size, 3, none⟩ = some (.int .i64 t) ∧ w'.cell? ⟨w.heap.size, 4, none⟩ = some (.int .i64 l)) (simp [go_sem, c1, c3, c4]) (fail)
  go_wp2
  rw [wrap_sig_8_4 t l h1 h2 h3 h4]
  refine bodyPost_ret (v := .tuple #[.agg #[.int .i64 32, .int .i64 4, .int .i64 36, .int .i64 (totalZ t l), .int .i64 (sigZ 8 4 t l), .int .i64 21], .int .i64 0]) (by simp [results, Tryd.results81, go_sem, z0, z1, z2, z3, z4, z5]; rfl) rfl ⟨rfl, ?_⟩
  repeat refine Below.setCell ?_ (by simp) _
  exact below_drewN HB.out _

end Go.Proofs.YtcaojimmdcdpiaaDoor

namespace Go.Proofs.YtcaojimmdcdpiaaDoor
open Go.RowKit

theorem wrap_sig_4_16 (t l : Int) (h1 : 1 ≤ t) (h2 : t ≤ 4) (h3 : 1 ≤ l) (h4 : l ≤ 3) : IntKind.i64.wrap (IntKind.i64.wrap 8 + IntKind.i64.wrap (IntKind.i64.wrap (l * IntKind.i64.wrap (10 + t)) * 4)) = sigZ 4 16 t l := by
  rcases (show t = 1 ∨ t = 2 ∨ t = 3 ∨ t = 4 by omega) with rfl | rfl | rfl | rfl <;> rcases (show l = 1 ∨ l = 2 ∨ l = 3 by omega) with rfl | rfl | rfl <;> rfl
set_option maxHeartbeats 1000000 in
theorem measure_4_16 (k t l : Int) (w : World) (hk : k = 1 ∨ k = 2) (h1 : 1 ≤ t) (h2 : t ≤ 4) (h3 : 1 ≤ l) (h4 : l ≤ 3) :
    Calls Tryd.prog 81 #[.agg #[.int .i64 k, .int .i64 4, .int .i64 16, .int .i64 t, .int .i64 l]] w fun e w' =>
      e = .returned (.tuple #[.agg #[.int .i64 8, .int .i64 2, .int .i64 10, .int .i64 (totalZ t l), .int .i64 (sigZ 4 16 t l), .int .i64 13], .int .i64 0]) ∧ Below w.heap.size w w' := by
  have HR : Hid (rightB k 4 16 t l = true) := by show rightB k 4 16 t l = true; simp [rightB, hk, h1, h2, h3, h4]
  have hsh := shift_total t l h1 h2 h3 h4
  go_enter Tryd.func81, Tryd.ntmps81
  go_wp2_with (go_at_call 101; refine (check_any _ _ _ _ _ _).mono ?_; rintro e w' ⟨rfl, hb⟩; rw [HR.out]; obtain ⟨hc, hf⟩ := bcell hb; have hz := hb.size; simp at hz; have c1 : w'.cell? ⟨w.heap.size, 1, none⟩ = some (.int .i64 4) := (hb.cell (by simp <;> omega)).trans (by simp [go_sem, World.cell?_alloc_past]); have c2 : w'.cell? ⟨w.heap.size, 2, none⟩ = some (.int .i64 16) := (hb.cell (by simp <;> omega)).trans (by simp [go_sem, World.cell?_alloc_past]); have c3 : w'.cell? ⟨w.heap.size, 3, none⟩ = some (.int .i64 t) := (hb.cell (by simp <;> omega)).trans (by simp [go_sem, World.cell?_alloc_past]); have c4 : w'.cell? ⟨w.heap.size, 4, none⟩ = some (.int .i64 l) := (hb.cell (by simp <;> omega)).trans (by simp [go_sem, World.cell?_alloc_past]))
  obtain ⟨z0, z1, z2, z3, z4, z5⟩ := six_zero hb
  have HB : Hid (Below w.heap.size w w') := ((((Below.refl _ _).alloc (Nat.le_refl _) _).alloc (by simp) _).trans (hb.mono (by simp; omega)))
  have f0 : ∀ o, w'.frozen? ⟨w.heap.size + 1, o, none⟩ = false := fun o => (hf _ o (by simp)).trans (by simp [go_sem])
  clear hb hc hf
  go_quiet ((go_at_call 112; exact Calls.quiet_of_same (perByte_16 _)))
  go_wp2_with fail
  refine (count_120 _).mono ?_
  rintro e w'' ⟨rfl, rfl⟩
  go_wp2
  go_region_held3 (fun w' => w'.cell? ⟨w.heap.size, 1, none⟩ = some (.int .i64 4) ∧ w'.cell? ⟨w.heap.size, 3, none⟩ = some (.int .i64 t) ∧ w'.cell? ⟨w.heap.size, 4, none⟩ = some (.int .i64 l)) (simp [go_sem, c1, c3, c4]) (fail)
  go_wp2
  rw [wrap_sig_4_16 t l h1 h2 h3 h4]
  refine bodyPost_ret (v := .tuple #[.agg #[.int .i64 8, .int .i64 2, .int .i64 10, .int .i64 (totalZ t l), .int .i64 (sigZ 4 16 t l), .int .i64 13], .int .i64 0]) (by simp [results, Tryd.results81, go_sem, z0, z1, z2, z3, z4, z5]; rfl) rfl ⟨rfl, ?_⟩
  repeat refine Below.setCell ?_ (by simp) _
  exact below_drewN HB.out _

end Go.Proofs.YtcaojimmdcdpiaaDoor

namespace Go.Proofs.YtcaojimmdcdpiaaDoor
open Go.RowKit

theorem wrap_sig_8_16 (t l : Int) (h1 : 1 ≤ t) (h2 : t ≤ 4) (h3 : 1 ≤ l) (h4 : l ≤ 3) : IntKind.i64.wrap (IntKind.i64.wrap 12 + IntKind.i64.wrap (IntKind.i64.wrap (l * IntKind.i64.wrap (18 + t)) * 8)) = sigZ 8 16 t l := by
  rcases (show t = 1 ∨ t = 2 ∨ t = 3 ∨ t = 4 by omega) with rfl | rfl | rfl | rfl <;> rcases (show l = 1 ∨ l = 2 ∨ l = 3 by omega) with rfl | rfl | rfl <;> rfl
set_option maxHeartbeats 1000000 in
theorem measure_8_16 (k t l : Int) (w : World) (hk : k = 1 ∨ k = 2) (h1 : 1 ≤ t) (h2 : t ≤ 4) (h3 : 1 ≤ l) (h4 : l ≤ 3) :
    Calls Tryd.prog 81 #[.agg #[.int .i64 k, .int .i64 8, .int .i64 16, .int .i64 t, .int .i64 l]] w fun e w' =>
      e = .returned (.tuple #[.agg #[.int .i64 16, .int .i64 2, .int .i64 18, .int .i64 (totalZ t l), .int .i64 (sigZ 8 16 t l), .int .i64 21], .int .i64 0]) ∧ Below w.heap.size w w' := by
  have HR : Hid (rightB k 8 16 t l = true) := by show rightB k 8 16 t l = true; simp [rightB, hk, h1, h2, h3, h4]
  have hsh := shift_total t l h1 h2 h3 h4
  go_enter Tryd.func81, Tryd.ntmps81
  go_wp2_with (go_at_call 101; refine (check_any _ _ _ _ _ _).mono ?_; rintro e w' ⟨rfl, hb⟩; rw [HR.out]; obtain ⟨hc, hf⟩ := bcell hb; have hz := hb.size; simp at hz; have c1 : w'.cell? ⟨w.heap.size, 1, none⟩ = some (.int .i64 8) := (hb.cell (by simp <;> omega)).trans (by simp [go_sem, World.cell?_alloc_past]); have c2 : w'.cell? ⟨w.heap.size, 2, none⟩ = some (.int .i64 16) := (hb.cell (by simp <;> omega)).trans (by simp [go_sem, World.cell?_alloc_past]); have c3 : w'.cell? ⟨w.heap.size, 3, none⟩ = some (.int .i64 t) := (hb.cell (by simp <;> omega)).trans (by simp [go_sem, World.cell?_alloc_past]); have c4 : w'.cell? ⟨w.heap.size, 4, none⟩ = some (.int .i64 l) := (hb.cell (by simp <;> omega)).trans (by simp [go_sem, World.cell?_alloc_past]))
  obtain ⟨z0, z1, z2, z3, z4, z5⟩ := six_zero hb
  have HB : Hid (Below w.heap.size w w') := ((((Below.refl _ _).alloc (Nat.le_refl _) _).alloc (by simp) _).trans (hb.mono (by simp; omega)))
  have f0 : ∀ o, w'.frozen? ⟨w.heap.size + 1, o, none⟩ = false := fun o => (hf _ o (by simp)).trans (by simp [go_sem])
  clear hb hc hf
  go_quiet ((go_at_call 112; exact Calls.quiet_of_same (perByte_16 _)))
  go_wp2_with fail
  refine (count_240 _).mono ?_
  rintro e w'' ⟨rfl, rfl⟩
  go_wp2
  go_region_held3 (fun w' => w'.cell? ⟨w.heap.size, 1, none⟩ = some (.int .i64 8) ∧ w'.cell? ⟨w.heap.size, 3, none⟩ = some (.int .i64 t) ∧ w'.cell? ⟨w.heap.size, 4, none⟩ = some (.int .i64 l)) (simp [go_sem, c1, c3, c4]) (fail)
  go_wp2
  rw [wrap_sig_8_16 t l h1 h2 h3 h4]
  refine bodyPost_ret (v := .tuple #[.agg #[.int .i64 16, .int .i64 2, .int .i64 18, .int .i64 (totalZ t l), .int .i64 (sigZ 8 16 t l), .int .i64 21], .int .i64 0]) (by simp [results, Tryd.results81, go_sem, z0, z1, z2, z3, z4, z5]; rfl) rfl ⟨rfl, ?_⟩
  repeat refine Below.setCell ?_ (by simp) _
  exact below_drewN HB.out _

end Go.Proofs.YtcaojimmdcdpiaaDoor

namespace Go.Proofs.YtcaojimmdcdpiaaDoor
open Go.RowKit

/-- A number that an int holds. -/
def Int64 (c : Int) : Prop := -9223372036854775808 ≤ c ∧ c ≤ 9223372036854775807

set_option maxHeartbeats 400000 in
theorem fit_any (k b x t l : Int) (w : World) (hk : Int64 k) (hb : Int64 b) (hx : Int64 x) (ht : Int64 t) (hl : Int64 l) :
    Calls Tryd.prog 15 #[.agg #[.int .i64 k, .int .i64 b, .int .i64 x, .int .i64 t, .int .i64 l]] w fun e w' =>
      e = .returned (.agg #[.int .i64 (pickZ k 2 + 1), .int .i64 (4 + 4 * pickZ b 2), .int .i64 (4 + 12 * pickZ x 2), .int .i64 (pickZ t 4 + 1), .int .i64 (pickZ l 3 + 1)]) ∧ Below w.heap.size w w' := by
  have p1 := pickZ_bd k 2 (by omega)
  have p2 := pickZ_bd b 2 (by omega)
  have p3 := pickZ_bd x 2 (by omega)
  have p4 := pickZ_bd t 4 (by omega)
  have p5 := pickZ_bd l 3 (by omega)
  obtain ⟨p1a, p1b⟩ := p1
  obtain ⟨p2a, p2b⟩ := p2
  obtain ⟨p3a, p3b⟩ := p3
  obtain ⟨p4a, p4b⟩ := p4
  obtain ⟨p5a, p5b⟩ := p5
  go_enter Tryd.func15, Tryd.ntmps15
  go_wp2_with fail
  refine (pick_any k 2 _ (by omega) (by omega) hk.1 hk.2).mono ?_
  rintro e w1 ⟨rfl, rfl⟩
  go_wp2_with fail
  refine (pick_any b 2 _ (by omega) (by omega) hb.1 hb.2).mono ?_
  rintro e w1 ⟨rfl, rfl⟩
  go_wp2_with fail
  refine (pick_any x 2 _ (by omega) (by omega) hx.1 hx.2).mono ?_
  rintro e w1 ⟨rfl, rfl⟩
  go_wp2_with fail
  refine (pick_any t 4 _ (by omega) (by omega) ht.1 ht.2).mono ?_
  rintro e w1 ⟨rfl, rfl⟩
  go_wp2_with fail
  refine (pick_any l 3 _ (by omega) (by omega) hl.1 hl.2).mono ?_
  rintro e w1 ⟨rfl, rfl⟩
  go_wp2
  refine bodyPost_ret (v := .agg #[.int .i64 (pickZ k 2 + 1), .int .i64 (4 + 4 * pickZ b 2), .int .i64 (4 + 12 * pickZ x 2), .int .i64 (pickZ t 4 + 1), .int .i64 (pickZ l 3 + 1)]) (by simp [results, Tryd.results15, go_sem]) rfl ⟨rfl, ?_⟩
  first
    | exact ((Below.refl _ _).alloc (Nat.le_refl _) _).alloc (by simp) _
    | (repeat refine Below.setCell ?_ (by simp) _
       exact ((Below.refl _ _).alloc (Nat.le_refl _) _).alloc (by simp) _)

/-- How many chains: as the statement has it. -/
def chainsK (b x : Nat) : Nat := if b = 4 ∧ x = 16 then 10 else if b = 4 then 19 else if x = 16 then 18 else 36

set_option maxHeartbeats 400000 in
theorem keepChains_any (b x : Nat) (k t l : Int) (w : World) (hb : b = 4 ∨ b = 8) (hx : x = 4 ∨ x = 16) :
    Calls Tryd.prog 48 #[.agg #[.int .i64 k, .int .i64 b, .int .i64 x, .int .i64 t, .int .i64 l]] w fun e w' => e = .returned (.int .i64 (chainsK b x)) ∧ Below w.heap.size w w' := by
  rcases hb with rfl | rfl <;> rcases hx with rfl | rfl
  all_goals
    go_enter Tryd.func48, Tryd.ntmps48
    go_wp2
    go_ret
    exact ⟨rfl, (Below.refl _ _).alloc (Nat.le_refl _) _⟩
end Go.Proofs.YtcaojimmdcdpiaaDoor

namespace Go.Proofs.YtcaojimmdcdpiaaDoor
open Go.RowKit

set_option maxHeartbeats 400000 in
theorem power_any (a n : Nat) (w : World) (ha : a ≤ 16) (hn : n ≤ 12) (hp : a ^ n ≤ 65536) (ha1 : 1 ≤ a) :
    Calls Tryd.prog 73 #[.int .i64 a, .int .i64 n] w fun e w' => e = .returned (.int .i64 ((a ^ n : Nat) : Int)) ∧ w' = w := by
  have HP := hideM hp
  clear hp
  go_enter Tryd.func73, Tryd.ntmps73
  go_wp2
  go_loop [5, 6] (fun p i => ∃ j : Nat, j ≤ n ∧ i = .int .i64 j ∧ p = .int .i64 ((a ^ j : Nat) : Int)) (fun _ i => n - (intOf i).toNat)
  case atStart => exact ⟨0, by omega, rfl, rfl⟩
  case round =>
    obtain ⟨j, hj, rfl, rfl⟩ := hrel
    by_cases hlt : j < n
    · have hb : a ^ (j + 1) ≤ 65536 := Nat.le_trans (Nat.pow_le_pow_right ha1 (by omega)) HP.out
      have HS : Hid (a ^ (j + 1) = a ^ j * a) := Nat.pow_succ a j
      have hb2 : ((a ^ j : Nat) : Int) * (a : Int) ≤ 65536 := by have h := HS.out; have e : ((a ^ j * a : Nat) : Int) = ((a ^ j : Nat) : Int) * (a : Int) := Int.natCast_mul _ _; omega
      have hb0 : 0 ≤ ((a ^ j : Nat) : Int) * (a : Int) := Int.mul_nonneg (by omega) (by omega)
      clear hb
      generalize hq : a ^ j = q at HS hb2 hb0 ⊢
      have HQ := hideM hq
      clear hq
      go_wp2
      go_round
      case rel => exact ⟨j + 1, by omega, by go_num, by rw [HS.out, Int.natCast_mul]⟩
      case measure => simp [intOf]; omega
    · obtain rfl : j = n := by omega
      go_wp2
      go_ret
      exact ⟨rfl, rfl⟩

set_option maxHeartbeats 400000 in
theorem leaves_any (t : Nat) (k b x l : Int) (w : World) (ht : t ≤ 4) :
    Calls Tryd.prog 103 #[.agg #[.int .i64 k, .int .i64 b, .int .i64 x, .int .i64 t, .int .i64 l]] w fun e w' => e = .returned (.int .i64 ((2 ^ t : Nat) : Int)) ∧ Below w.heap.size w w' := by
  have hp : 2 ^ t ≤ 65536 := Nat.le_trans (Nat.pow_le_pow_right (by decide) ht) (by decide)
  have HC := hideM (fun w' : World => power_any 2 t w' (by decide) (by omega) hp (by decide))
  clear hp
  go_enter Tryd.func103, Tryd.ntmps103
  go_wp2_with fail
  refine (HC.out _).mono ?_
  rintro e w1 ⟨rfl, rfl⟩
  go_wp2
  go_ret
  exact ⟨rfl, (Below.refl _ _).alloc (Nat.le_refl _) _⟩
end Go.Proofs.YtcaojimmdcdpiaaDoor
