/-
  sets.Check and sets.Measure, by their contracts.
-/
import Derived.Test.YtgaoeoijdpdjiaaSets
import Derived.Test.YtgaoeoijdpdjiaaRight
import Derived.Test.YtgaoeoijdpdjiaaCells
import Derived.Deep.RegionHeld3
namespace Go.Proofs.Ytgaoeoijdpdjiaa
open Go.RowKit

theorem bcell {W w1 : World} (hb : Below W.heap.size W w1) : (∀ b o, b < W.heap.size → w1.cell? ⟨b, o, none⟩ = W.cell? ⟨b, o, none⟩) ∧ (∀ b o, b < W.heap.size → w1.frozen? ⟨b, o, none⟩ = W.frozen? ⟨b, o, none⟩) :=
  ⟨fun b o h => hb.cell (p := ⟨b, o, none⟩) h, fun b o h => hb.frozen (p := ⟨b, o, none⟩) h⟩

set_option maxHeartbeats 400000 in
theorem check_any (k b x t l : Int) (w : World) :
    Calls Try.prog 49 #[.agg #[.int .i64 k, .int .i64 b, .int .i64 x, .int .i64 t, .int .i64 l]] w fun e w' => e = .returned (.int .i64 (if rightB k b x t l then 0 else 1)) ∧ Below w.heap.size w w' := by
  cases hr : rightB k b x t l
  all_goals
    go_enter Try.func49, Try.ntmps49
    go_wp2_with (go_at_call 66; refine (right_any _ _ _ _ _ _).mono ?_; rintro e w' ⟨rfl, hb⟩)
    go_ret
    refine ⟨rfl, ?_⟩
    exact ((Below.refl _ _).alloc (Nat.le_refl _) _).trans (hb.mono (by simp))

/-- What follows from a set that is right. -/
def firstZ (b x : Int) : Int := b * each x
def lastZ (b x : Int) : Int := if x = 16 then 2 else if b = 4 then 3 else 4
def chainsZ (b x : Int) : Int := firstZ b x + lastZ b x
def totalZ (t l : Int) : Int := 2 ^ (t * l).toNat
def sigZ (b x t l : Int) : Int := 4 + b + l * (chainsZ b x + t) * b

theorem shift_total (t l : Int) (h1 : 1 ≤ t) (h2 : t ≤ 4) (h3 : 1 ≤ l) (h4 : l ≤ 3) : ∀ w : World, Sem.run Try.prog (Op.shift BinOp.shl IntKind.i64 1 IntKind.i64 (IntKind.i64.wrap (t * l))) w = .ok (.int .i64 (totalZ t l)) w := by
  rcases (show t = 1 ∨ t = 2 ∨ t = 3 ∨ t = 4 by omega) with rfl | rfl | rfl | rfl <;> rcases (show l = 1 ∨ l = 2 ∨ l = 3 by omega) with rfl | rfl | rfl <;> intro w <;> rfl

theorem cell_other {w : World} {a p : Addr} (v : Value) (h : p.block ≠ a.block) : (w.setCell a v).cell? p = w.cell? p := World.cell?_of_block (Below.heap_setCell _ _ _ _ h)
theorem five_other {w : World} {B C o : Nat} {k b x t l : Int} (h : Five w B k b x t l) (v : Value) (hne : B ≠ C) : Five (w.setCell ⟨C, o, none⟩ v) B k b x t l :=
  ⟨(cell_other v hne).trans h.1, (cell_other v hne).trans h.2.1, (cell_other v hne).trans h.2.2.1, (cell_other v hne).trans h.2.2.2.1, (cell_other v hne).trans h.2.2.2.2⟩

/-- The new variable of the sizes holds noughts. -/
theorem six_zero {w w' : World} {o : Array Value} (hb : Below ((w.alloc (.cells o 23)).alloc (.cells #[.int .i64 0, .int .i64 0, .int .i64 0, .int .i64 0, .int .i64 0, .int .i64 0] 72)).heap.size ((w.alloc (.cells o 23)).alloc (.cells #[.int .i64 0, .int .i64 0, .int .i64 0, .int .i64 0, .int .i64 0, .int .i64 0] 72)) w') :
    w'.cell? ⟨w.heap.size + 1, 0, none⟩ = some (.int .i64 0) ∧ w'.cell? ⟨w.heap.size + 1, 1, none⟩ = some (.int .i64 0) ∧ w'.cell? ⟨w.heap.size + 1, 2, none⟩ = some (.int .i64 0) ∧
    w'.cell? ⟨w.heap.size + 1, 3, none⟩ = some (.int .i64 0) ∧ w'.cell? ⟨w.heap.size + 1, 4, none⟩ = some (.int .i64 0) ∧ w'.cell? ⟨w.heap.size + 1, 5, none⟩ = some (.int .i64 0) := by
  refine ⟨?_, ?_, ?_, ?_, ?_, ?_⟩ <;> exact (hb.cell (by simp)).trans (by simp [go_sem])
end Go.Proofs.Ytgaoeoijdpdjiaa
