/-
  A step through a region that draws its order: an operation that only reads is taken; one whose guard says no is passed by. sets.Check and sets.Measure, by their contracts.
-/
import Derived.Test.YtgaoeoijdpdjiabGreatDoorPart2
import Derived.Deep.RegionHeld3
import Derived.Test.YtgaoeoijdpdjiabGreatDoorPart4
import Derived.Test.YtgaoeoijdpdjiabGreatDoorPart5
import Derived.Test.YtgaoeoijdpdjiabGreatDoorPart3
namespace Go.Proofs.YtgaoeoijdpdjiabGreatDoor
open Go.RowKit
section
variable {P : Program} {ops : Array Oper} {Q : Exit → Act → World → Prop} {md : Region.Mode} {S : World → Prop}
theorem tk (i : Nat) {oi : Oper} {v : Value} {fuel : Nat} {listed : Array Bool} {a b : Act} {w : World} (hS : S w)
    (hi : ops[i]? = some oi := by (simp only [List.getElem?_toArray, List.getElem?_cons_succ, List.getElem?_cons_zero]; rfl))
    (hs : Region.noSelect ops = true := by kernel_rfl) (hf : Region.free md ops listed i = true := by kernel_rfl) (hr : (Region.ready md ops listed).contains i = true := by kernel_rfl)
    (h1 : Region.wanted oi (yielded ops a.tmps) = true := by rfl) (hy : ∀ w, S w → (execOp a.eval oi).run P w = .ok (.value v) w := by intro V hSV; (try dsimp only at hSV); go_simp; (try with_reducible rfl))
    (hQ : ∀ c a w, Q (.panic c) (a.put oi.dst v) w → Q (.panic c) a w := by exact fun _ _ _ h => h)
    (hb : a.put oi.dst v = b := by (first | (simp only [Act.put, List.setIfInBounds_toArray, List.set_cons_zero, List.set_cons_succ]; done) | (simp only [Act.put, List.setIfInBounds_toArray, List.set_cons_zero, List.set_cons_succ]; rfl) | rfl))
    (h : wpAnyH P md ops Q S fuel (listed.setIfInBounds i true) b w) : wpAnyH P md ops Q S (fuel + 1) listed a w :=
  wpAnyH_take hi hs hf hr hQ (.inl ⟨h1, hy⟩) hS (by rw [hb]; exact h)
theorem sk (i : Nat) {oi : Oper} {fuel : Nat} {listed : Array Bool} {a b : Act} {w : World} (hS : S w)
    (hi : ops[i]? = some oi := by (simp only [List.getElem?_toArray, List.getElem?_cons_succ, List.getElem?_cons_zero]; rfl))
    (hs : Region.noSelect ops = true := by kernel_rfl) (hf : Region.free md ops listed i = true := by kernel_rfl) (hr : (Region.ready md ops listed).contains i = true := by kernel_rfl)
    (h1 : Region.wanted oi (yielded ops a.tmps) = false := by rfl)
    (hQ : ∀ c a w, Q (.panic c) (a.put oi.dst undef) w → Q (.panic c) a w := by exact fun _ _ _ h => h)
    (hb : a.put oi.dst undef = b := by (first | (simp only [Act.put, List.setIfInBounds_toArray, List.set_cons_zero, List.set_cons_succ]; done) | (simp only [Act.put, List.setIfInBounds_toArray, List.set_cons_zero, List.set_cons_succ]; rfl) | rfl))
    (h : wpAnyH P md ops Q S fuel (listed.setIfInBounds i true) b w) : wpAnyH P md ops Q S (fuel + 1) listed a w :=
  wpAnyH_take hi hs hf hr hQ (.inr ⟨h1, rfl⟩) hS (by rw [hb]; exact h)
end
end Go.Proofs.YtgaoeoijdpdjiabGreatDoor

namespace Go.Proofs.YtgaoeoijdpdjiabGreatDoor
open Go.RowKit
theorem bcell {W w1 : World} (hb : Below W.heap.size W w1) : (∀ b o, b < W.heap.size → w1.cell? ⟨b, o, none⟩ = W.cell? ⟨b, o, none⟩) ∧ (∀ b o, b < W.heap.size → w1.frozen? ⟨b, o, none⟩ = W.frozen? ⟨b, o, none⟩) :=
  ⟨fun b o h => hb.cell (p := ⟨b, o, none⟩) h, fun b o h => hb.frozen (p := ⟨b, o, none⟩) h⟩
set_option maxHeartbeats 400000 in
theorem check_any (k b x t l : Int) (w : World) :
    Calls Tryz.prog 231 #[.agg #[.int .i64 k, .int .i64 b, .int .i64 x, .int .i64 t, .int .i64 l]] w fun e w' => e = .returned (.int .i64 (if rightB k b x t l then 0 else 1)) ∧ Below w.heap.size w w' := by
  cases hr : rightB k b x t l
  all_goals
    go_enter Tryz.func231, Tryz.ntmps231
    go_wp2_with (go_at_call 279; refine (right_any _ _ _ _ _ _).mono ?_; rintro e w' ⟨rfl, hb⟩)
    go_ret
    refine ⟨rfl, ?_⟩
    exact ((Below.refl _ _).alloc (Nat.le_refl _) _).trans (hb.mono (by simp))
/-- What follows from a set that is right. -/
def firstZ (b x : Int) : Int := b * each x
def lastZ (b x : Int) : Int := if x = 16 then 2 else if b = 4 then 3 else 4
def chainsZ (b x : Int) : Int := firstZ b x + lastZ b x
def totalZ (t l : Int) : Int := 2 ^ (t * l).toNat
def sigZ (b x t l : Int) : Int := 4 + b + l * (chainsZ b x + t) * b
theorem shift_total (t l : Int) (h1 : 1 ≤ t) (h2 : t ≤ 4) (h3 : 1 ≤ l) (h4 : l ≤ 3) : ∀ w : World, Sem.run Tryz.prog (Op.shift BinOp.shl IntKind.i64 1 IntKind.i64 (IntKind.i64.wrap (t * l))) w = .ok (.int .i64 (totalZ t l)) w := by
  rcases (show t = 1 ∨ t = 2 ∨ t = 3 ∨ t = 4 by omega) with rfl | rfl | rfl | rfl <;> rcases (show l = 1 ∨ l = 2 ∨ l = 3 by omega) with rfl | rfl | rfl <;> intro w <;> rfl
/-- The new variable of the sizes holds noughts. -/
theorem six_zero {w w' : World} {o : Array Value} (hb : Below ((w.alloc (.cells o 26)).alloc (.cells #[.int .i64 0, .int .i64 0, .int .i64 0, .int .i64 0, .int .i64 0, .int .i64 0] 158)).heap.size ((w.alloc (.cells o 26)).alloc (.cells #[.int .i64 0, .int .i64 0, .int .i64 0, .int .i64 0, .int .i64 0, .int .i64 0] 158)) w') :
    w'.cell? ⟨w.heap.size + 1, 0, none⟩ = some (.int .i64 0) ∧ w'.cell? ⟨w.heap.size + 1, 1, none⟩ = some (.int .i64 0) ∧ w'.cell? ⟨w.heap.size + 1, 2, none⟩ = some (.int .i64 0) ∧
    w'.cell? ⟨w.heap.size + 1, 3, none⟩ = some (.int .i64 0) ∧ w'.cell? ⟨w.heap.size + 1, 4, none⟩ = some (.int .i64 0) ∧ w'.cell? ⟨w.heap.size + 1, 5, none⟩ = some (.int .i64 0) := by
  refine ⟨?_, ?_, ?_, ?_, ?_, ?_⟩ <;> exact (hb.cell (by simp)).trans (by simp [go_sem])
end Go.Proofs.YtgaoeoijdpdjiabGreatDoor
