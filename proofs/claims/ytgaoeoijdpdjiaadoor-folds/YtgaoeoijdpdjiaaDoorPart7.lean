/-
  sets.Check and sets.Measure, by their contracts. The document's own answer, its small functions: Power, Leaves, Check. The stirring as a plain function of eight words. A set that comes in by value, opened: five numbers that an int holds.
-/
import Derived.Test.YtgaoeoijdpdjiaaDoorPart5
import Derived.Test.YtgaoeoijdpdjiaaDoorPart2
import Derived.Test.YtgaoeoijdpdjiaaDoorPart1
import Derived.Deep.RegionHeld3
import Derived.Test.YtgaoeoijdpdjiaaDoorPart4
import Derived.ProofKit
namespace Go.Proofs.YtgaoeoijdpdjiaaDoor
open Go.RowKit

theorem bcell {W w1 : World} (hb : Below W.heap.size W w1) : (∀ b o, b < W.heap.size → w1.cell? ⟨b, o, none⟩ = W.cell? ⟨b, o, none⟩) ∧ (∀ b o, b < W.heap.size → w1.frozen? ⟨b, o, none⟩ = W.frozen? ⟨b, o, none⟩) :=
  ⟨fun b o h => hb.cell (p := ⟨b, o, none⟩) h, fun b o h => hb.frozen (p := ⟨b, o, none⟩) h⟩

set_option maxHeartbeats 400000 in
theorem check_any (k b x t l : Int) (w : World) :
    Calls Tryd.prog 66 #[.agg #[.int .i64 k, .int .i64 b, .int .i64 x, .int .i64 t, .int .i64 l]] w fun e w' => e = .returned (.int .i64 (if rightB k b x t l then 0 else 1)) ∧ Below w.heap.size w w' := by
  cases hr : rightB k b x t l
  all_goals
    go_enter Tryd.func66, Tryd.ntmps66
    go_wp2_with (go_at_call 91; refine (right_any _ _ _ _ _ _).mono ?_; rintro e w' ⟨rfl, hb⟩)
    go_ret
    refine ⟨rfl, ?_⟩
    exact ((Below.refl _ _).alloc (Nat.le_refl _) _).trans (hb.mono (by simp))

/-- What follows from a set that is right. -/
def firstZ (b x : Int) : Int := b * each x
def lastZ (b x : Int) : Int := if x = 16 then 2 else if b = 4 then 3 else 4
def chainsZ (b x : Int) : Int := firstZ b x + lastZ b x
def totalZ (t l : Int) : Int := 2 ^ (t * l).toNat
def sigZ (b x t l : Int) : Int := 4 + b + l * (chainsZ b x + t) * b

theorem shift_total (t l : Int) (h1 : 1 ≤ t) (h2 : t ≤ 4) (h3 : 1 ≤ l) (h4 : l ≤ 3) : ∀ w : World, Sem.run Tryd.prog (Op.shift BinOp.shl IntKind.i64 1 IntKind.i64 (IntKind.i64.wrap (t * l))) w = .ok (.int .i64 (totalZ t l)) w := by
  rcases (show t = 1 ∨ t = 2 ∨ t = 3 ∨ t = 4 by omega) with rfl | rfl | rfl | rfl <;> rcases (show l = 1 ∨ l = 2 ∨ l = 3 by omega) with rfl | rfl | rfl <;> intro w <;> rfl

theorem cell_other {w : World} {a p : Addr} (v : Value) (h : p.block ≠ a.block) : (w.setCell a v).cell? p = w.cell? p := World.cell?_of_block (Below.heap_setCell _ _ _ _ h)
theorem five_other {w : World} {B C o : Nat} {k b x t l : Int} (h : Five w B k b x t l) (v : Value) (hne : B ≠ C) : Five (w.setCell ⟨C, o, none⟩ v) B k b x t l :=
  ⟨(cell_other v hne).trans h.1, (cell_other v hne).trans h.2.1, (cell_other v hne).trans h.2.2.1, (cell_other v hne).trans h.2.2.2.1, (cell_other v hne).trans h.2.2.2.2⟩

/-- The new variable of the sizes holds noughts. -/
theorem six_zero {w w' : World} {o : Array Value} (hb : Below ((w.alloc (.cells o 25)).alloc (.cells #[.int .i64 0, .int .i64 0, .int .i64 0, .int .i64 0, .int .i64 0, .int .i64 0] 68)).heap.size ((w.alloc (.cells o 25)).alloc (.cells #[.int .i64 0, .int .i64 0, .int .i64 0, .int .i64 0, .int .i64 0, .int .i64 0] 68)) w') :
    w'.cell? ⟨w.heap.size + 1, 0, none⟩ = some (.int .i64 0) ∧ w'.cell? ⟨w.heap.size + 1, 1, none⟩ = some (.int .i64 0) ∧ w'.cell? ⟨w.heap.size + 1, 2, none⟩ = some (.int .i64 0) ∧
    w'.cell? ⟨w.heap.size + 1, 3, none⟩ = some (.int .i64 0) ∧ w'.cell? ⟨w.heap.size + 1, 4, none⟩ = some (.int .i64 0) ∧ w'.cell? ⟨w.heap.size + 1, 5, none⟩ = some (.int .i64 0) := by
  refine ⟨?_, ?_, ?_, ?_, ?_, ?_⟩ <;> exact (hb.cell (by simp)).trans (by simp [go_sem])
end Go.Proofs.YtgaoeoijdpdjiaaDoor

namespace Go.Proofs.YtgaoeoijdpdjiaaDoor
open Go.RowKit

set_option maxHeartbeats 400000 in
theorem power_any (a n : Nat) (w : World) (ha : a ≤ 16) (hn : n ≤ 12) (hp : a ^ n ≤ 65536) (ha1 : 1 ≤ a) :
    Calls Tryd.prog 61 #[.int .i64 a, .int .i64 n] w fun e w' => e = .returned (.int .i64 ((a ^ n : Nat) : Int)) ∧ w' = w := by
  have HP := hideM hp
  clear hp
  go_enter Tryd.func61, Tryd.ntmps61
  go_wp2
  go_loop [5, 6] (fun p i => ∃ j : Nat, j ≤ n ∧ i = .int .i64 j ∧ p = .int .i64 ((a ^ j : Nat) : Int)) (fun _ i => n - (intOf i).toNat)
  case atStart => exact ⟨0, by omega, rfl, rfl⟩
  case round =>
    obtain ⟨j, hj, rfl, rfl⟩ := hrel
    by_cases hlt : j < n
    · have hb : a ^ (j + 1) ≤ 65536 := Nat.le_trans (Nat.pow_le_pow_right ha1 (by omega)) HP.out
      have HS : Hid (a ^ (j + 1) = a ^ j * a) := Nat.pow_succ a j
      have hb2 : ((a ^ j : Nat) : Int) * (a : Int) ≤ 65536 := by have h := HS.out; have e : ((a ^ j * a : Nat) : Int) = ((a ^ j : Nat) : Int) * (a : Int) := Int.natCast_mul _ _; omega
      have hb0 : 0 ≤ ((a ^ j : Nat) : Int) * (a : Int) := Int.mul_nonneg (by omega) (by omega)
      clear hb
      generalize hq : a ^ j = q at HS hb2 hb0 ⊢
      have HQ := hideM hq
      clear hq
      go_wp2
      go_round
      case rel => exact ⟨j + 1, by omega, by go_num, by rw [HS.out, Int.natCast_mul]⟩
      case measure => simp [intOf]; omega
    · obtain rfl : j = n := by omega
      go_wp2
      go_ret
      exact ⟨rfl, rfl⟩

set_option maxHeartbeats 400000 in
theorem leaves_any (t : Nat) (k b x l : Int) (w : World) (ht : t ≤ 4) :
    Calls Tryd.prog 62 #[.agg #[.int .i64 k, .int .i64 b, .int .i64 x, .int .i64 t, .int .i64 l]] w fun e w' => e = .returned (.int .i64 ((2 ^ t : Nat) : Int)) ∧ Below w.heap.size w w' := by
  have hp : 2 ^ t ≤ 65536 := Nat.le_trans (Nat.pow_le_pow_right (by decide) ht) (by decide)
  have HC := hideM (fun w' : World => power_any 2 t w' (by decide) (by omega) hp (by decide))
  clear hp
  go_enter Tryd.func62, Tryd.ntmps62
  go_wp2_with fail
  refine (HC.out _).mono ?_
  rintro e w1 ⟨rfl, rfl⟩
  go_wp2
  go_ret
  exact ⟨rfl, (Below.refl _ _).alloc (Nat.le_refl _) _⟩
end Go.Proofs.YtgaoeoijdpdjiaaDoor

namespace Go.Proofs.YtgaoeoijdpdjiaaDoor

/-- Behind the columns: the upper words move on, the round's number goes into the first. -/
def roundW (r : Nat) : List Nat → List Nat
  | [a0, a1, a2, a3, a4, a5, a6, a7] => [a0 ^^^ r, a1, a2, a3, a5, a6, a7, a4]
  | L => L
def stirTo (b : Nat) (L : List Nat) : Nat → List Nat
  | 0 => L
  | r + 1 => roundW (r + 1) (mixTo b (stirTo b L r) 4)

theorem eight_of {L : List Nat} (h : L.length = 8) : ∃ a0 a1 a2 a3 a4 a5 a6 a7, L = [a0, a1, a2, a3, a4, a5, a6, a7] := by
  match L, h with
  | [a0, a1, a2, a3, a4, a5, a6, a7], _ => exact ⟨a0, a1, a2, a3, a4, a5, a6, a7, rfl⟩
theorem roundW_length (r : Nat) (L : List Nat) (h : L.length = 8) : (roundW r L).length = 8 := by
  obtain ⟨a0, a1, a2, a3, a4, a5, a6, a7, rfl⟩ := eight_of h
  rfl
theorem stirTo_length (b : Nat) (L : List Nat) (r : Nat) (h : L.length = 8) : (stirTo b L r).length = 8 := by
  induction r with
  | zero => exact h
  | succ r ih => exact roundW_length _ _ (by rw [mixTo_length]; exact ih)
theorem stirTo_words (b : Nat) (L : List Nat) (r : Nat) (hl : L.length = 8) (h : Words b L) (hb : 4 ≤ b := by decide) (hr : r ≤ 8 := by omega) : Words b (stirTo b L r) := by
  induction r with
  | zero => exact h
  | succ r ih =>
    have hm := mixTo_words b (stirTo b L r) 4 (ih (by omega))
    obtain ⟨a0, a1, a2, a3, a4, a5, a6, a7, e⟩ := eight_of (show (mixTo b (stirTo b L r) 4).length = 8 by rw [mixTo_length]; exact stirTo_length b L r hl)
    show Words b (roundW (r + 1) (mixTo b (stirTo b L r) 4))
    rw [e] at hm ⊢
    have h16 : 2 ^ 4 ≤ 2 ^ b := Nat.pow_le_pow_right (by decide) hb
    intro x hx
    simp only [roundW, List.mem_cons, List.not_mem_nil, or_false] at hx
    rcases hx with rfl | rfl | rfl | rfl | rfl | rfl | rfl | rfl
    · exact Nat.xor_lt_two_pow (hm a0 (by simp)) (by omega)
    all_goals exact hm _ (by simp)

end Go.Proofs.YtgaoeoijdpdjiaaDoor

namespace Go.Proofs.YtgaoeoijdpdjiaaDoor
open Go.ChangeShapes Go.WideShapes Go.ChangeAt Go.RowKit

theorem int64_of_wf {x : Int} (h : (Lit.int .i64 x).wf = true) : Int64 x := by
  simp [Lit.wf, IntKind.min, IntKind.max, IntKind.signed, IntKind.bits] at h
  exact ⟨by omega, by omega⟩

theorem array5 {a : Array Value} (h : a.size = 5) : ∃ c0 c1 c2 c3 c4, a = #[c0, c1, c2, c3, c4] := by
  obtain ⟨l⟩ := a
  match l, h with
  | [c0, c1, c2, c3, c4], _ => exact ⟨c0, c1, c2, c3, c4, rfl⟩

theorem cellsSet : Tryd.prog.cellsOf 25 = 5 := by kernel_rfl
theorem cellsInt : Tryd.prog.cellsOf 3 = 1 := by kernel_rfl

set_option maxRecDepth 100000 in
theorem open_set {H : Type} {enc : TypeId × Value → H} {W : World} {base b0 : Nat} {sp : Nat → Bool} {held : Bool} {r : Reach} {v : Value} {d : DataW H} {p : List MemPlace}
    (hv : Value.okWide Tryd.prog W r b0 25 v) (h : DataW.Trod enc Tryd.prog W base sp held 25 v d p) :
    ∃ k b x t l : Int, v = .agg #[.int .i64 k, .int .i64 b, .int .i64 x, .int .i64 t, .int .i64 l] ∧ Int64 k ∧ Int64 b ∧ Int64 x ∧ Int64 t ∧ Int64 l := by
  obtain ⟨cs, rfl, hsz⟩ := okWide_struct Tryd.underlying25 hv
  obtain ⟨c0, c1, c2, c3, c4, rfl⟩ := array5 (hsz.trans cellsSet)
  obtain ⟨fuel, hf⟩ := h
  obtain ⟨xs, n, _, _, _, hlen, hfs⟩ := DataW.trod_struct Tryd.underlying25 hf
  simp at hlen
  have g0 : DataW.trod enc Tryd.prog W base sp held n 3 [c0] = xs[0]? := by simpa [Value.cells, cellsInt] using hfs 0 _ rfl
  have g1 : DataW.trod enc Tryd.prog W base sp held n 3 [c1] = xs[1]? := by simpa [Value.cells, cellsInt] using hfs 1 _ rfl
  have g2 : DataW.trod enc Tryd.prog W base sp held n 3 [c2] = xs[2]? := by simpa [Value.cells, cellsInt] using hfs 2 _ rfl
  have g3 : DataW.trod enc Tryd.prog W base sp held n 3 [c3] = xs[3]? := by simpa [Value.cells, cellsInt] using hfs 3 _ rfl
  have g4 : DataW.trod enc Tryd.prog W base sp held n 3 [c4] = xs[4]? := by simpa [Value.cells, cellsInt] using hfs 4 _ rfl
  rw [List.getElem?_eq_getElem (by omega)] at g0 g1 g2 g3 g4
  obtain ⟨k, e0, _, w0⟩ := DataW.trod_int Tryd.underlying3 g0
  obtain ⟨b, e1, _, w1⟩ := DataW.trod_int Tryd.underlying3 g1
  obtain ⟨x, e2, _, w2⟩ := DataW.trod_int Tryd.underlying3 g2
  obtain ⟨t, e3, _, w3⟩ := DataW.trod_int Tryd.underlying3 g3
  obtain ⟨l, e4, _, w4⟩ := DataW.trod_int Tryd.underlying3 g4
  simp at e0 e1 e2 e3 e4
  subst e0 e1 e2 e3 e4
  exact ⟨k, b, x, t, l, rfl, int64_of_wf w0, int64_of_wf w1, int64_of_wf w2, int64_of_wf w3, int64_of_wf w4⟩
end Go.Proofs.YtgaoeoijdpdjiaaDoor
