/-
  The document's own answer, its small functions: Power, Leaves, Check. A set that comes in by value, opened: five numbers that an int holds. The document's own question: is it a list of n values?
-/
import Derived.Test.YtbncojflfnpikaaDoorPart2
import Derived.Test.YtbncojflfnpikaaDoorPart5
import Derived.ProofKit
import Derived.Test.YtbncojflfnpikaaDoorPart4
namespace Go.Proofs.YtbncojflfnpikaaDoor
open Go.RowKit

set_option maxHeartbeats 400000 in
theorem power_any (a n : Nat) (w : World) (ha : a ≤ 16) (hn : n ≤ 12) (hp : a ^ n ≤ 65536) (ha1 : 1 ≤ a) :
    Calls Tryd.prog 73 #[.int .i64 a, .int .i64 n] w fun e w' => e = .returned (.int .i64 ((a ^ n : Nat) : Int)) ∧ w' = w := by
  have HP := hideM hp
  clear hp
  go_enter Tryd.func73, Tryd.ntmps73
  go_wp2
  go_loop [5, 6] (fun p i => ∃ j : Nat, j ≤ n ∧ i = .int .i64 j ∧ p = .int .i64 ((a ^ j : Nat) : Int)) (fun _ i => n - (intOf i).toNat)
  case atStart => exact ⟨0, by omega, rfl, rfl⟩
  case round =>
    obtain ⟨j, hj, rfl, rfl⟩ := hrel
    by_cases hlt : j < n
    · have hb : a ^ (j + 1) ≤ 65536 := Nat.le_trans (Nat.pow_le_pow_right ha1 (by omega)) HP.out
      have HS : Hid (a ^ (j + 1) = a ^ j * a) := Nat.pow_succ a j
      have hb2 : ((a ^ j : Nat) : Int) * (a : Int) ≤ 65536 := by have h := HS.out; have e : ((a ^ j * a : Nat) : Int) = ((a ^ j : Nat) : Int) * (a : Int) := Int.natCast_mul _ _; omega
      have hb0 : 0 ≤ ((a ^ j : Nat) : Int) * (a : Int) := Int.mul_nonneg (by omega) (by omega)
      clear hb
      generalize hq : a ^ j = q at HS hb2 hb0 ⊢
      have HQ := hideM hq
      clear hq
      go_wp2
      go_round
      case rel => exact ⟨j + 1, by omega, by go_num, by rw [HS.out, Int.natCast_mul]⟩
      case measure => simp [intOf]; omega
    · obtain rfl : j = n := by omega
      go_wp2
      go_ret
      exact ⟨rfl, rfl⟩

set_option maxHeartbeats 400000 in
theorem leaves_any (t : Nat) (k b x l : Int) (w : World) (ht : t ≤ 4) :
    Calls Tryd.prog 103 #[.agg #[.int .i64 k, .int .i64 b, .int .i64 x, .int .i64 t, .int .i64 l]] w fun e w' => e = .returned (.int .i64 ((2 ^ t : Nat) : Int)) ∧ Below w.heap.size w w' := by
  have hp : 2 ^ t ≤ 65536 := Nat.le_trans (Nat.pow_le_pow_right (by decide) ht) (by decide)
  have HC := hideM (fun w' : World => power_any 2 t w' (by decide) (by omega) hp (by decide))
  clear hp
  go_enter Tryd.func103, Tryd.ntmps103
  go_wp2_with fail
  refine (HC.out _).mono ?_
  rintro e w1 ⟨rfl, rfl⟩
  go_wp2
  go_ret
  exact ⟨rfl, (Below.refl _ _).alloc (Nat.le_refl _) _⟩
end Go.Proofs.YtbncojflfnpikaaDoor

namespace Go.Proofs.YtbncojflfnpikaaDoor
open Go.ChangeShapes Go.WideShapes Go.ChangeAt Go.RowKit

theorem int64_of_wf {x : Int} (h : (Lit.int .i64 x).wf = true) : Int64 x := by
  simp [Lit.wf, IntKind.min, IntKind.max, IntKind.signed, IntKind.bits] at h
  exact ⟨by omega, by omega⟩

theorem array5 {a : Array Value} (h : a.size = 5) : ∃ c0 c1 c2 c3 c4, a = #[c0, c1, c2, c3, c4] := by
  obtain ⟨l⟩ := a
  match l, h with
  | [c0, c1, c2, c3, c4], _ => exact ⟨c0, c1, c2, c3, c4, rfl⟩

theorem cellsSet : Tryd.prog.cellsOf 25 = 5 := by kernel_rfl
theorem cellsInt : Tryd.prog.cellsOf 3 = 1 := by kernel_rfl

set_option maxRecDepth 100000 in
theorem open_set {H : Type} {enc : TypeId × Value → H} {W : World} {base b0 : Nat} {sp : Nat → Bool} {held : Bool} {r : Reach} {v : Value} {d : DataW H} {p : List MemPlace}
    (hv : Value.okWide Tryd.prog W r b0 25 v) (h : DataW.Trod enc Tryd.prog W base sp held 25 v d p) :
    ∃ k b x t l : Int, v = .agg #[.int .i64 k, .int .i64 b, .int .i64 x, .int .i64 t, .int .i64 l] ∧ Int64 k ∧ Int64 b ∧ Int64 x ∧ Int64 t ∧ Int64 l := by
  obtain ⟨cs, rfl, hsz⟩ := okWide_struct Tryd.underlying25 hv
  obtain ⟨c0, c1, c2, c3, c4, rfl⟩ := array5 (hsz.trans cellsSet)
  obtain ⟨fuel, hf⟩ := h
  obtain ⟨xs, n, _, _, _, hlen, hfs⟩ := DataW.trod_struct Tryd.underlying25 hf
  simp at hlen
  have g0 : DataW.trod enc Tryd.prog W base sp held n 3 [c0] = xs[0]? := by simpa [Value.cells, cellsInt] using hfs 0 _ rfl
  have g1 : DataW.trod enc Tryd.prog W base sp held n 3 [c1] = xs[1]? := by simpa [Value.cells, cellsInt] using hfs 1 _ rfl
  have g2 : DataW.trod enc Tryd.prog W base sp held n 3 [c2] = xs[2]? := by simpa [Value.cells, cellsInt] using hfs 2 _ rfl
  have g3 : DataW.trod enc Tryd.prog W base sp held n 3 [c3] = xs[3]? := by simpa [Value.cells, cellsInt] using hfs 3 _ rfl
  have g4 : DataW.trod enc Tryd.prog W base sp held n 3 [c4] = xs[4]? := by simpa [Value.cells, cellsInt] using hfs 4 _ rfl
  rw [List.getElem?_eq_getElem (by omega)] at g0 g1 g2 g3 g4
  obtain ⟨k, e0, _, w0⟩ := DataW.trod_int Tryd.underlying3 g0
  obtain ⟨b, e1, _, w1⟩ := DataW.trod_int Tryd.underlying3 g1
  obtain ⟨x, e2, _, w2⟩ := DataW.trod_int Tryd.underlying3 g2
  obtain ⟨t, e3, _, w3⟩ := DataW.trod_int Tryd.underlying3 g3
  obtain ⟨l, e4, _, w4⟩ := DataW.trod_int Tryd.underlying3 g4
  simp at e0 e1 e2 e3 e4
  subst e0 e1 e2 e3 e4
  exact ⟨k, b, x, t, l, rfl, int64_of_wf w0, int64_of_wf w1, int64_of_wf w2, int64_of_wf w3, int64_of_wf w4⟩
end Go.Proofs.YtbncojflfnpikaaDoor

namespace Go.Proofs.YtbncojflfnpikaaDoor
open Go.RowKit

set_option maxRecDepth 20000 in
set_option maxHeartbeats 1000000 in
theorem rvalues_some (k b x t l n : Int) (bk o c : Nat) (xs : List ByteArray) (w : World) (hcells : ∀ (j : Nat) y, xs[j]? = some y → w.cell? ⟨bk, o + j, none⟩ = some (.string y)) (hbk : bk < w.heap.size) (hN : xs.length ≤ 8796093022208) :
    Calls Tryd.prog 77 #[.agg #[.int .i64 k, .int .i64 b, .int .i64 x, .int .i64 t, .int .i64 l], .slice (some ⟨bk, o, none⟩) xs.length c, .int .i64 n] w fun e w' => e = .returned (.bool (allLen b xs && decide ((xs.length : Int) = n))) ∧ Below w.heap.size w w' := by
  obtain ⟨W0, hW⟩ : ∃ W0, w.alloc (.cells #[.int .i64 k, .int .i64 b, .int .i64 x, .int .i64 t, .int .i64 l] 25) = W0 := ⟨_, rfl⟩
  have HF := hide (show W0.cell? ⟨w.heap.size, 1, none⟩ = some (.int .i64 b) by subst hW; simp [go_sem])
  have HB := hide (show Below w.heap.size w W0 by subst hW; exact (Below.refl _ _).alloc (Nat.le_refl _) _)
  have hz : W0.heap.size ≤ w.heap.size + 1 := by subst hW; simp
  have hz' : w.heap.size + 1 ≤ W0.heap.size := by subst hW; simp
  have HC := hide (fun (V : World) (h : Below W0.heap.size W0 V) (j : Nat) (y : ByteArray) (hj : xs[j]? = some y) => (h.cell (p := ⟨bk, o + j, none⟩) (by show bk < _; omega)).trans ((HB.out.cell (p := ⟨bk, o + j, none⟩) hbk).trans (hcells j y hj)))
  clear hcells
  go_enter Tryd.func77, Tryd.ntmps77
  go_wp2_with fail
  try rw [hW]
  clear hW
  go_loopw [7] (fun i wr => ∃ j : Nat, j ≤ xs.length ∧ i = .int .i64 j ∧ Hid (allLen b (xs.take j) = true) ∧ Hid (Below W0.heap.size W0 wr)) (fun i _ => xs.length - (intOf i).toNat)
  case atStart => exact ⟨0, Nat.zero_le _, rfl, rfl, Below.refl _ _⟩
  case round =>
    obtain ⟨j, hj, rfl, ha, hb⟩ := hrel
    have c1 := (hb.out.cell (p := ⟨w.heap.size, 1, none⟩) (by show w.heap.size < _; omega)).trans HF.out
    by_cases hlt : j < xs.length
    · have c0 := HC.out wr hb.out j xs[j] (List.getElem?_eq_getElem hlt)
      have HT := hide (allLen_take b xs j ha.out hlt)
      have HNO := hide (allLen_no b xs j hlt)
      have HBD := hide (hb.out.drew)
      generalize xs[j] = y at c0 HT HNO
      by_cases hy : (y.size : Int) = b
      · have hys : ((y.size : Int) == b) = true := by simpa using hy
        have hyn : ((y.size : Int) != b) = false := by rw [bne, hys]; rfl
        have HTT := hide (show allLen b (xs.take (j + 1)) = true by rw [HT.out]; simpa using hy)
        clear hy HNO HT
        go_wp2_with fail
        go_region
        go_wp2
        go_roundw
        case rel =>
          have R : ∃ j' : Nat, j' ≤ xs.length ∧ Value.int .i64 ((j : Int) + 1) = .int .i64 j' ∧ Hid (allLen b (xs.take j') = true) ∧ Hid (Below W0.heap.size W0 wr.drew) := ⟨j + 1, by omega, by go_num, HTT.out, HBD.out⟩
          first | exact R | ((repeat apply Exists.intro); exact ⟨R, rfl⟩)
        case measure => simp [intOf]; omega
      · have hys : ((y.size : Int) == b) = false := by simpa using hy
        have hyn : ((y.size : Int) != b) = true := by rw [bne, hys]; rfl
        have HF2 := hide (HNO.out hy)
        clear hy HNO
        go_wp2_with fail
        go_region
        go_wp2
        go_ret
        exact ⟨by rw [HF2.out]; rfl, HB.out.trans (HBD.out.mono (by omega))⟩
    · obtain rfl : j = xs.length := by omega
      have hz := ha.out
      rw [List.take_of_length_le (Nat.le_refl _)] at hz
      have HZ := hide hz
      clear hz
      go_wp2
      go_ret
      exact ⟨by rw [HZ.out]; rfl, HB.out.trans (hb.out.mono (by omega))⟩

set_option maxRecDepth 20000 in
set_option maxHeartbeats 1000000 in
theorem rvalues_nil (k b x t l n : Int) (w : World) :
    Calls Tryd.prog 77 #[.agg #[.int .i64 k, .int .i64 b, .int .i64 x, .int .i64 t, .int .i64 l], .slice none 0 0, .int .i64 n] w fun e w' => e = .returned (.bool (decide (0 = n))) ∧ Below w.heap.size w w' := by
  go_enter Tryd.func77, Tryd.ntmps77
  go_wp2
  go_rounds 1
  go_ret
  exact ⟨rfl, (Below.refl _ _).alloc (Nat.le_refl _) _⟩

set_option maxRecDepth 20000 in
set_option maxHeartbeats 1000000 in
theorem rvalues_emp (k b x t l n : Int) (a : Addr) (c : Nat) (w : World) :
    Calls Tryd.prog 77 #[.agg #[.int .i64 k, .int .i64 b, .int .i64 x, .int .i64 t, .int .i64 l], .slice (some a) 0 c, .int .i64 n] w fun e w' => e = .returned (.bool (decide (0 = n))) ∧ Below w.heap.size w w' := by
  go_enter Tryd.func77, Tryd.ntmps77
  go_wp2
  go_rounds 1
  go_ret
  exact ⟨rfl, (Below.refl _ _).alloc (Nat.le_refl _) _⟩
set_option maxRecDepth 20000 in
set_option maxHeartbeats 1000000 in
theorem valuesRight_emp (k b x t l : Int) (a : Addr) (c : Nat) (w : World) :
    Calls Tryd.prog 107 #[.agg #[.int .i64 k, .int .i64 b, .int .i64 x, .int .i64 t, .int .i64 l], .slice (some a) 0 c] w fun e w' => e = .returned (.bool true) ∧ Below w.heap.size w w' := by
  go_enter Tryd.func107, Tryd.ntmps107
  go_wp2
  go_rounds 1
  go_ret
  exact ⟨rfl, (Below.refl _ _).alloc (Nat.le_refl _) _⟩
end Go.Proofs.YtbncojflfnpikaaDoor
