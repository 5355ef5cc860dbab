/-
  The program's Split, where it takes a text and where it refuses it.
-/
import Derived.Test.YtgaoeoijdpdjiabGreatDoorPart36
import Derived.Test.YtgaoeoijdpdjiabGreatDoorPart34
import Derived.Test.YtgaoeoijdpdjiabGreatDoorPart21
import Derived.Test.YtgaoeoijdpdjiabGreatDoorPart43
import Derived.Test.YtgaoeoijdpdjiabGreatDoorPart20
namespace Go.Proofs.YtgaoeoijdpdjiabGreatDoor
open Go.RowKit

/-- Of a set that is right: what Measure tells. -/
theorem measure_nat (k : Int) (b x e f t l : Nat) (R : RSet k b x e f t l) (V : World) :
    Calls Tryz.prog 155 #[.agg #[.int .i64 k, .int .i64 b, .int .i64 x, .int .i64 t, .int .i64 l]] V fun r w' => r = .returned (.tuple #[.agg #[.int .i64 ((b * e : Nat) : Int), .int .i64 f, .int .i64 ((b * e + f : Nat) : Int), .int .i64 ((2 ^ (t * l) : Nat) : Int), .int .i64 ((4 + b + l * (b * e + f + t) * b : Nat) : Int), .int .i64 ((5 + 2 * b : Nat) : Int)], .int .i64 0]) ∧ Below V.heap.size V w' := by
  have h := setsMeasure_yes b x e f t l R.pr k V R.kk R.t1 R.t2 R.l1 R.l2
  rw [sigZ_nat R.pr, totalZ_nat] at h
  exact h

/-- The program's Split, where it takes the text. -/
theorem splitY (k : Int) (b x e f t l : Nat) (R : RSet k b x e f t l) (sig : ByteArray) (hs : sig.size = 4 + b + l * (b * e + f + t) * b) (hi : valN sig 0 4 < 2 ^ (t * l)) (w : World) :
    Calls Tryz.prog 81 #[.agg #[.int .i64 k, .int .i64 b, .int .i64 x, .int .i64 t, .int .i64 l], .string sig] w fun r w' => ∃ g, r = .returned (.tuple #[.agg #[.int .i64 ((valN sig 0 4 : Nat) : Int), .string (sig.extract 4 (4 + b)), .slice (some ⟨g, 0, none⟩) (l * (b * e + f + t)) (l * (b * e + f + t))], .int .i64 0]) ∧ w.heap.size ≤ g ∧ Blk w' g ((cutS (sig.extract (4 + b) sig.size) b (l * (b * e + f + t))).map Value.string) 9 ∧ Below w.heap.size w w' := by
  obtain ⟨g1, g2, g3, g4, g5, g6⟩ := pair_small R.pr
  obtain ⟨hb, hx⟩ := pairB R.pr
  have r2 := R.t2
  have r4 := R.l2
  have hN : l * (b * e + f + t) ≤ 3 * 68 := Nat.mul_le_mul r4 (by omega)
  refine split_yes k x t l _ _ _ _ _ _ b (l * (b * e + f + t)) sig w (by omega) (by omega) (by
    have : b * e + f ≤ 36 := by rcases R.pr with ⟨rfl, rfl, rfl, rfl⟩ | ⟨rfl, rfl, rfl, rfl⟩ | ⟨rfl, rfl, rfl, rfl⟩ | ⟨rfl, rfl, rfl, rfl⟩ <;> decide
    exact Nat.le_trans (Nat.mul_le_mul r4 (show b * e + f + t ≤ 40 by omega)) (by decide)) hs (by rw [hs]) (fun V => measure_nat k b x e f t l R V) (fun V => ?_)
  have h := isIndex_on k b x t l ((valN sig 0 4 : Nat) : Int) _ _ _ _ _ _ V (fun V => measure_nat k b x e f t l R V)
  rw [decide_eq_true (by omega)] at h
  exact h

/-- Where it refuses it. -/
theorem splitN (k : Int) (b x e f t l : Nat) (R : RSet k b x e f t l) (sig : ByteArray) (hs : sig.size ≠ 4 + b + l * (b * e + f + t) * b ∨ ¬ valN sig 0 4 < 2 ^ (t * l)) (w : World) :
    Calls Tryz.prog 81 #[.agg #[.int .i64 k, .int .i64 b, .int .i64 x, .int .i64 t, .int .i64 l], .string sig] w fun r w' => r = .returned (.tuple #[.agg #[.int .i64 0, .string ⟨#[]⟩, .slice none 0 0], .int .i64 12]) ∧ Below w.heap.size w w' := by
  obtain ⟨g1, g2, g3, g4, g5, g6⟩ := pair_small R.pr
  by_cases hz : sig.size = 4 + b + l * (b * e + f + t) * b
  · have hi : ¬ valN sig 0 4 < 2 ^ (t * l) := by
      rcases hs with h | h
      · exact absurd hz h
      · exact h
    refine split_idx k x t l _ _ _ _ _ _ b sig w (by rw [hz]) (by omega) (fun V => measure_nat k b x e f t l R V) (fun V => ?_)
    have h := isIndex_on k b x t l ((valN sig 0 4 : Nat) : Int) _ _ _ _ _ _ V (fun V => measure_nat k b x e f t l R V)
    rw [decide_eq_false (by omega)] at h
    exact h
  · exact split_len k x t l _ _ _ _ _ _ b sig w (by omega) (fun V => measure_nat k b x e f t l R V)
end Go.Proofs.YtgaoeoijdpdjiabGreatDoor
