/-
  Split: the program and the document answer alike; the statement's splits.
-/
import Derived.Test.YtgaoeoijdpdjiabGreatDoorPart45
import Derived.Test.YtgaoeoijdpdjiabGreatDoorPart30
import Derived.Test.YtgaoeoijdpdjiabGreatDoorPart38
import Derived.Test.YtgaoeoijdpdjiabGreatDoorPart32
import Derived.Test.YtgaoeoijdpdjiabGreatDoorPart35
import Derived.Test.YtgaoeoijdpdjiabGreatDoorPart21
import Derived.Test.YtgaoeoijdpdjiabGreatDoorPart3
namespace Go.Proofs.YtgaoeoijdpdjiabGreatDoor
open Go.RowKit

/-- Of a set that is right: the document's sizes. -/
theorem sizes_nat (k : Int) (b x e f t l : Nat) (R : RSet k b x e f t l) (V : World) :
    Calls Tryz.prog 83 #[.agg #[.int .i64 k, .int .i64 b, .int .i64 x, .int .i64 t, .int .i64 l]] V fun r w' => r = .returned (.agg #[.int .i64 ((b * e : Nat) : Int), .int .i64 f, .int .i64 ((b * e + f : Nat) : Int), .int .i64 ((2 ^ (t * l) : Nat) : Int), .int .i64 ((4 + b + l * (b * e + f + t) * b : Nat) : Int), .int .i64 ((5 + 2 * b : Nat) : Int)]) ∧ Below V.heap.size V w' := by
  have h := refSizes_yes b x e f t l R.pr k V R.t1 R.t2 R.l1 R.l2
  rw [sigZ_nat R.pr, totalZ_nat] at h
  exact h
theorem check_nat (k : Int) (b x e f t l : Nat) (R : RSet k b x e f t l) (V : World) :
    Calls Tryz.prog 82 #[.agg #[.int .i64 k, .int .i64 b, .int .i64 x, .int .i64 t, .int .i64 l]] V fun r w' => r = .returned (.int .i64 0) ∧ Below V.heap.size V w' := by
  have h := refCheck_any k b x t l V
  rw [R.r] at h
  exact h
theorem check_no (k b x t l : Int) (hr : rightB k b x t l = false) (V : World) :
    Calls Tryz.prog 82 #[.agg #[.int .i64 k, .int .i64 b, .int .i64 x, .int .i64 t, .int .i64 l]] V fun r w' => r = .returned (.int .i64 1) ∧ Below V.heap.size V w' := by
  have h := refCheck_any k b x t l V
  rw [hr] at h
  exact h
theorem value_nat (sig : ByteArray) (h4 : 4 ≤ sig.size) (V : World) : Calls Tryz.prog 84 #[.string sig, .int .i64 0, .int .i64 4] V fun e w' => e = .returned (.int .i64 ((valN sig 0 4 : Nat) : Int)) ∧ w' = V := by
  have h := refValue0 sig V
  rw [Nat.min_eq_left h4] at h
  exact h

theorem cut_cut (s : ByteArray) (a b n : Nat) (h : a + n * b ≤ s.size) : cutA s a b n = cutS (s.extract a s.size) b n := by
  unfold cutA cutS
  apply List.map_congr_left
  intro i hi
  have hin : (i + 1) * b ≤ n * b := Nat.mul_le_mul_right _ (List.mem_range.1 hi)
  have hib : (i + 1) * b = i * b + b := by rw [Nat.add_mul, Nat.one_mul]
  refine byt_ext _ _ ?_ ?_
  · simp only [ByteArray.size_extract]; omega
  · intro k hk
    simp only [ByteArray.size_extract] at hk
    rw [byt_part s _ _ k (by omega) (by omega), byt_part (s.extract a s.size) _ _ k (by rw [ByteArray.size_extract]; omega) (by omega), byt_part s a s.size _ (Nat.le_refl _) (by omega)]
    congr 1
    omega

/-- The document's Split, where it takes the text. -/
theorem refSplitY (k : Int) (b x e f t l : Nat) (R : RSet k b x e f t l) (sig : ByteArray) (hs : sig.size = 4 + b + l * (b * e + f + t) * b) (hi : valN sig 0 4 < 2 ^ (t * l)) (w : World) :
    Calls Tryz.prog 36 #[.agg #[.int .i64 k, .int .i64 b, .int .i64 x, .int .i64 t, .int .i64 l], .string sig] w fun r w' => ∃ g c, r = .returned (.tuple #[.agg #[.int .i64 ((valN sig 0 4 : Nat) : Int), .string (sig.extract 4 (4 + b)), .slice (some ⟨g, 0, none⟩) (l * (b * e + f + t)) c], .int .i64 0]) ∧ w.heap.size ≤ g ∧ l * (b * e + f + t) ≤ c ∧ g < w'.heap.size ∧ (∀ (j : Nat) y, (cutS (sig.extract (4 + b) sig.size) b (l * (b * e + f + t)))[j]? = some y → w'.cell? ⟨g, 0 + j, none⟩ = some (.string y)) ∧ Below w.heap.size w w' := by
  obtain ⟨g1, g2, g3, g4, g5, g6⟩ := pair_small R.pr
  obtain ⟨hb, hx⟩ := pairB R.pr
  have r1 := R.t1
  have r2 := R.t2
  have r3 := R.l1
  have r4 := R.l2
  have h36 : b * e + f ≤ 36 := by rcases R.pr with ⟨rfl, rfl, rfl, rfl⟩ | ⟨rfl, rfl, rfl, rfl⟩ | ⟨rfl, rfl, rfl, rfl⟩ | ⟨rfl, rfl, rfl, rfl⟩ <;> decide
  have hN : l * (b * e + f + t) ≤ 3 * 40 := Nat.mul_le_mul r4 (by omega)
  have hN1 : 1 * 1 ≤ l * (b * e + f + t) := Nat.mul_le_mul r3 (by omega)
  have h := refSplit_yes k x t l _ _ _ ((2 ^ (t * l) : Nat) : Int) ((4 + b + l * (b * e + f + t) * b : Nat) : Int) _ ((valN sig 0 4 : Nat) : Int) b (l * (b * e + f + t)) sig w (by omega) (by omega) (by omega) (by omega) hs (by rw [hs]) (by omega) (fun V => check_nat k b x e f t l R V) (fun V => sizes_nat k b x e f t l R V) (fun V => value_nat sig (by omega) V)
  rw [cut_cut sig (4 + b) b _ (by omega)] at h
  exact h
theorem refSplitN (k : Int) (b x e f t l : Nat) (R : RSet k b x e f t l) (sig : ByteArray) (hs : sig.size ≠ 4 + b + l * (b * e + f + t) * b ∨ ¬ valN sig 0 4 < 2 ^ (t * l)) (w : World) :
    Calls Tryz.prog 36 #[.agg #[.int .i64 k, .int .i64 b, .int .i64 x, .int .i64 t, .int .i64 l], .string sig] w fun r w' => r = .returned (.tuple #[.agg #[.int .i64 0, .string ⟨#[]⟩, .slice none 0 0], .int .i64 12]) ∧ Below w.heap.size w w' := by
  by_cases hz : sig.size = 4 + b + l * (b * e + f + t) * b
  · have hi : ¬ valN sig 0 4 < 2 ^ (t * l) := by
      rcases hs with h | h
      · exact absurd hz h
      · exact h
    exact refSplit_idx k b x t l _ _ _ ((2 ^ (t * l) : Nat) : Int) ((4 + b + l * (b * e + f + t) * b : Nat) : Int) _ ((valN sig 0 4 : Nat) : Int) sig w (by rw [hz]) (by omega) (fun V => check_nat k b x e f t l R V) (fun V => sizes_nat k b x e f t l R V) (fun V => value_nat sig (by omega) V)
  · exact refSplit_len k b x t l _ _ _ _ ((4 + b + l * (b * e + f + t) * b : Nat) : Int) _ _ sig w (by omega) (fun V => check_nat k b x e f t l R V) (fun V => sizes_nat k b x e f t l R V) (fun V => refValue0 sig V)

theorem splits_any (B0 B bk : Nat) (v : Value) (S : List Value) (k b x t l : Int) (sig : ByteArray) (w : World) (hB : BookT w B bk v S) (h4 : S.length % 4 = 0) (hS : S.length ≤ 90) (b1 : B0 ≤ B) (b2 : B0 ≤ bk) (b3 : B0 ≤ w.heap.size) (b4 : B ≤ w.heap.size) :
    Calls Tryz.prog 10 #[.pointer (some ⟨bk, 0, none⟩), .agg #[.int .i64 k, .int .i64 b, .int .i64 x, .int .i64 t, .int .i64 l], .string sig] w fun r w' => r = .returned (.bool true) ∧ Left4T B0 B bk v S w w' := by
  cases hr : rightB k b x t l with
  | false => exact splits_err B0 B bk v S k b x t l 1 sig w hB h4 hS b1 b2 b3 b4 (fun V => sSplit_no k b x t l 1 sig V (fun V => split_set k x t l 0 0 0 0 0 0 b 1 sig V (by decide) (fun V => setsMeasure_no k b x t l V hr))) (fun V => refSplit_set k b x t l 1 sig V (by decide) (fun V => check_no k b x t l hr V))
  | true =>
    obtain ⟨b', x', e, f, t', l', hp, hk, rfl, rfl, rfl, rfl, t1, t2, t3, t4⟩ := pair_of_right hr
    have R : RSet k b' x' e f t' l' := ⟨hp, hk, t1, t2, t3, t4, hr⟩
    by_cases hok : sig.size = 4 + b' + l' * (b' * e + f + t') * b' ∧ valN sig 0 4 < 2 ^ (t' * l')
    · obtain ⟨hz, hi⟩ := hok
      have h36 : b' * e + f ≤ 36 := by rcases hp with ⟨rfl, rfl, rfl, rfl⟩ | ⟨rfl, rfl, rfl, rfl⟩ | ⟨rfl, rfl, rfl, rfl⟩ | ⟨rfl, rfl, rfl, rfl⟩ <;> decide
      have hN : l' * (b' * e + f + t') ≤ 3 * 40 := Nat.mul_le_mul t4 (by omega)
      have hN1 : 1 * 1 ≤ l' * (b' * e + f + t') := Nat.mul_le_mul t3 (by omega)
      exact splits_ok B0 B bk v S k b' x' t' l' _ _ _ _ sig w hB h4 hS b1 b2 b3 b4 (cutS_length _ _ _) (by omega) (by omega) (fun V => sSplit_on k b' x' t' l' _ _ _ _ _ _ V (fun V => splitY k b' x' e f t' l' R sig hz hi V)) (fun V => refSplitY k b' x' e f t' l' R sig hz hi V)
    · have hno : sig.size ≠ 4 + b' + l' * (b' * e + f + t') * b' ∨ ¬ valN sig 0 4 < 2 ^ (t' * l') := by
        by_cases hz : sig.size = 4 + b' + l' * (b' * e + f + t') * b'
        · exact .inr (fun hi => hok ⟨hz, hi⟩)
        · exact .inl hz
      exact splits_err B0 B bk v S k b' x' t' l' 12 sig w hB h4 hS b1 b2 b3 b4 (fun V => sSplit_no k b' x' t' l' 12 sig V (fun V => splitN k b' x' e f t' l' R sig hno V)) (fun V => refSplitN k b' x' e f t' l' R sig hno V)
end Go.Proofs.YtgaoeoijdpdjiabGreatDoor
