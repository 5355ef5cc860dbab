/-
  The bytes of a key and of a signature.
-/
import Derived.Test.YtgaoeoijdpdjiabDoorPart33
import Derived.Test.YtgaoeoijdpdjiabDoorPart36
import Derived.Test.YtgaoeoijdpdjiabDoorPart41
import Derived.Test.YtgaoeoijdpdjiabDoorPart45
namespace Go.Proofs.YtgaoeoijdpdjiabDoor
open Go.RowKit

theorem byt_one (v : Int) (h0 : 0 ≤ v) (h1 : v < 256) : ((byt (numB 1 v) 0 : Nat) : Int) = v := by
  rw [byt_num 1 v 0 (by decide)]
  simp
  omega

theorem sigZ_nat {b x e f : Nat} (hp : Pair b x e f) (t l : Nat) : sigZ b x t l = ((4 + b + l * (b * e + f + t) * b : Nat) : Int) := by
  have hc : chainsZ (b : Int) (x : Int) = ((b * e + f : Nat) : Int) := by
    rcases hp with ⟨rfl, rfl, rfl, rfl⟩ | ⟨rfl, rfl, rfl, rfl⟩ | ⟨rfl, rfl, rfl, rfl⟩ | ⟨rfl, rfl, rfl, rfl⟩ <;> rfl
  rw [sigZ, hc]
  simp only [Int.natCast_add, Int.natCast_mul]
  rfl
theorem totalZ_nat (t l : Nat) : totalZ t l = ((2 ^ (t * l) : Nat) : Int) := by
  rw [totalZ, show ((t : Int) * (l : Int)) = ((t * l : Nat) : Int) by rw [Int.natCast_mul], Int.toNat_natCast, Int.natCast_pow]
  rfl

theorem cat_snoc (y : ByteArray) : ∀ xs : List ByteArray, cat (xs ++ [y]) = cat xs ++ y
  | [] => by
    show y ++ cat [] = cat [] ++ y
    rw [show cat [] = (⟨#[]⟩ : ByteArray) from rfl]
    apply ByteArray.ext
    simp
  | x :: xs => by
    show x ++ cat (xs ++ [y]) = x ++ cat xs ++ y
    rw [cat_snoc y xs, ByteArray.append_assoc]
theorem cut_two (s : ByteArray) (i j : Nat) (h1 : i ≤ j) (h2 : j ≤ s.size) : s.extract 0 i ++ s.extract i j = s.extract 0 j := by
  refine byt_ext _ _ ?_ ?_
  · simp only [ByteArray.size_append, ByteArray.size_extract]; omega
  · intro k hk
    simp only [ByteArray.size_append, ByteArray.size_extract] at hk
    rw [byt_part s 0 j k h2 (by omega), Nat.zero_add]
    by_cases h : k < i
    · rw [byt_left _ _ _ (by rw [ByteArray.size_extract]; omega), byt_part s 0 i k (by omega) (by omega), Nat.zero_add]
    · rw [byt_right _ _ _ (by rw [ByteArray.size_extract]; omega), ByteArray.size_extract, byt_part s i j _ h2 (by omega)]
      congr 1
      omega
theorem cut_all (s : ByteArray) : s.extract 0 s.size = s := by
  refine byt_ext _ _ ?_ ?_
  · rw [ByteArray.size_extract]; omega
  · intro k hk
    rw [ByteArray.size_extract] at hk
    rw [byt_part s 0 s.size k (Nat.le_refl _) (by omega), Nat.zero_add]
/-- The pieces of a text make the text. -/
theorem cat_cut (s : ByteArray) (b : Nat) : ∀ n, n * b ≤ s.size → cat (cutS s b n) = s.extract 0 (n * b) := by
  intro n
  induction n with
  | zero =>
    intro _
    refine byt_ext _ _ ?_ ?_
    · rw [ByteArray.size_extract, Nat.zero_mul, Nat.zero_min, Nat.zero_sub]
      rfl
    · intro k hk
      exact absurd hk (Nat.not_lt_zero k)
  | succ n ih =>
    intro h
    have h2 : n * b ≤ (n + 1) * b := Nat.mul_le_mul_right _ (by omega)
    rw [cutS_succ, cat_snoc, ih (by omega), cut_two s (n * b) ((n + 1) * b) h2 h]
/-- A signature's parts make it. -/
theorem sig_parts (sig : ByteArray) (b n : Nat) (h : sig.size = 4 + b + n * b) : numB 4 ((valN sig 0 4 : Nat) : Int) ++ sig.extract 4 (4 + b) ++ cat (cutS (sig.extract (4 + b) sig.size) b n) = sig := by
  have hs : (sig.extract (4 + b) sig.size).size = n * b := by rw [ByteArray.size_extract]; omega
  rw [cat_cut _ b n (by rw [hs]; exact Nat.le_refl _), ← hs, cut_all, num_val sig 0 (by omega), Nat.zero_add, cut_two sig 4 (4 + b) (by omega) (by omega), cut_two sig (4 + b) sig.size (by omega) (Nat.le_refl _), cut_all]
theorem cat_cut_size (sig : ByteArray) (b n : Nat) (h : sig.size = 4 + b + n * b) : (cat (cutS (sig.extract (4 + b) sig.size) b n)).size = n * b := by
  have hs : (sig.extract (4 + b) sig.size).size = n * b := by rw [ByteArray.size_extract]; omega
  rw [cat_cut _ b n (by rw [hs]; exact Nat.le_refl _), ← hs, cut_all]

theorem ext_mid (a r p : ByteArray) : (a ++ r ++ p).extract a.size (a.size + r.size) = r := by
  refine byt_ext _ _ ?_ ?_
  · simp only [ByteArray.size_append, ByteArray.size_extract]; omega
  · intro k hk
    simp only [ByteArray.size_append, ByteArray.size_extract] at hk
    rw [byt_part _ _ _ k (by simp only [ByteArray.size_append]; omega) (by omega), byt_left _ _ _ (by simp only [ByteArray.size_append]; omega), byt_right _ _ _ (by omega), Nat.add_sub_cancel_left]
theorem ext_end (a r p : ByteArray) : (a ++ r ++ p).extract (a.size + r.size) (a ++ r ++ p).size = p := by
  refine byt_ext _ _ ?_ ?_
  · simp only [ByteArray.size_append, ByteArray.size_extract]; omega
  · intro k hk
    simp only [ByteArray.size_append, ByteArray.size_extract] at hk
    rw [byt_part _ _ _ k (Nat.le_refl _) (by simp only [ByteArray.size_append]; omega), byt_right _ _ _ (by simp only [ByteArray.size_append]; omega)]
    congr 1
    simp only [ByteArray.size_append]
    omega
theorem headS_size (k b x t l : Int) : (headS k b x t l).size = 5 := by simp only [headS, ByteArray.size_append, numB_size]
theorem head_at (k b x t l : Int) (z : ByteArray) (h0 : 0 ≤ k ∧ k < 256) (h1 : 0 ≤ b ∧ b < 256) (h2 : 0 ≤ x ∧ x < 256) (h3 : 0 ≤ t ∧ t < 256) (h4 : 0 ≤ l ∧ l < 256) : ((byt (headS k b x t l ++ z) 0 : Nat) : Int) = k ∧ ((byt (headS k b x t l ++ z) 1 : Nat) : Int) = b ∧ ((byt (headS k b x t l ++ z) 2 : Nat) : Int) = x ∧ ((byt (headS k b x t l ++ z) 3 : Nat) : Int) = t ∧ ((byt (headS k b x t l ++ z) 4 : Nat) : Int) = l := by
  have hs := headS_size k b x t l
  refine ⟨?_, ?_, ?_, ?_, ?_⟩ <;> rw [byt_left _ _ _ (by omega), headS]
  · rw [byt_left _ _ _ (by simp only [ByteArray.size_append, numB_size]; omega), byt_left _ _ _ (by simp only [ByteArray.size_append, numB_size]; omega), byt_left _ _ _ (by simp only [ByteArray.size_append, numB_size]; omega), byt_left _ _ _ (by simp only [numB_size]; omega), byt_one k h0.1 h0.2]
  · rw [byt_left _ _ _ (by simp only [ByteArray.size_append, numB_size]; omega), byt_left _ _ _ (by simp only [ByteArray.size_append, numB_size]; omega), byt_left _ _ _ (by simp only [ByteArray.size_append, numB_size]; omega), byt_right _ _ _ (by simp only [numB_size]; omega), numB_size, byt_one b h1.1 h1.2]
  · rw [byt_left _ _ _ (by simp only [ByteArray.size_append, numB_size]; omega), byt_left _ _ _ (by simp only [ByteArray.size_append, numB_size]; omega), byt_right _ _ _ (by simp only [ByteArray.size_append, numB_size]; omega), ByteArray.size_append, numB_size, numB_size, byt_one x h2.1 h2.2]
  · rw [byt_left _ _ _ (by simp only [ByteArray.size_append, numB_size]; omega), byt_right _ _ _ (by simp only [ByteArray.size_append, numB_size]; omega), ByteArray.size_append, ByteArray.size_append, numB_size, numB_size, numB_size, byt_one t h3.1 h3.2]
  · rw [byt_right _ _ _ (by simp only [ByteArray.size_append, numB_size]; omega), ByteArray.size_append, ByteArray.size_append, ByteArray.size_append, numB_size, numB_size, numB_size, numB_size, byt_one l h4.1 h4.2]
end Go.Proofs.YtgaoeoijdpdjiabDoor
