/-
  The document's own digit at every right pair.
-/
import Derived.Test.YtgaoeoijdpdjiaaRefDigit
namespace Go.Proofs.Ytgaoeoijdpdjiaa
open Go.RowKit

theorem byte_of (m : ByteArray) (j : Nat) (h : j < m.size) : at0M (bytesN m) j = (m[j]'h).toNat := byte_at m j h

theorem refDigit_any (b x e f : Nat) (hp : Pair b x e f) (k : Int) (t l i : Nat) (m : ByteArray) (w : World) (h1 : 1 ≤ t) (h2 : t ≤ 4) (h3 : 1 ≤ l) (h4 : l ≤ 3) (hm : m.size = b) (hi : i < b * e) :
    Calls Try.prog 73 #[.agg #[.int .i64 k, .int .i64 b, .int .i64 x, .int .i64 t, .int .i64 l], .string m, .int .i64 i] w fun r w' => r = .returned (.int .i64 ((at0M (firsts x e (bytesN m)) i : Nat) : Int)) ∧ Below w.heap.size w w' := by
  have he : 0 < e := by rcases hp with ⟨rfl, rfl, rfl, rfl⟩ | ⟨rfl, rfl, rfl, rfl⟩ | ⟨rfl, rfl, rfl, rfl⟩ | ⟨rfl, rfl, rfl, rfl⟩ <;> decide
  have q1 : i / e < m.size := by rw [hm]; exact Nat.div_lt_of_lt_mul (by rw [Nat.mul_comm]; exact hi)
  have key := firsts_at x e (bytesN m) i he (by rw [bytesN_length, hm]; exact hi)
  rw [byte_of m (i / e) q1] at key
  rw [key]
  rcases hp with ⟨rfl, rfl, rfl, rfl⟩ | ⟨rfl, rfl, rfl, rfl⟩ | ⟨rfl, rfl, rfl, rfl⟩ | ⟨rfl, rfl, rfl, rfl⟩
  · rcases (show i % 4 = 0 ∨ i % 4 = 1 ∨ i % 4 = 2 ∨ i % 4 = 3 by omega) with hr | hr | hr | hr
    · have h := digit_4_4_0 k t l i _ m w h1 h2 h3 h4 hm hi hr q1 rfl
      rw [hr]
      simpa [digs, at0M] using h
    · have h := digit_4_4_1 k t l i _ m w h1 h2 h3 h4 hm hi hr q1 rfl
      rw [hr]
      simpa [digs, at0M] using h
    · have h := digit_4_4_2 k t l i _ m w h1 h2 h3 h4 hm hi hr q1 rfl
      rw [hr]
      simpa [digs, at0M] using h
    · have h := digit_4_4_3 k t l i _ m w h1 h2 h3 h4 hm hi hr q1 rfl
      rw [hr]
      simpa [digs, at0M] using h
  · rcases (show i % 4 = 0 ∨ i % 4 = 1 ∨ i % 4 = 2 ∨ i % 4 = 3 by omega) with hr | hr | hr | hr
    · have h := digit_8_4_0 k t l i _ m w h1 h2 h3 h4 hm hi hr q1 rfl
      rw [hr]
      simpa [digs, at0M] using h
    · have h := digit_8_4_1 k t l i _ m w h1 h2 h3 h4 hm hi hr q1 rfl
      rw [hr]
      simpa [digs, at0M] using h
    · have h := digit_8_4_2 k t l i _ m w h1 h2 h3 h4 hm hi hr q1 rfl
      rw [hr]
      simpa [digs, at0M] using h
    · have h := digit_8_4_3 k t l i _ m w h1 h2 h3 h4 hm hi hr q1 rfl
      rw [hr]
      simpa [digs, at0M] using h
  · rcases (show i % 2 = 0 ∨ i % 2 = 1 by omega) with hr | hr
    · have h := digit_4_16_0 k t l i _ m w h1 h2 h3 h4 hm hi hr q1 rfl
      rw [hr]
      simpa [digs, at0M] using h
    · have h := digit_4_16_1 k t l i _ m w h1 h2 h3 h4 hm hi hr q1 rfl
      rw [hr]
      simpa [digs, at0M] using h
  · rcases (show i % 2 = 0 ∨ i % 2 = 1 by omega) with hr | hr
    · have h := digit_8_16_0 k t l i _ m w h1 h2 h3 h4 hm hi hr q1 rfl
      rw [hr]
      simpa [digs, at0M] using h
    · have h := digit_8_16_1 k t l i _ m w h1 h2 h3 h4 hm hi hr q1 rfl
      rw [hr]
      simpa [digs, at0M] using h
end Go.Proofs.Ytgaoeoijdpdjiaa
