/-
  signet.Digits at a right set and a text of its length: the digits of P6, in a new list.
-/
import Derived.Test.YtgaoeoijdpdjiaaDigitsA
import Derived.Test.YtgaoeoijdpdjiaaDigitsB
import Derived.Test.YtgaoeoijdpdjiaaDigitsC
import Derived.Test.YtgaoeoijdpdjiaaDigitsD
import Derived.Test.YtgaoeoijdpdjiaaPairOf
namespace Go.Proofs.Ytgaoeoijdpdjiaa
open Go.RowKit

theorem setsDigits_any (b x e f : Nat) (hp : Pair b x e f) (k t l : Int) (m : ByteArray) (w : World) (hk : k = 1 ∨ k = 2) (h1 : 1 ≤ t) (h2 : t ≤ 4) (h3 : 1 ≤ l) (h4 : l ≤ 3) (hm : m.size = b) :
    Calls Try.prog 52 #[.agg #[.int .i64 k, .int .i64 b, .int .i64 x, .int .i64 t, .int .i64 l], .string m] w fun r w' =>
      ∃ g, r = .returned (.tuple #[.slice (some ⟨g, 0, none⟩) (b * e + f) (b * e + f), .int .i64 0]) ∧ w.heap.size ≤ g ∧ RowZ w' g ((digitsN x e f (bytesN m)).map Int.ofNat) ∧ Below w.heap.size w w' := by
  rcases hp with ⟨rfl, rfl, rfl, rfl⟩ | ⟨rfl, rfl, rfl, rfl⟩ | ⟨rfl, rfl, rfl, rfl⟩ | ⟨rfl, rfl, rfl, rfl⟩
  · exact digits_4_4 k t l m w hk h1 h2 h3 h4 hm
  · exact digits_8_4 k t l m w hk h1 h2 h3 h4 hm
  · exact digits_4_16 k t l m w hk h1 h2 h3 h4 hm
  · exact digits_8_16 k t l m w hk h1 h2 h3 h4 hm

set_option maxHeartbeats 400000 in
theorem digits_any (b x e f : Nat) (hp : Pair b x e f) (k t l : Int) (m : ByteArray) (w : World) (hk : k = 1 ∨ k = 2) (h1 : 1 ≤ t) (h2 : t ≤ 4) (h3 : 1 ≤ l) (h4 : l ≤ 3) (hm : m.size = b) :
    Calls Try.prog 28 #[.agg #[.int .i64 k, .int .i64 b, .int .i64 x, .int .i64 t, .int .i64 l], .string m] w fun r w' =>
      ∃ g, r = .returned (.tuple #[.slice (some ⟨g, 0, none⟩) (b * e + f) (b * e + f), .int .i64 0]) ∧ w.heap.size ≤ g ∧ RowZ w' g ((digitsN x e f (bytesN m)).map Int.ofNat) ∧ Below w.heap.size w w' := by
  have HC := hideM (setsDigits_any b x e f hp k t l m (w.alloc (.cells #[.int .i64 k, .int .i64 b, .int .i64 x, .int .i64 t, .int .i64 l] 23)) hk h1 h2 h3 h4 hm)
  clear hp hm
  go_enter Try.func28, Try.ntmps28
  go_wp2_with fail
  refine HC.out.mono ?_
  rintro r w1 ⟨g, rfl, hg, hr, hb⟩
  have HR := hideM hr
  have HB := hideM hb
  clear hr hb
  simp at hg
  go_wp2
  go_ret2
  exact ⟨g, rfl, by omega, HR.out, ((Below.refl _ _).alloc (Nat.le_refl _) _).trans (HB.out.mono (by simp))⟩
end Go.Proofs.Ytgaoeoijdpdjiaa
