/-
  The document's Unseal, whole.
-/
import Derived.Test.YtgaoeoijdpdjiaaRRefUnsealA
import Derived.Test.YtgaoeoijdpdjiaaRRefUnsealB
namespace Go.Proofs.Ytgaoeoijdpdjiaa
open Go.RowKit

theorem refUnseal_any (s : ByteArray) (w : World) :
    Calls Try.prog 37 #[.string s] w fun e w' => e = .returned (unsV s) ∧ Below w.heap.size w w' := by
  by_cases hZ : s.size = 32
  · by_cases hm : s.extract 0 4 = markB
    · cases hI : isRec s
      · by_cases q1 : rv s 4 < 1
        · exact refUnseal_q1 s w hZ hm hI q1
        · by_cases q2 : 2147483647 < rv s 4
          · exact refUnseal_q2 s w hZ hm hI (by omega) q2
          · by_cases b1 : 4096 < rv s 16
            · exact refUnseal_b1 s w hZ hm hI (by omega) (by omega) b1
            · refine refUnseal_e s w hZ hm hI (by omega) (by omega) (by omega) ?_
              intro h20 h24 h28
              have a4 : ((valN s 20 4 : Nat) : Int) = 0 := eq_of_beq h20
              have a5 : ((valN s 24 4 : Nat) : Int) = 0 := eq_of_beq h24
              have a1 : 1 ≤ rv s 4 := by omega
              have a2 : rv s 4 ≤ 2147483647 := by omega
              have a3 : rv s 16 ≤ 4096 := by omega
              rw [(isRec_parts s hZ).2 ⟨hm, a1, a2, a3, ⟨by omega, by omega⟩, h28.symm⟩] at hI
              cases hI
      · exact refUnseal_yes s w hZ hI
    · exact refUnseal_mark s w hZ hm
  · exact refUnseal_short s w hZ
end Go.Proofs.Ytgaoeoijdpdjiaa
