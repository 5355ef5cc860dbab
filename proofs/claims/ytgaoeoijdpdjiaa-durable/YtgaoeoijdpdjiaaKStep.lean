/-
  One step of the statement Durable.
-/
import Derived.Test.YtgaoeoijdpdjiaaKWrote
import Derived.Test.YtgaoeoijdpdjiaaRPick
import Derived.Test.YtgaoeoijdpdjiaaRSome
import Derived.Deep.QuietTactic
import Derived.BigQuiet
namespace Go.Proofs.Ytgaoeoijdpdjiaa
open Go.RowKit

theorem BoolsAt.below {lo : Nat} {w w' : World} {kv : Value} {K : List Bool} (h : BoolsAt w kv K) (ho : ∀ b o l c, kv = .slice (some ⟨b, o, none⟩) l c → 0 < l → b < lo) (hb : Below lo w w') : BoolsAt w' kv K := by
  rcases h with h | ⟨b, o, cap, rfl, hc, hcell⟩
  · exact .inl h
  · exact .inr ⟨b, o, cap, rfl, hc, fun j x hx => (hb.cell (p := ⟨b, o + j, none⟩) (ho b o _ _ rfl (Nat.lt_of_le_of_lt (Nat.zero_le _) (List.getElem?_eq_some_iff.1 hx).1))).trans (hcell j x hx)⟩
theorem kept_all (st : DSt) (N : Nat) (j : Nat) (hj : j ≤ N) (hN : N = st.pend.length) : keptJ st (List.replicate N true) j = laidJ st j := by
  induction j with
  | zero => rfl
  | succ j ih =>
    obtain ⟨p, hp⟩ : ∃ p, st.pend[j]? = some p := ⟨_, List.getElem?_eq_getElem (by omega)⟩
    have hk : (List.replicate N true).getD j false = true := by rw [List.getD_eq_getElem?_getD, List.getElem?_replicate, if_pos (by omega)]; rfl
    rw [keptJ_succ st _ j p hp, laidJ_succ st j p hp, hk, if_pos rfl, ih (by omega)]

/-- What a step leaves: the disk and the list say the same again. -/
def Stepped (lo X S : Nat) (st : DSt) (w w' : World) : Prop := ∃ st', Both lo X S st' w' ∧ st'.n = st.n ∧ (0 ≤ st'.writes ∧ st'.writes ≤ st.writes + 1) ∧ (0 ≤ st'.syncs ∧ st'.syncs ≤ st.syncs + 1) ∧ (0 ≤ st'.term ∧ st'.term ≤ st.term + 1) ∧ Below lo w w'

theorem both_ok {lo X S : Nat} {st : DSt} {w : World} (h : Both lo X S st w) : DOk st := by
  obtain ⟨F, sv, wv, tv, hd, _⟩ := h
  exact hd.ok
theorem both_below {lo X S : Nat} {st : DSt} {w w' : World} (h : Both lo X S st w) (hb : Below w.heap.size w w') : Both lo X S st w' := by
  obtain ⟨F, sv, wv, tv, hd, hx, ht, hF⟩ := h
  exact ⟨F, sv, wv, tv, hd.below hb, hx.below hb, ht, hF⟩

/-- The parts of a step that many share: the two picks. -/
structure StepIn (lo X S : Nat) (st : DSt) (w : World) (kd a : Int) (t : ByteArray) (kv : Value) (K : List Bool) : Prop where
  both : Both lo X S st w
  base : lo ≤ w.heap.size
  kd1 : -9223372036854775808 ≤ kd
  kd2 : kd ≤ 9223372036854775807
  a1 : -9223372036854775808 ≤ a
  a2 : a ≤ 9223372036854775807
  ts : t.size ≤ maxLen
  kb : BoolsAt w kv K
  kl : K.length ≤ maxLen
  ko : ∀ b o l c, kv = .slice (some ⟨b, o, none⟩) l c → 0 < l → b < lo
  w1 : 0 ≤ st.writes
  w2 : st.writes < 9223372036854775807
  s1 : 0 ≤ st.syncs
  s2 : st.syncs < 9223372036854775807
  t1 : 0 ≤ st.term
  t2 : st.term < 9223372036854775807
end Go.Proofs.Ytgaoeoijdpdjiaa
