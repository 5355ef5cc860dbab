/-
  A signer when nothing fails: what holds from step to step.
-/
import Derived.Test.YtgaoeoijdpdjiabGreatDoorPart45
import Derived.Test.YtgaoeoijdpdjiabGreatDoorPart35
namespace Go.Proofs.YtgaoeoijdpdjiabGreatDoor
open Go.RowKit

/-- A disk on which nothing is pending and nothing fails. -/
structure Calm (st : DSt) (tm q : Int) : Prop where
  n : st.n = 2
  tr : st.trouble = 0
  pe : st.pend = []
  te : st.term = tm
  wr : st.writes = q
  sy : st.syncs = q + 1

theorem calm_next {st : DSt} {tm q : Int} (h : Calm st tm q) (i : Int) (hi : 0 ≤ i ∧ i < 2) (z : ByteArray) (hz : z.size = 32) :
    wrAns st i z = 0 ∧ (wrSt st i z).syncs = st.syncs ∧ syAns (wrSt st i z) = 0 ∧ Calm (sySt (wrSt st i z)) tm (q + 1) := by
  have hi' : 0 ≤ i ∧ i < (st.n : Int) := ⟨hi.1, by rw [h.n]; exact hi.2⟩
  have hf : ¬ (st.trouble = 1 ∨ st.pend.length = 16) := by
    rintro (e | e)
    · rw [h.tr] at e; exact absurd e (by decide)
    · rw [h.pe] at e; exact absurd e (by decide)
  have e1 : wrAns st i z = 0 := by rw [wrAns, if_neg (fun hn => hn hi'), if_neg (fun hn => hn hz), if_neg hf]
  have e2 : wrSt st i z = { st with trouble := tick st.trouble, pend := st.pend ++ [(i.toNat, z)], writes := st.writes + 1 } := by rw [wrSt, if_neg (fun hn => hn hi'), if_neg (fun hn => hn hz), if_neg hf]
  have t0 : tick st.trouble = 0 := by rw [h.tr]; decide
  have e3 : ¬ (wrSt st i z).trouble = 1 := by rw [e2]; show ¬ tick st.trouble = 1; rw [t0]; decide
  refine ⟨e1, by rw [e2], by rw [syAns, if_neg e3], ?_⟩
  rw [sySt, if_neg e3, e2]
  exact ⟨h.n, by show tick (tick st.trouble) = 0; rw [t0]; decide, rfl, h.te, by show st.writes + 1 = q + 1; rw [h.wr], by show st.syncs + 1 = q + 1 + 1; rw [h.sy]⟩

def ioC (D : Nat) (tm k : Int) (b x e f t l : Nat) (sec rnd pub : ByteArray) (bat : Int) (kk q bd : Nat) : List Value :=
  sgC D tm k b x t l (rootK k b x t (b * e + f) l sec pub) pub sec rnd ((2 ^ (t * l) : Nat) : Int) bat kk q bd (idS k b x t l (rootK k b x t (b * e + f) l sec pub) pub) false

section
variable {k : Int} {b x e f t l : Nat} (R : RSet k b x e f t l) {sec rnd pub : ByteArray} (s1 : sec.size = b) (s2 : rnd.size = b) (s3 : pub.size = b) {lo SD D G S : Nat} {tm bat : Int} {kk q bd : Nat} {st : DSt} {F : Nat → Prop} {V : World}

theorem total_most (R : RSet k b x e f t l) : 2 ^ (t * l) ≤ 4096 := Nat.le_trans (Nat.pow_le_pow_right (by decide) (Nat.mul_le_mul R.t2 R.l2)) (by decide)

/-- A reservation, when nothing fails. -/
theorem resv_in (R : RSet k b x e f t l) (s1 : sec.size = b) (s3 : pub.size = b) (hc : Calm st tm q) (hq1 : 1 ≤ q) (hq : q ≤ bd + 1) (hbd : bd < 2 ^ (t * l)) (m : Nat) (hm : 1 ≤ m) (hm2 : m ≤ 64) :
    ∃ (st2 : DSt) (nb : Nat), Calm st2 tm ((q + 1 : Nat) : Int) ∧ nb = min (bd + m) (2 ^ (t * l)) ∧ ∀ (V : World) (F : Nat → Prop), Blk V S (ioC D tm k b x e f t l sec rnd pub bat kk q bd) 188 → DSk lo D st V F → ¬ F S → lo ≤ V.heap.size →
    Calls Tryz.prog 116 #[.pointer (some ⟨S, 0, none⟩), .int .i64 m] V fun e' w' => e' = .returned (.int .i64 0) ∧ SGL lo S D st2 (ioC D tm k b x e f t l sec rnd pub bat kk (q + 1) nb) F V w' := by
  have hT := total_most R
  obtain ⟨g1, g2, g3, g4, g5, g6⟩ := pair_small R.pr
  have hrk := rootK_size k b x t (b * e + f) l sec pub R.kk g1 g2 (by omega) (by omega) g3
  have hid : (idS k b x t l (rootK k b x t (b * e + f) l sec pub) pub).size = 8 := idS_size k b x t l _ pub R.kk (by omega) (by omega)
  obtain ⟨nb, hnb⟩ : ∃ nb : Nat, nb = min (bd + m) (2 ^ (t * l)) := ⟨_, rfl⟩
  obtain ⟨q2, hq2⟩ : ∃ q2 : Int, Int.tmod ((q : Int) + 1) 2 = q2 := ⟨_, rfl⟩
  have hq2' : q2 = ((q : Int) + 1) % 2 := by rw [← hq2, Int.tmod_eq_emod_of_nonneg (by omega)]
  have hR : RecR ((q : Int) + 1) nb (idS k b x t l (rootK k b x t (b * e + f) l sec pub) pub) := ⟨by omega, by omega, by omega, by omega, hid⟩
  have hsz := sealS_size ((q : Int) + 1) nb (idS k b x t l (rootK k b x t (b * e + f) l sec pub) pub) hid
  obtain ⟨a1, a2, a3, a4⟩ := calm_next hc q2 ⟨by omega, by omega⟩ _ hsz
  refine ⟨_, nb, a4, hnb, fun V F hB hD hSF hlo => ?_⟩
  have hwr := hc.wr
  have hsy := hc.sy
  refine (reserve_yes lo S D st F tm k b x t l _ pub sec rnd _ bat kk q bd _ false m q2 nb V hB hD hSF hlo (by omega) (by omega) (by omega) (by omega) hR hq2 (by rw [IntKind.wrap_i64] <;> omega) (by rw [IntKind.wrap_i64] <;> omega) (by rw [IntKind.wrap_i64] <;> omega) ?_ a1 a2 a3).mono ?_
  · split <;> omega
  · rintro e' w' ⟨rfl, h1, h2⟩
    exact ⟨rfl, h1, h2⟩
end
end Go.Proofs.YtgaoeoijdpdjiabGreatDoor
