/-
  A step of the statement Durable: a Sync.
-/
import Derived.Test.YtgaoeoijdpdjiaaKStep
namespace Go.Proofs.Ytgaoeoijdpdjiaa
open Go.RowKit

set_option maxRecDepth 20000 in
set_option maxHeartbeats 4000000 in
theorem step_1 (lo X S : Nat) (st : DSt) (kd a b : Int) (t : ByteArray) (kv : Value) (K : List Bool) (w : World) (h : StepIn lo X S st w kd a t kv K) (hk : pickZ kd 5 = 1) :
    Calls Try.prog 18 #[.pointer (some ⟨X, 0, none⟩), .agg #[.int .i64 kd, .int .i64 a, .int .i64 b, .string t, kv]] w fun e w' => e = .returned (.bool true) ∧ Stepped lo X S st w w' := by
  have hok := both_ok h.both
  have hn := hok.lo
  have hn8 := hok.hi
  have hdl := hok.len
  have hm16 := hok.most
  obtain ⟨ka, kc, hkv⟩ := h.kb.len
  subst hkv
  have P1 := hideK (fun V : World => pickR_any a st.n V (by omega) (by omega) h.a1 h.a2)
  have P2 := hideK (fun V : World => pickR_any kd 5 V (by omega) (by omega) h.kd1 h.kd2)
  rw [hk] at P2
  have pb := pickZ_bd a st.n (by omega)
  obtain ⟨k, hkk⟩ := Int.eq_ofNat_of_zero_le pb.1
  rw [hkk] at P1
  have hkn : k < st.n := by omega
  have HBASE := hideK h.base
  have HBD := hideK (And.intro h.w1 (And.intro h.s1 h.t1))
  have HSY := hideK (fun (V : World) (F : Nat → Prop) (hV : SDisk lo S st V F) => ssync_any lo S st F V hV h.s1 h.s2)
  have hs1 := h.s1
  have hs2 := h.s2
  have HPN : Hid (∀ p ∈ st.pend, p.1 < st.dur.length) := fun p hp => by rw [hdl]; exact (hok.pen p hp).1
  have hd8 : st.dur.length ≤ 8 := by omega
  obtain ⟨W0, hW⟩ : ∃ W0, w.alloc (.cells #[.int .i64 kd, .int .i64 a, .int .i64 b, .string t, .slice ka K.length kc] 57) = W0 := ⟨_, rfl⟩
  have HB0 := hideK (show Below w.heap.size w W0 by subst hW; exact (Below.refl _ _).alloc (Nat.le_refl _) _)
  have HN0 := hideK (show W0.heap[w.heap.size]? = some (.cells (List.toArray [.int .i64 kd, .int .i64 a, .int .i64 b, .string t, .slice ka K.length kc]) 57 (0, 0)) by subst hW; exact heap_alloc_new w _)
  have HBO := hideK (both_below h.both HB0.out)
  obtain ⟨sa, sc, s1⟩ : ∃ sa sc, W0.cell? ⟨X, 1, none⟩ = some (.slice sa st.n sc) := by
    obtain ⟨F, sv, wv, tv, hd, hx, _⟩ := HBO.out
    obtain ⟨sa, sc, hsv⟩ := owns_len hx.st
    have := hx.c1
    rw [hsv, hdl] at this
    exact ⟨sa, sc, this⟩
  have v1 : W0.cell? ⟨w.heap.size, 1, none⟩ = some (.int .i64 a) := cellOf HN0.out rfl
  clear h hok hkk pb hk
  go_enter Try.func18, Try.ntmps18
  go_wp2_with fail
  try rw [hW]
  clear hW
  go_quiet ((go_at_call 16; exact Calls.quiet_of_same (P1.out _)))
  have HBV := hideK (show Below w.heap.size w (W0.drewN nq) from ⟨HB0.out.os, HB0.out.tape, HB0.out.output, HB0.out.size, HB0.out.block⟩)
  have HNV : Hid ((W0.drewN nq).heap[w.heap.size]? = some (.cells (List.toArray [.int .i64 kd, .int .i64 a, .int .i64 b, .string t, .slice ka K.length kc]) 57 (0, 0))) := HN0.out
  have HBOV := hideK (both_below HBO.out (show Below W0.heap.size W0 (W0.drewN nq) from ⟨rfl, rfl, rfl, Nat.le_refl _, fun _ _ => rfl⟩))
  clear HB0 HN0 HBO s1 v1 P1
  generalize W0.drewN nq = V at *
  have v0 : V.cell? ⟨w.heap.size, 0, none⟩ = some (.int .i64 kd) := cellOf HNV.out rfl
  have HLV := hideK (Nat.le_trans HBASE.out HBV.out.size)
  go_wp2_with fail
  refine (P2.out _).mono ?_
  rintro e V' ⟨rfl, rfl⟩
  clear P2 v0
  obtain ⟨F, sv, wv, tv, hd, hx, htr, hF⟩ := HBOV.out
  have c0 := hx.c0
  have HX := hideK hx
  have HF := hideK hF
  rw [show syAns st = 0 by rw [syAns, if_neg (by omega)], show sySt st = { st with dur := laidJ st st.pend.length, pend := [], syncs := st.syncs + 1 } by
    rw [sySt, if_neg (by omega)]
    obtain ⟨n, dur, pend, wr, sy, tr, te⟩ := st
    simp only at htr
    subst htr
    rfl] at HSY
  have HT := hideK htr
  have HD := hideK hd
  clear hx hF htr hd HBOV
  go_wp2_with fail
  refine (HSY.out _ F HD.out).mono ?_
  rintro e w2 ⟨rfl, F2, hd2, hk2, hf2⟩
  have HX2 := hideK (HX.out.kept hk2 (fun k hk hf => HF.out k hf hk))
  have HB2 := hideK ((HBV.out.mono HBASE.out).trans (hk2.below (fun k hk => (HD.out.lt k hk).1) HLV.out))
  have HL2 := hideK (Nat.le_trans HLV.out hk2.size)
  have HF2 : Hid (∀ k, F2 k → ¬ XFoot X sv wv tv k) := by
    intro k hk hk2'
    rcases hf2 k hk with h | h
    · exact HF.out k h hk2'
    · have := (HX.out.lt k hk2').2; omega
  have HD2 := hideK hd2
  clear hk2 hf2 hd2 c0
  go_wp2_with fail
  refine (all_any lo X S sv wv tv st.dur st.pend st.writes st.syncs _ HX2.out hm16).mono ?_
  rintro e w3 ⟨v, rfl, hrow, hb3⟩
  have HX3 := hideK (HX2.out.below hb3)
  have HD3 := hideK (HD2.out.below hb3)
  have HB3 := hideK (HB2.out.trans (hb3.mono HL2.out))
  have HL3 := hideK (Nat.le_trans HL2.out hb3.size)
  have hrow' : w3.ownsRow w2.heap.size 4 1 v (List.replicate st.pend.length true).length ((List.replicate st.pend.length true).map Value.bool) := by rw [List.length_replicate]; exact hrow
  have HBA := hideK (bools_of_row hrow')
  have HKF : Hid (∀ b o l c, v = .slice (some ⟨b, o, none⟩) l c → 0 < l → b < w3.heap.size ∧ ¬ XFoot X sv wv tv b) := by
    intro b o l c e _
    have h1 := hrow.lt b (by rw [e]; rfl)
    exact ⟨h1.2, fun hf => by have := (HX2.out.lt b hf).2; omega⟩
  obtain ⟨va, vc, hv⟩ := owns_len hrow
  subst hv
  clear hrow hrow' hb3
  go_wp2_with fail
  refine (settled_any lo X S sv wv tv st st.writes st.syncs _ (List.replicate st.pend.length true) _ HX3.out HPN.out hd8 hm16 HBA.out (by rw [List.length_replicate]; unfold maxLen; omega) HKF.out).mono ?_
  rintro e w4 ⟨rfl, hx4, hk4⟩
  rw [kept_all st st.pend.length st.pend.length (Nat.le_refl _) rfl] at hx4
  have HX4 := hideK hx4
  have HD4 := hideK (HD3.out.kept hk4 (fun k hf => HF2.out k hf))
  have HB4 := hideK (HB3.out.trans (hk4.below (fun k hk => (HX3.out.lt k hk).1) HL3.out))
  have HL4 := hideK (Nat.le_trans HL3.out hk4.size)
  have c5 := hx4.c5
  have f5 := hx4.free 5
  clear hx4 hk4
  go_wp2
  go_ret
  have hK6 := kept_set w4 ⟨X, 5, none⟩ (.int .i64 (st.syncs + 1))
  refine ⟨rfl, { st with dur := laidJ st st.pend.length, pend := [], syncs := st.syncs + 1 }, ⟨F2, sv, .slice none 0 0, .slice none 0 0, HD4.out.kept hK6 (fun k hf e => HF2.out k hf (.inl e)), HX4.out.setSy _, HT.out, ?_⟩, rfl, ⟨HBD.out.1, by show st.writes ≤ _; omega⟩, ⟨by show 0 ≤ st.syncs + 1; omega, by show st.syncs + 1 ≤ _; omega⟩, ⟨HBD.out.2.2, by show st.term ≤ _; omega⟩, HB4.out.trans (hK6.below (fun k e => by rw [show k = X from e]; exact HX4.out.loX) HL4.out)⟩
  rintro k hk (rfl | e | e | e)
  · exact HF2.out _ hk (.inl rfl)
  · exact HF2.out _ hk (.inr (.inl e))
  · simp [Value.ownBlock] at e
  · simp [Value.ownBlock] at e
end Go.Proofs.Ytgaoeoijdpdjiaa
