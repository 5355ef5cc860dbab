/-
  A step of the statement Durable: a Sync that fails.
-/
import Derived.Test.YtgaoeoijdpdjiaaKStep
namespace Go.Proofs.Ytgaoeoijdpdjiaa
open Go.RowKit

set_option maxRecDepth 20000 in
set_option maxHeartbeats 4000000 in
theorem step_3 (lo X S : Nat) (st : DSt) (kd a b : Int) (t : ByteArray) (kv : Value) (K : List Bool) (w : World) (h : StepIn lo X S st w kd a t kv K) (hk : pickZ kd 5 = 3) :
    Calls Try.prog 18 #[.pointer (some ⟨X, 0, none⟩), .agg #[.int .i64 kd, .int .i64 a, .int .i64 b, .string t, kv]] w fun e w' => e = .returned (.bool true) ∧ Stepped lo X S st w w' := by
  have hok := both_ok h.both
  have hn := hok.lo
  have hn8 := hok.hi
  have hdl := hok.len
  have hm16 := hok.most
  obtain ⟨ka, kc, hkv⟩ := h.kb.len
  subst hkv
  have P1 := hideK (fun V : World => pickR_any a st.n V (by omega) (by omega) h.a1 h.a2)
  have P2 := hideK (fun V : World => pickR_any kd 5 V (by omega) (by omega) h.kd1 h.kd2)
  rw [hk] at P2
  have pb := pickZ_bd a st.n (by omega)
  obtain ⟨k, hkk⟩ := Int.eq_ofNat_of_zero_le pb.1
  rw [hkk] at P1
  have hkn : k < st.n := by omega
  have HBASE := hideK h.base
  have HBD := hideK (And.intro h.w1 (And.intro h.s1 h.t1))
  have HTR := hideK (fun (V : World) (F : Nat → Prop) (hV : SDisk lo S st V F) => strouble_any lo S st F 1 V hV (by omega))
  rw [if_neg (by omega), if_neg (by omega)] at HTR
  have HSY := hideK (fun (V : World) (F : Nat → Prop) (hV : SDisk lo S { st with trouble := 1 } V F) => ssync_any lo S { st with trouble := 1 } F V hV h.s1 h.s2)
  rw [show syAns { st with trouble := 1 } = 5 from rfl] at HSY
  have HST : Hid (st.trouble = 0 → sySt { st with trouble := 1 } = st) := by
    intro h0
    obtain ⟨n, dur, pend, wr, sy, tr, te⟩ := st
    simp only at h0
    subst h0
    rfl
  obtain ⟨W0, hW⟩ : ∃ W0, w.alloc (.cells #[.int .i64 kd, .int .i64 a, .int .i64 b, .string t, .slice ka K.length kc] 57) = W0 := ⟨_, rfl⟩
  have HB0 := hideK (show Below w.heap.size w W0 by subst hW; exact (Below.refl _ _).alloc (Nat.le_refl _) _)
  have HN0 := hideK (show W0.heap[w.heap.size]? = some (.cells (List.toArray [.int .i64 kd, .int .i64 a, .int .i64 b, .string t, .slice ka K.length kc]) 57 (0, 0)) by subst hW; exact heap_alloc_new w _)
  have HBO := hideK (both_below h.both HB0.out)
  obtain ⟨sa, sc, s1⟩ : ∃ sa sc, W0.cell? ⟨X, 1, none⟩ = some (.slice sa st.n sc) := by
    obtain ⟨F, sv, wv, tv, hd, hx, _⟩ := HBO.out
    obtain ⟨sa, sc, hsv⟩ := owns_len hx.st
    have := hx.c1
    rw [hsv, hdl] at this
    exact ⟨sa, sc, this⟩
  have v1 : W0.cell? ⟨w.heap.size, 1, none⟩ = some (.int .i64 a) := cellOf HN0.out rfl
  clear h hok hkk pb hk
  go_enter Try.func18, Try.ntmps18
  go_wp2_with fail
  try rw [hW]
  clear hW
  go_quiet ((go_at_call 16; exact Calls.quiet_of_same (P1.out _)))
  have HBV := hideK (show Below w.heap.size w (W0.drewN nq) from ⟨HB0.out.os, HB0.out.tape, HB0.out.output, HB0.out.size, HB0.out.block⟩)
  have HNV : Hid ((W0.drewN nq).heap[w.heap.size]? = some (.cells (List.toArray [.int .i64 kd, .int .i64 a, .int .i64 b, .string t, .slice ka K.length kc]) 57 (0, 0))) := HN0.out
  have HBOV := hideK (both_below HBO.out (show Below W0.heap.size W0 (W0.drewN nq) from ⟨rfl, rfl, rfl, Nat.le_refl _, fun _ _ => rfl⟩))
  clear HB0 HN0 HBO s1 v1 P1
  generalize W0.drewN nq = V at *
  have v0 : V.cell? ⟨w.heap.size, 0, none⟩ = some (.int .i64 kd) := cellOf HNV.out rfl
  have HLV := hideK (Nat.le_trans HBASE.out HBV.out.size)
  go_wp2_with fail
  refine (P2.out _).mono ?_
  rintro e V' ⟨rfl, rfl⟩
  clear P2 v0
  obtain ⟨F, sv, wv, tv, hd, hx, htr, hF⟩ := HBOV.out
  have c0 := hx.c0
  have HX := hideK hx
  have HF := hideK hF
  rw [HST.out htr] at HSY
  have HT := hideK htr
  have HD := hideK hd
  clear hx hF htr hd HST HBOV
  go_wp2_with fail
  refine (HTR.out _ F HD.out).mono ?_
  rintro e w2 ⟨rfl, F2, hd2, hk2, hf2⟩
  have HX2 := hideK (HX.out.kept hk2 (fun k hk hf => HF.out k hf hk))
  have c0 := HX2.out.c0
  have HB2 := hideK ((HBV.out.mono HBASE.out).trans (hk2.below (fun k hk => (HD.out.lt k hk).1) HLV.out))
  have HL2 := hideK (Nat.le_trans HLV.out hk2.size)
  have HF2 : Hid (∀ k, F2 k → ¬ XFoot X sv wv tv k) := by
    intro k hk hk2'
    rcases hf2 k hk with h | h
    · exact HF.out k h hk2'
    · have := (HX.out.lt k hk2').2; omega
  have HD2 := hideK hd2
  clear hk2 hf2 hd2
  go_wp2_with fail
  refine (HSY.out _ F2 HD2.out).mono ?_
  rintro e w3 ⟨rfl, F3, hd3, hk3, hf3⟩
  have HX3 := hideK (HX2.out.kept hk3 (fun k hk hf => HF2.out k hf hk))
  have HB3 := hideK (HB2.out.trans (hk3.below (fun k hk => (HD2.out.lt k hk).1) HL2.out))
  have HF3 : Hid (∀ k, F3 k → ¬ XFoot X sv wv tv k) := by
    intro k hk hk2'
    rcases hf3 k hk with h | h
    · exact HF2.out k h hk2'
    · have := (HX2.out.lt k hk2').2; omega
  have HD3 := hideK hd3
  clear hk3 hf3 hd3
  go_wp2
  go_ret
  exact ⟨rfl, st, ⟨F3, sv, wv, tv, HD3.out, HX3.out, HT.out, HF3.out⟩, rfl, ⟨HBD.out.1, by omega⟩, ⟨HBD.out.2.1, by omega⟩, ⟨HBD.out.2.2, by omega⟩, HB3.out⟩
end Go.Proofs.Ytgaoeoijdpdjiaa
