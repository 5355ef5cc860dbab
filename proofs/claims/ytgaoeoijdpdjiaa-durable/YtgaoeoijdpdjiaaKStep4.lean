/-
  A step of the statement Durable: a read.
-/
import Derived.Test.YtgaoeoijdpdjiaaKStep
namespace Go.Proofs.Ytgaoeoijdpdjiaa
open Go.RowKit

set_option maxRecDepth 20000 in
set_option maxHeartbeats 4000000 in
theorem step_4 (lo X S : Nat) (st : DSt) (kd a b : Int) (t : ByteArray) (kv : Value) (K : List Bool) (w : World) (h : StepIn lo X S st w kd a t kv K) (hk : pickZ kd 5 = 4) :
    Calls Try.prog 18 #[.pointer (some ⟨X, 0, none⟩), .agg #[.int .i64 kd, .int .i64 a, .int .i64 b, .string t, kv]] w fun e w' => e = .returned (.bool true) ∧ Stepped lo X S st w w' := by
  have hok := both_ok h.both
  have hn := hok.lo
  have hn8 := hok.hi
  have hdl := hok.len
  have hm16 := hok.most
  obtain ⟨ka, kc, hkv⟩ := h.kb.len
  subst hkv
  have P1 := hideK (fun V : World => pickR_any a st.n V (by omega) (by omega) h.a1 h.a2)
  have P2 := hideK (fun V : World => pickR_any kd 5 V (by omega) (by omega) h.kd1 h.kd2)
  rw [hk] at P2
  have pb := pickZ_bd a st.n (by omega)
  obtain ⟨k, hkk⟩ := Int.eq_ofNat_of_zero_le pb.1
  rw [hkk] at P1
  have hkn : k < st.n := by omega
  have HBASE := hideK h.base
  have HSH := hideK (fun (V : World) (hV : Both lo X S st V) (hl : lo ≤ V.heap.size) => shows_any lo X S st k V hV hkn hl)
  have HBD := hideK (And.intro h.w1 (And.intro h.s1 h.t1))
  obtain ⟨W0, hW⟩ : ∃ W0, w.alloc (.cells #[.int .i64 kd, .int .i64 a, .int .i64 b, .string t, .slice ka K.length kc] 57) = W0 := ⟨_, rfl⟩
  have HB0 := hideK (show Below w.heap.size w W0 by subst hW; exact (Below.refl _ _).alloc (Nat.le_refl _) _)
  have HN0 := hideK (show W0.heap[w.heap.size]? = some (.cells (List.toArray [.int .i64 kd, .int .i64 a, .int .i64 b, .string t, .slice ka K.length kc]) 57 (0, 0)) by subst hW; exact heap_alloc_new w _)
  have HBO := hideK (both_below h.both HB0.out)
  obtain ⟨sa, sc, s1⟩ : ∃ sa sc, W0.cell? ⟨X, 1, none⟩ = some (.slice sa st.n sc) := by
    obtain ⟨F, sv, wv, tv, hd, hx, _⟩ := HBO.out
    obtain ⟨sa, sc, hsv⟩ := owns_len hx.st
    have := hx.c1
    rw [hsv, hdl] at this
    exact ⟨sa, sc, this⟩
  have v1 : W0.cell? ⟨w.heap.size, 1, none⟩ = some (.int .i64 a) := cellOf HN0.out rfl
  clear h hok hkk pb hk
  go_enter Try.func18, Try.ntmps18
  go_wp2_with fail
  try rw [hW]
  clear hW
  go_quiet ((go_at_call 16; exact Calls.quiet_of_same (P1.out _)))
  have HBV := hideK (show Below w.heap.size w (W0.drewN nq) from ⟨HB0.out.os, HB0.out.tape, HB0.out.output, HB0.out.size, HB0.out.block⟩)
  have HNV : Hid ((W0.drewN nq).heap[w.heap.size]? = some (.cells (List.toArray [.int .i64 kd, .int .i64 a, .int .i64 b, .string t, .slice ka K.length kc]) 57 (0, 0))) := HN0.out
  have HBOV := hideK (both_below HBO.out (show Below W0.heap.size W0 (W0.drewN nq) from ⟨rfl, rfl, rfl, Nat.le_refl _, fun _ _ => rfl⟩))
  clear HB0 HN0 HBO s1 v1 P1
  generalize W0.drewN nq = V at *
  have v0 : V.cell? ⟨w.heap.size, 0, none⟩ = some (.int .i64 kd) := cellOf HNV.out rfl
  have HLV := hideK (Nat.le_trans HBASE.out HBV.out.size)
  go_wp2_with fail
  refine (P2.out _).mono ?_
  rintro e V' ⟨rfl, rfl⟩
  clear P2 v0
  go_wp2_with fail
  refine (HSH.out _ HBOV.out HLV.out).mono ?_
  rintro e w3 ⟨rfl, hbo3, hb3⟩
  have HBO3 := hideK hbo3
  have HB3 := hideK ((HBV.out.mono HBASE.out).trans hb3)
  clear hbo3 hb3
  go_wp2
  go_ret
  exact ⟨rfl, _, HBO3.out, rfl, ⟨HBD.out.1, by omega⟩, ⟨HBD.out.2.1, by omega⟩, ⟨HBD.out.2.2, by omega⟩, HB3.out⟩
end Go.Proofs.Ytgaoeoijdpdjiaa
