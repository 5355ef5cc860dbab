/-
  A step of the statement Durable: a crash.
-/
import Derived.Test.YtgaoeoijdpdjiaaKStep
namespace Go.Proofs.Ytgaoeoijdpdjiaa
open Go.RowKit

set_option maxRecDepth 20000 in
set_option maxHeartbeats 4000000 in
theorem step_2 (lo X S : Nat) (st : DSt) (kd a b : Int) (t : ByteArray) (kv : Value) (K : List Bool) (w : World) (h : StepIn lo X S st w kd a t kv K) (hk : pickZ kd 5 = 2) :
    Calls Try.prog 18 #[.pointer (some ⟨X, 0, none⟩), .agg #[.int .i64 kd, .int .i64 a, .int .i64 b, .string t, kv]] w fun e w' => e = .returned (.bool true) ∧ Stepped lo X S st w w' := by
  have hok := both_ok h.both
  have hn := hok.lo
  have hn8 := hok.hi
  have hdl := hok.len
  have hm16 := hok.most
  obtain ⟨ka, kc, hkv⟩ := h.kb.len
  subst hkv
  have P1 := hideK (fun V : World => pickR_any a st.n V (by omega) (by omega) h.a1 h.a2)
  have P2 := hideK (fun V : World => pickR_any kd 5 V (by omega) (by omega) h.kd1 h.kd2)
  rw [hk] at P2
  have pb := pickZ_bd a st.n (by omega)
  obtain ⟨k, hkk⟩ := Int.eq_ofNat_of_zero_le pb.1
  rw [hkk] at P1
  have hkn : k < st.n := by omega
  have HBASE := hideK h.base
  have HBD := hideK (And.intro h.w1 (And.intro h.s1 h.t1))
  obtain ⟨F, sv, wv, tv, hd, hx, htr, hF⟩ := h.both
  have HFL := hideK (fun k (hk : F k) => (hd.lt k hk).2)
  have HXL := hideK (fun k (hk : XFoot X sv wv tv k) => (hx.lt k hk).2)
  have HD0 := hideK (fun (V : World) (hV : Below w.heap.size w V) => hd.below hV)
  have HX0 := hideK (fun (V : World) (hV : Below w.heap.size w V) => hx.below hV)
  have HF := hideK hF
  have HFLO := hideK (fun k (hk : F k) => (hd.lt k hk).1)
  have HKB := hideK (fun (V : World) (hV : Below lo w V) => h.kb.below h.ko hV)
  have HKO := hideK h.ko
  have HKL := hideK h.kl
  have ht1 := h.t1
  have ht2 := h.t2
  have HCR := hideK (fun (V : World) (hV : SDisk lo S st V F) (hB : Below lo w V) (hz : lo ≤ V.heap.size) => scrash_any lo S st F (.slice ka K.length kc) K V hV (h.kb.below h.ko hB) h.kl (fun b o l c e h0 => ⟨Nat.lt_of_lt_of_le (h.ko b o l c e h0) hz, fun hf => by have h1 := (hd.lt b hf).1; have h2 := h.ko b o l c e h0; omega⟩) h.t1 h.t2)
  have HPN : Hid (∀ p ∈ st.pend, p.1 < st.dur.length) := fun p hp => by rw [hdl]; exact (hok.pen p hp).1
  have hd8 : st.dur.length ≤ 8 := by omega
  clear hd hx hF
  obtain ⟨W0, hW⟩ : ∃ W0, w.alloc (.cells #[.int .i64 kd, .int .i64 a, .int .i64 b, .string t, .slice ka K.length kc] 57) = W0 := ⟨_, rfl⟩
  have HB0 := hideK (show Below w.heap.size w W0 by subst hW; exact (Below.refl _ _).alloc (Nat.le_refl _) _)
  have HN0 := hideK (show W0.heap[w.heap.size]? = some (.cells (List.toArray [.int .i64 kd, .int .i64 a, .int .i64 b, .string t, .slice ka K.length kc]) 57 (0, 0)) by subst hW; exact heap_alloc_new w _)
  have HBO := hideK (both_below h.both HB0.out)
  obtain ⟨sa, sc, s1⟩ : ∃ sa sc, W0.cell? ⟨X, 1, none⟩ = some (.slice sa st.n sc) := by
    obtain ⟨F, sv, wv, tv, hd, hx, _⟩ := HBO.out
    obtain ⟨sa, sc, hsv⟩ := owns_len hx.st
    have := hx.c1
    rw [hsv, hdl] at this
    exact ⟨sa, sc, this⟩
  have v1 : W0.cell? ⟨w.heap.size, 1, none⟩ = some (.int .i64 a) := cellOf HN0.out rfl
  clear h hok hkk pb hk
  go_enter Try.func18, Try.ntmps18
  go_wp2_with fail
  try rw [hW]
  clear hW
  go_quiet ((go_at_call 16; exact Calls.quiet_of_same (P1.out _)))
  have HBV := hideK (show Below w.heap.size w (W0.drewN nq) from ⟨HB0.out.os, HB0.out.tape, HB0.out.output, HB0.out.size, HB0.out.block⟩)
  have HNV : Hid ((W0.drewN nq).heap[w.heap.size]? = some (.cells (List.toArray [.int .i64 kd, .int .i64 a, .int .i64 b, .string t, .slice ka K.length kc]) 57 (0, 0))) := HN0.out
  have HBOV := hideK (both_below HBO.out (show Below W0.heap.size W0 (W0.drewN nq) from ⟨rfl, rfl, rfl, Nat.le_refl _, fun _ _ => rfl⟩))
  clear HB0 HN0 HBO s1 v1 P1
  generalize W0.drewN nq = V at *
  have v0 : V.cell? ⟨w.heap.size, 0, none⟩ = some (.int .i64 kd) := cellOf HNV.out rfl
  have HLV := hideK (Nat.le_trans HBASE.out HBV.out.size)
  go_wp2_with fail
  refine (P2.out _).mono ?_
  rintro e V' ⟨rfl, rfl⟩
  clear P2 v0
  have v4 : V'.cell? ⟨w.heap.size, 4, none⟩ = some (.slice ka K.length kc) := cellOf HNV.out rfl
  have c0 := (HX0.out V' HBV.out).c0
  have HBd := hideK HBV.out.drew
  have HBL := hideK (HBd.out.mono HBASE.out)
  have HFIN : Hid (∀ U : World, SLeft lo S (crSt st K) F V'.drew U → (U.cell? ⟨X, 0, none⟩ = some (.pointer (some ⟨S, 0, none⟩)) ∧ U.cell? ⟨w.heap.size, 4, none⟩ = some (.slice ka K.length kc)) ∧ ∃ F2, SDisk lo S (crSt st K) U F2 ∧ XAt lo X S sv wv tv st.dur st.pend st.writes st.syncs U ∧ (∀ k, F2 k → ¬ XFoot X sv wv tv k) ∧ Below lo w U ∧ lo ≤ U.heap.size) := by
    rintro U ⟨F2, hd2, hk2, hf2⟩
    have hxd := HX0.out V'.drew HBd.out
    have hx2 := hxd.kept hk2 (fun k hk hf => HF.out k hf hk)
    have hBlt : w.heap.size < V'.heap.size := (Array.getElem?_eq_some_iff.1 HNV.out).1
    refine ⟨⟨hx2.c0, ?_⟩, F2, hd2, hx2, ?_, HBL.out.trans (hk2.below HFLO.out HLV.out), Nat.le_trans HLV.out hk2.size⟩
    · exact (hk2.cell (p := ⟨w.heap.size, 4, none⟩) hBlt (fun hf => by have := HFL.out _ hf; exact Nat.lt_irrefl _ this)).trans v4
    · intro k hk hk2'
      rcases hf2 k hk with h | h
      · exact HF.out k h hk2'
      · have h1 := HXL.out k hk2'
        have h2 : w.heap.size ≤ V'.drew.heap.size := HBd.out.size
        omega
  have HS0 : Hid (V'.drew.cell? ⟨X, 0, none⟩ = some (.pointer (some ⟨S, 0, none⟩)) ∧ V'.drew.cell? ⟨w.heap.size, 4, none⟩ = some (.slice ka K.length kc)) := ⟨c0, v4⟩
  go_wp2_with fail
  clear c0 v4
  go_region_held3 (fun U => U.cell? ⟨X, 0, none⟩ = some (.pointer (some ⟨S, 0, none⟩)) ∧ U.cell? ⟨w.heap.size, 4, none⟩ = some (.slice ka K.length kc)) (first | exact (HFIN.out _ hl).1 | exact HS0.out) ((go_at_call 43; refine (HCR.out _ (HD0.out _ HBd.out) HBL.out HLV.out).mono ?_; rintro e w2 ⟨rfl, hl⟩))
  obtain ⟨⟨_, v4⟩, F2, hd2, hx2, hf2, hb2, hl2⟩ := HFIN.out _ hl
  have HD2 := hideK hd2
  have HX2 := hideK hx2
  have HF2 := hideK hf2
  have HB2 := hideK hb2
  have HL2 := hideK hl2
  clear hl hd2 hx2 hf2 hb2 hl2
  go_wp2_with fail
  refine (settled_any lo X S sv wv tv st st.writes st.syncs _ K _ HX2.out HPN.out hd8 hm16 (HKB.out _ HB2.out) HKL.out (fun b o l c e h0 => ⟨Nat.lt_of_lt_of_le (HKO.out b o l c e h0) HL2.out, fun hf => by have h1 := (HX2.out.lt b hf).1; have h2 := HKO.out b o l c e h0; omega⟩)).mono ?_
  rintro e w3 ⟨rfl, hx3, hk3⟩
  have HBO3 : Hid (Both lo X S (crSt st K) w3) := by
    refine ⟨F2, sv, .slice none 0 0, .slice none 0 0, HD2.out.kept hk3 (fun k hf => HF2.out k hf), hx3, rfl, ?_⟩
    rintro k hk (rfl | e | e | e)
    · exact HF2.out _ hk (.inl rfl)
    · exact HF2.out _ hk (.inr (.inl e))
    · simp [Value.ownBlock] at e
    · simp [Value.ownBlock] at e
  have HB3 := hideK (HB2.out.trans (hk3.below (fun k hk => (HX2.out.lt k hk).1) HL2.out))
  have HL3 := hideK (Nat.le_trans HL2.out hk3.size)
  clear hx3 hk3 v4
  go_wp2_with fail
  refine (shows_any lo X S (crSt st K) k _ HBO3.out hkn HL3.out).mono ?_
  rintro e w4 ⟨rfl, hbo4, hb4⟩
  have HBO4 := hideK hbo4
  have HB4 := hideK (HB3.out.trans hb4)
  clear hbo4 hb4
  go_wp2
  go_ret
  exact ⟨rfl, crSt st K, HBO4.out, rfl, ⟨HBD.out.1, by show st.writes ≤ _; omega⟩, ⟨HBD.out.2.1, by show st.syncs ≤ _; omega⟩, ⟨by show 0 ≤ st.term + 1; omega, by show st.term + 1 ≤ _; omega⟩, HB4.out⟩
end Go.Proofs.Ytgaoeoijdpdjiaa
