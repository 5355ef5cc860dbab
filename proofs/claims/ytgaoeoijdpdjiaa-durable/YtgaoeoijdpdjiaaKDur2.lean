/-
  The statement Durable answers true.
-/
import Derived.Test.YtgaoeoijdpdjiaaKDur1
namespace Go.Proofs.Ytgaoeoijdpdjiaa
open Go.RowKit

/-- Ahead of the script: so many sectors are laid. -/
def Laid (lo X S m : Nat) (F : Nat → Prop) (j : Nat) (w : World) : Prop := ∃ sa sc, XAt lo X S (.slice sa j sc) (.slice none 0 0) (.slice none 0 0) (List.replicate j zeroS) [] 0 0 w ∧ SDisk lo S (newD m) w F ∧ ∀ k, F k → ¬ XFoot X (.slice sa j sc) (.slice none 0 0) (.slice none 0 0) k
/-- In the midst of the script. -/
def Mid (lo X S m : Nat) (j : Nat) (w : World) : Prop := ∃ st, Both lo X S st w ∧ st.n = m ∧ (0 ≤ st.writes ∧ st.writes ≤ (j : Int)) ∧ (0 ≤ st.syncs ∧ st.syncs ≤ (j : Int)) ∧ (0 ≤ st.term ∧ st.term ≤ (j : Int))

set_option maxRecDepth 20000 in
set_option maxHeartbeats 8000000 in
theorem durable_true (n : Int) (v : Value) (l : List StepD) (w : World) (hn1 : -9223372036854775808 ≤ n) (hn2 : n ≤ 9223372036854775807) (hv : ScriptAt w v l) (hl : l.length ≤ maxLen) :
    Calls Try.prog 6 #[.int .i64 n, v] w fun e w' => e = .returned (.bool true) ∧ Below w.heap.size w w' := by
  obtain ⟨va, vc, hvv⟩ := hv.len
  subst hvv
  have HV := hideK hv
  unfold maxLen at hl
  have P1 := hideK (fun V : World => pickR_any n 8 V (by omega) (by omega) hn1 hn2)
  have pb := pickZ_bd n 8 (by omega)
  obtain ⟨m0, hm0⟩ := Int.eq_ofNat_of_zero_le pb.1
  rw [hm0] at P1
  obtain ⟨m, hm⟩ : ∃ m : Nat, (m0 : Int) + 1 = (m : Int) := ⟨m0 + 1, by omega⟩
  have hm1 : 1 ≤ m := by omega
  have hm8 : m ≤ 8 := by omega
  have HN := hideK (fun V : World => fun hV : w.heap.size ≤ V.heap.size => snew_yes m V w.heap.size hm1 hm8 hV)
  have HSM := hideK (fun V : World => someN_any ⟨#[]⟩ 32 V (by decide) (by omega))
  rw [someB_zero] at HSM
  simp only [Int.cast_ofNat_Int] at HSM
  obtain ⟨i2, hi2, hz0, hz1, hz2⟩ := info_parts infoStrK
  have HM0 := hideK hm
  clear pb hm0 hn1 hn2 hv
  go_enter Try.func6, Try.ntmps6
  go_wp2_with fail
  refine (P1.out _).mono ?_
  rintro e w0 ⟨rfl, rfl⟩
  go_wp2_with fail
  refine (HN.out _ (Nat.le_refl _)).mono ?_
  rintro e w1 ⟨S, F, rfl, hs1, hf1, hb1⟩
  have HS1 := hideK hs1
  have HF1 := hideK hf1
  have HB1 := hideK hb1
  have HZ1 := hideK (show w0.heap.size ≤ w1.heap.size from hb1.size)
  clear hs1 hf1 hb1 P1 HN
  go_wp2
  have HI0 : Hid (Laid w0.heap.size w1.heap.size S m F 0 (w1.alloc (.cells #[.pointer (some ⟨S, 0, none⟩), .slice none 0 0, .slice none 0 0, .slice none 0 0, .int .i64 0, .int .i64 0] 53))) := by
    refine ⟨none, 0, ⟨heap_alloc_new w1 _, World.ownsRow_nil _ _ _ _, World.ownsRow_nil _ _ _ _, World.ownsRow_nil _ _ _ _, by simp [Value.ownBlock], by simp [Value.ownBlock], by simp [Value.ownBlock], fun k _ => by simp [Value.ownBlock], fun k _ => by simp [Value.ownBlock], fun k _ => by simp [Value.ownBlock], HZ1.out⟩, HS1.out.below ((Below.refl _ _).alloc (Nat.le_refl _) _), ?_⟩
    rintro k hk (rfl | e | e | e)
    · have := (HS1.out.lt _ hk).2; omega
    · simp [Value.ownBlock] at e
    · simp [Value.ownBlock] at e
    · simp [Value.ownBlock] at e
  have HBA := hideK (HB1.out.alloc HB1.out.size (.cells #[.pointer (some ⟨S, 0, none⟩), .slice none 0 0, .slice none 0 0, .slice none 0 0, .int .i64 0, .int .i64 0] 53))
  generalize w1.alloc (.cells #[.pointer (some ⟨S, 0, none⟩), .slice none 0 0, .slice none 0 0, .slice none 0 0, .int .i64 0, .int .i64 0] 53) = W1 at *
  generalize w1.heap.size = X at *
  go_loopw [8] (fun i wr => ∃ j : Nat, j ≤ m ∧ i = .int .i64 j ∧ Hid (Laid w0.heap.size X S m F j wr) ∧ Hid (Below w0.heap.size w0 wr)) (fun i _ => m - (intOf i).toNat)
  case atStart => exact ⟨0, Nat.zero_le _, rfl, HI0.out, HBA.out⟩
  case round =>
    obtain ⟨j, hj, rfl, hla, hb⟩ := hrel
    by_cases hlt : j < m
    · obtain ⟨sa, sc, hx, hs, hf⟩ := hla.out
      have HX := hideK hx
      have HS := hideK hs
      have HF := hideK hf
      have d1 := hx.c1
      clear hx hs hf hla
      have N1 : Hid (j + 1 ≤ maxLen) := by show _ ≤ _; unfold maxLen; omega
      have N2 : Hid ((j + 1) * 16 ≤ 140737488355328) := by show _ ≤ _; omega
      have HLR := hideK (show (List.replicate j zeroS).length = j by simp)
      have HXW := hideK (fun (U : World) (hU : Below wr.heap.size wr.drew U) => (HX.out.kept (Kept.of_below (F := fun _ => False) (show Below wr.heap.size wr U from ⟨hU.os, hU.tape, hU.output, hU.size, hU.block⟩)) (fun _ _ hf => hf)))
      have N8 : Hid (∀ u ∈ [Value.string zeroS], u.oneCell' = true) := by intro u hu; simp at hu; subst hu; rfl
      go_wp2_with fail
      go_region_law (first | (refine step_append_lies _ (by rfl) (.tmp 40) (.tmp 42) 51 (by rfl) w0.heap.size 9 i2 (.string ⟨#[]⟩) 1 16 Try.underlying51 hi2 hz0 hz1 hz2 (by rfl) (by decide) (.slice sa j sc) j ((List.replicate j zeroS).map Value.string) (by rfl) (HRO.out _) ⟨w5.heap.size, 0, none⟩ 1 1 [.string zeroS] (by rfl) (by rfl) (one_newK w5 _ _) N8.out (by decide) N1.out N2.out (HLO5.out _) (w5.heap.size + 1) (by simp) ?_; intro g cap w6 hown hgrow hat hlt; have e1 : w6.cell? ⟨X, 1, none⟩ = some (.slice sa j sc) := (hgrow.cell_far ⟨X, 1, none⟩ (HXL5.out _) HSX.out).trans (hst5 _); have e2 : w6.frozen? ⟨X, 1, none⟩ = false := (hgrow.frozen_far ⟨X, 1, none⟩ (HXL5.out _) HSX.out).trans (HFR5.out _)) | (go_simp; go_at_call 12; refine (HSM.out _).mono ?_; rintro e w5 ⟨rfl, hb5⟩; have HX5 := hideK (HXW.out _ hb5); have HB5 := hideK hb5; have d5 : w5.cell? ⟨X, 1, none⟩ = some (.slice sa j sc) := HX5.out.c1; have hst5 : ∀ o, (w5.alloc o).cell? ⟨X, 1, none⟩ = some (.slice sa j sc) := fun o => (World.cell?_alloc_lt _ _ _ HX5.out.ltX).trans HX5.out.c1; have HRO := hideK (fun o : Obj => (show w5.ownsRow w0.heap.size 9 1 (.slice sa j sc) j ((List.replicate j zeroS).map Value.string) by have h := HX5.out.st; rw [HLR.out] at h; exact h).alloc o); have HLO5 := hideK (fun o : Obj => show w0.heap.size ≤ (w5.alloc o).heap.size by have h1 := hb.out.size; have h2 : wr.heap.size ≤ w5.heap.size := HB5.out.size; rw [World.size_alloc]; omega); have HXL5 := hideK (fun o : Obj => show X < (w5.alloc o).heap.size by have h1 := HX5.out.ltX; rw [World.size_alloc]; omega); have HSX := hideK (fun e => HX5.out.sX (Eq.symm e)); have HFR5 := hideK (fun o : Obj => (World.frozen?_alloc_past o X 1 HX5.out.ltX).trans (HX5.out.free 1)); clear hb5; dsimp only))
      all_goals
        have hX6 := HX5.out.pushSt (t := zeroS) (by rw [HLR.out]; exact hown) hgrow hat (World.size_alloc _ _)
        have hK6 : Kept (XFoot X (.slice sa j sc) (.slice none 0 0) (.slice none 0 0)) wr (w6.setCell ⟨X, 1, none⟩ (.slice (some ⟨g, 0, none⟩) (j + 1) cap)) := by
          refine Kept.setCell ?_ (.inl (.inl rfl)) _
          refine Kept.grown (w := w5.alloc _) ?_ hgrow (fun k e => .inl (.inr (.inl e)))
          exact ((Kept.refl _ wr).drew.after HB5.out).alloc _
        have HG : Hid (∀ k, g = k → (Value.slice sa j sc).ownBlock = some k ∨ wr.heap.size ≤ k) := by
          intro k e
          subst e
          rcases hat with e | e
          · exact .inl e
          · have h2 : wr.heap.size ≤ w5.heap.size := HB5.out.size
            exact .inr (by omega)
        rw [HLR.out] at hX6
        have HLA : Hid (Laid w0.heap.size X S m F (j + 1) (w6.setCell ⟨X, 1, none⟩ (.slice (some ⟨g, 0, none⟩) (j + 1) cap))) := by
          refine ⟨_, _, by rw [List.replicate_succ']; exact hX6, HS.out.kept hK6 HF.out, ?_⟩
          rintro k hk (rfl | e | e | e)
          · exact HF.out _ hk (.inl rfl)
          · have e' : g = k := by simpa [Value.ownBlock] using e
            rcases HG.out k e' with h | h
            · exact HF.out _ hk (.inr (.inl h))
            · have := (HS.out.lt k hk).2; omega
          · simp [Value.ownBlock] at e
          · simp [Value.ownBlock] at e
        have HB6 := hideK (hb.out.trans (hK6.below (fun k hk => (HX.out.lt k hk).1) hb.out.size))
        clear hX6 hK6 hown hgrow hat hlt e1 e2 hst5 d5
        generalize World.setCell w6 { block := X, off := 1 } _ = W6 at *
        go_wp2
        go_roundw
        case rel => exact ⟨j + 1, by omega, by go_num, HLA.out, HB6.out⟩
        case measure => simp [intOf]; omega
    · obtain rfl : j = m := by omega
      have HMID : Hid (Mid w0.heap.size X S j 0 wr) := by
        obtain ⟨sa, sc, hx, hs, hf⟩ := hla.out
        exact ⟨newD j, ⟨F, _, _, _, hs, hx, rfl, hf⟩, rfl, ⟨by simp [newD], by simp [newD]⟩, ⟨by simp [newD], by simp [newD]⟩, ⟨by simp [newD], by simp [newD]⟩⟩
      have HBW := hideK hb.out
      obtain ⟨wB, rfl⟩ : ∃ wB : World, wB = wr := ⟨_, rfl⟩
      clear hla hb
      go_wp2
      go_loopw [9] (fun i wr => ∃ q : Nat, q ≤ l.length ∧ i = .int .i64 q ∧ Hid (Mid w0.heap.size X S j q wr) ∧ Hid (Below w0.heap.size w0 wr)) (fun i _ => l.length - (intOf i).toNat)
      case atStart => exact ⟨0, Nat.zero_le _, rfl, HMID.out, HBW.out⟩
      case round =>
        obtain ⟨q, hq, rfl, hmid, hb⟩ := hrel
        by_cases hlt : q < l.length
        · obtain ⟨d, hd⟩ : ∃ d, l[q]? = some d := ⟨_, List.getElem?_eq_getElem hlt⟩
          obtain ⟨bb, oo, hva, hcap, hbb, hok, c0, c1, c2, c3, c4⟩ : ∃ bb oo, va = some ⟨bb, oo, none⟩ ∧ l.length ≤ vc ∧ bb < w0.heap.size ∧ StepOk w0 d ∧ w0.cell? ⟨bb, oo + q * 5, none⟩ = some (.int .i64 d.kd) ∧ w0.cell? ⟨bb, oo + q * 5 + 1, none⟩ = some (.int .i64 d.a) ∧ w0.cell? ⟨bb, oo + q * 5 + 2, none⟩ = some (.int .i64 d.b) ∧ w0.cell? ⟨bb, oo + q * 5 + 3, none⟩ = some (.string d.t) ∧ w0.cell? ⟨bb, oo + q * 5 + 4, none⟩ = some d.kv := by
            rcases HV.out with ⟨_, e2⟩ | ⟨bb, oo, cap, e, hcap, hbb, hall⟩
            · rw [e2] at hlt; simp at hlt
            · simp only [Value.slice.injEq] at e
              obtain ⟨e1, _, e3⟩ := e
              obtain ⟨h1, h2⟩ := hall q d hd
              exact ⟨bb, oo, e1, by rw [e3]; exact hcap, hbb, h1, h2⟩
          subst hva
          have g0 := (hb.out.cell (p := ⟨bb, oo + q * 5, none⟩) hbb).trans c0
          have g1 := (hb.out.cell (p := ⟨bb, oo + q * 5 + 1, none⟩) hbb).trans c1
          have g2 := (hb.out.cell (p := ⟨bb, oo + q * 5 + 2, none⟩) hbb).trans c2
          have g3 := (hb.out.cell (p := ⟨bb, oo + q * 5 + 3, none⟩) hbb).trans c3
          have g4 := (hb.out.cell (p := ⟨bb, oo + q * 5 + 4, none⟩) hbb).trans c4
          obtain ⟨st, hbo, hn, hwr, hsy, hte⟩ := hmid.out
          have HST := hideK (step_any w0.heap.size X S st d.kd d.a d.b d.t d.kv d.K wr ⟨hbo, hb.out.size, hok.kd1, hok.kd2, hok.a1, hok.a2, hok.ts, hok.kb.below hok.ko hb.out, hok.kl, hok.ko, hwr.1, by omega, hsy.1, by omega, hte.1, by omega⟩)
          have HBD := hideK (And.intro hn (And.intro hwr (And.intro hsy hte)))
          obtain ⟨dkd, da, db, dt, dkv, dK⟩ := d
          dsimp only at g0 g1 g2 g3 g4 HST
          clear hmid hbo hn hwr hsy hte hok c0 c1 c2 c3 c4 hd
          go_wp2_with fail
          refine HST.out.mono ?_
          rintro e w2 ⟨rfl, st2, hbo2, hn2, hw2, hs2, ht2, hb2⟩
          have HMID2 : Hid (Mid w0.heap.size X S j (q + 1) w2) := by
            obtain ⟨b0, b1, b2, b3⟩ := HBD.out
            exact ⟨st2, hbo2, by omega, ⟨hw2.1, by omega⟩, ⟨hs2.1, by omega⟩, ⟨ht2.1, by omega⟩⟩
          have HB2 := hideK (hb.out.trans hb2)
          clear hbo2 hn2 hw2 hs2 ht2 hb2 g0 g1 g2 g3 g4
          go_wp2
          go_roundw
          case rel => exact ⟨q + 1, by omega, by go_num, HMID2.out, HB2.out⟩
          case measure => simp [intOf]; omega
        · obtain ⟨st, hbo, hn, hwr, hsy, hte⟩ := hmid.out
          have HBO := hideK hbo
          have HN := hideK hn
          have HBQ := hideK hb.out
          obtain ⟨wC, rfl⟩ : ∃ wC : World, wC = wr := ⟨_, rfl⟩
          clear hmid hb hbo hn hwr hsy hte
          go_wp2
          go_loopw [11] (fun i wr => ∃ p : Nat, p ≤ j ∧ i = .int .i64 p ∧ Hid (Both w0.heap.size X S st wr) ∧ Hid (Below w0.heap.size w0 wr)) (fun i _ => j - (intOf i).toNat)
          case atStart => exact ⟨0, Nat.zero_le _, rfl, HBO.out, HBQ.out⟩
          case round =>
            obtain ⟨p, hp, rfl, hbo, hb⟩ := hrel
            by_cases hpl : p < j
            · have HSH := hideK (shows_any w0.heap.size X S st p wr hbo.out (by have := HN.out; omega) hb.out.size)
              go_wp2_with fail
              refine HSH.out.mono ?_
              rintro e w2 ⟨rfl, hbo2, hb2⟩
              have HBO2 := hideK hbo2
              have HB2 := hideK (hb.out.trans hb2)
              clear hbo2 hb2
              go_wp2
              go_roundw
              case rel => exact ⟨p + 1, by omega, by go_num, HBO2.out, HB2.out⟩
              case measure => simp [intOf]; omega
            · obtain ⟨F', sv, wv, tv, hd, hx, htr, hF⟩ := hbo.out
              obtain ⟨wa, wc, hwv⟩ := owns_len hx.wh
              subst hwv
              have HCT := hideK (scount_any w0.heap.size S st F' wr hd)
              have HX := hideK hx
              have hm16 := hd.ok.most
              clear hd hx htr hF hbo
              go_wp2_with fail
              refine HCT.out.mono ?_
              rintro e w2 ⟨rfl, hb2⟩
              have HX2 := hideK (HX.out.below hb2)
              have HB2 := hideK (hb.out.trans (hb2.mono hb.out.size))
              have x2 := HX2.out.c2
              have x4 := HX2.out.c4
              have x5 := HX2.out.c5
              have hXlt := HX2.out.ltX
              clear hb2
              generalize st.writes = nw at *
              generalize st.syncs = ny at *
              generalize st.pend.length = np at *
              go_wp2_with fail
              have hnew : (w2.alloc (.cells #[.int .i64 nw, .int .i64 ny, .int .i64 ((np : Nat) : Int)] 60)).heap[w2.heap.size]? = some (.cells (List.toArray [.int .i64 nw, .int .i64 ny, .int .i64 ((np : Nat) : Int)]) 60 (0, 0)) := heap_alloc_new w2 _
              have y2 := (World.cell?_alloc_lt w2 (.cells #[.int .i64 nw, .int .i64 ny, .int .i64 ((np : Nat) : Int)] 60) ⟨X, 2, none⟩ hXlt).trans x2
              have y4 := (World.cell?_alloc_lt w2 (.cells #[.int .i64 nw, .int .i64 ny, .int .i64 ((np : Nat) : Int)] 60) ⟨X, 4, none⟩ hXlt).trans x4
              have y5 := (World.cell?_alloc_lt w2 (.cells #[.int .i64 nw, .int .i64 ny, .int .i64 ((np : Nat) : Int)] 60) ⟨X, 5, none⟩ hXlt).trans x5
              have HB3 := hideK (HB2.out.alloc HB2.out.size (.cells #[.int .i64 nw, .int .i64 ny, .int .i64 ((np : Nat) : Int)] 60))
              generalize w2.alloc (.cells #[.int .i64 nw, .int .i64 ny, .int .i64 ((np : Nat) : Int)] 60) = W3 at *
              have z0 : W3.cell? ⟨w2.heap.size, 0, none⟩ = some (.int .i64 nw) := cellOf hnew rfl
              have z1 : W3.cell? ⟨w2.heap.size, 1, none⟩ = some (.int .i64 ny) := cellOf hnew rfl
              have z2 : W3.cell? ⟨w2.heap.size, 2, none⟩ = some (.int .i64 ((np : Nat) : Int)) := cellOf hnew rfl
              clear hnew x2 x4 x5 hXlt
              go_quiet (fail)
              have HB4 := hideK (show Below w0.heap.size w0 (W3.drewN nq) from ⟨HB3.out.os, HB3.out.tape, HB3.out.output, HB3.out.size, HB3.out.block⟩)
              go_wp2
              go_ret
              exact ⟨rfl, HB4.out⟩
end Go.Proofs.Ytgaoeoijdpdjiaa
