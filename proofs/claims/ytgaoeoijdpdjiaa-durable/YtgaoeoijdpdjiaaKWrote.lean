/-
  The statement's own 'wrote'.
-/
import Derived.Test.YtgaoeoijdpdjiaaKAll
namespace Go.Proofs.Ytgaoeoijdpdjiaa
open Go.RowKit

theorem XAt.pushWt {lo X S g cap H g0 cap0 : Nat} {sv tv : Value} {dur : List ByteArray} {pend : List (Nat × ByteArray)} {nw ny : Int} {V w3 : World} {o : Obj} {i : Nat} {t : ByteArray}
    (hblk : V.heap[X]? = some (.cells (List.toArray [.pointer (some ⟨S, 0, none⟩), sv, .slice (some ⟨g0, 0, none⟩) (pend.length + 1) cap0, tv, .int .i64 nw, .int .i64 ny]) 53 (0, 0)))
    (hst : V.ownsRow lo 9 1 sv dur.length (dur.map Value.string)) (hwh : V.ownsRow lo 3 1 (.slice (some ⟨g0, 0, none⟩) (pend.length + 1) cap0) (pend.length + 1) (pend.map (fun p => Value.int .i64 ((p.1 : Nat) : Int)) ++ [.int .i64 ((i : Nat) : Int)]))
    (g0X : g0 ≠ X) (g0s : sv.ownBlock ≠ some g0) (g0t : tv.ownBlock ≠ some g0) (sX : sv.ownBlock ≠ some X) (tX : tv.ownBlock ≠ some X) (sT : ∀ k, sv.ownBlock = some k → tv.ownBlock ≠ some k) (loX : lo ≤ X)
    (hown : w3.ownsRow lo 9 1 (.slice (some ⟨g, 0, none⟩) (pend.length + 1) cap) (pend.length + 1) (pend.map (fun p => Value.string p.2) ++ [.string t])) (hgrow : (V.alloc o).grownBy w3 tv.ownBlock) (hat : tv.ownBlock = some g ∨ g = H) (hH : (V.alloc o).heap.size = H) :
    XAt lo X S sv (.slice (some ⟨g0, 0, none⟩) (pend.length + 1) cap0) (.slice (some ⟨g, 0, none⟩) (pend.length + 1) cap) dur (pend ++ [(i, t)]) nw ny (w3.setCell ⟨X, 3, none⟩ (.slice (some ⟨g, 0, none⟩) (pend.length + 1) cap)) := by
  have hX : X < V.heap.size := (Array.getElem?_eq_some_iff.1 hblk).1
  have hz : (V.alloc o).heap.size = V.heap.size + 1 := World.size_alloc _ _
  have gX : g ≠ X := by
    rcases hat with e | e
    · intro e2; subst e2; exact tX e
    · omega
  have gs : sv.ownBlock ≠ some g := by
    rcases hat with e | e
    · intro e2; exact sT g e2 e
    · intro e2; have := (hst.lt g e2).2; omega
  have gg : g0 ≠ g := by
    rcases hat with e | e
    · intro e2; subst e2; exact g0t e
    · have := (hwh.lt g0 rfl).2; omega
  have hKA : Kept (fun k => tv.ownBlock = some k) V w3 := ((Kept.refl (fun k => tv.ownBlock = some k) V).alloc o).grown hgrow (fun k e => .inl e)
  have bX : w3.heap[X]? = V.heap[X]? := hKA.block X hX tX
  have rs := owns_kept hst hKA (fun k e e2 => sT k e e2)
  have rw0 := owns_kept hwh hKA (fun k e e2 => by
    have e' : g0 = k := by simpa [Value.ownBlock] using e
    subst e'
    exact g0t e2)
  have hKS := kept_set w3 ⟨X, 3, none⟩ (.slice (some ⟨g, 0, none⟩) (pend.length + 1) cap)
  refine ⟨block_setCell (bX.trans hblk) _, owns_kept rs hKS (fun k e hk => sX (by rw [e]; exact congrArg some hk)), ?_, ?_, sX, by simpa [Value.ownBlock] using g0X, by simpa [Value.ownBlock] using gX, ?_, ?_, ?_, loX⟩
  · have := owns_kept rw0 hKS (fun k e hk => by
      have e' : g0 = k := by simpa [Value.ownBlock] using e
      exact g0X (e'.trans hk))
    simpa using this
  · have := owns_kept hown hKS (fun k e hk => by
      have e' : g = k := by simpa [Value.ownBlock] using e
      exact gX (e'.trans hk))
    simpa using this
  · intro k e e2
    have e' : g0 = k := by simpa [Value.ownBlock] using e2
    subst e'
    exact g0s e
  · intro k e e2
    have e' : g = k := by simpa [Value.ownBlock] using e2
    subst e'
    exact gs e
  · intro k e e2
    have e' : g0 = k := by simpa [Value.ownBlock] using e
    have e3 : g = k := by simpa [Value.ownBlock] using e2
    omega

set_option maxRecDepth 20000 in
set_option maxHeartbeats 4000000 in
theorem wrote_any (lo X S : Nat) (st : DSt) (i : Nat) (t : ByteArray) (w : World) (h : Both lo X S st w) (hi : i < st.n) (ht : t.size = 32) (hlo : lo ≤ w.heap.size) (hw : 0 ≤ st.writes) (hw2 : st.writes < 9223372036854775807) :
    Calls Try.prog 39 #[.pointer (some ⟨X, 0, none⟩), .int .i64 i, .string t] w fun e w' => e = .returned (.bool true) ∧ Both lo X S (wrSt st i t) w' ∧ Below lo w w' := by
  obtain ⟨F, sv, wv, tv, hd, hx, htr, hF⟩ := h
  have hm := hd.ok.most
  have HWR := hideK (swrite_any lo S st F i t w hd hlo hw hw2)
  have hni : ¬ ¬ (0 ≤ (i : Int) ∧ (i : Int) < st.n) := fun hn => hn ⟨by omega, by omega⟩
  obtain ⟨wa, wc, hwv⟩ := owns_len hx.wh
  obtain ⟨ta, tc, htv⟩ := owns_len hx.wt
  obtain ⟨i1, hi1, hy0, hy1, hy2⟩ := info_parts infoIntK
  obtain ⟨i2, hi2, hz0, hz1, hz2⟩ := info_parts infoStrK
  subst hwv htv
  have c0 := hx.c0
  by_cases h16 : st.pend.length = 16
  · rw [show wrAns st i t = 5 by rw [wrAns, if_neg hni, if_neg (fun hn => hn ht), if_pos (.inr h16)], show wrSt st i t = st by rw [wrSt, if_neg hni, if_neg (fun hn => hn ht), if_pos (.inr h16)]; exact tick_zero htr] at HWR
    rw [show wrSt st i t = st by rw [wrSt, if_neg hni, if_neg (fun hn => hn ht), if_pos (.inr h16)]; exact tick_zero htr]
    have HFIN : Hid (∀ w', SLeft lo S st F w w' → (Both lo X S st w' ∧ Below lo w w') ∧ w'.cell? ⟨X, 2, none⟩ = some (.slice wa st.pend.length wc)) := by
      rintro w' ⟨F', h1, h2, h3⟩
      have hx' := hx.kept h2 (fun k hk hf => hF k hf hk)
      refine ⟨⟨⟨F', sv, _, _, h1, hx', htr, ?_⟩, h2.below (fun k hk => (hd.lt k hk).1) hlo⟩, hx'.c2⟩
      intro k hk hk2
      rcases h3 k hk with h | h
      · exact hF k h hk2
      · have := (hx.lt k hk2).2; omega
    have hge : (16 : Int) ≤ (st.pend.length : Int) := by omega
    clear hd hx hF hlo hni h16
    go_enter Try.func39, Try.ntmps39
    go_wp2_with fail
    refine HWR.out.mono ?_
    rintro e w1 ⟨rfl, hl⟩
    obtain ⟨hl2, c2⟩ := HFIN.out _ hl
    have HX := hideK hl2
    clear hl hl2
    go_wp2
    go_ret
    exact ⟨rfl, HX.out.1, HX.out.2⟩
  · have hnf : ¬ (st.trouble = 1 ∨ st.pend.length = 16) := by omega
    have hst' : wrSt st i t = { st with pend := st.pend ++ [(i, t)], writes := st.writes + 1 } := by
      rw [wrSt, if_neg hni, if_neg (fun hn => hn ht), if_neg hnf]
      obtain ⟨n, dur, pend, wr, sy, tr, te⟩ := st
      simp only at htr
      subst htr
      rfl
    rw [show wrAns st i t = 0 by rw [wrAns, if_neg hni, if_neg (fun hn => hn ht), if_neg hnf], hst'] at HWR
    rw [hst']
    have HFIN : Hid (∀ w', SLeft lo S { st with pend := st.pend ++ [(i, t)], writes := st.writes + 1 } F w w' → ∃ F', SDisk lo S { st with pend := st.pend ++ [(i, t)], writes := st.writes + 1 } w' F' ∧ XAt lo X S sv (.slice wa st.pend.length wc) (.slice ta st.pend.length tc) st.dur st.pend st.writes st.syncs w' ∧ (∀ k, F' k → ¬ XFoot X sv (.slice wa st.pend.length wc) (.slice ta st.pend.length tc) k) ∧ Below lo w w') := by
      rintro w' ⟨F', h1, h2, h3⟩
      refine ⟨F', h1, hx.kept h2 (fun k hk hf => hF k hf hk), ?_, h2.below (fun k hk => (hd.lt k hk).1) hlo⟩
      intro k hk hk2
      rcases h3 k hk with h | h
      · exact hF k h hk2
      · have := (hx.lt k hk2).2; omega
    have hge : (st.pend.length : Int) < 16 := by omega
    have HLO := hideK hlo
    clear hd hx hF hlo hni h16 hnf hst'
    go_enter Try.func39, Try.ntmps39
    go_wp2_with fail
    refine HWR.out.mono ?_
    rintro e w1 ⟨rfl, hl⟩
    obtain ⟨F', hs1, hx1, hf1, hb1⟩ := HFIN.out _ hl
    have c2 := hx1.c2
    have HS1 := hideK hs1
    have HX1 := hideK hx1
    have HF1 := hideK hf1
    have HB1 := hideK hb1
    clear hl hs1 hx1 hf1 hb1 c0
    have hbase : lo ≤ w1.heap.size := Nat.le_trans HLO.out HB1.out.size
    go_wp2_with (at_builtin; refine wpList_append_lies _ rfl (.tmp 27) (.tmp 29) 36 rfl lo 3 i1 (.int .i64 0) 1 8 Try.underlying36 hi1 hy0 hy1 hy2 rfl (by decide) _ _ _ rfl (HX1.out.wh.alloc _) ⟨w1.heap.size, 0, none⟩ 1 1 [.int .i64 ((i : Nat) : Int)] rfl rfl (one_newK _ _ _) ?c2 (by omega) ?c3 ?c4 ?c5 (w1.heap.size + 1) (by simp) ?_)
    case c2 => intro y hy; simp at hy; subst hy; rfl
    case c3 => unfold maxLen; omega
    case c4 => omega
    case c5 => simp; omega
    intro g cap w3 hown hgrow hat hlt
    obtain ⟨p1, p2, p3, p4, p5, p6, p7⟩ := HX1.out.pushWh hown hgrow hat (World.size_alloc _ _)
    have e2 : w3.cell? ⟨X, 2, none⟩ = some (.slice wa st.pend.length wc) := (hgrow.cell_far ⟨X, 2, none⟩ (by have := HX1.out.ltX; simp; omega) (fun e => HX1.out.wX e.symm)).trans ((World.cell?_alloc_lt _ _ _ HX1.out.ltX).trans HX1.out.c2)
    have f2 : w3.frozen? ⟨X, 2, none⟩ = false := (hgrow.frozen_far ⟨X, 2, none⟩ (by have := HX1.out.ltX; simp; omega) (fun e => HX1.out.wX e.symm)).trans ((World.frozen?_alloc_past _ _ _ HX1.out.ltX).trans (HX1.out.free 2))
    have HK3 : Hid (Kept (XFoot X sv (.slice wa st.pend.length wc) (.slice ta st.pend.length tc)) w1 (w3.setCell ⟨X, 2, none⟩ (.slice (some ⟨g, 0, none⟩) (st.pend.length + 1) cap))) := (((Kept.refl _ w1).alloc _).grown hgrow (fun k e => .inl (.inr (.inr (.inl e))))).setCell (.inl (.inl rfl)) _
    have HG : Hid (∀ k, g = k → (Value.slice wa st.pend.length wc).ownBlock = some k ∨ w1.heap.size ≤ k) := by
      intro k e
      subst e
      rcases hat with e | e
      · exact .inl e
      · exact .inr (by omega)
    have P1 := hideK p1
    have P2 := hideK p2
    have P3 := hideK p3
    have P4 := hideK p4
    have P5 := hideK p5
    have P6 := hideK p6
    have P7 := hideK p7
    have e3 : w3.cell? ⟨X, 3, none⟩ = some (.slice ta st.pend.length tc) := (hgrow.cell_far ⟨X, 3, none⟩ (by have := HX1.out.ltX; simp; omega) (fun e => HX1.out.wX e.symm)).trans ((World.cell?_alloc_lt _ _ _ HX1.out.ltX).trans HX1.out.c3)
    have HZ3 := hideK (show w1.heap.size + 1 ≤ w3.heap.size by have := hgrow.size; simpa using this)
    clear hown hgrow hat hlt p1 p2 p3 p4 p5 p6 p7 c2
    have HNW : Hid (∀ j u, [Value.string t][j]? = some u → ((w3.setCell ⟨X, 2, none⟩ (.slice (some ⟨g, 0, none⟩) (st.pend.length + 1) cap)).alloc (.cells #[.string t] 9)).cell? ((⟨w3.heap.size, 0, none⟩ : Addr).add j) = some u) := by
      have := one_newK (w3.setCell ⟨X, 2, none⟩ (.slice (some ⟨g, 0, none⟩) (st.pend.length + 1) cap)) (.string t) 9
      rw [show (w3.setCell ⟨X, 2, none⟩ (.slice (some ⟨g, 0, none⟩) (st.pend.length + 1) cap)).heap.size = w3.heap.size by simp] at this
      exact this
    go_wp2_with (at_builtin; refine wpList_append_lies _ rfl (.tmp 37) (.tmp 39) 51 rfl lo 9 i2 (.string ⟨#[]⟩) 1 16 Try.underlying51 hi2 hz0 hz1 hz2 rfl (by decide) _ _ _ rfl (P4.out.alloc _) ⟨w3.heap.size, 0, none⟩ 1 1 [.string t] rfl rfl HNW.out ?d2 (by omega) ?d3 ?d4 ?d5 (w3.heap.size + 1) (by simp) ?_)
    case d2 => intro y hy; simp at hy; subst hy; rfl
    case d3 => unfold maxLen; omega
    case d4 => omega
    case d5 => have := HZ3.out; simp; omega
    intro g' cap' w5 hown' hgrow' hat' hlt'
    have hX5 := XAt.pushWt P1.out P2.out P3.out P5.out P6.out P7.out HX1.out.sX HX1.out.tX HX1.out.st' HX1.out.loX hown' hgrow' hat' (by simp)
    have hXlt : X < (w3.setCell ⟨X, 2, none⟩ (.slice (some ⟨g, 0, none⟩) (st.pend.length + 1) cap)).heap.size := (Array.getElem?_eq_some_iff.1 P1.out).1
    have e5 : w5.cell? ⟨X, 3, none⟩ = some (.slice ta st.pend.length tc) := (hgrow'.cell_far ⟨X, 3, none⟩ (by rw [World.size_alloc]; exact Nat.lt_succ_of_lt hXlt) (fun e => HX1.out.tX e.symm)).trans ((World.cell?_alloc_lt _ _ _ hXlt).trans (cellOf P1.out rfl))
    have f5 : w5.frozen? ⟨X, 3, none⟩ = false := (hgrow'.frozen_far ⟨X, 3, none⟩ (by rw [World.size_alloc]; exact Nat.lt_succ_of_lt hXlt) (fun e => HX1.out.tX e.symm)).trans ((World.frozen?_alloc_past _ _ _ hXlt).trans (freeOf P1.out 3))
    have HK5 : Hid (Kept (XFoot X sv (.slice wa st.pend.length wc) (.slice ta st.pend.length tc)) w1 (w5.setCell ⟨X, 3, none⟩ (.slice (some ⟨g', 0, none⟩) (st.pend.length + 1) cap'))) := ((HK3.out.alloc _).grown hgrow' (fun k e => .inl (.inr (.inr (.inr e))))).setCell (.inl (.inl rfl)) _
    have HG' : Hid (∀ k, g' = k → (Value.slice ta st.pend.length tc).ownBlock = some k ∨ w1.heap.size ≤ k) := by
      intro k e
      subst e
      rcases hat' with e | e
      · exact .inl e
      · have := HZ3.out; exact .inr (by omega)
    have HX5 := hideK hX5
    have c4 := hX5.c4
    have f4 := hX5.free 4
    clear hown' hgrow' hat' hlt' hX5 hXlt e2 f2 e3
    go_wp2_with fail
    generalize World.setCell w5 { block := X, off := 3 } _ = W6 at *
    go_wp2
    go_ret
    have HK6 := HK5.out.setCell (p := ⟨X, 4, none⟩) (.inl (.inl rfl)) (.int .i64 (st.writes + 1))
    refine ⟨rfl, ⟨F', sv, _, _, HS1.out.kept HK6 HF1.out, HX5.out.setWr _, htr, ?_⟩, HB1.out.trans (HK6.below (fun k hk => (HX1.out.lt k hk).1) hbase)⟩
    rintro k hk (rfl | e | e | e)
    · exact HF1.out _ hk (.inl rfl)
    · exact HF1.out _ hk (.inr (.inl e))
    · have e' : g = k := by simpa [Value.ownBlock] using e
      rcases HG.out k e' with h | h
      · exact HF1.out _ hk (.inr (.inr (.inl h)))
      · have := (HS1.out.lt k hk).2; omega
    · have e' : g' = k := by simpa [Value.ownBlock] using e
      rcases HG'.out k e' with h | h
      · exact HF1.out _ hk (.inr (.inr (.inr h)))
      · have := (HS1.out.lt k hk).2; omega
end Go.Proofs.Ytgaoeoijdpdjiaa
