/-
  The statement's own 'settled' and 'all'.
-/
import Derived.Test.YtgaoeoijdpdjiaaKX
namespace Go.Proofs.Ytgaoeoijdpdjiaa
open Go.RowKit

theorem owns_set {w : World} {lo g n cap k : Nat} {e : TypeId} {xs : List Value} (h : w.ownsRow lo e 1 (.slice (some ⟨g, 0, none⟩) n cap) n xs) (hk : k < n) (u : Value) : (w.setCell ⟨g, k, none⟩ u).ownsRow lo e 1 (.slice (some ⟨g, 0, none⟩) n cap) n (xs.set k u) := by
  refine ⟨by rw [List.length_set]; exact h.1, .inr ?_⟩
  rcases h.2 with ⟨e0, h0⟩ | ⟨g', cap', cur, e0, hb, hg, hc, hm, hs, ht⟩
  · omega
  · simp only [Value.slice.injEq, Option.some.injEq, Addr.mk.injEq] at e0
    obtain ⟨⟨rfl, _⟩, _, rfl⟩ := e0
    have hg' : w.heap[g]? = some (.cells cur.toList.toArray e (0, 0)) := by simpa using hg
    refine ⟨g, cap, (cur.toList.set k u).toArray, rfl, hb, block_setCell hg' u, hc, hm, by simpa using hs, ?_⟩
    rw [← ht]
    simp [List.take_set]

section
variable {lo X S : Nat} {sv wv tv : Value} {dur : List ByteArray} {pend : List (Nat × ByteArray)} {wr sy : Int} {w w' : World}
theorem XAt.stored {g cap : Nat} (h : XAt lo X S (.slice (some ⟨g, 0, none⟩) dur.length cap) wv tv dur pend wr sy w) (k : Nat) (hk : k < dur.length) (t : ByteArray) : XAt lo X S (.slice (some ⟨g, 0, none⟩) (dur.set k t).length cap) wv tv (dur.set k t) pend wr sy (w.setCell ⟨g, k, none⟩ (.string t)) := by
  have hK := kept_set w ⟨g, k, none⟩ (.string t)
  have hgX : g ≠ X := fun e => h.sX (by rw [e]; rfl)
  have h1 := owns_set h.st hk (.string t)
  rw [show ((dur.map Value.string).set k (.string t)) = (dur.set k t).map Value.string by rw [List.map_set]] at h1
  rw [List.length_set]
  refine ⟨?_, by rw [List.length_set]; exact h1, owns_kept h.wh hK (fun j e hj => h.sw j (by rw [show j = g from hj]; rfl) e), owns_kept h.wt hK (fun j e hj => h.st' j (by rw [show j = g from hj]; rfl) e), h.sX, h.wX, h.tX, h.sw, h.st', h.wt', h.loX⟩
  rw [hK.block X h.ltX (fun e => hgX e.symm)]
  exact h.blk
theorem XAt.cleared (h : XAt lo X S sv wv tv dur pend wr sy w) : XAt lo X S sv (.slice none 0 0) (.slice none 0 0) dur [] wr sy ((w.setCell ⟨X, 2, none⟩ (.slice none 0 0)).setCell ⟨X, 3, none⟩ (.slice none 0 0)) := by
  have r1 := (h.rows 2 (.slice none 0 0)).1
  refine ⟨block_setCell (block_setCell h.blk _) _, owns_kept r1 (kept_set _ _ _) (fun k e hk => h.sX (by rw [e]; exact congrArg some hk)), World.ownsRow_nil _ _ _ _, World.ownsRow_nil _ _ _ _, h.sX, by simp [Value.ownBlock], by simp [Value.ownBlock], ?_, ?_, ?_, h.loX⟩
  · intro k _; simp [Value.ownBlock]
  · intro k _; simp [Value.ownBlock]
  · intro k e; simp [Value.ownBlock] at e
end

set_option maxRecDepth 20000 in
set_option maxHeartbeats 2000000 in
theorem settled_any (lo X S : Nat) (sv wv tv : Value) (st : DSt) (nw ny : Int) (kv : Value) (K : List Bool) (w : World) (h : XAt lo X S sv wv tv st.dur st.pend nw ny w) (hp : ∀ p ∈ st.pend, p.1 < st.dur.length) (hd8 : st.dur.length ≤ 8) (hm : st.pend.length ≤ 16) (hK : BoolsAt w kv K) (_hKL : K.length ≤ maxLen) (hKF : ∀ b o l c, kv = .slice (some ⟨b, o, none⟩) l c → 0 < l → b < w.heap.size ∧ ¬ XFoot X sv wv tv b) :
    Calls Try.prog 41 #[.pointer (some ⟨X, 0, none⟩), kv] w fun e w' => e = .returned (.tuple #[]) ∧ XAt lo X S sv (.slice none 0 0) (.slice none 0 0) (keptJ st K st.pend.length) [] nw ny w' ∧ Kept (XFoot X sv wv tv) w w' := by
  obtain ⟨ka, kc, hkv⟩ := hK.len
  subst hkv
  have HKB := hideK hK
  have HKF := hideK hKF
  unfold maxLen at _hKL
  obtain ⟨sa, sc, hsv⟩ := owns_len h.st
  obtain ⟨wa, wc, hwv⟩ := owns_len h.wh
  obtain ⟨ta, tc, htv⟩ := owns_len h.wt
  subst hsv hwv htv
  have HP := hideK hp
  have HX := hideK h
  clear h hK hKF hp
  go_enter Try.func41, Try.ntmps41
  go_wp2
  go_loopw [4] (fun i wr' => ∃ j : Nat, j ≤ st.pend.length ∧ i = .int .i64 j ∧ Hid (XAt lo X S (.slice sa st.dur.length sc) (.slice wa st.pend.length wc) (.slice ta st.pend.length tc) (keptJ st K j) st.pend nw ny wr') ∧ Hid (Kept (XFoot X (.slice sa st.dur.length sc) (.slice wa st.pend.length wc) (.slice ta st.pend.length tc)) w wr')) (fun i _ => st.pend.length - (intOf i).toNat)
  case atStart => exact ⟨0, Nat.zero_le _, rfl, HX.out, Kept.refl _ _⟩
  case round =>
    obtain ⟨j, hj, rfl, hx, hk⟩ := hrel
    have HKJL := hideK (keptJ_len st K j)
    by_cases hlt : j < st.pend.length
    · obtain ⟨p, hp⟩ : ∃ p, st.pend[j]? = some p := ⟨_, List.getElem?_eq_getElem hlt⟩
      have hpn := HP.out p (List.mem_of_getElem? hp)
      have HLJ := hideK (keptJ_succ st K j p hp)
      have c2 := hx.out.c2
      by_cases hjk : j < K.length
      · obtain ⟨x, hx2⟩ : ∃ x, K[j]? = some x := ⟨_, List.getElem?_eq_getElem hjk⟩
        obtain ⟨kb, ko, hka, hkcap, hcell⟩ : ∃ kb ko, ka = some ⟨kb, ko, none⟩ ∧ K.length ≤ kc ∧ wr.cell? ⟨kb, ko + j, none⟩ = some (.bool x) := by
          rcases HKB.out with ⟨e, e2⟩ | ⟨b, o, cp, e, hc2, hcl⟩
          · rw [e2] at hjk; simp at hjk
          · simp only [Value.slice.injEq] at e
            obtain ⟨e1, _, e3⟩ := e
            have hf := HKF.out b o _ _ (by rw [e1]) (Nat.lt_of_le_of_lt (Nat.zero_le _) hjk)
            refine ⟨b, o, e1, by rw [e3]; exact hc2, ?_⟩
            exact (hk.out.cell (p := ⟨b, o + j, none⟩) hf.1 hf.2).trans (hcl j x hx2)
        subst hka
        have HKX : Hid (K.getD j false = x) := by show _ = _; rw [List.getD_eq_getElem?_getD, hx2]; rfl
        rw [HKX.out] at HLJ
        cases x
        · rw [if_neg (by decide)] at HLJ
          go_wp2
          go_roundw
          case rel => exact ⟨j + 1, by omega, by go_num, by show XAt _ _ _ _ _ _ _ _ _ _ _; rw [HLJ.out]; exact hx.out, hk.out⟩
          case measure => simp [intOf]; omega
        · rw [if_pos rfl] at HLJ
          obtain ⟨sb, scap, es, hsc, _, _, sfr⟩ := owns_cellsK (h := by have := hx.out.st; rw [HKJL.out] at this; exact this) (by omega)
          obtain ⟨wb, wcap, ew, hwc, _, wcell, _⟩ := owns_cellsK hx.out.wh (by omega)
          obtain ⟨tb, tcap, et, htc, _, tcell, _⟩ := owns_cellsK hx.out.wt (by omega)
          simp only [Value.slice.injEq] at es ew et
          obtain ⟨rfl, _, rfl⟩ := es
          obtain ⟨rfl, _, rfl⟩ := ew
          obtain ⟨rfl, _, rfl⟩ := et
          have k1 := wcell j _ (by rw [List.getElem?_map, hp]; rfl)
          have k2 := tcell j _ (by rw [List.getElem?_map, hp]; rfl)
          have k3 := sfr p.1
          obtain ⟨y, hy⟩ : ∃ y, (keptJ st K j)[p.1]? = some y := ⟨_, List.getElem?_eq_getElem (by rw [HKJL.out]; exact hpn)⟩
          have k4 : wr.cell? ⟨sb, p.1, none⟩ = some (.string y) := by
            obtain ⟨g2, c2', e2, _, _, cl2, _⟩ := owns_cellsK hx.out.st (by rw [HKJL.out]; omega)
            simp only [Value.slice.injEq, Option.some.injEq, Addr.mk.injEq] at e2
            rw [e2.1.1]
            exact cl2 p.1 _ (by rw [List.getElem?_map, hy]; rfl)
          have c1 := hx.out.c1
          have c3 := hx.out.c3
          have n1 : sb ≠ X := fun e => hx.out.sX (by rw [e]; rfl)
          have n2 : sb ≠ wb := fun e => hx.out.sw sb rfl (by rw [e]; rfl)
          have n3 : sb ≠ tb := fun e => hx.out.st' sb rfl (by rw [e]; rfl)
          have HX2 : Hid (XAt lo X S (.slice (some ⟨sb, 0, none⟩) st.dur.length sc) (.slice (some ⟨wb, 0, none⟩) st.pend.length wc) (.slice (some ⟨tb, 0, none⟩) st.pend.length tc) ((keptJ st K j).set p.1 p.2) st.pend nw ny (wr.setCell ⟨sb, p.1, none⟩ (.string p.2))) := by
            have h0 := hx.out
            rw [← HKJL.out] at h0
            have := h0.stored p.1 (by rw [HKJL.out]; exact hpn) p.2
            rw [List.length_set, HKJL.out] at this
            exact this
          have HK2 := hideK (hk.out.setCell (p := ⟨sb, p.1, none⟩) (.inl (.inr (.inl rfl))) (.string p.2))
          have q0 : (0 : Int) ≤ (p.1 : Int) := by omega
          have q1 : (p.1 : Int) < (st.dur.length : Int) := by omega
          have HS : Hid (∀ V : World, (V = wr.drew ∨ V = (wr.setCell ⟨sb, p.1, none⟩ (.string p.2)).drew ∨ V = wr.drew.setCell ⟨sb, p.1, none⟩ (.string p.2)) → V.cell? ⟨X, 1, none⟩ = some (.slice (some ⟨sb, 0, none⟩) st.dur.length sc) ∧ V.cell? ⟨X, 2, none⟩ = some (.slice (some ⟨wb, 0, none⟩) st.pend.length wc) ∧ V.cell? ⟨X, 3, none⟩ = some (.slice (some ⟨tb, 0, none⟩) st.pend.length tc) ∧ V.cell? ⟨wb, j, none⟩ = some (.int .i64 ((p.1 : Nat) : Int)) ∧ V.cell? ⟨tb, j, none⟩ = some (.string p.2)) := by
            have e : ∀ (a : Addr) (v : Value), a.block ≠ sb → wr.cell? a = some v → (wr.setCell ⟨sb, p.1, none⟩ (.string p.2)).cell? a = some v := fun a v hn hv => (World.cell?_setCell_other _ _ _ _ (fun e => hn (by rw [← e]))).trans hv
            rintro V (rfl | rfl | rfl)
            · exact ⟨c1, c2, c3, k1, k2⟩
            · exact ⟨e _ _ (Ne.symm n1) c1, e _ _ (Ne.symm n1) c2, e _ _ (Ne.symm n1) c3, e _ _ (Ne.symm n2) k1, e _ _ (Ne.symm n3) k2⟩
            · exact ⟨e _ _ (Ne.symm n1) c1, e _ _ (Ne.symm n1) c2, e _ _ (Ne.symm n1) c3, e _ _ (Ne.symm n2) k1, e _ _ (Ne.symm n3) k2⟩
          go_wp2_with fail
          clear wcell tcell sfr hcell
          go_region_held3 (fun V => V.cell? ⟨X, 1, none⟩ = some (.slice (some ⟨sb, 0, none⟩) st.dur.length sc) ∧ V.cell? ⟨X, 2, none⟩ = some (.slice (some ⟨wb, 0, none⟩) st.pend.length wc) ∧ V.cell? ⟨X, 3, none⟩ = some (.slice (some ⟨tb, 0, none⟩) st.pend.length tc) ∧ V.cell? ⟨wb, j, none⟩ = some (.int .i64 ((p.1 : Nat) : Int)) ∧ V.cell? ⟨tb, j, none⟩ = some (.string p.2)) (first | exact HS.out _ (.inl rfl) | exact HS.out _ (.inr (.inl rfl)) | exact HS.out _ (.inr (.inr rfl))) (fail)
          all_goals
            go_wp2
            go_roundw
            case rel => exact ⟨j + 1, by omega, by go_num, by show XAt _ _ _ _ _ _ _ _ _ _ _; rw [HLJ.out]; exact HX2.out.kept (Kept.refl (fun _ => False) _).drew (fun _ _ hf => hf), HK2.out.drew⟩
            case measure => simp [intOf]; omega
      · have HKX : Hid (K.getD j false = false) := by show _ = _; rw [List.getD_eq_getElem?_getD, List.getElem?_eq_none (by omega)]; rfl
        rw [HKX.out, if_neg (by decide)] at HLJ
        go_wp2
        go_roundw
        case rel => exact ⟨j + 1, by omega, by go_num, by show XAt _ _ _ _ _ _ _ _ _ _ _; rw [HLJ.out]; exact hx.out, hk.out⟩
        case measure => simp [intOf]; omega
    · obtain rfl : j = st.pend.length := by omega
      have c2 := hx.out.c2
      have c3 := hx.out.c3
      have cf := hx.out.free
      have HX2 := hideK hx.out.cleared
      have HK2 := hideK ((hk.out.setCell (p := ⟨X, 2, none⟩) (.inl (.inl rfl)) (.slice none 0 0)).setCell (p := ⟨X, 3, none⟩) (.inl (.inl rfl)) (.slice none 0 0))
      go_wp2
      go_end0
      exact ⟨rfl, HX2.out, HK2.out⟩
end Go.Proofs.Ytgaoeoijdpdjiaa
