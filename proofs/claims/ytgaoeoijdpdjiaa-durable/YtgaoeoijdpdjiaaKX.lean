/-
  The statement's own sectors, beside the disk.
-/
import Derived.Test.YtgaoeoijdpdjiaaKSig
namespace Go.Proofs.Ytgaoeoijdpdjiaa
open Go.RowKit

/-- A plain list of sectors, and the writes that are pending, lie in memory. -/
structure XAt (lo X S : Nat) (sv wv tv : Value) (dur : List ByteArray) (pend : List (Nat × ByteArray)) (wr sy : Int) (w : World) : Prop where
  blk : w.heap[X]? = some (.cells (List.toArray [.pointer (some ⟨S, 0, none⟩), sv, wv, tv, .int .i64 wr, .int .i64 sy]) 53 (0, 0))
  st : w.ownsRow lo 9 1 sv dur.length (dur.map Value.string)
  wh : w.ownsRow lo 3 1 wv pend.length (pend.map (fun p => Value.int .i64 ((p.1 : Nat) : Int)))
  wt : w.ownsRow lo 9 1 tv pend.length (pend.map (fun p => Value.string p.2))
  sX : sv.ownBlock ≠ some X
  wX : wv.ownBlock ≠ some X
  tX : tv.ownBlock ≠ some X
  sw : ∀ k, sv.ownBlock = some k → wv.ownBlock ≠ some k
  st' : ∀ k, sv.ownBlock = some k → tv.ownBlock ≠ some k
  wt' : ∀ k, wv.ownBlock = some k → tv.ownBlock ≠ some k
  loX : lo ≤ X

def XFoot (X : Nat) (sv wv tv : Value) : Nat → Prop := fun k => k = X ∨ sv.ownBlock = some k ∨ wv.ownBlock = some k ∨ tv.ownBlock = some k

section
variable {lo X S : Nat} {sv wv tv : Value} {dur : List ByteArray} {pend : List (Nat × ByteArray)} {wr sy : Int} {w w' : World}
theorem XAt.ltX (h : XAt lo X S sv wv tv dur pend wr sy w) : X < w.heap.size := (Array.getElem?_eq_some_iff.1 h.blk).1
theorem XAt.lt (h : XAt lo X S sv wv tv dur pend wr sy w) : ∀ k, XFoot X sv wv tv k → lo ≤ k ∧ k < w.heap.size := by
  rintro k (rfl | hk | hk | hk)
  · exact ⟨h.loX, h.ltX⟩
  · exact h.st.lt k hk
  · exact h.wh.lt k hk
  · exact h.wt.lt k hk
theorem XAt.kept {F : Nat → Prop} (h : XAt lo X S sv wv tv dur pend wr sy w) (hk : Kept F w w') (hn : ∀ k, XFoot X sv wv tv k → ¬ F k) : XAt lo X S sv wv tv dur pend wr sy w' :=
  ⟨by rw [hk.block X h.ltX (hn X (.inl rfl))]; exact h.blk, owns_kept h.st hk (fun k e => hn k (.inr (.inl e))), owns_kept h.wh hk (fun k e => hn k (.inr (.inr (.inl e)))), owns_kept h.wt hk (fun k e => hn k (.inr (.inr (.inr e)))), h.sX, h.wX, h.tX, h.sw, h.st', h.wt', h.loX⟩
theorem XAt.below (h : XAt lo X S sv wv tv dur pend wr sy w) (hb : Below w.heap.size w w') : XAt lo X S sv wv tv dur pend wr sy w' := h.kept (Kept.of_below (F := fun _ => False) hb) (fun _ _ hf => hf)
theorem XAt.c0 (h : XAt lo X S sv wv tv dur pend wr sy w) : w.cell? ⟨X, 0, none⟩ = some (.pointer (some ⟨S, 0, none⟩)) := cellOf h.blk rfl
theorem XAt.c1 (h : XAt lo X S sv wv tv dur pend wr sy w) : w.cell? ⟨X, 1, none⟩ = some sv := cellOf h.blk rfl
theorem XAt.c2 (h : XAt lo X S sv wv tv dur pend wr sy w) : w.cell? ⟨X, 2, none⟩ = some wv := cellOf h.blk rfl
theorem XAt.c3 (h : XAt lo X S sv wv tv dur pend wr sy w) : w.cell? ⟨X, 3, none⟩ = some tv := cellOf h.blk rfl
theorem XAt.c4 (h : XAt lo X S sv wv tv dur pend wr sy w) : w.cell? ⟨X, 4, none⟩ = some (.int .i64 wr) := cellOf h.blk rfl
theorem XAt.c5 (h : XAt lo X S sv wv tv dur pend wr sy w) : w.cell? ⟨X, 5, none⟩ = some (.int .i64 sy) := cellOf h.blk rfl
theorem XAt.free (h : XAt lo X S sv wv tv dur pend wr sy w) (i : Nat) : w.frozen? ⟨X, i, none⟩ = false := freeOf h.blk i
theorem XAt.rows (h : XAt lo X S sv wv tv dur pend wr sy w) (i : Nat) (v : Value) : (w.setCell ⟨X, i, none⟩ v).ownsRow lo 9 1 sv dur.length (dur.map Value.string) ∧ (w.setCell ⟨X, i, none⟩ v).ownsRow lo 3 1 wv pend.length (pend.map (fun p => Value.int .i64 ((p.1 : Nat) : Int))) ∧ (w.setCell ⟨X, i, none⟩ v).ownsRow lo 9 1 tv pend.length (pend.map (fun p => Value.string p.2)) :=
  ⟨owns_kept h.st (kept_set w _ v) (fun k e hk => h.sX (by rw [e]; exact congrArg some hk)), owns_kept h.wh (kept_set w _ v) (fun k e hk => h.wX (by rw [e]; exact congrArg some hk)), owns_kept h.wt (kept_set w _ v) (fun k e hk => h.tX (by rw [e]; exact congrArg some hk))⟩
theorem XAt.setWr (h : XAt lo X S sv wv tv dur pend wr sy w) (t : Int) : XAt lo X S sv wv tv dur pend t sy (w.setCell ⟨X, 4, none⟩ (.int .i64 t)) :=
  ⟨block_setCell h.blk _, (h.rows 4 _).1, (h.rows 4 _).2.1, (h.rows 4 _).2.2, h.sX, h.wX, h.tX, h.sw, h.st', h.wt', h.loX⟩
theorem XAt.setSy (h : XAt lo X S sv wv tv dur pend wr sy w) (t : Int) : XAt lo X S sv wv tv dur pend wr t (w.setCell ⟨X, 5, none⟩ (.int .i64 t)) :=
  ⟨block_setCell h.blk _, (h.rows 5 _).1, (h.rows 5 _).2.1, (h.rows 5 _).2.2, h.sX, h.wX, h.tX, h.sw, h.st', h.wt', h.loX⟩
end

/-- A row of one-cell things: its cells. -/
theorem owns_cellsK {w : World} {lo : Nat} {e : TypeId} {v : Value} {n : Nat} {xs : List Value} (h : w.ownsRow lo e 1 v n xs) (hn : 0 < n) : ∃ g cap, v = .slice (some ⟨g, 0, none⟩) n cap ∧ n ≤ cap ∧ g < w.heap.size ∧ (∀ j u, xs[j]? = some u → w.cell? ⟨g, j, none⟩ = some u) ∧ (∀ j, w.frozen? ⟨g, j, none⟩ = false) := by
  rcases h.2 with ⟨_, h0⟩ | ⟨g, cap, cur, rfl, hb, hg, hc, _, hs, ht⟩
  · omega
  · refine ⟨g, cap, rfl, hc, (Array.getElem?_eq_some_iff.1 hg).1, fun j u hu => ?_, fun j => ?_⟩
    · have hl := h.1
      have hj : j < n := by
        have := (List.getElem?_eq_some_iff.1 hu).1
        omega
      rw [← ht, List.getElem?_take_of_lt (by omega)] at hu
      rw [cell_of_row w g j cur e (0, 0) hg]
      simpa using hu
    · simp [World.frozen?, hg]

/-- The disk and the statement's own sectors say the same. -/
def Both (lo X S : Nat) (st : DSt) (w : World) : Prop := ∃ F sv wv tv, SDisk lo S st w F ∧ XAt lo X S sv wv tv st.dur st.pend st.writes st.syncs w ∧ st.trouble = 0 ∧ ∀ k, F k → ¬ XFoot X sv wv tv k

theorem tick_zero {st : DSt} (h : st.trouble = 0) : { st with trouble := tick st.trouble } = st := by
  obtain ⟨n, dur, pend, wr, sy, tr, te⟩ := st
  simp only at h
  subst h
  rfl

set_option maxRecDepth 20000 in
set_option maxHeartbeats 2000000 in
theorem shows_any (lo X S : Nat) (st : DSt) (i : Nat) (w : World) (h : Both lo X S st w) (hi : i < st.n) (hlo : lo ≤ w.heap.size) :
    Calls Try.prog 19 #[.pointer (some ⟨X, 0, none⟩), .int .i64 i] w fun e w' => e = .returned (.bool true) ∧ Both lo X S st w' ∧ Below lo w w' := by
  obtain ⟨F, sv, wv, tv, hd, hx, ht, hF⟩ := h
  have hok := hd.ok
  have hlen := hok.len
  have hn8 := hok.hi
  have hm := hok.most
  have HR := hideK (sread_any lo S st F i w hd)
  rw [show rdAns st i = (latestB st i, 0) by rw [rdAns, if_neg (fun hn => hn ⟨by omega, by omega⟩), if_neg (by omega)]; rfl, show rdSt st i = st by rw [rdSt, if_neg (fun hn => hn ⟨by omega, by omega⟩)]; exact tick_zero ht] at HR
  obtain ⟨x0, hx0⟩ : ∃ x, st.dur[i]? = some x := ⟨_, List.getElem?_eq_getElem (by omega)⟩
  obtain ⟨g, cap, hsv, hgc, hgl, hgcell, _⟩ := owns_cellsK hx.st (by omega)
  have s0 : w.cell? ⟨g, i, none⟩ = some (.string x0) := hgcell i _ (by rw [List.getElem?_map, hx0]; rfl)
  obtain ⟨wa, wc, hwv⟩ := owns_len hx.wh
  obtain ⟨ta, tc, htv⟩ := owns_len hx.wt
  have HW : Hid (∀ j p, st.pend[j]? = some p → ∃ wb tb, wa = some ⟨wb, 0, none⟩ ∧ ta = some ⟨tb, 0, none⟩ ∧ w.cell? ⟨wb, j, none⟩ = some (.int .i64 ((p.1 : Nat) : Int)) ∧ w.cell? ⟨tb, j, none⟩ = some (.string p.2) ∧ st.pend.length ≤ wc ∧ st.pend.length ≤ tc) := by
    intro j p hp
    have hl : 0 < st.pend.length := Nat.lt_of_le_of_lt (Nat.zero_le _) (List.getElem?_eq_some_iff.1 hp).1
    obtain ⟨wb, c1, e1, f1, _, k1, _⟩ := owns_cellsK hx.wh hl
    obtain ⟨tb, c2, e2, f2, _, k2, _⟩ := owns_cellsK hx.wt hl
    rw [hwv] at e1
    rw [htv] at e2
    simp only [Value.slice.injEq] at e1 e2
    exact ⟨wb, tb, e1.1, e2.1, k1 j _ (by rw [List.getElem?_map, hp]; rfl), k2 j _ (by rw [List.getElem?_map, hp]; rfl), by rw [e1.2.2]; exact f1, by rw [e2.2.2]; exact f2⟩
  have HLAT : Hid (latestB st i = (back st.pend i st.pend.length).getD x0) := by show _ = _; rw [latestB, List.getD_eq_getElem?_getD, hx0]; rfl
  have c0 := hx.c0
  have c1 := hx.c1
  have c2 := hx.c2
  have c3 := hx.c3
  rw [hsv] at c1
  rw [hwv] at c2
  rw [htv] at c3
  have HFIN : Hid (∀ w', SLeft lo S st F w w' → Both lo X S st w' ∧ Below lo w w') := by
    rintro w' ⟨F', h1, h2, h3⟩
    refine ⟨⟨F', sv, wv, tv, h1, hx.kept h2 (fun k hk hf => hF k hf hk), ht, ?_⟩, h2.below (fun k hk => (hd.lt k hk).1) hlo⟩
    intro k hk hk2
    rcases h3 k hk with h | h
    · exact hF k h hk2
    · have := (hx.lt k hk2).2; omega
  have i0 : (0 : Int) ≤ (i : Int) := by omega
  have i1 : (i : Int) < (st.dur.length : Int) := by omega
  have hd8 : st.dur.length ≤ 8 := by omega
  clear hd hx hF hok hgcell hsv hwv htv hlen hx0 hgl hlo
  generalize st.dur.length = dl at *
  go_enter Try.func19, Try.ntmps19
  go_wp2
  go_loop [5, 6] (fun t jv => ∃ j : Nat, j ≤ st.pend.length ∧ jv = .int .i64 j ∧ t = .string ((back st.pend i j).getD x0)) (fun _ jv => st.pend.length - (intOf jv).toNat)
  case atStart => exact ⟨0, Nat.zero_le _, rfl, rfl⟩
  case round =>
    obtain ⟨j, hj, rfl, rfl⟩ := hrel
    by_cases hlt : j < st.pend.length
    · obtain ⟨p, hp⟩ : ∃ p, st.pend[j]? = some p := ⟨_, List.getElem?_eq_getElem hlt⟩
      obtain ⟨wb, tb, rfl, rfl, k1, k2, k3, k4⟩ := HW.out j p hp
      have HB : Hid (back st.pend i (j + 1) = if p.1 = i then some p.2 else back st.pend i j) := by
        show _ = _
        rw [back, List.getD_eq_getElem?_getD, hp]
        rfl
      by_cases he : p.1 = i
      · have hb : (((p.1 : Nat) : Int) == ((i : Nat) : Int)) = true := by rw [he]; exact beq_self_eq_true _
        rw [if_pos he] at HB
        clear he
        go_wp2
        go_round
        case rel => exact ⟨j + 1, by omega, by go_num, by rw [HB.out]; rfl⟩
        case measure => simp [intOf]; omega
      · have hb : (((p.1 : Nat) : Int) == ((i : Nat) : Int)) = false := by rw [beq_eq_false_iff_ne]; omega
        rw [if_neg he] at HB
        clear he
        go_wp2
        go_round
        case rel => exact ⟨j + 1, by omega, by go_num, by rw [HB.out]⟩
        case measure => simp [intOf]; omega
    · obtain rfl : j = st.pend.length := by omega
      rw [HLAT.out] at HR
      generalize (back st.pend i st.pend.length).getD x0 = z at *
      go_wp2_with fail
      refine HR.out.mono ?_
      rintro e w1 ⟨rfl, hl⟩
      have HX := hideK (HFIN.out _ hl)
      clear hl
      go_wp2
      go_ret
      exact ⟨rfl, HX.out.1, HX.out.2⟩
end Go.Proofs.Ytgaoeoijdpdjiaa
