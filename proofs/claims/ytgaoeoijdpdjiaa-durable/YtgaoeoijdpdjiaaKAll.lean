/-
  The statement's own 'all' and 'wrote'.
-/
import Derived.Test.YtgaoeoijdpdjiaaKSettled
namespace Go.Proofs.Ytgaoeoijdpdjiaa
open Go.RowKit

theorem infoBool : (Try.prog.info? 4).map (fun i => (i.zero, i.size, i.bytes)) = some (some (.bool false), 1, 1) := by kernel_rfl
theorem infoIntK : (Try.prog.info? 3).map (fun i => (i.zero, i.size, i.bytes)) = some (some (.int .i64 0), 1, 8) := by kernel_rfl
theorem infoStrK : (Try.prog.info? 9).map (fun i => (i.zero, i.size, i.bytes)) = some (some (.string ⟨#[]⟩), 1, 16) := by kernel_rfl
theorem one_newK (w : World) (v : Value) (t : TypeId) : ∀ j u, [v][j]? = some u → (w.alloc (.cells #[v] t)).cell? ((⟨w.heap.size, 0, none⟩ : Addr).add j) = some u := World.news_of_block (heap_alloc_new w _)

/-- The statement's bools, out of a row. -/
theorem bools_of_row {w : World} {lo : Nat} {v : Value} {K : List Bool} (h : w.ownsRow lo 4 1 v K.length (K.map Value.bool)) : BoolsAt w v K := by
  by_cases h0 : 0 < K.length
  · obtain ⟨g, cap, hv, hc, _, hcell, _⟩ := owns_cellsK h h0
    exact .inr ⟨g, 0, cap, hv, hc, fun j x hx => by rw [Nat.zero_add]; exact hcell j _ (by rw [List.getElem?_map, hx]; rfl)⟩
  · have hK : K = [] := List.length_eq_zero_iff.1 (by omega)
    subst hK
    rcases h.2 with ⟨hv, _⟩ | ⟨g, cap, cur, hv, _⟩
    · exact .inl ⟨⟨_, _, hv⟩, rfl⟩
    · exact .inr ⟨g, 0, cap, hv, by simp, fun j x hx => by simp at hx⟩

set_option maxRecDepth 20000 in
set_option maxHeartbeats 2000000 in
theorem all_any (lo X S : Nat) (sv wv tv : Value) (dur : List ByteArray) (pend : List (Nat × ByteArray)) (nw ny : Int) (w : World) (h : XAt lo X S sv wv tv dur pend nw ny w) (hm : pend.length ≤ 16) :
    Calls Try.prog 42 #[.pointer (some ⟨X, 0, none⟩)] w fun e w' => ∃ v, e = .returned v ∧ w'.ownsRow w.heap.size 4 1 v pend.length ((List.replicate pend.length true).map Value.bool) ∧ Below w.heap.size w w' := by
  obtain ⟨i0, hi, hz0, hz1, hz2⟩ := info_parts infoBool
  obtain ⟨wa, wc, hwv⟩ := owns_len h.wh
  subst hwv
  have HX := hideK h
  clear h
  generalize pend.length = N at *
  go_enter Try.func42, Try.ntmps42
  go_wp2
  go_loopw [3, 4] (fun v i wr => ∃ j : Nat, j ≤ N ∧ i = .int .i64 j ∧ Hid (wr.ownsRow w.heap.size 4 1 v j ((List.replicate j true).map Value.bool)) ∧ Hid (Below w.heap.size w wr)) (fun _ i _ => N - (intOf i).toNat)
  case atStart => exact ⟨0, Nat.zero_le _, rfl, World.ownsRow_nil _ _ _ _, Below.refl _ _⟩
  case round =>
    obtain ⟨j, hj, rfl, ho, hb⟩ := hrel
    have c2 := (HX.out.below hb.out).c2
    by_cases hlt : j < N
    · go_wp2_with (at_builtin; refine wpList_append_own _ rfl _ _ 55 rfl w.heap.size 4 i0 (.bool false) 1 1 Try.underlying55 hi hz0 hz1 hz2 rfl (by decide) _ _ _ rfl (ho.out.alloc _) ⟨wr.heap.size, 0, none⟩ 1 1 [_] rfl rfl (one_newK _ _ _) ?c2 ?c3 ?c4 ?c5 ?_)
      case c2 => intro y hy; simp at hy; subst hy; rfl
      case c3 => unfold maxLen; omega
      case c4 => omega
      case c5 => have := hb.out.size; simp; omega
      intro v' w3 ho3 hgrow _
      have HB3 := hideK ((hb.out.alloc hb.out.size _).grown hgrow (by have := hb.out.size; simp; omega) (fun p hp => (ho.out.lt p hp).1))
      have HO3 := hideK ho3
      clear ho3 hgrow
      go_wp2
      go_roundw
      case rel =>
        have R : ∃ q : Nat, q ≤ N ∧ Value.int .i64 ((j : Int) + 1) = .int .i64 (q : Int) ∧ Hid (w3.ownsRow w.heap.size 4 1 v' q ((List.replicate q true).map Value.bool)) ∧ Hid (Below w.heap.size w w3) := by
          refine ⟨j + 1, by omega, by go_num, ?_, HB3.out⟩
          have h := HO3.out
          rw [List.replicate_succ', List.map_append, List.map_replicate]
          exact h
        first | exact R | ((repeat apply Exists.intro); exact ⟨R, rfl⟩)
      case measure => simp [intOf]; omega
    · obtain rfl : j = N := by omega
      go_wp2
      go_ret
      exact ⟨_, rfl, ho.out, hb.out⟩

theorem XAt.pushWh {lo X S g cap H : Nat} {sv wv tv : Value} {dur : List ByteArray} {pend : List (Nat × ByteArray)} {nw ny : Int} {V w3 : World} {o : Obj} {i : Nat}
    (h : XAt lo X S sv wv tv dur pend nw ny V) (hown : w3.ownsRow lo 3 1 (.slice (some ⟨g, 0, none⟩) (pend.length + 1) cap) (pend.length + 1) (pend.map (fun p => Value.int .i64 ((p.1 : Nat) : Int)) ++ [.int .i64 ((i : Nat) : Int)])) (hgrow : (V.alloc o).grownBy w3 wv.ownBlock) (hat : wv.ownBlock = some g ∨ g = H) (hH : (V.alloc o).heap.size = H) :
    (w3.setCell ⟨X, 2, none⟩ (.slice (some ⟨g, 0, none⟩) (pend.length + 1) cap)).heap[X]? = some (.cells (List.toArray [.pointer (some ⟨S, 0, none⟩), sv, .slice (some ⟨g, 0, none⟩) (pend.length + 1) cap, tv, .int .i64 nw, .int .i64 ny]) 53 (0, 0)) ∧
    (w3.setCell ⟨X, 2, none⟩ (.slice (some ⟨g, 0, none⟩) (pend.length + 1) cap)).ownsRow lo 9 1 sv dur.length (dur.map Value.string) ∧
    (w3.setCell ⟨X, 2, none⟩ (.slice (some ⟨g, 0, none⟩) (pend.length + 1) cap)).ownsRow lo 3 1 (.slice (some ⟨g, 0, none⟩) (pend.length + 1) cap) (pend.length + 1) (pend.map (fun p => Value.int .i64 ((p.1 : Nat) : Int)) ++ [.int .i64 ((i : Nat) : Int)]) ∧
    (w3.setCell ⟨X, 2, none⟩ (.slice (some ⟨g, 0, none⟩) (pend.length + 1) cap)).ownsRow lo 9 1 tv pend.length (pend.map (fun p => Value.string p.2)) ∧
    g ≠ X ∧ sv.ownBlock ≠ some g ∧ tv.ownBlock ≠ some g := by
  have hX := h.ltX
  have hz : (V.alloc o).heap.size = V.heap.size + 1 := World.size_alloc _ _
  have gX : g ≠ X := by
    rcases hat with e | e
    · intro e2; subst e2; exact h.wX e
    · omega
  have gs : sv.ownBlock ≠ some g := by
    rcases hat with e | e
    · intro e2; exact h.sw g e2 e
    · intro e2; have := (h.st.lt g e2).2; omega
  have gt : tv.ownBlock ≠ some g := by
    rcases hat with e | e
    · exact h.wt' g e
    · intro e2; have := (h.wt.lt g e2).2; omega
  have hKA : Kept (fun k => wv.ownBlock = some k) V w3 := ((Kept.refl (fun k => wv.ownBlock = some k) V).alloc o).grown hgrow (fun k e => .inl e)
  have bX : w3.heap[X]? = V.heap[X]? := hKA.block X hX h.wX
  have rs := owns_kept h.st hKA (fun k e => h.sw k e)
  have rt := owns_kept h.wt hKA (fun k e e2 => h.wt' k e2 e)
  have hKS := kept_set w3 ⟨X, 2, none⟩ (.slice (some ⟨g, 0, none⟩) (pend.length + 1) cap)
  refine ⟨block_setCell (bX.trans h.blk) _, owns_kept rs hKS (fun k e hk => h.sX (by rw [e]; exact congrArg some hk)), owns_kept hown hKS (fun k e hk => ?_), owns_kept rt hKS (fun k e hk => h.tX (by rw [e]; exact congrArg some hk)), gX, gs, gt⟩
  have e' : g = k := by simpa [Value.ownBlock] using e
  exact gX (e'.trans hk)
end Go.Proofs.Ytgaoeoijdpdjiaa
