/-
  The statement's book of lists that came out: what it holds in memory.
-/
import Derived.Test.YtgaoeoijdpdjiaaRefDigits
namespace Go.Proofs.Ytgaoeoijdpdjiaa
open Go.RowKit

/-- A list of marks. -/
def Marked (w : World) (s : Value) (z : Int) : Prop := ∃ n, n ≤ 100 ∧ w.ownsRow 0 3 1 s n (List.replicate n (.int .i64 z))

/-- The book in block bk; its lists S, in a row from block B on. -/
structure BookAt (w : World) (B bk : Nat) (v : Value) (S : List Value) : Prop where
  blk : w.heap[bk]? = some (.cells #[v, .slice none 0 0, .slice none 0 0] 29 (0, 0))
  row : w.ownsRow B 36 1 v S.length S
  lists : ∀ i s, S[i]? = some s → Marked w s (-1000 - ((i / 4 * 4 : Nat) : Int))
  len : S.length ≤ 100

theorem marked_keep {w w' : World} {s : Value} {z : Int} (h : Marked w s z) (hk : ∀ (q : Nat) (c : Array Value), w.heap[q]? = some (.cells c 3 (0, 0)) → w'.heap[q]? = w.heap[q]?) : Marked w' s z := by
  obtain ⟨n, hn, h1, h2⟩ := h
  refine ⟨n, hn, h1, ?_⟩
  rcases h2 with h2 | ⟨g, cap, cur, hv, hg, hh, r⟩
  · exact Or.inl h2
  · exact Or.inr ⟨g, cap, cur, hv, hg, by rw [hk g cur hh]; exact hh, r⟩

theorem BookAt.below {w w' : World} {B bk : Nat} {v : Value} {S : List Value} (h : BookAt w B bk v S) (hb : Below w.heap.size w w') : BookAt w' B bk v S :=
  ⟨by rw [hb.block bk (lt_of_block h.blk)]; exact h.blk, owns_below h.row hb, fun i s hs => marked_keep (h.lists i s hs) (fun q _ hq => hb.block q (lt_of_block hq)), h.len⟩

theorem owns_form {w : World} {base : Nat} {e : TypeId} {s : Nat} {v : Value} {n : Nat} {xs : List Value} (h : w.ownsRow base e s v n xs) : ∃ ao cap, v = .slice ao n cap ∧ (ao = none → n = 0 ∧ cap = 0) := by
  rcases h.2 with ⟨rfl, rfl⟩ | ⟨g, cap, cur, rfl, _⟩
  · exact ⟨none, 0, rfl, fun _ => ⟨rfl, rfl⟩⟩
  · exact ⟨_, cap, rfl, fun h => by cases h⟩

theorem owns_some {w : World} {base : Nat} {e : TypeId} {s : Nat} {v : Value} {n : Nat} {xs : List Value} (h : w.ownsRow base e s v n xs) (hn : 0 < n) : ∃ g cap, v = .slice (some ⟨g, 0, none⟩) n cap := by
  rcases h.2 with ⟨rfl, rfl⟩ | ⟨g, cap, cur, rfl, _⟩
  · omega
  · exact ⟨g, cap, rfl⟩

theorem list_new (w : World) (c : Array Value) (t : TypeId) : ∀ j u, c.toList[j]? = some u → (w.alloc (.cells c t)).cell? ((Addr.mk w.heap.size 0 none).add j) = some u := by
  intro j u hj
  have : (Addr.mk w.heap.size 0 none).add j = ⟨w.heap.size, j, none⟩ := by unfold Addr.add; split <;> simp_all
  rw [this]
  simp only [World.cell?_alloc_new]
  simpa using hj

theorem marked_row {w : World} {g n : Nat} {z : Int} (h : RowZ w g (List.replicate n z)) (hn : n ≤ 100) (h0 : 0 < n) : Marked w (.slice (some ⟨g, 0, none⟩) n n) z := by
  refine ⟨n, hn, by simp, Or.inr ⟨g, n, _, rfl, Nat.zero_le _, h, Nat.le_refl _, by unfold maxLen; omega, by simp, ?_⟩⟩
  rw [List.take_of_length_le (by simp)]
  simp

theorem marked_owns {w : World} {base : Nat} {v : Value} {n : Nat} {z : Int} (h : w.ownsRow base 3 1 v n (List.replicate n (.int .i64 z))) (hn : n ≤ 100) : Marked w v z :=
  ⟨n, hn, h.1, h.2.elim Or.inl (fun ⟨g, cap, cur, hv, _, r⟩ => Or.inr ⟨g, cap, cur, hv, Nat.zero_le _, r⟩)⟩

theorem marked_nil (w : World) (z : Int) : Marked w (.slice none 0 0) z := ⟨0, by omega, rfl, Or.inl ⟨rfl, rfl⟩⟩

/-- Four lists more, behind the last store. -/
theorem BookAt.more {w4 w5 : World} {B bk : Nat} {v v' : Value} {S : List Value} {a b c d : Value} (h : BookAt w4 B bk v S) (h4 : S.length % 4 = 0)
    (ma : Marked w4 a (-1000 - (S.length : Int))) (mb : Marked w4 b (-1000 - (S.length : Int))) (mc : Marked w4 c (-1000 - (S.length : Int))) (md : Marked w4 d (-1000 - (S.length : Int)))
    (o : Obj) (ho : w5.ownsRow B 36 1 v' (S.length + 4) (S ++ [a, b, c, d])) (hg : (w4.alloc o).grownBy w5 v.ownBlock) (hl : S.length + 4 ≤ 100) :
    BookAt (w5.setCell ⟨bk, 0, none⟩ v') B bk v' (S ++ [a, b, c, d]) := by
  have hbk4 := lt_of_block h.blk
  have same : ∀ q, q < w4.heap.size → v.ownBlock ≠ some q → w5.heap[q]? = w4.heap[q]? := fun q hq hne => by
    rw [hg.block q (by simp; omega) (fun e => hne e.symm)]
    exact Below.heap_alloc _ _ _ hq
  have hvt : ∀ q, v.ownBlock = some q → ∃ cur, w4.heap[q]? = some (.cells cur 36 (0, 0)) := fun q hq => by
    rcases h.row.2 with ⟨rfl, _⟩ | ⟨g, cap, cur, rfl, _, hh, _⟩
    · simp [Value.ownBlock] at hq
    · simp only [Value.ownBlock, Option.some.injEq] at hq
      subst hq
      exact ⟨cur, hh⟩
  have hbk5 : w5.heap[bk]? = some (.cells #[v, .slice none 0 0, .slice none 0 0] 29 (0, 0)) := by
    rw [same bk hbk4 (fun e => by obtain ⟨cur, hc⟩ := hvt bk e; rw [h.blk] at hc; simp at hc)]
    exact h.blk
  have keep3 : ∀ (q : Nat) (c : Array Value), w4.heap[q]? = some (.cells c 3 (0, 0)) → (w5.setCell ⟨bk, 0, none⟩ v').heap[q]? = w4.heap[q]? := fun q c hq => by
    rw [Below.heap_setCell _ _ _ _ (fun e => by dsimp only at e; subst e; rw [h.blk] at hq; simp at hq)]
    exact same q (lt_of_block hq) (fun e => by obtain ⟨cur, hc⟩ := hvt q e; rw [hq] at hc; simp at hc)
  have mk : ∀ s z, Marked w4 s z → Marked (w5.setCell ⟨bk, 0, none⟩ v') s z := fun s z hm => marked_keep hm keep3
  refine ⟨?_, ?_, ?_, by simp; omega⟩
  · have hlt := lt_of_block hbk5
    have h' : w5.heap[bk] = .cells #[v, .slice none 0 0, .slice none 0 0] 29 (0, 0) := by simpa [Array.getElem?_eq_getElem hlt] using hbk5
    show (w5.heap.modify bk _)[bk]? = _
    rw [Array.getElem?_eq_getElem (by simpa using hlt), Array.getElem_modify_self, h']
    rfl
  · have hne : v'.ownBlock ≠ some bk := fun e => by
      rcases ho.2 with ⟨rfl, _⟩ | ⟨g, cap, cur, rfl, _, hh, _⟩
      · simp [Value.ownBlock] at e
      · simp only [Value.ownBlock, Option.some.injEq] at e
        subst e
        rw [hbk5] at hh
        simp at hh
    have := ownsRow_setCell_other (a := ⟨bk, 0, none⟩) ho hne v'
    simpa using this
  · intro i s hs
    by_cases hi : i < S.length
    · rw [List.getElem?_append_left hi] at hs
      exact mk _ _ (h.lists i s hs)
    · obtain ⟨j, rfl⟩ : ∃ j, i = S.length + j := ⟨i - S.length, by omega⟩
      rw [List.getElem?_append_right (by omega), Nat.add_sub_cancel_left] at hs
      have hj : j < 4 := by have := (List.getElem?_eq_some_iff.1 hs).1; simpa using this
      rw [show (S.length + j) / 4 * 4 = S.length by omega]
      match j, hs with
      | 0, hs => simp at hs; subst hs; exact mk _ _ ma
      | 1, hs => simp at hs; subst hs; exact mk _ _ mb
      | 2, hs => simp at hs; subst hs; exact mk _ _ mc
      | 3, hs => simp at hs; subst hs; exact mk _ _ md
end Go.Proofs.Ytgaoeoijdpdjiaa
