/-
  A list of texts in memory, and what both sides say of its lengths. A new row of texts. The statement's book of lists of texts that came out: what it holds in memory. From a leaf up to the root: what a climb makes.
-/
import Derived.Test.YtgaoeoijdpdjiabGreatDoorPart6
import Derived.Test.YtgaoeoijdpdjiabGreatDoorPart28
import Derived.Test.YtgaoeoijdpdjiabGreatDoorPart26
namespace Go.Proofs.YtgaoeoijdpdjiabGreatDoor
open Go.RowKit

/-- A list of texts lies in memory: nil, or empty at some place, or from a place on. -/
def StrsAt (w : World) (sp : Option Addr) (n c : Nat) (xs : List ByteArray) : Prop :=
  (sp = none ∧ n = 0 ∧ c = 0 ∧ xs = []) ∨ (∃ a : Addr, sp = some a ∧ n = 0 ∧ xs = []) ∨ ∃ bk o, sp = some ⟨bk, o, none⟩ ∧ n = xs.length ∧ xs.length ≤ c ∧ bk < w.heap.size ∧ ∀ (j : Nat) y, xs[j]? = some y → w.cell? ⟨bk, o + j, none⟩ = some (.string y)
theorem StrsAt.len {w : World} {sp : Option Addr} {n c : Nat} {xs : List ByteArray} (h : StrsAt w sp n c xs) : n = xs.length := by
  rcases h with ⟨_, rfl, _, rfl⟩ | ⟨_, _, rfl, rfl⟩ | ⟨_, _, _, h, _⟩
  · rfl
  · rfl
  · exact h
theorem StrsAt.on {w V : World} {sp : Option Addr} {n c : Nat} {xs : List ByteArray} (h : StrsAt w sp n c xs) (hb : Below w.heap.size w V) : StrsAt V sp n c xs := by
  rcases h with h | h | ⟨bk, o, h1, h2, h3, h4, h5⟩
  · exact .inl h
  · exact .inr (.inl h)
  · exact .inr (.inr ⟨bk, o, h1, h2, h3, Nat.lt_of_lt_of_le h4 hb.size, fun j y hj => (hb.cell (p := ⟨bk, o + j, none⟩) h4).trans (h5 j y hj)⟩)
theorem vals_any (k b x t l : Int) (sp : Option Addr) (n c : Nat) (xs : List ByteArray) (w : World) (h : StrsAt w sp n c xs) (hN : xs.length ≤ 8796093022208) :
    Calls Tryz.prog 159 #[.agg #[.int .i64 k, .int .i64 b, .int .i64 x, .int .i64 t, .int .i64 l], .slice sp n c] w fun e w' => e = .returned (.bool (allLen b xs)) ∧ Below w.heap.size w w' := by
  rcases h with ⟨rfl, rfl, rfl, rfl⟩ | ⟨a, rfl, rfl, rfl⟩ | ⟨bk, o, rfl, rfl, _, h4, h5⟩
  · exact valuesRight_nil k b x t l w
  · exact valuesRight_emp k b x t l a c w
  · exact valuesRight_some k b x t l bk o c xs w h5 h4 (by omega)
theorem values1 (k b x t l : Int) (pub : ByteArray) (V : World) (B : Nat) (hB : B = V.heap.size) : Calls Tryz.prog 159 #[.agg #[.int .i64 k, .int .i64 b, .int .i64 x, .int .i64 t, .int .i64 l], .slice (some ⟨B, 0, none⟩) 1 1] (V.alloc (.cells #[.string pub] 9)) fun e w' => e = .returned (.bool ((pub.size : Int) == b)) ∧ Below (V.alloc (.cells #[.string pub] 9)).heap.size (V.alloc (.cells #[.string pub] 9)) w' := by
  subst hB
  rw [show ((pub.size : Int) == b) = allLen b [pub] by simp [allLen, Bool.beq_eq_decide_eq]]
  exact valuesRight_some k b x t l V.heap.size 0 1 [pub] (V.alloc (.cells #[.string pub] 9)) (by
    intro j y hj
    match j, hj with
    | 0, hj => simp at hj; subst hj; simp [go_sem]) (by simp) (by simp)
theorem values2B (k b x t l : Int) (pub y : ByteArray) (V : World) (B : Nat) (hB : B = V.heap.size) : Calls Tryz.prog 159 #[.agg #[.int .i64 k, .int .i64 b, .int .i64 x, .int .i64 t, .int .i64 l], .slice (some ⟨B, 0, none⟩) 2 2] (V.alloc (.cells #[.string pub, .string y] 9)) fun e w' => e = .returned (.bool ((pub.size : Int) == b && (y.size : Int) == b)) ∧ Below (V.alloc (.cells #[.string pub, .string y] 9)).heap.size (V.alloc (.cells #[.string pub, .string y] 9)) w' := by
  subst hB
  rw [show ((pub.size : Int) == b && (y.size : Int) == b) = allLen b [pub, y] by simp [allLen, Bool.beq_eq_decide_eq]]
  exact valuesRight_some k b x t l V.heap.size 0 2 [pub, y] (V.alloc (.cells #[.string pub, .string y] 9)) (by
    intro j y hj
    match j, hj with
    | 0, hj => simp at hj; subst hj; simp [go_sem]
    | 1, hj => simp at hj; subst hj; simp [go_sem]) (by simp) (by simp)
end Go.Proofs.YtgaoeoijdpdjiabGreatDoor

namespace Go.Proofs.YtgaoeoijdpdjiabGreatDoor
open Go.RowKit

theorem madeStr (n : Nat) : madeCells (Value.string ⟨#[]⟩).cells n = ((List.replicate n (⟨#[]⟩ : ByteArray)).map Value.string).toArray := by
  apply Array.ext
  · simp [size_madeCells]
  · intro i h1 h2
    simp [madeCells, Value.cells, Nat.mod_one]
theorem makeStr (k : Nat) (hk : k ≤ 1000) (w : World) : (Instr.makeSlice 27 (.int .i64 k) (.int .i64 k)).run Tryz.prog w = .ok (.slice (some ⟨w.heap.size, 0, none⟩) k k) (w.alloc (.cells ((List.replicate k (⟨#[]⟩ : ByteArray)).map Value.string).toArray 9)) := by
  obtain ⟨i0, hi, hz0, hz1, hz2⟩ := info_parts infoStr
  have h := run_make (P := Tryz.prog) w 27 9 i0 (.string ⟨#[]⟩) Tryz.underlying27 hi hz0 .i64 .i64 k k (by omega) (by omega) (by rw [hz2]; omega) (by omega)
  rw [hz1, Nat.mul_one, Int.toNat_natCast, madeStr] at h
  exact h

theorem heldN {n : Nat} {w W V : World} (h : Below n w W) (hb : Below W.heap.size W V) (hn : n ≤ w.heap.size) : Below n w V := h.trans (hb.mono (Nat.le_trans hn h.size))
end Go.Proofs.YtgaoeoijdpdjiabGreatDoor

namespace Go.Proofs.YtgaoeoijdpdjiabGreatDoor
open Go.RowKit

/-- A list of marks. -/
def MarkT (w : World) (s : Value) (z : ByteArray) : Prop := ∃ n, n ≤ 300 ∧ w.ownsRow 0 9 1 s n (List.replicate n (.string z))
/-- The mark of the n-th list. -/
def markS (n : Nat) : ByteArray := ⟨#[109, 97, 114, 107]⟩ ++ numB 8 n

/-- The book in block bk; its lists S, in a row from block B on. -/
structure BookT (w : World) (B bk : Nat) (v : Value) (S : List Value) : Prop where
  blk : w.heap[bk]? = some (.cells #[.slice none 0 0, v, .slice none 0 0] 35 (0, 0))
  row : w.ownsRow B 27 1 v S.length S
  lists : ∀ i s, S[i]? = some s → MarkT w s (markS (i / 4 * 4))
  len : S.length ≤ 100

theorem markT_keep {w w' : World} {s : Value} {z : ByteArray} (h : MarkT w s z) (hk : ∀ (q : Nat) (c : Array Value), w.heap[q]? = some (.cells c 9 (0, 0)) → w'.heap[q]? = w.heap[q]?) : MarkT w' s z := by
  obtain ⟨n, hn, h1, h2⟩ := h
  refine ⟨n, hn, h1, ?_⟩
  rcases h2 with h2 | ⟨g, cap, cur, hv, hg, hh, r⟩
  · exact Or.inl h2
  · exact Or.inr ⟨g, cap, cur, hv, hg, by rw [hk g cur hh]; exact hh, r⟩

theorem BookT.below {w w' : World} {B bk : Nat} {v : Value} {S : List Value} (h : BookT w B bk v S) (hb : Below w.heap.size w w') : BookT w' B bk v S :=
  ⟨by rw [hb.block bk (lt_of_block h.blk)]; exact h.blk, owns_below h.row hb, fun i s hs => markT_keep (h.lists i s hs) (fun q _ hq => hb.block q (lt_of_block hq)), h.len⟩

theorem markT_row {w : World} {g n : Nat} {z : ByteArray} (h : Blk w g (List.replicate n (.string z)) 9) (hn : n ≤ 300) : MarkT w (.slice (some ⟨g, 0, none⟩) n n) z := by
  refine ⟨n, hn, by simp, Or.inr ⟨g, n, _, rfl, Nat.zero_le _, h, Nat.le_refl _, by unfold maxLen; omega, by simp, ?_⟩⟩
  rw [List.take_of_length_le (by simp)]

theorem markT_owns {w : World} {base : Nat} {v : Value} {n : Nat} {z : ByteArray} (h : w.ownsRow base 9 1 v n (List.replicate n (.string z))) (hn : n ≤ 300) : MarkT w v z :=
  ⟨n, hn, h.1, h.2.elim Or.inl (fun ⟨g, cap, cur, hv, _, r⟩ => Or.inr ⟨g, cap, cur, hv, Nat.zero_le _, r⟩)⟩

theorem markT_nil (w : World) (z : ByteArray) : MarkT w (.slice none 0 0) z := ⟨0, by omega, rfl, Or.inl ⟨rfl, rfl⟩⟩

/-- Four lists more, behind the last store. -/
theorem BookT.more {w4 w5 : World} {B bk : Nat} {v v' : Value} {S : List Value} {a b c d : Value} (h : BookT w4 B bk v S) (h4 : S.length % 4 = 0)
    (ma : MarkT w4 a (markS S.length)) (mb : MarkT w4 b (markS S.length)) (mc : MarkT w4 c (markS S.length)) (md : MarkT w4 d (markS S.length))
    (o : Obj) (ho : w5.ownsRow B 27 1 v' (S.length + 4) (S ++ [a, b, c, d])) (hg : (w4.alloc o).grownBy w5 v.ownBlock) (hl : S.length + 4 ≤ 100) :
    BookT (w5.setCell ⟨bk, 1, none⟩ v') B bk v' (S ++ [a, b, c, d]) := by
  have hbk4 := lt_of_block h.blk
  have same : ∀ q, q < w4.heap.size → v.ownBlock ≠ some q → w5.heap[q]? = w4.heap[q]? := fun q hq hne => by
    rw [hg.block q (by simp; omega) (fun e => hne e.symm)]
    exact Below.heap_alloc _ _ _ hq
  have hvt : ∀ q, v.ownBlock = some q → ∃ cur, w4.heap[q]? = some (.cells cur 27 (0, 0)) := fun q hq => by
    rcases h.row.2 with ⟨rfl, _⟩ | ⟨g, cap, cur, rfl, _, hh, _⟩
    · simp [Value.ownBlock] at hq
    · simp only [Value.ownBlock, Option.some.injEq] at hq
      subst hq
      exact ⟨cur, hh⟩
  have hbk5 : w5.heap[bk]? = some (.cells #[.slice none 0 0, v, .slice none 0 0] 35 (0, 0)) := by
    rw [same bk hbk4 (fun e => by obtain ⟨cur, hc⟩ := hvt bk e; rw [h.blk] at hc; simp at hc)]
    exact h.blk
  have keep3 : ∀ (q : Nat) (c : Array Value), w4.heap[q]? = some (.cells c 9 (0, 0)) → (w5.setCell ⟨bk, 1, none⟩ v').heap[q]? = w4.heap[q]? := fun q c hq => by
    rw [Below.heap_setCell _ _ _ _ (fun e => by dsimp only at e; subst e; rw [h.blk] at hq; simp at hq)]
    exact same q (lt_of_block hq) (fun e => by obtain ⟨cur, hc⟩ := hvt q e; rw [hq] at hc; simp at hc)
  have mk : ∀ s z, MarkT w4 s z → MarkT (w5.setCell ⟨bk, 1, none⟩ v') s z := fun s z hm => markT_keep hm keep3
  refine ⟨?_, ?_, ?_, by simp; omega⟩
  · have hlt := lt_of_block hbk5
    have h' : w5.heap[bk] = .cells #[.slice none 0 0, v, .slice none 0 0] 35 (0, 0) := by simpa [Array.getElem?_eq_getElem hlt] using hbk5
    show (w5.heap.modify bk _)[bk]? = _
    rw [Array.getElem?_eq_getElem (by simpa using hlt), Array.getElem_modify_self, h']
    rfl
  · have hne : v'.ownBlock ≠ some bk := fun e => by
      rcases ho.2 with ⟨rfl, _⟩ | ⟨g, cap, cur, rfl, _, hh, _⟩
      · simp [Value.ownBlock] at e
      · simp only [Value.ownBlock, Option.some.injEq] at e
        subst e
        rw [hbk5] at hh
        simp at hh
    have := ownsRow_setCell_other (a := ⟨bk, 1, none⟩) ho hne v'
    simpa using this
  · intro i s hs
    by_cases hi : i < S.length
    · rw [List.getElem?_append_left hi] at hs
      exact mk _ _ (h.lists i s hs)
    · obtain ⟨j, rfl⟩ : ∃ j, i = S.length + j := ⟨i - S.length, by omega⟩
      rw [List.getElem?_append_right (by omega), Nat.add_sub_cancel_left] at hs
      have hj : j < 4 := by have := (List.getElem?_eq_some_iff.1 hs).1; simpa using this
      rw [show (S.length + j) / 4 * 4 = S.length by omega]
      match j, hs with
      | 0, hs => simp at hs; subst hs; exact mk _ _ ma
      | 1, hs => simp at hs; subst hs; exact mk _ _ mb
      | 2, hs => simp at hs; subst hs; exact mk _ _ mc
      | 3, hs => simp at hs; subst hs; exact mk _ _ md
end Go.Proofs.YtgaoeoijdpdjiabGreatDoor

namespace Go.Proofs.YtgaoeoijdpdjiabGreatDoor
open Go.RowKit

/-- The value of height h over the leaf number F. -/
def climbS (k b : Int) (pub : ByteArray) (p0 p1 : Int) (F : Nat) (path : List ByteArray) (y : ByteArray) : Nat → ByteArray
  | 0 => y
  | h + 1 => if F / 2 ^ h % 2 = 0 then joinS k b pub p0 p1 (h + 1 : Nat) (F / 2 ^ (h + 1) : Nat) (climbS k b pub p0 p1 F path y h) (path.getD h ⟨#[]⟩) else joinS k b pub p0 p1 (h + 1 : Nat) (F / 2 ^ (h + 1) : Nat) (path.getD h ⟨#[]⟩) (climbS k b pub p0 p1 F path y h)

theorem climbS_size (k b : Int) (pub : ByteArray) (p0 p1 : Int) (F : Nat) (path : List ByteArray) (y : ByteArray) (hk : k = 1 ∨ k = 2) (h1 : 1 ≤ b) (h2 : b ≤ 16) (hp : pub.size ≤ 16) (hy : (y.size : Int) = b) (hx : ∀ z ∈ path, (z.size : Int) = b) : ∀ h, h ≤ path.length → ((climbS k b pub p0 p1 F path y h).size : Int) = b := by
  intro h
  induction h with
  | zero => intro _; exact hy
  | succ h ih =>
    intro hl
    have e0 := ih (by omega)
    have e1 : ((path.getD h ⟨#[]⟩).size : Int) = b := by
      rw [List.getD_eq_getElem?_getD, List.getElem?_eq_getElem (by omega)]
      exact hx _ (List.getElem_mem (by omega))
    rw [climbS]
    split
    · exact joinS_size k b pub p0 p1 _ _ _ _ hk h1 h2 hp (by omega) (by omega)
    · exact joinS_size k b pub p0 p1 _ _ _ _ hk h1 h2 hp (by omega) (by omega)

theorem tdiv_two (a : Nat) : Int.tdiv (a : Int) 2 = ((a / 2 : Nat) : Int) := by rw [Int.tdiv_eq_ediv_of_nonneg (by omega)]; omega
theorem tmod_two (a : Nat) : Int.tmod (a : Int) 2 = ((a % 2 : Nat) : Int) := by rw [Int.tmod_eq_emod_of_nonneg (by omega)]; omega
end Go.Proofs.YtgaoeoijdpdjiabGreatDoor
