/-
  sets.right, by its contract: true at a set that is right, false at every other. The program's disk in memory: what its blocks hold. sets.lay and sets.lack, by their contracts. sets.ValuesRight, SeedsRight: has each text the length of a value? A number of 64 bits. Rows of numbers of one kind in memory; worlds that part in one block alone; the plain functions of the digest. The right pairs of Bytes and Wide. Package sets by contracts: perByte, right, Check; and the statements' own chains. What stays of a world's cells over a call. A region that draws its order, inside a round of a loop over an iterator: by the law of what is held.
-/
import Derived.Test.YtgaoeoijdpdjiabGreatDoorPart1
import Derived.WalkSpells
import Derived.WalkLawsBesides
import Derived.Handy
import Derived.Laws.MakeOwn
import Derived.Deep.RegionHeld3
import Derived.Deep.DrawnRows
import Derived.Test.YtgaoeoijdpdjiabGreatDoorRows
import Derived.Test.YtgaoeoijdpdjiabGreatDoorPartHide
import Derived.BigQuiet
import Derived.Deep.QuietTactic
import Derived.WalkKit
import Derived.RangeFuncNested
import Derived.OwnWalkIn
namespace Go.Proofs.YtgaoeoijdpdjiabGreatDoor
open Go.RowKit

set_option maxHeartbeats 2000000 in
theorem right_yes (k b x t l : Int) (w : World) (hk : k = 1 ∨ k = 2) (hb : b = 4 ∨ b = 8) (hx : x = 4 ∨ x = 16) (h1 : 1 ≤ t) (h2 : t ≤ 4) (h3 : 1 ≤ l) (h4 : l ≤ 3) :
    Calls Tryz.prog 279 #[.agg #[.int .i64 k, .int .i64 b, .int .i64 x, .int .i64 t, .int .i64 l]] w fun e w' => e = .returned (.bool true) ∧ Below w.heap.size w w' := by
  rcases hk with rfl | rfl <;> rcases hb with rfl | rfl <;> rcases hx with rfl | rfl
  all_goals
    go_enter Tryz.func279, Tryz.ntmps279
    go_wp2
    go_ret
    exact ⟨rfl, (Below.refl _ _).alloc (Nat.le_refl _) _⟩

set_option maxHeartbeats 2000000 in
theorem right_k (k b x t l : Int) (w : World) (hk : ¬ (k = 1 ∨ k = 2)) :
    Calls Tryz.prog 279 #[.agg #[.int .i64 k, .int .i64 b, .int .i64 x, .int .i64 t, .int .i64 l]] w fun e w' => e = .returned (.bool false) ∧ Below w.heap.size w w' := by
  have a1 : (k == 1) = false := by simp; omega
  have a2 : (k == 2) = false := by simp; omega
  clear hk
  all_goals
    go_enter Tryz.func279, Tryz.ntmps279
    go_wp2
    go_ret
    exact ⟨rfl, (Below.refl _ _).alloc (Nat.le_refl _) _⟩

set_option maxHeartbeats 2000000 in
theorem right_b (k b x t l : Int) (w : World) (hk : k = 1 ∨ k = 2) (hb : ¬ (b = 4 ∨ b = 8)) :
    Calls Tryz.prog 279 #[.agg #[.int .i64 k, .int .i64 b, .int .i64 x, .int .i64 t, .int .i64 l]] w fun e w' => e = .returned (.bool false) ∧ Below w.heap.size w w' := by
  have a1 : (b == 4) = false := by simp; omega
  have a2 : (b == 8) = false := by simp; omega
  clear hb
  rcases hk with rfl | rfl
  all_goals
    go_enter Tryz.func279, Tryz.ntmps279
    go_wp2
    go_ret
    exact ⟨rfl, (Below.refl _ _).alloc (Nat.le_refl _) _⟩

set_option maxHeartbeats 2000000 in
theorem right_x (k b x t l : Int) (w : World) (hk : k = 1 ∨ k = 2) (hb : b = 4 ∨ b = 8) (hx : ¬ (x = 4 ∨ x = 16)) :
    Calls Tryz.prog 279 #[.agg #[.int .i64 k, .int .i64 b, .int .i64 x, .int .i64 t, .int .i64 l]] w fun e w' => e = .returned (.bool false) ∧ Below w.heap.size w w' := by
  have a1 : (x == 4) = false := by simp; omega
  have a2 : (x == 16) = false := by simp; omega
  clear hx
  rcases hk with rfl | rfl <;> rcases hb with rfl | rfl
  all_goals
    go_enter Tryz.func279, Tryz.ntmps279
    go_wp2
    go_ret
    exact ⟨rfl, (Below.refl _ _).alloc (Nat.le_refl _) _⟩

set_option maxHeartbeats 2000000 in
theorem right_t1 (k b x t l : Int) (w : World) (hk : k = 1 ∨ k = 2) (hb : b = 4 ∨ b = 8) (hx : x = 4 ∨ x = 16) (h1 : ¬ 1 ≤ t) :
    Calls Tryz.prog 279 #[.agg #[.int .i64 k, .int .i64 b, .int .i64 x, .int .i64 t, .int .i64 l]] w fun e w' => e = .returned (.bool false) ∧ Below w.heap.size w w' := by
  have a1 : decide (1 ≤ t) = false := by simpa using h1
  rcases hk with rfl | rfl <;> rcases hb with rfl | rfl <;> rcases hx with rfl | rfl
  all_goals
    go_enter Tryz.func279, Tryz.ntmps279
    go_wp2
    go_ret
    exact ⟨rfl, (Below.refl _ _).alloc (Nat.le_refl _) _⟩

set_option maxHeartbeats 2000000 in
theorem right_t2 (k b x t l : Int) (w : World) (hk : k = 1 ∨ k = 2) (hb : b = 4 ∨ b = 8) (hx : x = 4 ∨ x = 16) (h1 : 1 ≤ t) (h2 : ¬ t ≤ 4) :
    Calls Tryz.prog 279 #[.agg #[.int .i64 k, .int .i64 b, .int .i64 x, .int .i64 t, .int .i64 l]] w fun e w' => e = .returned (.bool false) ∧ Below w.heap.size w w' := by
  have a1 : decide (t ≤ 4) = false := by simpa using h2
  rcases hk with rfl | rfl <;> rcases hb with rfl | rfl <;> rcases hx with rfl | rfl
  all_goals
    go_enter Tryz.func279, Tryz.ntmps279
    go_wp2
    go_ret
    exact ⟨rfl, (Below.refl _ _).alloc (Nat.le_refl _) _⟩

set_option maxHeartbeats 2000000 in
theorem right_l1 (k b x t l : Int) (w : World) (hk : k = 1 ∨ k = 2) (hb : b = 4 ∨ b = 8) (hx : x = 4 ∨ x = 16) (h1 : 1 ≤ t) (h2 : t ≤ 4) (h3 : ¬ 1 ≤ l) :
    Calls Tryz.prog 279 #[.agg #[.int .i64 k, .int .i64 b, .int .i64 x, .int .i64 t, .int .i64 l]] w fun e w' => e = .returned (.bool false) ∧ Below w.heap.size w w' := by
  have a1 : decide (1 ≤ l) = false := by simpa using h3
  rcases hk with rfl | rfl <;> rcases hb with rfl | rfl <;> rcases hx with rfl | rfl
  all_goals
    go_enter Tryz.func279, Tryz.ntmps279
    go_wp2
    go_ret
    exact ⟨rfl, (Below.refl _ _).alloc (Nat.le_refl _) _⟩

set_option maxHeartbeats 2000000 in
theorem right_l2 (k b x t l : Int) (w : World) (hk : k = 1 ∨ k = 2) (hb : b = 4 ∨ b = 8) (hx : x = 4 ∨ x = 16) (h1 : 1 ≤ t) (h2 : t ≤ 4) (h3 : 1 ≤ l) (h4 : ¬ l ≤ 3) :
    Calls Tryz.prog 279 #[.agg #[.int .i64 k, .int .i64 b, .int .i64 x, .int .i64 t, .int .i64 l]] w fun e w' => e = .returned (.bool false) ∧ Below w.heap.size w w' := by
  have a1 : decide (l ≤ 3) = false := by simpa using h4
  rcases hk with rfl | rfl <;> rcases hb with rfl | rfl <;> rcases hx with rfl | rfl
  all_goals
    go_enter Tryz.func279, Tryz.ntmps279
    go_wp2
    go_ret
    exact ⟨rfl, (Below.refl _ _).alloc (Nat.le_refl _) _⟩

theorem right_any (k b x t l : Int) (w : World) :
    Calls Tryz.prog 279 #[.agg #[.int .i64 k, .int .i64 b, .int .i64 x, .int .i64 t, .int .i64 l]] w fun e w' => e = .returned (.bool (rightB k b x t l)) ∧ Below w.heap.size w w' := by
  by_cases hk : k = 1 ∨ k = 2
  · by_cases hb : b = 4 ∨ b = 8
    · by_cases hx : x = 4 ∨ x = 16
      · by_cases h1 : 1 ≤ t
        · by_cases h2 : t ≤ 4
          · by_cases h3 : 1 ≤ l
            · by_cases h4 : l ≤ 3
              · rw [show rightB k b x t l = true by simp [rightB, hk, hb, hx, h1, h2, h3, h4]]
                exact right_yes k b x t l w hk hb hx h1 h2 h3 h4
              · rw [show rightB k b x t l = false by simp [rightB, h4]]
                exact right_l2 k b x t l w hk hb hx h1 h2 h3 h4
            · rw [show rightB k b x t l = false by simp [rightB, h3]]
              exact right_l1 k b x t l w hk hb hx h1 h2 h3
          · rw [show rightB k b x t l = false by simp [rightB, h2]]
            exact right_t2 k b x t l w hk hb hx h1 h2
        · rw [show rightB k b x t l = false by simp [rightB, h1]]
          exact right_t1 k b x t l w hk hb hx h1
      · rw [show rightB k b x t l = false by simp [rightB, hx]]
        exact right_x k b x t l w hk hb hx
    · rw [show rightB k b x t l = false by simp [rightB, hb]]
      exact right_b k b x t l w hk hb
  · rw [show rightB k b x t l = false by simp [rightB, hk]]
    exact right_k k b x t l w hk
end Go.Proofs.YtgaoeoijdpdjiabGreatDoor

namespace Go.Proofs.YtgaoeoijdpdjiabGreatDoor
open Go.RowKit

theorem hideK {p : Prop} (h : p) : Hid p := h

/-- What a disk holds. -/
structure DSt where
  n : Nat
  dur : List ByteArray
  pend : List (Nat × ByteArray)
  writes : Int
  syncs : Int
  trouble : Int
  term : Int

structure DOk (s : DSt) : Prop where
  len : s.dur.length = s.n
  sec : ∀ x ∈ s.dur, x.size = 32
  pen : ∀ p ∈ s.pend, p.1 < s.n ∧ p.2.size = 32
  lo : 1 ≤ s.n
  hi : s.n ≤ 8
  most : s.pend.length ≤ 16
  tr : 0 ≤ s.trouble
  tr2 : s.trouble ≤ 9223372036854775807

/-- A text's bytes as cells. -/
def cellsB (s : ByteArray) : List Value := s.data.toList.map (fun u => Value.int .u8 ((u.toNat : Nat) : Int))
theorem cellsB_length (s : ByteArray) : (cellsB s).length = s.size := by simp [cellsB]
theorem cellsB_one (s : ByteArray) : ∀ v ∈ cellsB s, v.oneCell' = true := by
  intro v hv
  obtain ⟨u, _, rfl⟩ := List.mem_map.1 hv
  rfl
def penC (p : Nat × ByteArray) : List Value := .int .i64 ((p.1 : Nat) : Int) :: cellsB p.2
theorem penC_length (p : Nat × ByteArray) : (penC p).length = p.2.size + 1 := by simp [penC, cellsB_length]
theorem penC_one (p : Nat × ByteArray) : ∀ v ∈ penC p, v.oneCell' = true := by
  intro v hv
  rcases List.mem_cons.1 hv with rfl | hv
  · rfl
  · exact cellsB_one _ v hv
def secs (l : List ByteArray) : List Value := l.flatMap cellsB
def pends (l : List (Nat × ByteArray)) : List Value := l.flatMap penC

/-- A disk lies in memory: its struct in block D, its sectors in block E, its pending writes where pv says. -/
structure DAt (lo D E : Nat) (pv : Value) (s : DSt) (w : World) : Prop where
  disk : w.heap[D]? = some (.cells (List.toArray [.slice (some ⟨E, 0, none⟩) s.n s.n, pv, .int .i64 s.writes, .int .i64 s.syncs, .int .i64 s.trouble, .int .i64 s.term]) 182 (0, 0))
  durable : w.heap[E]? = some (.cells (secs s.dur).toArray 239 (0, 0))
  pending : w.ownsRow lo 241 33 pv s.pend.length (pends s.pend)
  ok : DOk s
  de : D ≠ E
  pd : pv.ownBlock ≠ some D
  pe : pv.ownBlock ≠ some E
  loD : lo ≤ D
  loE : lo ≤ E

def DFoot (D E : Nat) (pv : Value) : Nat → Prop := fun k => k = D ∨ k = E ∨ pv.ownBlock = some k

section
variable {lo D E : Nat} {pv : Value} {s : DSt} {w w' : World}
theorem DAt.ltD (h : DAt lo D E pv s w) : D < w.heap.size := (Array.getElem?_eq_some_iff.1 h.disk).1
theorem DAt.ltE (h : DAt lo D E pv s w) : E < w.heap.size := (Array.getElem?_eq_some_iff.1 h.durable).1
theorem DAt.lt (h : DAt lo D E pv s w) : ∀ k, DFoot D E pv k → lo ≤ k ∧ k < w.heap.size := by
  rintro k (rfl | rfl | hk)
  · exact ⟨h.loD, h.ltD⟩
  · exact ⟨h.loE, h.ltE⟩
  · exact h.pending.lt k hk
theorem DAt.kept {F : Nat → Prop} (h : DAt lo D E pv s w) (hk : Kept F w w') (hn : ∀ k, DFoot D E pv k → ¬ F k) : DAt lo D E pv s w' :=
  ⟨by rw [hk.block D h.ltD (hn D (.inl rfl))]; exact h.disk, by rw [hk.block E h.ltE (hn E (.inr (.inl rfl)))]; exact h.durable, owns_kept h.pending hk (fun k e => hn k (.inr (.inr e))), h.ok, h.de, h.pd, h.pe, h.loD, h.loE⟩
theorem DAt.below (h : DAt lo D E pv s w) (hb : Below w.heap.size w w') : DAt lo D E pv s w' := h.kept (Kept.of_below (F := fun _ => False) hb) (fun _ _ hf => hf)
theorem DAt.drew (h : DAt lo D E pv s w) : DAt lo D E pv s w.drew := ⟨h.disk, h.durable, h.pending, h.ok, h.de, h.pd, h.pe, h.loD, h.loE⟩
theorem cellOf {w : World} {b i : Nat} {L : List Value} {t : TypeId} {fr : Nat × Nat} {v : Value} (h : w.heap[b]? = some (.cells L.toArray t fr)) (hv : L[i]? = some v) : w.cell? ⟨b, i, none⟩ = some v := by
  rw [cell_of_row w b i L.toArray t fr h, List.getElem?_toArray, hv]
theorem freeOf {w : World} {b : Nat} {L : List Value} {t : TypeId} (h : w.heap[b]? = some (.cells L.toArray t (0, 0))) (i : Nat) : w.frozen? ⟨b, i, none⟩ = false := by
  simp [World.frozen?, h]
theorem DAt.c0 (h : DAt lo D E pv s w) : w.cell? ⟨D, 0, none⟩ = some (.slice (some ⟨E, 0, none⟩) s.n s.n) := cellOf h.disk rfl
theorem DAt.c1 (h : DAt lo D E pv s w) : w.cell? ⟨D, 1, none⟩ = some pv := cellOf h.disk rfl
theorem DAt.c2 (h : DAt lo D E pv s w) : w.cell? ⟨D, 2, none⟩ = some (.int .i64 s.writes) := cellOf h.disk rfl
theorem DAt.c3 (h : DAt lo D E pv s w) : w.cell? ⟨D, 3, none⟩ = some (.int .i64 s.syncs) := cellOf h.disk rfl
theorem DAt.c4 (h : DAt lo D E pv s w) : w.cell? ⟨D, 4, none⟩ = some (.int .i64 s.trouble) := cellOf h.disk rfl
theorem DAt.c5 (h : DAt lo D E pv s w) : w.cell? ⟨D, 5, none⟩ = some (.int .i64 s.term) := cellOf h.disk rfl
theorem DAt.free (h : DAt lo D E pv s w) (i : Nat) : w.frozen? ⟨D, i, none⟩ = false := freeOf h.disk i
theorem DAt.sets (h : DAt lo D E pv s w) (i : Nat) (v : Value) : (w.setCell ⟨D, i, none⟩ v).heap[E]? = some (.cells (secs s.dur).toArray 239 (0, 0)) ∧ (w.setCell ⟨D, i, none⟩ v).ownsRow lo 241 33 pv s.pend.length (pends s.pend) :=
  ⟨by rw [(kept_set w ⟨D, i, none⟩ v).block E h.ltE (fun e => h.de e.symm)]; exact h.durable, owns_kept h.pending (kept_set w _ v) (fun k e hk => h.pd (by rw [e]; exact congrArg some hk))⟩
theorem DAt.setTrouble (h : DAt lo D E pv s w) (t : Int) (ht : 0 ≤ t) (ht2 : t ≤ 9223372036854775807) : DAt lo D E pv { s with trouble := t } (w.setCell ⟨D, 4, none⟩ (.int .i64 t)) :=
  ⟨block_setCell h.disk _, (h.sets 4 _).1, (h.sets 4 _).2, ⟨h.ok.len, h.ok.sec, h.ok.pen, h.ok.lo, h.ok.hi, h.ok.most, ht, ht2⟩, h.de, h.pd, h.pe, h.loD, h.loE⟩
theorem DAt.setTerm (h : DAt lo D E pv s w) (t : Int) : DAt lo D E pv { s with term := t } (w.setCell ⟨D, 5, none⟩ (.int .i64 t)) :=
  ⟨block_setCell h.disk _, (h.sets 5 _).1, (h.sets 5 _).2, ⟨h.ok.len, h.ok.sec, h.ok.pen, h.ok.lo, h.ok.hi, h.ok.most, h.ok.tr, h.ok.tr2⟩, h.de, h.pd, h.pe, h.loD, h.loE⟩
theorem DAt.setWrites (h : DAt lo D E pv s w) (t : Int) : DAt lo D E pv { s with writes := t } (w.setCell ⟨D, 2, none⟩ (.int .i64 t)) :=
  ⟨block_setCell h.disk _, (h.sets 2 _).1, (h.sets 2 _).2, ⟨h.ok.len, h.ok.sec, h.ok.pen, h.ok.lo, h.ok.hi, h.ok.most, h.ok.tr, h.ok.tr2⟩, h.de, h.pd, h.pe, h.loD, h.loE⟩
theorem DAt.setSyncs (h : DAt lo D E pv s w) (t : Int) : DAt lo D E pv { s with syncs := t } (w.setCell ⟨D, 3, none⟩ (.int .i64 t)) :=
  ⟨block_setCell h.disk _, (h.sets 3 _).1, (h.sets 3 _).2, ⟨h.ok.len, h.ok.sec, h.ok.pen, h.ok.lo, h.ok.hi, h.ok.most, h.ok.tr, h.ok.tr2⟩, h.de, h.pd, h.pe, h.loD, h.loE⟩
theorem DAt.clear (h : DAt lo D E pv s w) : DAt lo D E (.slice none 0 0) { s with pend := [] } (w.setCell ⟨D, 1, none⟩ (.slice none 0 0)) :=
  ⟨block_setCell h.disk _, (h.sets 1 _).1, World.ownsRow_nil _ _ _ _, ⟨h.ok.len, h.ok.sec, fun p hp => by simp at hp, h.ok.lo, h.ok.hi, by simp, h.ok.tr, h.ok.tr2⟩, h.de, by simp [Value.ownBlock], by simp [Value.ownBlock], h.loD, h.loE⟩
end

/-- A turn has gone by. -/
def tick (t : Int) : Int := if t = 0 then 0 else t - 1

theorem dhas_any (lo D E : Nat) (pv : Value) (s : DSt) (i : Int) (w : World) (h : DAt lo D E pv s w) :
    Calls Tryz.prog 174 #[.pointer (some ⟨D, 0, none⟩), .int .i64 i] w fun e w' => e = .returned (.bool (decide (0 ≤ i ∧ i < s.n))) ∧ w' = w := by
  have c0 := h.c0
  have hn := h.ok.hi
  clear h
  by_cases h0 : 0 ≤ i
  · by_cases h1 : i < s.n
    · rw [decide_eq_true (show 0 ≤ i ∧ i < s.n from ⟨h0, h1⟩)]
      go_enter Tryz.func174, Tryz.ntmps174
      go_wp2
      go_ret
      exact ⟨rfl, rfl⟩
    · rw [decide_eq_false (show ¬ (0 ≤ i ∧ i < s.n) from fun h => h1 h.2)]
      go_enter Tryz.func174, Tryz.ntmps174
      go_wp2
      go_ret
      exact ⟨rfl, rfl⟩
  · rw [decide_eq_false (show ¬ (0 ≤ i ∧ i < s.n) from fun h => h0 h.1)]
    go_enter Tryz.func174, Tryz.ntmps174
    go_wp2
    go_ret
    exact ⟨rfl, rfl⟩

theorem fails_any (lo D E : Nat) (pv : Value) (s : DSt) (w : World) (h : DAt lo D E pv s w) :
    Calls Tryz.prog 175 #[.pointer (some ⟨D, 0, none⟩)] w fun e w' => e = .returned (.bool (decide (s.trouble = 1))) ∧ DAt lo D E pv { s with trouble := tick s.trouble } w' ∧ Kept (fun k => k = D) w w' := by
  have c4 := h.c4
  have f4 := h.free 4
  have t0 := h.ok.tr
  have t1 := h.ok.tr2
  have HD := hideK h
  clear h
  by_cases h0 : s.trouble = 0
  · have hb : (s.trouble == 0) = true := by rw [h0]; rfl
    rw [decide_eq_false (show ¬ s.trouble = 1 by omega)]
    have HE : Hid (tick s.trouble = s.trouble) := by show _ = _; rw [tick, if_pos h0, h0]
    clear h0
    go_enter Tryz.func175, Tryz.ntmps175
    go_wp2
    go_ret
    exact ⟨rfl, by rw [HE.out]; exact HD.out, Kept.refl _ _⟩
  · have hb : (s.trouble == 0) = false := by simpa using h0
    have HE : Hid (tick s.trouble = s.trouble - 1) := by show _ = _; rw [tick, if_neg h0]
    have HX := hideK (HD.out.setTrouble (s.trouble - 1) (by omega) (by omega))
    by_cases h1 : s.trouble = 1
    · rw [decide_eq_true h1]
      have hb2 : (s.trouble - 1 == 0) = true := by rw [h1]; rfl
      clear h0 h1
      go_enter Tryz.func175, Tryz.ntmps175
      go_wp2
      go_ret
      exact ⟨rfl, by rw [HE.out]; exact HX.out, kept_set _ ⟨D, 4, none⟩ _⟩
    · rw [decide_eq_false h1]
      have hb2 : (s.trouble - 1 == 0) = false := by rw [beq_eq_false_iff_ne]; omega
      clear h0 h1
      go_enter Tryz.func175, Tryz.ntmps175
      go_wp2
      go_ret
      exact ⟨rfl, by rw [HE.out]; exact HX.out, kept_set _ ⟨D, 4, none⟩ _⟩

theorem trouble_any (lo D E : Nat) (pv : Value) (s : DSt) (k : Int) (w : World) (h : DAt lo D E pv s w) (hk : k ≤ 9223372036854775807) :
    Calls Tryz.prog 113 #[.pointer (some ⟨D, 0, none⟩), .int .i64 k] w fun e w' => e = .returned (.int .i64 (if k < 0 then 2 else 0)) ∧ DAt lo D E pv (if k < 0 then s else { s with trouble := k }) w' ∧ Kept (fun k => k = D) w w' := by
  have c4 := h.c4
  have f4 := h.free 4
  have HD := hideK h
  clear h
  by_cases h0 : k < 0
  · rw [if_pos h0, if_pos h0]
    go_enter Tryz.func113, Tryz.ntmps113
    go_wp2
    go_ret
    exact ⟨rfl, HD.out, Kept.refl _ _⟩
  · rw [if_neg h0, if_neg h0]
    have HX := hideK (HD.out.setTrouble k (by omega) hk)
    go_enter Tryz.func113, Tryz.ntmps113
    go_wp2
    go_ret
    exact ⟨rfl, HX.out, kept_set _ ⟨D, 4, none⟩ _⟩
end Go.Proofs.YtgaoeoijdpdjiabGreatDoor

namespace Go.Proofs.YtgaoeoijdpdjiabGreatDoor
open Go.RowKit

theorem digs_at (x n v k : Nat) (h : k < n) : (digs x n v)[k]?.getD 0 = v / x ^ (n - (k + 1)) % x := by
  induction n generalizing v with
  | zero => omega
  | succ n ih =>
    simp only [digs]
    by_cases e : k < n
    · rw [List.getElem?_append_left (by rw [digs_length]; exact e), ih _ e, Nat.div_div_eq_div_mul, ← Nat.pow_succ', show n + 1 - (k + 1) = (n - (k + 1)).succ by omega]
    · obtain rfl : k = n := by omega
      rw [List.getElem?_append_right (by rw [digs_length]; exact Nat.le_refl _)]
      simp [digs_length]

theorem div_step (x n v k : Nat) (h : k + 1 ≤ n) : v / x ^ (n - (k + 1)) / x = v / x ^ (n - k) := by
  rw [Nat.div_div_eq_div_mul, ← Nat.pow_succ, show (n - (k + 1)).succ = n - k by omega]

set_option maxHeartbeats 400000 in
theorem lay_any (g off n cap v x : Nat) (L : List Int) (w : World) (hrow : RowZ w g L) (hlen : off + n ≤ L.length) (hL : L.length ≤ 1000) (hx : 2 ≤ x) (hx2 : x ≤ 16) (hv : v ≤ 4096) :
    Calls Tryz.prog 283 #[.slice (some ⟨g, off, none⟩) n cap, .int .i64 v, .int .i64 x] w fun e w' => e = .returned (.tuple #[]) ∧ RowZ w' g (laidTo L off n (digs x n v) 0) ∧ OnlyM g w w' := by
  have HR : Hid (RowZ w g L) := hrow
  clear hrow
  go_enter Tryz.func283, Tryz.ntmps283
  go_wp2
  go_loopw [1, 6] (fun t i wr => ∃ k : Nat, k ≤ n ∧ i = .int .i64 ((k : Int) - 1) ∧ t = .int .i64 ((v / x ^ (n - k) : Nat) : Int) ∧ Hid (RowZ wr g (laidTo L off n (digs x n v) k)) ∧ Hid (OnlyM g w wr)) (fun _ i _ => (intOf i + 1).toNat)
  case atStart => exact ⟨n, Nat.le_refl _, rfl, by simp, by rw [laidTo_start _ _ _ _ (digs_length _ _ _)]; exact HR, OnlyM.refl _ _⟩
  case round =>
    obtain ⟨k, hk, rfl, rfl, hr, ho⟩ := hrel
    by_cases h0 : 0 < k
    · obtain ⟨k, rfl⟩ : ∃ j, k = j + 1 := ⟨k - 1, by omega⟩
      have HD : Hid ((digs x n v)[k]?.getD 0 = v / x ^ (n - (k + 1)) % x) := digs_at x n v k (by omega)
      have HS : Hid (v / x ^ (n - (k + 1)) / x = v / x ^ (n - k)) := div_step x n v k hk
      have hu : v / x ^ (n - (k + 1)) ≤ 4096 := Nat.le_trans (Nat.div_le_self _ _) hv
      generalize hq : v / x ^ (n - (k + 1)) = q at HD HS hu ⊢
      have HQ : Hid (v / x ^ (n - (k + 1)) = q) := hq
      clear hq
      have hlen' := laidTo_length L off n (digs x n v) (k + 1) (digs_length _ _ _) hlen hk
      have hc := hr.out.cell (i := off + k) (by omega)
      have hf := hr.out.free (off + k)
      have d0 : (0 : Int) ≤ (q : Int) / (x : Int) := Int.ediv_nonneg (by omega) (by omega)
      have d1 : (q : Int) / (x : Int) ≤ 4096 := by have := Nat.div_le_self q x; have e : ((q / x : Nat) : Int) = (q : Int) / (x : Int) := Int.natCast_ediv q x; omega
      go_wp2
      go_roundw
      case rel =>
        refine ⟨k, by omega, by go_num, ?_, ?_, ?_⟩
        · rw [← HS.out, Int.natCast_ediv]
        · have := hr.out.set (off + k) (((digs x n v)[k]?.getD 0 : Nat) : Int)
          rw [laidTo_step L off n _ k (digs_length _ _ _) hlen (by omega), HD.out, Int.natCast_emod] at this
          exact this
        · exact ho.out.setCell _ _
      case measure => simp [intOf]
    · obtain rfl : k = 0 := by omega
      go_wp2
      go_end0
      exact ⟨rfl, hr.out, ho.out⟩

/-- The sum, as the loop makes it. -/
theorem lackN_snoc (x : Nat) (l : List Nat) (d : Nat) : lackN x (l ++ [d]) = lackN x l + (x - 1 - d) := by
  rw [lackN_append]; simp [lackN]

set_option maxHeartbeats 400000 in
theorem lack_any (g n cap x : Nat) (L : List Int) (D : List Nat) (w : World) (hrow : RowZ w g L) (hD : L.take n = D.map Int.ofNat) (hn : D.length = n) (hL : n ≤ 1000) (hx : 2 ≤ x) (hx2 : x ≤ 16) (hd : ∀ d ∈ D, d < x) :
    Calls Tryz.prog 284 #[.slice (some ⟨g, 0, none⟩) n cap, .int .i64 x] w fun e w' => e = .returned (.int .i64 (lackN x D)) ∧ w' = w := by
  have hnL : n ≤ L.length := by
    have := congrArg List.length hD
    simp at this; omega
  have hcell : ∀ i, i < n → w.cell? ⟨g, i, none⟩ = some (.int .i64 ((at0M D i : Nat) : Int)) := by
    intro i hi
    rw [hrow.cell (by omega)]
    have e : L[i]? = (L.take n)[i]? := by rw [List.getElem?_take_of_lt hi]
    rw [e, hD]
    simp [at0M, List.getElem?_map, List.getElem?_eq_getElem (show i < D.length by omega)]
  have HC : Hid (∀ i, i < n → w.cell? ⟨g, i, none⟩ = some (.int .i64 ((at0M D i : Nat) : Int))) := hcell
  have HD : Hid (∀ d ∈ D, d < x) := hd
  clear hrow hD hd hcell
  go_enter Tryz.func284, Tryz.ntmps284
  go_wp2
  go_loop [5, 10] (fun s i => ∃ k : Nat, k ≤ n ∧ i = .int .i64 k ∧ s = .int .i64 ((lackN x (D.take k) : Nat) : Int)) (fun _ i => n - (intOf i).toNat)
  case atStart => exact ⟨0, Nat.zero_le _, rfl, rfl⟩
  case round =>
    obtain ⟨k, hk, rfl, rfl⟩ := hrel
    by_cases hlt : k < n
    · have c := HC.out k hlt
      have hb := at0_lt D x k (by omega) HD.out
      have hs : lackN x (D.take k) ≤ k * (x - 1) := by have := lackN_le x (D.take k); rwa [List.length_take_of_le (by omega)] at this
      have hs2 : lackN x (D.take k) ≤ 1000 * 15 := Nat.le_trans hs (Nat.mul_le_mul (by omega) (by omega))
      have HS : Hid (lackN x (D.take (k + 1)) = lackN x (D.take k) + (x - 1 - at0M D k)) := by
        show lackN x (D.take (k + 1)) = _
        rw [List.take_succ_eq_append_getElem (show k < D.length by omega), lackN_snoc]
        simp [at0M, show k < D.length by omega]
      clear hs
      generalize lackN x (D.take k) = s at HS hs2 ⊢
      generalize at0M D k = d at c hb HS ⊢
      go_wp2
      go_round
      case rel => exact ⟨k + 1, by omega, by go_num, by rw [HS.out]; go_num⟩
      case measure => simp [intOf]; omega
    · obtain rfl : k = n := by omega
      go_wp2
      go_ret
      exact ⟨congrArg (fun z : Nat => Ending.returned (.int .i64 (z : Int))) (by rw [List.take_of_length_le (by omega)]), rfl⟩
end Go.Proofs.YtgaoeoijdpdjiabGreatDoor

namespace Go.Proofs.YtgaoeoijdpdjiabGreatDoor
open Go.RowKit

/-- Are all texts of this length? -/
def allLen (b : Int) : List ByteArray → Bool
  | [] => true
  | x :: r => decide ((x.size : Int) = b) && allLen b r
theorem allLen_iff (b : Int) (xs : List ByteArray) : allLen b xs = true ↔ ∀ y ∈ xs, (y.size : Int) = b := by
  induction xs with
  | nil => simp [allLen]
  | cons x r ih => simp [allLen, ih]
theorem allLen_take (b : Int) (xs : List ByteArray) (k : Nat) (h : allLen b (xs.take k) = true) (hk : k < xs.length) : allLen b (xs.take (k + 1)) = decide ((xs[k].size : Int) = b) := by
  have e : ∀ l m, allLen b (l ++ m) = (allLen b l && allLen b m) := by
    intro l m
    induction l with
    | nil => simp [allLen]
    | cons x r ih => simp [allLen, ih, Bool.and_assoc]
  rw [List.take_succ_eq_append_getElem hk, e, h]
  simp [allLen]
theorem allLen_no (b : Int) (xs : List ByteArray) (k : Nat) (hk : k < xs.length) (h : (xs[k].size : Int) ≠ b) : allLen b xs = false := by
  rw [Bool.eq_false_iff]
  intro e
  exact h ((allLen_iff b xs).1 e _ (List.getElem_mem hk))

set_option maxHeartbeats 1000000 in
theorem valuesRight_some (k b x t l : Int) (bk o c : Nat) (xs : List ByteArray) (w : World) (hcells : ∀ (j : Nat) y, xs[j]? = some y → w.cell? ⟨bk, o + j, none⟩ = some (.string y)) (hbk : bk < w.heap.size) (hN : xs.length ≤ 9223372036854775807) :
    Calls Tryz.prog 159 #[.agg #[.int .i64 k, .int .i64 b, .int .i64 x, .int .i64 t, .int .i64 l], .slice (some ⟨bk, o, none⟩) xs.length c] w fun e w' => e = .returned (.bool (allLen b xs)) ∧ Below w.heap.size w w' := by
  have HC := hide hcells
  clear hcells
  have HB := hide hbk
  go_enter Tryz.func159, Tryz.ntmps159
  go_wp2
  go_loop [9] (fun i => ∃ j : Nat, j ≤ xs.length ∧ i = .int .i64 j ∧ Hid (allLen b (xs.take j) = true)) (fun i => xs.length - (intOf i).toNat)
  case atStart => exact ⟨0, Nat.zero_le _, rfl, rfl⟩
  case round =>
    obtain ⟨j, hj, rfl, ha⟩ := hrel
    by_cases hlt : j < xs.length
    · have c0 : ∀ o, (w.alloc o).cell? ⟨bk, _, none⟩ = _ := fun o => (World.cell?_alloc_past _ _ _ HB.out).trans (HC.out j xs[j] (List.getElem?_eq_getElem hlt))
      have HT := hide (allLen_take b xs j ha.out hlt)
      have HNO := hide (allLen_no b xs j hlt)
      generalize xs[j] = y at c0 HT HNO
      by_cases hy : (y.size : Int) = b
      · have hys : ((y.size : Int) == b) = true := by simpa using hy
        go_wp2
        go_round
        case rel => exact ⟨j + 1, by omega, by go_num, show allLen b (xs.take (j + 1)) = true by rw [HT.out]; simpa using hy⟩
        case measure => simp [intOf]; omega
      · have hys : ((y.size : Int) == b) = false := by simpa using hy
        have HF := hide (HNO.out hy)
        clear hy HNO
        go_wp2
        go_ret
        exact ⟨congrArg (fun z => Ending.returned (Value.bool z)) HF.out.symm, (Below.refl _ _).alloc (Nat.le_refl _) _⟩
    · obtain rfl : j = xs.length := by omega
      go_wp2
      go_ret
      have hz := ha.out
      rw [List.take_of_length_le (Nat.le_refl _)] at hz
      exact ⟨congrArg (fun z => Ending.returned (Value.bool z)) hz.symm, (Below.refl _ _).alloc (Nat.le_refl _) _⟩

set_option maxHeartbeats 1000000 in
theorem valuesRight_nil (k b x t l : Int) (w : World) :
    Calls Tryz.prog 159 #[.agg #[.int .i64 k, .int .i64 b, .int .i64 x, .int .i64 t, .int .i64 l], .slice none 0 0] w fun e w' => e = .returned (.bool true) ∧ Below w.heap.size w w' := by
  go_enter Tryz.func159, Tryz.ntmps159
  go_wp2
  go_rounds 1
  go_ret
  exact ⟨rfl, (Below.refl _ _).alloc (Nat.le_refl _) _⟩
end Go.Proofs.YtgaoeoijdpdjiabGreatDoor

namespace Go.Proofs.YtgaoeoijdpdjiabGreatDoor
/-- A number that an int holds. -/
def Int64 (c : Int) : Prop := -9223372036854775808 ≤ c ∧ c ≤ 9223372036854775807
end Go.Proofs.YtgaoeoijdpdjiabGreatDoor

namespace Go.Proofs.YtgaoeoijdpdjiabGreatDoor
open Go.RowKit

/-- The i-th entry, 0 where there is none. -/
def at0 (l : List Nat) (i : Nat) : Nat := l.getD i 0

theorem at0_set_same (l : List Nat) (i z : Nat) (h : i < l.length) : at0 (l.set i z) i = z := by simp [at0, h]
theorem at0_set_other (l : List Nat) (i j z : Nat) (h : i ≠ j) : at0 (l.set i z) j = at0 l j := by simp [at0, List.getElem?_set_ne h]

/-- Block g is a row of the numbers L of kind k, and may be written. -/
def RowK (w : World) (g : Nat) (k : IntKind) (T : TypeId) (L : List Nat) : Prop := w.heap[g]? = some (.cells (L.map (fun n => Value.int k ((n : Nat) : Int))).toArray T (0, 0))

theorem RowK.cell {w : World} {g : Nat} {k : IntKind} {T : TypeId} {L : List Nat} (h : RowK w g k T L) {i : Nat} (hi : i < L.length) : w.cell? ⟨g, i, none⟩ = some (.int k ((at0 L i : Nat) : Int)) := by
  unfold RowK at h
  simp [World.cell?, h, hi, at0]
theorem RowK.free {w : World} {g : Nat} {k : IntKind} {T : TypeId} {L : List Nat} (h : RowK w g k T L) (i : Nat) : w.frozen? ⟨g, i, none⟩ = false := by
  unfold RowK at h
  simp [World.frozen?, h]
theorem RowK.lt {w : World} {g : Nat} {k : IntKind} {T : TypeId} {L : List Nat} (h : RowK w g k T L) : g < w.heap.size := lt_of_block h
theorem RowK.set {w : World} {g : Nat} {k : IntKind} {T : TypeId} {L : List Nat} (h : RowK w g k T L) (i z : Nat) : RowK (w.setCell ⟨g, i, none⟩ (.int k ((z : Nat) : Int))) g k T (L.set i z) := by
  have hlt := h.lt
  unfold RowK at h ⊢
  have h' : w.heap[g] = .cells (L.map (fun n => Value.int k ((n : Nat) : Int))).toArray T (0, 0) := by simpa [Array.getElem?_eq_getElem hlt] using h
  show (w.heap.modify g _)[g]? = _
  rw [Array.getElem?_eq_getElem (by simpa using hlt), Array.getElem_modify_self, h']
  simp
theorem RowK.below {w w' : World} {g B : Nat} {k : IntKind} {T : TypeId} {L : List Nat} (h : RowK w g k T L) (hb : Below B w w') (hg : g < B) : RowK w' g k T L := by
  unfold RowK at h ⊢
  rw [hb.block g hg]; exact h
theorem RowK.drew {w : World} {g : Nat} {k : IntKind} {T : TypeId} {L : List Nat} (h : RowK w g k T L) : RowK w.drew g k T L := h
theorem RowK.drewN {w : World} {g : Nat} {k : IntKind} {T : TypeId} {L : List Nat} (h : RowK w g k T L) (n : Nat) : RowK (w.drewN n) g k T L := h

/-- The worlds part in block g alone. -/
structure Only (g : Nat) (w w' : World) : Prop where
  os : w'.os = w.os
  tape : w'.tape = w.tape
  output : w'.output = w.output
  size : w'.heap.size = w.heap.size
  block : ∀ k, k ≠ g → w'.heap[k]? = w.heap[k]?

theorem Only.refl (g : Nat) (w : World) : Only g w w := ⟨rfl, rfl, rfl, rfl, fun _ _ => rfl⟩
theorem Only.trans {g : Nat} {a b c : World} (h : Only g a b) (k : Only g b c) : Only g a c :=
  ⟨k.os.trans h.os, k.tape.trans h.tape, k.output.trans h.output, k.size.trans h.size, fun i hi => (k.block i hi).trans (h.block i hi)⟩
theorem Only.setCell {g : Nat} {a w : World} (h : Only g a w) (i : Nat) (u : Value) : Only g a (w.setCell ⟨g, i, none⟩ u) :=
  h.trans ⟨rfl, rfl, rfl, by simp [World.setCell], fun _ hk => Below.heap_setCell _ _ _ _ hk⟩
theorem Only.drew {g : Nat} {a w : World} (h : Only g a w) : Only g a w.drew := ⟨h.os, h.tape, h.output, h.size, h.block⟩
theorem Only.drewN {g : Nat} {a w : World} (h : Only g a w) (n : Nat) : Only g a (w.drewN n) := ⟨h.os, h.tape, h.output, h.size, h.block⟩
theorem Only.below {g B : Nat} {a w w' : World} (h : Below B a w) (k : Only g w w') (hg : B ≤ g) : Below B a w' :=
  h.trans ⟨k.os, k.tape, k.output, by rw [k.size]; exact Nat.le_refl _, fun i hi => k.block i (by omega)⟩
theorem Only.cell {g : Nat} {w w' : World} (h : Only g w w') {p : Addr} (hp : p.block ≠ g) : w'.cell? p = w.cell? p := World.cell?_of_block (w := w) (h.block p.block hp)
theorem Only.row {g q : Nat} {w w' : World} {k : IntKind} {T : TypeId} {L : List Nat} (h : Only g w w') (r : RowK w q k T L) (hk : q ≠ g) : RowK w' q k T L := by
  unfold RowK at r ⊢
  rw [h.block q hk]; exact r

/-- The plain words of b bits: a sum, a word rotated. -/
def addW (b x y : Nat) : Nat := (x + y) % 2 ^ b
def rotW (b x k : Nat) : Nat := (x * 2 ^ k % 2 ^ b) ||| (x / 2 ^ (b - k))
/-- The numbers of bits of the columns. -/
def turnN (i : Nat) : Nat := if i = 0 then 5 else if i = 1 then 11 else if i = 2 then 19 else 26

theorem addW_lt (b x y : Nat) : addW b x y < 2 ^ b := Nat.mod_lt _ (Nat.two_pow_pos b)
theorem rotW_lt (b x k : Nat) (hx : x < 2 ^ b) : rotW b x k < 2 ^ b :=
  Nat.or_lt_two_pow (Nat.mod_lt _ (Nat.two_pow_pos b)) (Nat.lt_of_le_of_lt (Nat.div_le_self _ _) hx)

/-- A list of eight words, one behind the other, as the column i leaves it. -/
def colW (b i j : Nat) (L : List Nat) : List Nat :=
  (L.set i (addW b (at0 L i) (at0 L j))).set j (rotW b (at0 L j) (turnN i) ^^^ addW b (at0 L i) (at0 L j))

theorem colW_length (b i j : Nat) (L : List Nat) : (colW b i j L).length = L.length := by simp [colW]

/-- Every entry is a word. -/
def Words (b : Nat) (L : List Nat) : Prop := ∀ x ∈ L, x < 2 ^ b

theorem Words.at {b : Nat} {L : List Nat} (h : Words b L) (i : Nat) : at0 L i < 2 ^ b := by
  by_cases hi : i < L.length
  · simp only [at0, List.getD_eq_getElem?_getD, List.getElem?_eq_getElem hi, Option.getD_some]
    exact h _ (List.getElem_mem hi)
  · simp only [at0, List.getD_eq_getElem?_getD, List.getElem?_eq_none (by omega : L.length ≤ i), Option.getD_none]
    exact Nat.two_pow_pos b
theorem Words.set {b : Nat} {L : List Nat} (h : Words b L) (i z : Nat) (hz : z < 2 ^ b) : Words b (L.set i z) := by
  intro x hx
  rcases List.mem_or_eq_of_mem_set hx with hx | rfl
  · exact h x hx
  · exact hz
theorem Words.col {b : Nat} {L : List Nat} (h : Words b L) (i j : Nat) : Words b (colW b i j L) :=
  (h.set i _ (addW_lt _ _ _)).set j _ (Nat.xor_lt_two_pow (rotW_lt _ _ _ (h.at j)) (addW_lt _ _ _))

/-- The columns 0 to k - 1, each with the word four places on. -/
def mixTo (b : Nat) (L : List Nat) : Nat → List Nat
  | 0 => L
  | k + 1 => colW b k (k + 4) (mixTo b L k)
theorem mixTo_length (b : Nat) (L : List Nat) (k : Nat) : (mixTo b L k).length = L.length := by
  induction k with
  | zero => rfl
  | succ k ih => simp only [mixTo, colW_length, ih]
theorem mixTo_words (b : Nat) (L : List Nat) (k : Nat) (h : Words b L) : Words b (mixTo b L k) := by
  induction k with
  | zero => exact h
  | succ k ih => exact ih.col _ _
end Go.Proofs.YtgaoeoijdpdjiabGreatDoor

namespace Go.Proofs.YtgaoeoijdpdjiabGreatDoor

/-- The pairs of Bytes and Wide, with the digits of a byte and of what they lack. -/
def Pair (b x e f : Nat) : Prop := (b = 4 ∧ x = 4 ∧ e = 4 ∧ f = 3) ∨ (b = 8 ∧ x = 4 ∧ e = 4 ∧ f = 4) ∨ (b = 4 ∧ x = 16 ∧ e = 2 ∧ f = 2) ∨ (b = 8 ∧ x = 16 ∧ e = 2 ∧ f = 2)

theorem pair_of_right {k b x t l : Int} (h : rightB k b x t l = true) : ∃ b' x' e f t' l' : Nat, Pair b' x' e f ∧ (k = 1 ∨ k = 2) ∧ b = (b' : Int) ∧ x = (x' : Int) ∧ t = (t' : Int) ∧ l = (l' : Int) ∧ 1 ≤ t' ∧ t' ≤ 4 ∧ 1 ≤ l' ∧ l' ≤ 3 := by
  simp only [rightB, decide_eq_true_eq] at h
  obtain ⟨hk, hb, hx, ⟨h1, h2⟩, h3, h4⟩ := h
  have et : t = ((t.toNat : Nat) : Int) := by omega
  have el : l = ((l.toNat : Nat) : Int) := by omega
  rcases hb with rfl | rfl <;> rcases hx with rfl | rfl
  · exact ⟨4, 4, 4, 3, t.toNat, l.toNat, by unfold Pair; omega, hk, rfl, rfl, et, el, by omega, by omega, by omega, by omega⟩
  · exact ⟨4, 16, 2, 2, t.toNat, l.toNat, by unfold Pair; omega, hk, rfl, rfl, et, el, by omega, by omega, by omega, by omega⟩
  · exact ⟨8, 4, 4, 4, t.toNat, l.toNat, by unfold Pair; omega, hk, rfl, rfl, et, el, by omega, by omega, by omega, by omega⟩
  · exact ⟨8, 16, 2, 2, t.toNat, l.toNat, by unfold Pair; omega, hk, rfl, rfl, et, el, by omega, by omega, by omega, by omega⟩
end Go.Proofs.YtgaoeoijdpdjiabGreatDoor

namespace Go.Proofs.YtgaoeoijdpdjiabGreatDoor
open Go.RowKit

/-- How many digits of base x a byte has. -/
def each (x : Int) : Int := if x = 4 then 4 else 2

set_option maxHeartbeats 400000 in
theorem perByte_any (x : Int) (w : World) (hx : x = 4 ∨ x = 16) :
    Calls Tryz.prog 232 #[.int .i64 x] w fun e w' => e = .returned (.int .i64 (each x)) ∧ w' = w := by
  rcases hx with rfl | rfl
  · go_enter Tryz.func232, Tryz.ntmps232
    go_wp2_with (go_at_call 233; refine (count_any 255 4 8 _ (by decide) (by decide) (by decide) (by decide)).mono ?_; rintro e w' ⟨rfl, rfl⟩)
    go_ret
    exact ⟨rfl, rfl⟩
  · go_enter Tryz.func232, Tryz.ntmps232
    go_wp2_with (go_at_call 233; refine (count_any 255 16 8 _ (by decide) (by decide) (by decide) (by decide)).mono ?_; rintro e w' ⟨rfl, rfl⟩)
    go_ret
    exact ⟨rfl, rfl⟩

theorem perByte_4 (w : World) : Calls Tryz.prog 232 #[.int .i64 4] w fun e w' => e = .returned (.int .i64 4) ∧ w' = w := perByte_any 4 w (Or.inl rfl)
theorem perByte_16 (w : World) : Calls Tryz.prog 232 #[.int .i64 16] w fun e w' => e = .returned (.int .i64 2) ∧ w' = w := perByte_any 16 w (Or.inr rfl)
theorem count_48 (w : World) : Calls Tryz.prog 233 #[.int .i64 48, .int .i64 4] w fun e w' => e = .returned (.int .i64 3) ∧ w' = w := count_any 48 4 6 w (by decide) (by decide) (by decide) (by decide)
theorem count_96 (w : World) : Calls Tryz.prog 233 #[.int .i64 96, .int .i64 4] w fun e w' => e = .returned (.int .i64 4) ∧ w' = w := count_any 96 4 7 w (by decide) (by decide) (by decide) (by decide)
theorem count_120 (w : World) : Calls Tryz.prog 233 #[.int .i64 120, .int .i64 16] w fun e w' => e = .returned (.int .i64 2) ∧ w' = w := count_any 120 16 7 w (by decide) (by decide) (by decide) (by decide)
theorem count_240 (w : World) : Calls Tryz.prog 233 #[.int .i64 240, .int .i64 16] w fun e w' => e = .returned (.int .i64 2) ∧ w' = w := count_any 240 16 8 w (by decide) (by decide) (by decide) (by decide)
end Go.Proofs.YtgaoeoijdpdjiabGreatDoor

namespace Go.Proofs.YtgaoeoijdpdjiabGreatDoor
open Go.RowKit

theorem heldB {n : Nat} {w W V : World} (h : Below n w W) (hb : Below W.heap.size W V) (hn : n ≤ w.heap.size) : Below n w V := h.trans (hb.mono (by have := h.size; omega))
theorem heldC {n : Nat} {w W V : World} {a : Addr} {v : Value} (h : Below n w W) (hb : Below W.heap.size W V) (hn : n ≤ w.heap.size) (ha : a.block < n) (hc : W.cell? a = some v) : V.cell? a = some v :=
  (hb.cell (p := a) (by have := h.size; omega)).trans hc
theorem held1 {n : Nat} {w W V : World} {a0 : Addr} {v0 : Value} (h : W.cell? a0 = some v0 ∧ Below n w W) (hb : Below W.heap.size W V) (hn : n ≤ w.heap.size) (h0 : a0.block < n) : V.cell? a0 = some v0 ∧ Below n w V :=
  ⟨heldC h.2 hb hn h0 h.1, heldB h.2 hb hn⟩
theorem held2 {n : Nat} {w W V : World} {a0 a1 : Addr} {v0 v1 : Value} (h : W.cell? a0 = some v0 ∧ W.cell? a1 = some v1 ∧ Below n w W) (hb : Below W.heap.size W V) (hn : n ≤ w.heap.size) (h0 : a0.block < n) (h1 : a1.block < n) : V.cell? a0 = some v0 ∧ V.cell? a1 = some v1 ∧ Below n w V :=
  ⟨heldC h.2.2 hb hn h0 h.1, held1 h.2 hb hn h1⟩
theorem held3 {n : Nat} {w W V : World} {a0 a1 a2 : Addr} {v0 v1 v2 : Value} (h : W.cell? a0 = some v0 ∧ W.cell? a1 = some v1 ∧ W.cell? a2 = some v2 ∧ Below n w W) (hb : Below W.heap.size W V) (hn : n ≤ w.heap.size) (h0 : a0.block < n) (h1 : a1.block < n) (h2 : a2.block < n) : V.cell? a0 = some v0 ∧ V.cell? a1 = some v1 ∧ V.cell? a2 = some v2 ∧ Below n w V :=
  ⟨heldC h.2.2.2 hb hn h0 h.1, held2 h.2 hb hn h1 h2⟩
theorem held0 {n : Nat} {w W V : World} (h : Below n w W) (hb : Below W.heap.size W V) (hn : n ≤ w.heap.size) : Below n w V := heldB h hb hn

/-- Ten cells one behind the other: a struct that holds a set, a text and a place. -/
def TenC (B : Nat) (w : World) (k b x t l : Int) (s : ByteArray) (p0 p1 p2 p3 : Int) : Prop :=
  w.cell? ⟨B, 0, none⟩ = some (.int .i64 k) ∧ w.cell? ⟨B, 1, none⟩ = some (.int .i64 b) ∧ w.cell? ⟨B, 2, none⟩ = some (.int .i64 x) ∧ w.cell? ⟨B, 3, none⟩ = some (.int .i64 t) ∧ w.cell? ⟨B, 4, none⟩ = some (.int .i64 l) ∧ w.cell? ⟨B, 5, none⟩ = some (.string s) ∧ w.cell? ⟨B, 6, none⟩ = some (.int .i64 p0) ∧ w.cell? ⟨B, 7, none⟩ = some (.int .i64 p1) ∧ w.cell? ⟨B, 8, none⟩ = some (.int .i64 p2) ∧ w.cell? ⟨B, 9, none⟩ = some (.int .i64 p3)
theorem TenC.below {B n : Nat} {w w' : World} {k b x t l p0 p1 p2 p3 : Int} {s : ByteArray} (h : TenC B w k b x t l s p0 p1 p2 p3) (hb : Below n w w') (hB : B < n) : TenC B w' k b x t l s p0 p1 p2 p3 := by
  obtain ⟨c0, c1, c2, c3, c4, c5, c6, c7, c8, c9⟩ := h
  exact ⟨(hb.cell (p := ⟨B, 0, none⟩) hB).trans c0, (hb.cell (p := ⟨B, 1, none⟩) hB).trans c1, (hb.cell (p := ⟨B, 2, none⟩) hB).trans c2, (hb.cell (p := ⟨B, 3, none⟩) hB).trans c3, (hb.cell (p := ⟨B, 4, none⟩) hB).trans c4, (hb.cell (p := ⟨B, 5, none⟩) hB).trans c5, (hb.cell (p := ⟨B, 6, none⟩) hB).trans c6, (hb.cell (p := ⟨B, 7, none⟩) hB).trans c7, (hb.cell (p := ⟨B, 8, none⟩) hB).trans c8, (hb.cell (p := ⟨B, 9, none⟩) hB).trans c9⟩
end Go.Proofs.YtgaoeoijdpdjiabGreatDoor

namespace Go.Proofs.YtgaoeoijdpdjiabGreatDoor
open Go.RowKit

theorem opIn_of_op {l n : Nat} {P : Program} {ops : Array Oper} {Q : Exit → Act → World → Prop} {i : Nat} {K K' : Act → World → Prop} {a : Act} {w : World}
    (hd : ∀ o, ops[i]? = some o → ∀ c, o.op ≠ .defer c) (hQ : ¬ LetsOut Q) (hK : ∀ a w, K a w → K' a w) (h : wpOp P ops Q i K a w) : wpOpIn (Fence.wide.inRound l) n P ops Q i K' a w := by
  unfold wpOp at h
  unfold wpOpIn
  cases ho : ops[i]? with
  | none => rw [ho] at h; exact hK _ _ h
  | some o =>
    rw [ho] at h
    dsimp only at h ⊢
    by_cases hw : Region.wanted o (yielded ops a.tmps) = true
    · rw [if_pos hw] at h ⊢
      rcases h with h | ⟨_, h⟩
      · refine ⟨fun _ _ => trivial, ?_⟩
        rw [Oper.semAt_plain _ _ _ (hd o ho)]
        unfold Oper.wp at h
        generalize (execOp a.eval o).run P w = r at h ⊢
        cases r with
        | ok nx w' =>
          cases nx with
          | value v => exact hK _ _ h
          | skip => exact hK _ _ h
          | defer d => exact hK _ _ h
          | enter f args =>
            refine ⟨fun hh => by simp [Fence.wide] at hh, ?_⟩
            refine CallsIn.inRound l (callsIn_wide.2 ?_)
            refine Calls.mono h ?_
            intro e w'' he
            cases e with
            | returned v => exact hK _ _ he
            | panicked c => exact he
            | outgrown => exact he
          | row rw' args =>
            refine ⟨fun hh => by simp [Fence.wide] at hh, ?_⟩
            intro c cs _
            obtain ⟨v, w'', r, s⟩ := h c cs
            exact ⟨v, w'', hK _ _ r, stepsIn_wide.2 s⟩
          | round _ _ _ _ _ => exact h.elim
          | _ => exact h.elim
        | halt st w' =>
          cases st with
          | panic v => exact h
          | _ => exact h.elim
      · exact absurd h hQ
    · rw [if_neg hw] at h ⊢
      exact ⟨fun _ _ => trivial, hK _ _ h⟩

theorem anyIn_of_any {l n : Nat} {P : Program} {md : Region.Mode} {ops : Array Oper} {Q : Exit → Act → World → Prop} (hd : ∀ (i : Nat) o, ops[i]? = some o → ∀ c, o.op ≠ .defer c) (hQ : ¬ LetsOut Q) :
    ∀ (fuel : Nat) (listed : Array Bool) (a : Act) (w : World), wpAny P md ops Q fuel listed a w → wpAnyIn (Fence.wide.inRound l) n P md ops Q fuel listed a w
  | 0, _, _, _, h => h
  | fuel + 1, _, _, _, h => ⟨h.1, fun i hi => opIn_of_op (hd i) hQ (fun a w hk => anyIn_of_any hd hQ fuel _ a w hk) (h.2 i hi)⟩

theorem regionIn_held {l n id : Nat} {P : Program} {ops : Array Oper} {Q : Exit → Act → World → Prop} {S : World → Prop} {a : Act} {w : World} (hm : P.follows .mixedOrders = true) (hd : ∀ o ∈ ops.toList, ∀ c, o.op ≠ .defer c) (hQ : ¬ LetsOut Q) (hS : S w.drew)
    (h : S w.drew → wpAnyH P .any ops Q S ops.size (Array.replicate ops.size false) a w.drew) : (Code.region id ops true).wpIn (Fence.wide.inRound l) n P Q a w :=
  wpIn_region_any hm (anyIn_of_any (fun i o ho => hd o (by rw [Array.mem_toList_iff]; exact Array.mem_of_getElem? ho)) hQ _ _ _ _ (wpAny_of_held _ _ _ _ (h hS)))
end Go.Proofs.YtgaoeoijdpdjiabGreatDoor
