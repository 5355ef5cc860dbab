/-
  The program's disk in memory: what its blocks hold.
-/
import Derived.Test.YtgaoeoijdpdjiaaGreatDoorPart1
import Derived.WalkSpells
import Derived.WalkLawsBesides
import Derived.Handy
import Derived.Laws.MakeOwn
import Derived.Deep.RegionHeld3
import Derived.Deep.DrawnRows
namespace Go.Proofs.YtgaoeoijdpdjiaaGreatDoor
open Go.RowKit
theorem hideK {p : Prop} (h : p) : Hid p := h
/-- What a disk holds. -/
structure DSt where
  n : Nat
  dur : List ByteArray
  pend : List (Nat × ByteArray)
  writes : Int
  syncs : Int
  trouble : Int
  term : Int
structure DOk (s : DSt) : Prop where
  len : s.dur.length = s.n
  sec : ∀ x ∈ s.dur, x.size = 32
  pen : ∀ p ∈ s.pend, p.1 < s.n ∧ p.2.size = 32
  lo : 1 ≤ s.n
  hi : s.n ≤ 8
  most : s.pend.length ≤ 16
  tr : 0 ≤ s.trouble
  tr2 : s.trouble ≤ 9223372036854775807
/-- A text's bytes as cells. -/
def cellsB (s : ByteArray) : List Value := s.data.toList.map (fun u => Value.int .u8 ((u.toNat : Nat) : Int))
theorem cellsB_length (s : ByteArray) : (cellsB s).length = s.size := by simp [cellsB]
theorem cellsB_one (s : ByteArray) : ∀ v ∈ cellsB s, v.oneCell' = true := by
  intro v hv
  obtain ⟨u, _, rfl⟩ := List.mem_map.1 hv
  rfl
def penC (p : Nat × ByteArray) : List Value := .int .i64 ((p.1 : Nat) : Int) :: cellsB p.2
theorem penC_length (p : Nat × ByteArray) : (penC p).length = p.2.size + 1 := by simp [penC, cellsB_length]
theorem penC_one (p : Nat × ByteArray) : ∀ v ∈ penC p, v.oneCell' = true := by
  intro v hv
  rcases List.mem_cons.1 hv with rfl | hv
  · rfl
  · exact cellsB_one _ v hv
def secs (l : List ByteArray) : List Value := l.flatMap cellsB
def pends (l : List (Nat × ByteArray)) : List Value := l.flatMap penC
/-- A disk lies in memory: its struct in block D, its sectors in block E, its pending writes where pv says. -/
structure DAt (lo D E : Nat) (pv : Value) (s : DSt) (w : World) : Prop where
  disk : w.heap[D]? = some (.cells (List.toArray [.slice (some ⟨E, 0, none⟩) s.n s.n, pv, .int .i64 s.writes, .int .i64 s.syncs, .int .i64 s.trouble, .int .i64 s.term]) 306 (0, 0))
  durable : w.heap[E]? = some (.cells (secs s.dur).toArray 308 (0, 0))
  pending : w.ownsRow lo 311 33 pv s.pend.length (pends s.pend)
  ok : DOk s
  de : D ≠ E
  pd : pv.ownBlock ≠ some D
  pe : pv.ownBlock ≠ some E
  loD : lo ≤ D
  loE : lo ≤ E
def DFoot (D E : Nat) (pv : Value) : Nat → Prop := fun k => k = D ∨ k = E ∨ pv.ownBlock = some k
section
variable {lo D E : Nat} {pv : Value} {s : DSt} {w w' : World}
theorem DAt.ltD (h : DAt lo D E pv s w) : D < w.heap.size := (Array.getElem?_eq_some_iff.1 h.disk).1
theorem DAt.ltE (h : DAt lo D E pv s w) : E < w.heap.size := (Array.getElem?_eq_some_iff.1 h.durable).1
theorem DAt.lt (h : DAt lo D E pv s w) : ∀ k, DFoot D E pv k → lo ≤ k ∧ k < w.heap.size := by
  rintro k (rfl | rfl | hk)
  · exact ⟨h.loD, h.ltD⟩
  · exact ⟨h.loE, h.ltE⟩
  · exact h.pending.lt k hk
theorem DAt.kept {F : Nat → Prop} (h : DAt lo D E pv s w) (hk : Kept F w w') (hn : ∀ k, DFoot D E pv k → ¬ F k) : DAt lo D E pv s w' :=
  ⟨by rw [hk.block D h.ltD (hn D (.inl rfl))]; exact h.disk, by rw [hk.block E h.ltE (hn E (.inr (.inl rfl)))]; exact h.durable, owns_kept h.pending hk (fun k e => hn k (.inr (.inr e))), h.ok, h.de, h.pd, h.pe, h.loD, h.loE⟩
theorem DAt.below (h : DAt lo D E pv s w) (hb : Below w.heap.size w w') : DAt lo D E pv s w' := h.kept (Kept.of_below (F := fun _ => False) hb) (fun _ _ hf => hf)
theorem DAt.drew (h : DAt lo D E pv s w) : DAt lo D E pv s w.drew := ⟨h.disk, h.durable, h.pending, h.ok, h.de, h.pd, h.pe, h.loD, h.loE⟩
theorem cellOf {w : World} {b i : Nat} {L : List Value} {t : TypeId} {fr : Nat × Nat} {v : Value} (h : w.heap[b]? = some (.cells L.toArray t fr)) (hv : L[i]? = some v) : w.cell? ⟨b, i, none⟩ = some v := by
  rw [cell_of_row w b i L.toArray t fr h, List.getElem?_toArray, hv]
theorem freeOf {w : World} {b : Nat} {L : List Value} {t : TypeId} (h : w.heap[b]? = some (.cells L.toArray t (0, 0))) (i : Nat) : w.frozen? ⟨b, i, none⟩ = false := by
  simp [World.frozen?, h]
theorem DAt.c0 (h : DAt lo D E pv s w) : w.cell? ⟨D, 0, none⟩ = some (.slice (some ⟨E, 0, none⟩) s.n s.n) := cellOf h.disk rfl
theorem DAt.c1 (h : DAt lo D E pv s w) : w.cell? ⟨D, 1, none⟩ = some pv := cellOf h.disk rfl
theorem DAt.c2 (h : DAt lo D E pv s w) : w.cell? ⟨D, 2, none⟩ = some (.int .i64 s.writes) := cellOf h.disk rfl
theorem DAt.c3 (h : DAt lo D E pv s w) : w.cell? ⟨D, 3, none⟩ = some (.int .i64 s.syncs) := cellOf h.disk rfl
theorem DAt.c4 (h : DAt lo D E pv s w) : w.cell? ⟨D, 4, none⟩ = some (.int .i64 s.trouble) := cellOf h.disk rfl
theorem DAt.c5 (h : DAt lo D E pv s w) : w.cell? ⟨D, 5, none⟩ = some (.int .i64 s.term) := cellOf h.disk rfl
theorem DAt.free (h : DAt lo D E pv s w) (i : Nat) : w.frozen? ⟨D, i, none⟩ = false := freeOf h.disk i
theorem DAt.sets (h : DAt lo D E pv s w) (i : Nat) (v : Value) : (w.setCell ⟨D, i, none⟩ v).heap[E]? = some (.cells (secs s.dur).toArray 308 (0, 0)) ∧ (w.setCell ⟨D, i, none⟩ v).ownsRow lo 311 33 pv s.pend.length (pends s.pend) :=
  ⟨by rw [(kept_set w ⟨D, i, none⟩ v).block E h.ltE (fun e => h.de e.symm)]; exact h.durable, owns_kept h.pending (kept_set w _ v) (fun k e hk => h.pd (by rw [e]; exact congrArg some hk))⟩
theorem DAt.setTrouble (h : DAt lo D E pv s w) (t : Int) (ht : 0 ≤ t) (ht2 : t ≤ 9223372036854775807) : DAt lo D E pv { s with trouble := t } (w.setCell ⟨D, 4, none⟩ (.int .i64 t)) :=
  ⟨block_setCell h.disk _, (h.sets 4 _).1, (h.sets 4 _).2, ⟨h.ok.len, h.ok.sec, h.ok.pen, h.ok.lo, h.ok.hi, h.ok.most, ht, ht2⟩, h.de, h.pd, h.pe, h.loD, h.loE⟩
theorem DAt.setTerm (h : DAt lo D E pv s w) (t : Int) : DAt lo D E pv { s with term := t } (w.setCell ⟨D, 5, none⟩ (.int .i64 t)) :=
  ⟨block_setCell h.disk _, (h.sets 5 _).1, (h.sets 5 _).2, ⟨h.ok.len, h.ok.sec, h.ok.pen, h.ok.lo, h.ok.hi, h.ok.most, h.ok.tr, h.ok.tr2⟩, h.de, h.pd, h.pe, h.loD, h.loE⟩
theorem DAt.setWrites (h : DAt lo D E pv s w) (t : Int) : DAt lo D E pv { s with writes := t } (w.setCell ⟨D, 2, none⟩ (.int .i64 t)) :=
  ⟨block_setCell h.disk _, (h.sets 2 _).1, (h.sets 2 _).2, ⟨h.ok.len, h.ok.sec, h.ok.pen, h.ok.lo, h.ok.hi, h.ok.most, h.ok.tr, h.ok.tr2⟩, h.de, h.pd, h.pe, h.loD, h.loE⟩
theorem DAt.setSyncs (h : DAt lo D E pv s w) (t : Int) : DAt lo D E pv { s with syncs := t } (w.setCell ⟨D, 3, none⟩ (.int .i64 t)) :=
  ⟨block_setCell h.disk _, (h.sets 3 _).1, (h.sets 3 _).2, ⟨h.ok.len, h.ok.sec, h.ok.pen, h.ok.lo, h.ok.hi, h.ok.most, h.ok.tr, h.ok.tr2⟩, h.de, h.pd, h.pe, h.loD, h.loE⟩
theorem DAt.clear (h : DAt lo D E pv s w) : DAt lo D E (.slice none 0 0) { s with pend := [] } (w.setCell ⟨D, 1, none⟩ (.slice none 0 0)) :=
  ⟨block_setCell h.disk _, (h.sets 1 _).1, World.ownsRow_nil _ _ _ _, ⟨h.ok.len, h.ok.sec, fun p hp => by simp at hp, h.ok.lo, h.ok.hi, by simp, h.ok.tr, h.ok.tr2⟩, h.de, by simp [Value.ownBlock], by simp [Value.ownBlock], h.loD, h.loE⟩
end
/-- A turn has gone by. -/
def tick (t : Int) : Int := if t = 0 then 0 else t - 1
theorem dhas_any (lo D E : Nat) (pv : Value) (s : DSt) (i : Int) (w : World) (h : DAt lo D E pv s w) :
    Calls Tryz.prog 252 #[.pointer (some ⟨D, 0, none⟩), .int .i64 i] w fun e w' => e = .returned (.bool (decide (0 ≤ i ∧ i < s.n))) ∧ w' = w := by
  have c0 := h.c0
  have hn := h.ok.hi
  clear h
  by_cases h0 : 0 ≤ i
  · by_cases h1 : i < s.n
    · rw [decide_eq_true (show 0 ≤ i ∧ i < s.n from ⟨h0, h1⟩)]
      go_enter Tryz.func252, Tryz.ntmps252
      go_wp2
      go_ret
      exact ⟨rfl, rfl⟩
    · rw [decide_eq_false (show ¬ (0 ≤ i ∧ i < s.n) from fun h => h1 h.2)]
      go_enter Tryz.func252, Tryz.ntmps252
      go_wp2
      go_ret
      exact ⟨rfl, rfl⟩
  · rw [decide_eq_false (show ¬ (0 ≤ i ∧ i < s.n) from fun h => h0 h.1)]
    go_enter Tryz.func252, Tryz.ntmps252
    go_wp2
    go_ret
    exact ⟨rfl, rfl⟩
theorem fails_any (lo D E : Nat) (pv : Value) (s : DSt) (w : World) (h : DAt lo D E pv s w) :
    Calls Tryz.prog 253 #[.pointer (some ⟨D, 0, none⟩)] w fun e w' => e = .returned (.bool (decide (s.trouble = 1))) ∧ DAt lo D E pv { s with trouble := tick s.trouble } w' ∧ Kept (fun k => k = D) w w' := by
  have c4 := h.c4
  have f4 := h.free 4
  have t0 := h.ok.tr
  have t1 := h.ok.tr2
  have HD := hideK h
  clear h
  by_cases h0 : s.trouble = 0
  · have hb : (s.trouble == 0) = true := by rw [h0]; rfl
    rw [decide_eq_false (show ¬ s.trouble = 1 by omega)]
    have HE : Hid (tick s.trouble = s.trouble) := by show _ = _; rw [tick, if_pos h0, h0]
    clear h0
    go_enter Tryz.func253, Tryz.ntmps253
    go_wp2
    go_ret
    exact ⟨rfl, by rw [HE.out]; exact HD.out, Kept.refl _ _⟩
  · have hb : (s.trouble == 0) = false := by simpa using h0
    have HE : Hid (tick s.trouble = s.trouble - 1) := by show _ = _; rw [tick, if_neg h0]
    have HX := hideK (HD.out.setTrouble (s.trouble - 1) (by omega) (by omega))
    by_cases h1 : s.trouble = 1
    · rw [decide_eq_true h1]
      have hb2 : (s.trouble - 1 == 0) = true := by rw [h1]; rfl
      clear h0 h1
      go_enter Tryz.func253, Tryz.ntmps253
      go_wp2
      go_ret
      exact ⟨rfl, by rw [HE.out]; exact HX.out, kept_set _ ⟨D, 4, none⟩ _⟩
    · rw [decide_eq_false h1]
      have hb2 : (s.trouble - 1 == 0) = false := by rw [beq_eq_false_iff_ne]; omega
      clear h0 h1
      go_enter Tryz.func253, Tryz.ntmps253
      go_wp2
      go_ret
      exact ⟨rfl, by rw [HE.out]; exact HX.out, kept_set _ ⟨D, 4, none⟩ _⟩
theorem trouble_any (lo D E : Nat) (pv : Value) (s : DSt) (k : Int) (w : World) (h : DAt lo D E pv s w) (hk : k ≤ 9223372036854775807) :
    Calls Tryz.prog 202 #[.pointer (some ⟨D, 0, none⟩), .int .i64 k] w fun e w' => e = .returned (.int .i64 (if k < 0 then 2 else 0)) ∧ DAt lo D E pv (if k < 0 then s else { s with trouble := k }) w' ∧ Kept (fun k => k = D) w w' := by
  have c4 := h.c4
  have f4 := h.free 4
  have HD := hideK h
  clear h
  by_cases h0 : k < 0
  · rw [if_pos h0, if_pos h0]
    go_enter Tryz.func202, Tryz.ntmps202
    go_wp2
    go_ret
    exact ⟨rfl, HD.out, Kept.refl _ _⟩
  · rw [if_neg h0, if_neg h0]
    have HX := hideK (HD.out.setTrouble k (by omega) hk)
    go_enter Tryz.func202, Tryz.ntmps202
    go_wp2
    go_ret
    exact ⟨rfl, HX.out, kept_set _ ⟨D, 4, none⟩ _⟩
end Go.Proofs.YtgaoeoijdpdjiaaGreatDoor
