/-
  The statement's own 'some': a text of n bytes comes out, whatever comes in.
-/
import Derived.Test.YtgaoeoijdpdjiaaCells
namespace Go.Proofs.Ytgaoeoijdpdjiaa
open Go.RowKit

/-- Block g is a row of the bytes L, and may be written. -/
def RowB (w : World) (g : Nat) (L : List UInt8) : Prop := w.heap[g]? = some (.cells (L.map (fun u => Value.int .u8 ((u.toNat : Nat) : Int))).toArray 5 (0, 0))

theorem RowB.cell {w : World} {g : Nat} {L : List UInt8} (h : RowB w g L) {i : Nat} (hi : i < L.length) : w.cell? ⟨g, i, none⟩ = some (.int .u8 ((L[i].toNat : Nat) : Int)) := by
  unfold RowB at h
  simp [World.cell?, h, hi]
theorem RowB.free {w : World} {g : Nat} {L : List UInt8} (h : RowB w g L) (i : Nat) : w.frozen? ⟨g, i, none⟩ = false := by
  unfold RowB at h
  simp [World.frozen?, h]
theorem RowB.lt {w : World} {g : Nat} {L : List UInt8} (h : RowB w g L) : g < w.heap.size := lt_of_block h
theorem RowB.set {w : World} {g : Nat} {L : List UInt8} (h : RowB w g L) (i : Nat) (z : UInt8) : RowB (w.setCell ⟨g, i, none⟩ (.int .u8 ((z.toNat : Nat) : Int))) g (L.set i z) := by
  have hlt := h.lt
  unfold RowB at h ⊢
  have h' : w.heap[g] = .cells (L.map (fun u => Value.int .u8 ((u.toNat : Nat) : Int))).toArray 5 (0, 0) := by simpa [Array.getElem?_eq_getElem hlt] using h
  show (w.heap.modify g _)[g]? = _
  rw [Array.getElem?_eq_getElem (by simpa using hlt), Array.getElem_modify_self, h']
  simp

theorem add_plain (b o j : Nat) : (Addr.mk b o none).add j = ⟨b, o + j, none⟩ := by
  unfold Addr.add
  split
  · subst_vars; rfl
  · rfl

set_option maxRecDepth 20000 in
set_option maxHeartbeats 400000 in
theorem some_8 (s : ByteArray) (w : World) (_hs : s.size ≤ maxLen) :
    Calls Try.prog 12 #[.string s, .int .i64 8] w fun e w' => ∃ m : ByteArray, e = .returned (.string m) ∧ m.size = 8 ∧ Below w.heap.size w w' := by
  have hmk : ∀ w : World, (Instr.makeSlice 67 (.int .i64 8) (.int .i64 8)).run Try.prog w = .ok (.slice (some ⟨w.heap.size, 0, none⟩) 8 8) (w.alloc (.cells #[.int .u8 0, .int .u8 0, .int .u8 0, .int .u8 0, .int .u8 0, .int .u8 0, .int .u8 0, .int .u8 0] 5)) := fun _ => by kernel_rfl
  unfold maxLen at _hs
  go_enter Try.func12, Try.ntmps12
  go_wp2
  go_loopw [6] (fun i wr => ∃ (j : Nat) (L : List UInt8), j ≤ 8 ∧ i = .int .i64 j ∧ Hid (L.length = 8 ∧ RowB wr w.heap.size L ∧ Below w.heap.size w wr)) (fun i _ => 8 - (intOf i).toNat)
  case atStart => exact ⟨0, List.replicate 8 0, by omega, rfl, rfl, by unfold RowB; rw [heap_alloc_new]; rfl, (Below.refl _ _).alloc (Nat.le_refl _) _⟩
  case round =>
    obtain ⟨j, L, hj, rfl, hh⟩ := hrel
    have h8 := hh.out.1
    have hcv := run_convert_bytes_back (P := Try.prog) wr 67 9 5 ⟨w.heap.size, 0, none⟩ 8 L Try.underlying67 Try.underlying5 Try.underlying9 (fun j hj => by have := hh.out.2.1.cell (i := j) hj; rw [add_plain, Nat.zero_add]; exact this)
    rw [h8] at hcv
    by_cases h1 : j < 8
    · by_cases h2 : j < s.size
      · have c := hh.out.2.1.cell (i := j) (by omega)
        have fz := hh.out.2.1.free j
        go_wp2
        go_roundw
        case rel => exact ⟨j + 1, L.set j s[j], by omega, by go_num, by simpa using h8, hh.out.2.1.set j s[j], hh.out.2.2.setCell (by simp) _⟩
        case measure => simp [intOf]; omega
      · go_wp2
        go_ret
        exact ⟨⟨L.toArray⟩, rfl, h8, hh.out.2.2⟩
    · go_wp2
      go_ret
      exact ⟨⟨L.toArray⟩, rfl, h8, hh.out.2.2⟩

set_option maxRecDepth 20000 in
set_option maxHeartbeats 400000 in
theorem some_4 (s : ByteArray) (w : World) (_hs : s.size ≤ maxLen) :
    Calls Try.prog 12 #[.string s, .int .i64 4] w fun e w' => ∃ m : ByteArray, e = .returned (.string m) ∧ m.size = 4 ∧ Below w.heap.size w w' := by
  have hmk : ∀ w : World, (Instr.makeSlice 67 (.int .i64 4) (.int .i64 4)).run Try.prog w = .ok (.slice (some ⟨w.heap.size, 0, none⟩) 4 4) (w.alloc (.cells #[.int .u8 0, .int .u8 0, .int .u8 0, .int .u8 0] 5)) := fun _ => by kernel_rfl
  unfold maxLen at _hs
  go_enter Try.func12, Try.ntmps12
  go_wp2
  go_loopw [6] (fun i wr => ∃ (j : Nat) (L : List UInt8), j ≤ 4 ∧ i = .int .i64 j ∧ Hid (L.length = 4 ∧ RowB wr w.heap.size L ∧ Below w.heap.size w wr)) (fun i _ => 4 - (intOf i).toNat)
  case atStart => exact ⟨0, List.replicate 4 0, by omega, rfl, rfl, by unfold RowB; rw [heap_alloc_new]; rfl, (Below.refl _ _).alloc (Nat.le_refl _) _⟩
  case round =>
    obtain ⟨j, L, hj, rfl, hh⟩ := hrel
    have h8 := hh.out.1
    have hcv := run_convert_bytes_back (P := Try.prog) wr 67 9 5 ⟨w.heap.size, 0, none⟩ 4 L Try.underlying67 Try.underlying5 Try.underlying9 (fun j hj => by have := hh.out.2.1.cell (i := j) hj; rw [add_plain, Nat.zero_add]; exact this)
    rw [h8] at hcv
    by_cases h1 : j < 4
    · by_cases h2 : j < s.size
      · have c := hh.out.2.1.cell (i := j) (by omega)
        have fz := hh.out.2.1.free j
        go_wp2
        go_roundw
        case rel => exact ⟨j + 1, L.set j s[j], by omega, by go_num, by simpa using h8, hh.out.2.1.set j s[j], hh.out.2.2.setCell (by simp) _⟩
        case measure => simp [intOf]; omega
      · go_wp2
        go_ret
        exact ⟨⟨L.toArray⟩, rfl, h8, hh.out.2.2⟩
    · go_wp2
      go_ret
      exact ⟨⟨L.toArray⟩, rfl, h8, hh.out.2.2⟩

theorem some_any (s : ByteArray) (b : Nat) (w : World) (hs : s.size ≤ maxLen) (hb : b = 4 ∨ b = 8) :
    Calls Try.prog 12 #[.string s, .int .i64 b] w fun e w' => ∃ m : ByteArray, e = .returned (.string m) ∧ m.size = b ∧ Below w.heap.size w w' := by
  rcases hb with rfl | rfl
  · exact some_4 s w hs
  · exact some_8 s w hs
end Go.Proofs.Ytgaoeoijdpdjiaa
