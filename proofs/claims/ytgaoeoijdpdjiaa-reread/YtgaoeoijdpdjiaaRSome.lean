/-
  The statement's own 'some': the first n bytes of a text, zeros behind its end.
-/
import Derived.Test.YtgaoeoijdpdjiaaRSealM
namespace Go.Proofs.Ytgaoeoijdpdjiaa
open Go.RowKit

theorem makeU8g (k : Nat) (hk : k ≤ 1000) (w : World) : (Instr.makeSlice 67 (.int .i64 k) (.int .i64 k)).run Try.prog w = .ok (.slice (some ⟨w.heap.size, 0, none⟩) k k) (w.alloc (.cells ((List.replicate k 0).map (fun n => Value.int .u8 ((n : Nat) : Int))).toArray 5)) := by
  obtain ⟨i0, hi, hz0, hz1, hz2⟩ := info_parts infoU8
  have h := run_make (P := Try.prog) w 67 5 i0 (.int .u8 0) Try.underlying67 hi hz0 .i64 .i64 k k (by omega) (by omega) (by rw [hz2]; omega) (by omega)
  rw [hz1, Nat.mul_one, Int.toNat_natCast, madeU8] at h
  exact h

/-- The first n bytes, of which j are laid. -/
def someJ (s : ByteArray) (n j : Nat) : List Nat := (List.range n).map (fun i => if i < j then byt s i else 0)
def someL (s : ByteArray) (n : Nat) : List Nat := (List.range n).map (fun i => byt s i)
def someB (s : ByteArray) (n : Nat) : ByteArray := ⟨((someL s n).map UInt8.ofNat).toArray⟩
theorem someB_size (s : ByteArray) (n : Nat) : (someB s n).size = n := by simp [someB, ByteArray.size, someL]
theorem someJ_length (s : ByteArray) (n j : Nat) : (someJ s n j).length = n := by simp [someJ]
theorem someJ_zero (s : ByteArray) (n : Nat) : someJ s n 0 = List.replicate n 0 := by
  apply List.ext_getElem
  · simp [someJ]
  · intro i h1 h2; simp [someJ]
theorem someJ_step (s : ByteArray) (n j : Nat) : (someJ s n j).set j (byt s j) = someJ s n (j + 1) := by
  apply List.ext_getElem
  · simp [someJ]
  · intro i h1 h2
    rw [List.getElem_set]
    simp only [someJ, List.getElem_map, List.getElem_range]
    by_cases e : j = i
    · subst e; simp
    · rw [if_neg e]
      by_cases hi : i < j
      · rw [if_pos hi, if_pos (by omega)]
      · rw [if_neg hi, if_neg (by omega)]
theorem byt_end (s : ByteArray) (k : Nat) (h : s.size ≤ k) : byt s k = 0 := by
  unfold byt
  rw [List.getD_eq_getElem?_getD, List.getElem?_eq_none (by rw [List.length_map]; exact h)]
  rfl
theorem someJ_all (s : ByteArray) (n j : Nat) (h : n ≤ j ∨ s.size ≤ j) : someJ s n j = someL s n := by
  unfold someJ someL
  apply List.map_congr_left
  intro i hi
  have hi := List.mem_range.1 hi
  by_cases hlt : i < j
  · rw [if_pos hlt]
  · rw [if_neg hlt]
    rcases h with h | h
    · omega
    · rw [byt_end s i (by omega)]
theorem someL_lt (s : ByteArray) (n : Nat) : ∀ d ∈ someL s n, d < 256 := by
  intro d hd
  obtain ⟨i, _, rfl⟩ := List.mem_map.1 hd
  exact byt_lt s i

set_option maxRecDepth 20000 in
set_option maxHeartbeats 1000000 in
theorem someN_any (s : ByteArray) (n : Nat) (w : World) (hs : s.size ≤ maxLen) (hn : n ≤ 1000) :
    Calls Try.prog 12 #[.string s, .int .i64 n] w fun e w' => e = .returned (.string (someB s n)) ∧ Below w.heap.size w w' := by
  have hmk := makeU8g n hn
  unfold maxLen at hs
  go_enter Try.func12, Try.ntmps12
  go_wp2
  clear hmk
  go_loopw [6] (fun i wr => ∃ j : Nat, j ≤ n ∧ i = .int .i64 j ∧ Hid (RowK wr w.heap.size .u8 5 (someJ s n j)) ∧ Hid (Below w.heap.size w wr)) (fun i _ => n - (intOf i).toNat)
  case atStart =>
    refine ⟨0, Nat.zero_le _, rfl, ?_, (Below.refl _ _).alloc (Nat.le_refl _) _⟩
    show RowK _ _ _ _ _
    unfold RowK
    rw [heap_alloc_new, someJ_zero]
    simp
  case round =>
    obtain ⟨j, hj, rfl, hr, hb⟩ := hrel
    by_cases h1 : j < n
    · by_cases h2 : j < s.size
      · have hby : byt s j = (s[j]'h2).toNat := byt_of s j h2
        have HS := hide (someJ_step s n j)
        have hl := someJ_length s n j
        have hc := hr.out.cell (i := j) (by omega)
        have hf := hr.out.free j
        clear hl
        go_wp2
        go_roundw
        case rel =>
          refine ⟨j + 1, by omega, by go_num, ?_, hb.out.setCell (Nat.le_refl _) _⟩
          have := hr.out.set j (byt s j)
          rw [HS.out, hby] at this
          exact this
        case measure => simp [intOf]; omega
      · have HT := textRow wr w.heap.size n (someL s n) (someL_lt s n) (by rw [← someJ_all s n j (.inr (by omega))]; exact hr.out) (by simp [someL])
        go_wp2
        go_ret
        exact ⟨rfl, hb.out⟩
    · obtain rfl : j = n := by omega
      have HT := textRow wr w.heap.size j (someL s j) (someL_lt s j) (by rw [← someJ_all s j j (.inl (by omega))]; exact hr.out) (by simp [someL])
      go_wp2
      go_ret
      exact ⟨rfl, hb.out⟩
end Go.Proofs.Ytgaoeoijdpdjiaa
