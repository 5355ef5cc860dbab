/-
  A whole number in so many bytes, the highest first: the program's Number.
-/
import Derived.Test.YtgaoeoijdpdjiaaDBase
import Derived.WalkSpells
import Derived.WalkLawsBesides
import Derived.Handy
import Derived.Laws.MakeOwn
namespace Go.Proofs.Ytgaoeoijdpdjiaa
open Go.RowKit

/-- The k lowest bytes of a number, the highest first. -/
def numL : Nat → Int → List Nat
  | 0, _ => []
  | k + 1, v => (v / 256 ^ k % 256).toNat :: numL k v
theorem numL_length (k : Nat) (v : Int) : (numL k v).length = k := by induction k with | zero => rfl | succ k ih => simp [numL, ih]
theorem numL_lt (k : Nat) (v : Int) : ∀ d ∈ numL k v, d < 256 := by
  induction k with
  | zero => intro d h; cases h
  | succ k ih =>
    intro d h
    rcases List.mem_cons.1 h with rfl | h
    · omega
    · exact ih d h
/-- A number in k bytes. -/
def numB (k : Nat) (v : Int) : ByteArray := ⟨((numL k v).map UInt8.ofNat).toArray⟩
theorem numB_size (k : Nat) (v : Int) : (numB k v).size = k := by simp [numB, ByteArray.size, numL_length]

theorem infoU8 : (Try.prog.info? 5).map (fun i => (i.zero, i.size, i.bytes)) = some (some (.int .u8 0), 1, 1) := by kernel_rfl
theorem madeU8 (n : Nat) : madeCells (Value.int .u8 0).cells n = ((List.replicate n 0).map (fun n => Value.int .u8 ((n : Nat) : Int))).toArray := by
  apply Array.ext
  · simp [size_madeCells]
  · intro i h1 h2
    simp [madeCells, Value.cells, Nat.mod_one]
theorem makeU8 (k : Nat) (hk : k ≤ 8) (w : World) : (Instr.makeSlice 67 (.int .i64 k) (.int .i64 k)).run Try.prog w = .ok (.slice (some ⟨w.heap.size, 0, none⟩) k k) (w.alloc (.cells ((List.replicate k 0).map (fun n => Value.int .u8 ((n : Nat) : Int))).toArray 5)) := by
  obtain ⟨i0, hi, hz0, hz1, hz2⟩ := info_parts infoU8
  have h := run_make (P := Try.prog) w 67 5 i0 (.int .u8 0) Try.underlying67 hi hz0 .i64 .i64 k k (by omega) (by omega) (by rw [hz2]; omega) (by omega)
  rw [hz1, Nat.mul_one, Int.toNat_natCast, madeU8] at h
  exact h

/-- The text of a row of bytes. -/
theorem textRow (w : World) (g k : Nat) (D : List Nat) (hD : ∀ d ∈ D, d < 256) (h : RowK w g .u8 5 D) (hk : D.length = k) :
    (convert 67 9 (.slice (some ⟨g, 0, none⟩) k k)).run Try.prog w = .ok (.string ⟨(D.map UInt8.ofNat).toArray⟩) w := by
  have hl : (D.map UInt8.ofNat).length = k := by simp [hk]
  have hc := run_convert_bytes_back (P := Try.prog) w 67 9 5 ⟨g, 0, none⟩ k (D.map UInt8.ofNat) Try.underlying67 Try.underlying5 Try.underlying9 (by
    intro j hj
    have hj' : j < D.length := by simpa using hj
    have hadd : (Addr.mk g 0 none).add j = ⟨g, j, none⟩ := by unfold Addr.add; split <;> simp_all
    rw [hadd, h.cell hj']
    have hd := hD D[j] (List.getElem_mem hj')
    simp [at0, hj', Nat.mod_eq_of_lt hd])
  rw [hl] at hc
  exact hc

theorem numRow_step (k j : Nat) (v : Int) (h : j < k) : (List.replicate (j + 1) 0 ++ numL (k - (j + 1)) v).set j (v / 256 ^ (k - (j + 1)) % 256).toNat = List.replicate j 0 ++ numL (k - j) v := by
  rw [show k - j = (k - (j + 1)) + 1 by omega, numL, List.replicate_succ', List.append_assoc, List.set_append_right _ _ (by simp)]
  simp
theorem num_div (k j : Nat) (v : Int) (h : j < k) : v / 256 ^ (k - (j + 1)) / 256 = v / 256 ^ (k - j) := by
  rw [Int.ediv_ediv_of_nonneg (Int.le_of_lt (Int.pow_pos (by decide))), show k - j = (k - (j + 1)) + 1 by omega, Int.pow_succ]

set_option maxHeartbeats 1000000 in
theorem number_any (k : Nat) (v : Int) (w : World) (hk : k ≤ 8) :
    Calls Try.prog 63 #[.int .i64 v, .int .i64 k] w fun e w' => e = .returned (.string (numB k v)) ∧ Below w.heap.size w w' := by
  have hmk := makeU8 k hk
  go_enter Try.func63, Try.ntmps63
  go_wp2
  clear hmk
  go_loopw [0, 6] (fun t i wr => ∃ j : Nat, j ≤ k ∧ i = .int .i64 ((j : Int) - 1) ∧ t = .int .i64 (v / 256 ^ (k - j)) ∧ Hid (RowK wr w.heap.size .u8 5 (List.replicate j 0 ++ numL (k - j) v)) ∧ Hid (Below w.heap.size w wr)) (fun _ i _ => (intOf i + 1).toNat)
  case atStart =>
    refine ⟨k, Nat.le_refl _, rfl, by simp, ?_, (Below.refl _ _).alloc (Nat.le_refl _) _⟩
    show RowK _ _ _ _ _
    unfold RowK
    rw [heap_alloc_new]
    simp [numL]
  case round =>
    obtain ⟨j, hj, rfl, rfl, hr, hb⟩ := hrel
    by_cases h0 : 0 < j
    · obtain ⟨j, rfl⟩ : ∃ i, j = i + 1 := ⟨j - 1, by omega⟩
      have HD := hide (num_div k j v (by omega))
      have HS := hide (numRow_step k j v (by omega))
      have hl : (List.replicate (j + 1) 0 ++ numL (k - (j + 1)) v).length = k := by simp [numL_length]; omega
      have hc := hr.out.cell (i := j) (by omega)
      have hf := hr.out.free j
      generalize v / 256 ^ (k - (j + 1)) = q at HD HS ⊢
      clear hl
      go_wp2
      go_roundw
      case rel =>
        refine ⟨j, by omega, by go_num, ?_, ?_, ?_⟩
        · rw [← HD.out]
        · have := hr.out.set j (q % 256).toNat
          rw [HS.out, Int.toNat_of_nonneg (Int.emod_nonneg _ (by decide))] at this
          exact this
        · exact hb.out.setCell (Nat.le_refl _) _
      case measure => simp [intOf]
    · obtain rfl : j = 0 := by omega
      have HT := textRow wr w.heap.size k (numL k v) (numL_lt k v) hr.out (numL_length k v)
      go_wp2
      go_ret
      exact ⟨rfl, hb.out⟩

end Go.Proofs.Ytgaoeoijdpdjiaa
