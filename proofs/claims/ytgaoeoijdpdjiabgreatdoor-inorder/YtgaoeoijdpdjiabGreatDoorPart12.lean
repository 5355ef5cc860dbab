/-
  The program's stir over words of 32 bits. The value of a text's bytes: the program's NumberIn and the document's Value. The text of a key. The statement's own 'some': the first n bytes of a text, zeros behind its end.
-/
import Derived.Test.YtgaoeoijdpdjiabGreatDoorPart6
import Derived.Test.YtgaoeoijdpdjiabGreatDoorPart5
import Derived.Test.YtgaoeoijdpdjiabGreatDoorPart9
namespace Go.Proofs.YtgaoeoijdpdjiabGreatDoor
open Go.RowKit

set_option maxHeartbeats 4000000 in
theorem stir_32 (g : Nat) (L : List Nat) (w : World) (hr : RowK w g .u32 358 L) (hL : L.length = 8) (hW : Words 32 L) (hT : Turns32 w) (hg : 1 < g) :
    Calls Tryz.prog 293 #[.pointer (some ⟨g, 0, none⟩)] w fun e w' => e = .returned (.tuple #[]) ∧ RowK w' g .u32 358 (stirTo 32 L 8) ∧ Only g w w' := by
  have HR := hide hr
  have HL := hide hL
  have HW := hide hW
  have HT := hide hT
  clear hr hL hW hT
  go_enter Tryz.func293, Tryz.ntmps293
  go_wp2
  go_loopw [3] (fun i wr => ∃ j : Nat, j ≤ 8 ∧ i = .int .i64 j ∧ Hid (RowK wr g .u32 358 (stirTo 32 L j)) ∧ Hid (Only g w wr)) (fun i _ => 8 - (intOf i).toNat)
  case atStart => exact ⟨0, by omega, rfl, HR, Only.refl _ _⟩
  case round =>
    obtain ⟨j, hj, rfl, hr, ho⟩ := hrel
    by_cases hlt : j < 8
    · have hlen : (stirTo 32 L j).length = 8 := by rw [stirTo_length _ _ _ HL.out]
      have hwd := stirTo_words 32 L j HL.out HW.out
      have HMX := hide (fun w' h1 h2 => mix_32 g (stirTo 32 L j) w' h1 hlen hwd h2 hg)
      have HS : Hid (stirTo 32 L (j + 1) = roundW (j + 1) (mixTo 32 (stirTo 32 L j) 4)) := rfl
      have hl4 : (mixTo 32 (stirTo 32 L j) 4).length = 8 := by rw [mixTo_length]; exact hlen
      have hw4 := mixTo_words 32 (stirTo 32 L j) 4 hwd
      clear hlen hwd
      go_wp2_with fail
      refine (HMX.out _ hr.out (fun i hi => (ho.out.cell (by simp; omega)).trans (HT.out i hi))).mono ?_
      rintro e w1 ⟨rfl, hr1, ho1⟩
      clear HMX
      generalize mixTo 32 (stirTo 32 L j) 4 = K at hr1 hl4 hw4 HS
      obtain ⟨a0, a1, a2, a3, a4, a5, a6, a7, rfl⟩ := eight_of hl4
      have R1 := hide hr1
      have O1 := hide (ho.out.trans ho1)
      have c0 : w1.cell? ⟨g, 0, none⟩ = some (.int .u32 (a0 : Int)) := hr1.cell (i := 0) (by simp)
      have c4 : w1.cell? ⟨g, 4, none⟩ = some (.int .u32 (a4 : Int)) := hr1.cell (i := 4) (by simp)
      have c5 : w1.cell? ⟨g, 5, none⟩ = some (.int .u32 (a5 : Int)) := hr1.cell (i := 5) (by simp)
      have c6 : w1.cell? ⟨g, 6, none⟩ = some (.int .u32 (a6 : Int)) := hr1.cell (i := 6) (by simp)
      have c7 : w1.cell? ⟨g, 7, none⟩ = some (.int .u32 (a7 : Int)) := hr1.cell (i := 7) (by simp)
      have fz : ∀ i, w1.frozen? ⟨g, i, none⟩ = false := fun i => hr1.free i
      have x0 : a0 < 4294967296 := by have := hw4 a0 (by simp); simpa using this
      have HXO : Hid (bits BinOp.xor IntKind.u32 (a0 : Int) ((j : Int) + 1) = ((a0 ^^^ (j + 1) : Nat) : Int)) := u32_xor_nat a0 (j + 1) x0 (by omega)
      clear hr1 ho1 hl4 hw4
      go_wp2
      go_region
      go_wp2
      go_region
      go_wp2
      rw [HXO.out]
      go_roundw
      case rel =>
        refine ⟨j + 1, by omega, by go_num, ?_, ?_⟩
        · have h := ((((R1.out.set 4 a5).set 5 a6).set 6 a7).set 7 a4).set 0 (a0 ^^^ (j + 1))
          have e : ((((([a0, a1, a2, a3, a4, a5, a6, a7].set 4 a5).set 5 a6).set 6 a7).set 7 a4).set 0 (a0 ^^^ (j + 1))) = roundW (j + 1) [a0, a1, a2, a3, a4, a5, a6, a7] := by simp only [List.set_cons_zero, List.set_cons_succ, roundW]
          rw [e, ← HS.out] at h
          exact h
        · unfold Hid
          repeat (first | refine Only.drew ?_ | refine Only.setCell ?_ _ _)
          exact O1.out
      case measure => simp [intOf]; omega
    · obtain rfl : j = 8 := by omega
      go_wp2
      go_end0
      exact ⟨rfl, hr.out, ho.out⟩
end Go.Proofs.YtgaoeoijdpdjiabGreatDoor

namespace Go.Proofs.YtgaoeoijdpdjiabGreatDoor
open Go.RowKit

theorem i64_or_nat (a b : Nat) (ha : a < 9223372036854775808) (hb : b < 9223372036854775808) : bits .or .i64 (a : Int) (b : Int) = ((a ||| b : Nat) : Int) := by
  have hx : a ||| b < 2 ^ 63 := Nat.or_lt_two_pow (by omega) (by omega)
  show IntKind.i64.wrap ((BitVec.ofInt 64 (a : Int) ||| BitVec.ofInt 64 (b : Int)).toNat : Int) = _
  rw [BitVec.toNat_or, ofInt_u64 a (by omega), ofInt_u64 b (by omega), IntKind.wrap_i64]
  omega
theorem or_byte (v c : Nat) (hv : v < 16777216) (hc : c < 256) : bits BinOp.or IntKind.i64 ((v : Int) * 256) (c : Int) = ((v * 256 + c : Nat) : Int) := by
  have h := i64_or_nat (v * 256) c (by omega) (by omega)
  have e : v * 256 ||| c = v * 256 + c := by
    have := Nat.two_pow_add_eq_or_of_lt (i := 8) hc v
    rw [Nat.mul_comm]
    exact this.symm
  rw [e] at h
  rw [Int.natCast_mul] at h
  exact h
theorem valN_small (s : ByteArray) (i j : Nat) (h : j ≤ 3) : valN s i j < 16777216 := by
  have h0 := byt_lt s (i + 0)
  have h1 := byt_lt s (i + 1)
  have h2 := byt_lt s (i + 2)
  have hc : j = 0 ∨ j = 1 ∨ j = 2 ∨ j = 3 := by omega
  rcases hc with rfl | rfl | rfl | rfl <;> simp only [valN] <;> omega

set_option maxHeartbeats 400000 in
theorem numberIn_any (t : ByteArray) (w : World) (h1 : t.size ≤ 4) (h2 : 4 ≤ t.size) :
    Calls Tryz.prog 156 #[.string t] w fun e w' => e = .returned (.int .i64 ((valN t 0 4 : Nat) : Int)) ∧ w' = w := by
  have HE : Hid (valN t 0 t.size = valN t 0 4) := by
    have e : t.size = 4 := by omega
    show _ = _
    rw [e]
  clear h2
  go_enter Tryz.func156, Tryz.ntmps156
  go_wp2
  go_loop [3, 7] (fun v i => ∃ j : Nat, j ≤ t.size ∧ i = .int .i64 j ∧ v = .int .i64 ((valN t 0 j : Nat) : Int)) (fun _ i => t.size - (intOf i).toNat)
  case atStart => exact ⟨0, by omega, rfl, rfl⟩
  case round =>
    obtain ⟨j, hj, rfl, rfl⟩ := hrel
    by_cases hlt : j < t.size
    · have hv : valN t 0 j < 16777216 := valN_small t 0 j (by omega)
      have hc := byt_lt t j
      have hby : byt t j = (t[j]'hlt).toNat := byt_of t j hlt
      have HS : Hid (valN t 0 (j + 1) = valN t 0 j * 256 + byt t j) := by show _ = _; rw [valN, Nat.zero_add]
      have HO := hide (or_byte (valN t 0 j) (byt t j) hv hc)
      generalize valN t 0 j = v at hv HS HO ⊢
      rw [hby] at HS HO hc
      have hwb : wrap64 ((t[j]'hlt).toNat : Int) = ((t[j]'hlt).toNat : Int) := IntWalk.wrap64_in _ ⟨by omega, by omega⟩
      clear hby
      go_wp2
      go_round
      case rel => exact ⟨j + 1, by omega, by go_num, by rw [HS.out, ← HO.out]⟩
      case measure => simp [intOf]; omega
    · obtain rfl : j = t.size := by omega
      go_wp2
      go_ret
      exact ⟨congrArg (fun n : Nat => Ending.returned (Value.int .i64 (n : Int))) HE.out, rfl⟩

end Go.Proofs.YtgaoeoijdpdjiabGreatDoor

namespace Go.Proofs.YtgaoeoijdpdjiabGreatDoor
open Go.RowKit

/-- The key's text of a set. -/
def headS (k b x t l : Int) : ByteArray := numB 1 k ++ numB 1 b ++ numB 1 x ++ numB 1 t ++ numB 1 l

theorem byt_one (v : Int) (h0 : 0 ≤ v) (h1 : v < 256) : ((byt (numB 1 v) 0 : Nat) : Int) = v := by
  rw [byt_num 1 v 0 (by decide)]
  simp
  omega

theorem ext_mid (a r p : ByteArray) : (a ++ r ++ p).extract a.size (a.size + r.size) = r := by
  refine byt_ext _ _ ?_ ?_
  · simp only [ByteArray.size_append, ByteArray.size_extract]; omega
  · intro k hk
    simp only [ByteArray.size_append, ByteArray.size_extract] at hk
    rw [byt_part _ _ _ k (by simp only [ByteArray.size_append]; omega) (by omega), byt_left _ _ _ (by simp only [ByteArray.size_append]; omega), byt_right _ _ _ (by omega), Nat.add_sub_cancel_left]
theorem ext_end (a r p : ByteArray) : (a ++ r ++ p).extract (a.size + r.size) (a ++ r ++ p).size = p := by
  refine byt_ext _ _ ?_ ?_
  · simp only [ByteArray.size_append, ByteArray.size_extract]; omega
  · intro k hk
    simp only [ByteArray.size_append, ByteArray.size_extract] at hk
    rw [byt_part _ _ _ k (Nat.le_refl _) (by simp only [ByteArray.size_append]; omega), byt_right _ _ _ (by simp only [ByteArray.size_append]; omega)]
    congr 1
    simp only [ByteArray.size_append]
    omega
theorem headS_size (k b x t l : Int) : (headS k b x t l).size = 5 := by simp only [headS, ByteArray.size_append, numB_size]
theorem head_at (k b x t l : Int) (z : ByteArray) (h0 : 0 ≤ k ∧ k < 256) (h1 : 0 ≤ b ∧ b < 256) (h2 : 0 ≤ x ∧ x < 256) (h3 : 0 ≤ t ∧ t < 256) (h4 : 0 ≤ l ∧ l < 256) : ((byt (headS k b x t l ++ z) 0 : Nat) : Int) = k ∧ ((byt (headS k b x t l ++ z) 1 : Nat) : Int) = b ∧ ((byt (headS k b x t l ++ z) 2 : Nat) : Int) = x ∧ ((byt (headS k b x t l ++ z) 3 : Nat) : Int) = t ∧ ((byt (headS k b x t l ++ z) 4 : Nat) : Int) = l := by
  have hs := headS_size k b x t l
  refine ⟨?_, ?_, ?_, ?_, ?_⟩ <;> rw [byt_left _ _ _ (by omega), headS]
  · rw [byt_left _ _ _ (by simp only [ByteArray.size_append, numB_size]; omega), byt_left _ _ _ (by simp only [ByteArray.size_append, numB_size]; omega), byt_left _ _ _ (by simp only [ByteArray.size_append, numB_size]; omega), byt_left _ _ _ (by simp only [numB_size]; omega), byt_one k h0.1 h0.2]
  · rw [byt_left _ _ _ (by simp only [ByteArray.size_append, numB_size]; omega), byt_left _ _ _ (by simp only [ByteArray.size_append, numB_size]; omega), byt_left _ _ _ (by simp only [ByteArray.size_append, numB_size]; omega), byt_right _ _ _ (by simp only [numB_size]; omega), numB_size, byt_one b h1.1 h1.2]
  · rw [byt_left _ _ _ (by simp only [ByteArray.size_append, numB_size]; omega), byt_left _ _ _ (by simp only [ByteArray.size_append, numB_size]; omega), byt_right _ _ _ (by simp only [ByteArray.size_append, numB_size]; omega), ByteArray.size_append, numB_size, numB_size, byt_one x h2.1 h2.2]
  · rw [byt_left _ _ _ (by simp only [ByteArray.size_append, numB_size]; omega), byt_right _ _ _ (by simp only [ByteArray.size_append, numB_size]; omega), ByteArray.size_append, ByteArray.size_append, numB_size, numB_size, numB_size, byt_one t h3.1 h3.2]
  · rw [byt_right _ _ _ (by simp only [ByteArray.size_append, numB_size]; omega), ByteArray.size_append, ByteArray.size_append, ByteArray.size_append, numB_size, numB_size, numB_size, numB_size, byt_one l h4.1 h4.2]
end Go.Proofs.YtgaoeoijdpdjiabGreatDoor

namespace Go.Proofs.YtgaoeoijdpdjiabGreatDoor
open Go.RowKit

theorem makeU8g (k : Nat) (hk : k ≤ 1000) (w : World) : (Instr.makeSlice 170 (.int .i64 k) (.int .i64 k)).run Tryz.prog w = .ok (.slice (some ⟨w.heap.size, 0, none⟩) k k) (w.alloc (.cells ((List.replicate k 0).map (fun n => Value.int .u8 ((n : Nat) : Int))).toArray 5)) := by
  obtain ⟨i0, hi, hz0, hz1, hz2⟩ := info_parts infoU8
  have h := run_make (P := Tryz.prog) w 170 5 i0 (.int .u8 0) Tryz.underlying170 hi hz0 .i64 .i64 k k (by omega) (by omega) (by rw [hz2]; omega) (by omega)
  rw [hz1, Nat.mul_one, Int.toNat_natCast, madeU8] at h
  exact h

/-- The first n bytes, of which j are laid. -/
def someJ (s : ByteArray) (n j : Nat) : List Nat := (List.range n).map (fun i => if i < j then byt s i else 0)
def someL (s : ByteArray) (n : Nat) : List Nat := (List.range n).map (fun i => byt s i)
def someB (s : ByteArray) (n : Nat) : ByteArray := ⟨((someL s n).map UInt8.ofNat).toArray⟩
theorem someB_size (s : ByteArray) (n : Nat) : (someB s n).size = n := by simp [someB, ByteArray.size, someL]
theorem someJ_length (s : ByteArray) (n j : Nat) : (someJ s n j).length = n := by simp [someJ]
theorem someJ_zero (s : ByteArray) (n : Nat) : someJ s n 0 = List.replicate n 0 := by
  apply List.ext_getElem
  · simp [someJ]
  · intro i h1 h2; simp [someJ]
theorem someJ_step (s : ByteArray) (n j : Nat) : (someJ s n j).set j (byt s j) = someJ s n (j + 1) := by
  apply List.ext_getElem
  · simp [someJ]
  · intro i h1 h2
    rw [List.getElem_set]
    simp only [someJ, List.getElem_map, List.getElem_range]
    by_cases e : j = i
    · subst e; simp
    · rw [if_neg e]
      by_cases hi : i < j
      · rw [if_pos hi, if_pos (by omega)]
      · rw [if_neg hi, if_neg (by omega)]
theorem byt_end (s : ByteArray) (k : Nat) (h : s.size ≤ k) : byt s k = 0 := by
  unfold byt
  rw [List.getD_eq_getElem?_getD, List.getElem?_eq_none (by rw [List.length_map]; exact h)]
  rfl
theorem someJ_all (s : ByteArray) (n j : Nat) (h : n ≤ j ∨ s.size ≤ j) : someJ s n j = someL s n := by
  unfold someJ someL
  apply List.map_congr_left
  intro i hi
  have hi := List.mem_range.1 hi
  by_cases hlt : i < j
  · rw [if_pos hlt]
  · rw [if_neg hlt]
    rcases h with h | h
    · omega
    · rw [byt_end s i (by omega)]
theorem someL_lt (s : ByteArray) (n : Nat) : ∀ d ∈ someL s n, d < 256 := by
  intro d hd
  obtain ⟨i, _, rfl⟩ := List.mem_map.1 hd
  exact byt_lt s i

set_option maxRecDepth 20000 in
set_option maxHeartbeats 1000000 in
theorem someN_any (s : ByteArray) (n : Nat) (w : World) (hs : s.size ≤ maxLen) (hn : n ≤ 1000) :
    Calls Tryz.prog 49 #[.string s, .int .i64 n] w fun e w' => e = .returned (.string (someB s n)) ∧ Below w.heap.size w w' := by
  have hmk := makeU8g n hn
  unfold maxLen at hs
  go_enter Tryz.func49, Tryz.ntmps49
  go_wp2
  clear hmk
  go_loopw [6] (fun i wr => ∃ j : Nat, j ≤ n ∧ i = .int .i64 j ∧ Hid (RowK wr w.heap.size .u8 5 (someJ s n j)) ∧ Hid (Below w.heap.size w wr)) (fun i _ => n - (intOf i).toNat)
  case atStart =>
    refine ⟨0, Nat.zero_le _, rfl, ?_, (Below.refl _ _).alloc (Nat.le_refl _) _⟩
    show RowK _ _ _ _ _
    unfold RowK
    rw [heap_alloc_new, someJ_zero]
    simp
  case round =>
    obtain ⟨j, hj, rfl, hr, hb⟩ := hrel
    by_cases h1 : j < n
    · by_cases h2 : j < s.size
      · have hby : byt s j = (s[j]'h2).toNat := byt_of s j h2
        have HS := hide (someJ_step s n j)
        have hl := someJ_length s n j
        have hc := hr.out.cell (i := j) (by omega)
        have hf := hr.out.free j
        clear hl
        go_wp2
        go_roundw
        case rel =>
          refine ⟨j + 1, by omega, by go_num, ?_, hb.out.setCell (Nat.le_refl _) _⟩
          have := hr.out.set j (byt s j)
          rw [HS.out, hby] at this
          exact this
        case measure => simp [intOf]; omega
      · have HT := textRow wr w.heap.size n (someL s n) (someL_lt s n) (by rw [← someJ_all s n j (.inr (by omega))]; exact hr.out) (by simp [someL])
        go_wp2
        go_ret
        exact ⟨rfl, hb.out⟩
    · obtain rfl : j = n := by omega
      have HT := textRow wr w.heap.size j (someL s j) (someL_lt s j) (by rw [← someJ_all s j j (.inl (by omega))]; exact hr.out) (by simp [someL])
      go_wp2
      go_ret
      exact ⟨rfl, hb.out⟩
end Go.Proofs.YtgaoeoijdpdjiabGreatDoor
