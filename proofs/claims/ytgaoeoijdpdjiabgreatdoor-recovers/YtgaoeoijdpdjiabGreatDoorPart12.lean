/-
  The value of a text's bytes: the program's NumberIn and the document's Value. The program's Seal. sets.Measure and the document's sizes, at every set. The statement's own 'some': the first n bytes of a text, zeros behind its end.
-/
import Derived.Test.YtgaoeoijdpdjiabGreatDoorPart8
import Derived.Test.YtgaoeoijdpdjiabGreatDoorPart7
import Derived.Test.YtgaoeoijdpdjiabGreatDoorPart2
import Derived.Test.YtgaoeoijdpdjiabGreatDoorPart9
import Derived.Test.YtgaoeoijdpdjiabGreatDoorPart11
import Derived.Test.YtgaoeoijdpdjiabGreatDoorPart4
namespace Go.Proofs.YtgaoeoijdpdjiabGreatDoor
open Go.RowKit
theorem i64_or_nat (a b : Nat) (ha : a < 9223372036854775808) (hb : b < 9223372036854775808) : bits .or .i64 (a : Int) (b : Int) = ((a ||| b : Nat) : Int) := by
  have hx : a ||| b < 2 ^ 63 := Nat.or_lt_two_pow (by omega) (by omega)
  show IntKind.i64.wrap ((BitVec.ofInt 64 (a : Int) ||| BitVec.ofInt 64 (b : Int)).toNat : Int) = _
  rw [BitVec.toNat_or, ofInt_u64 a (by omega), ofInt_u64 b (by omega), IntKind.wrap_i64]
  omega
theorem or_byte (v c : Nat) (hv : v < 16777216) (hc : c < 256) : bits BinOp.or IntKind.i64 ((v : Int) * 256) (c : Int) = ((v * 256 + c : Nat) : Int) := by
  have h := i64_or_nat (v * 256) c (by omega) (by omega)
  have e : v * 256 ||| c = v * 256 + c := by
    have := Nat.two_pow_add_eq_or_of_lt (i := 8) hc v
    rw [Nat.mul_comm]
    exact this.symm
  rw [e] at h
  rw [Int.natCast_mul] at h
  exact h
theorem valN_small (s : ByteArray) (i j : Nat) (h : j ≤ 3) : valN s i j < 16777216 := by
  have h0 := byt_lt s (i + 0)
  have h1 := byt_lt s (i + 1)
  have h2 := byt_lt s (i + 2)
  have hc : j = 0 ∨ j = 1 ∨ j = 2 ∨ j = 3 := by omega
  rcases hc with rfl | rfl | rfl | rfl <;> simp only [valN] <;> omega
set_option maxHeartbeats 400000 in
theorem numberIn_any (t : ByteArray) (w : World) (h1 : t.size ≤ 4) (h2 : 4 ≤ t.size) :
    Calls Tryz.prog 156 #[.string t] w fun e w' => e = .returned (.int .i64 ((valN t 0 4 : Nat) : Int)) ∧ w' = w := by
  have HE : Hid (valN t 0 t.size = valN t 0 4) := by
    have e : t.size = 4 := by omega
    show _ = _
    rw [e]
  clear h2
  go_enter Tryz.func156, Tryz.ntmps156
  go_wp2
  go_loop [3, 7] (fun v i => ∃ j : Nat, j ≤ t.size ∧ i = .int .i64 j ∧ v = .int .i64 ((valN t 0 j : Nat) : Int)) (fun _ i => t.size - (intOf i).toNat)
  case atStart => exact ⟨0, by omega, rfl, rfl⟩
  case round =>
    obtain ⟨j, hj, rfl, rfl⟩ := hrel
    by_cases hlt : j < t.size
    · have hv : valN t 0 j < 16777216 := valN_small t 0 j (by omega)
      have hc := byt_lt t j
      have hby : byt t j = (t[j]'hlt).toNat := byt_of t j hlt
      have HS : Hid (valN t 0 (j + 1) = valN t 0 j * 256 + byt t j) := by show _ = _; rw [valN, Nat.zero_add]
      have HO := hide (or_byte (valN t 0 j) (byt t j) hv hc)
      generalize valN t 0 j = v at hv HS HO ⊢
      rw [hby] at HS HO hc
      have hwb : wrap64 ((t[j]'hlt).toNat : Int) = ((t[j]'hlt).toNat : Int) := IntWalk.wrap64_in _ ⟨by omega, by omega⟩
      clear hby
      go_wp2
      go_round
      case rel => exact ⟨j + 1, by omega, by go_num, by rw [HS.out, ← HO.out]⟩
      case measure => simp [intOf]; omega
    · obtain rfl : j = t.size := by omega
      go_wp2
      go_ret
      exact ⟨congrArg (fun n : Nat => Ending.returned (Value.int .i64 (n : Int))) HE.out, rfl⟩
end Go.Proofs.YtgaoeoijdpdjiabGreatDoor

namespace Go.Proofs.YtgaoeoijdpdjiabGreatDoor
open Go.RowKit
theorem addR (y z : ByteArray) (hy : y.size ≤ 1000) (hz : z.size ≤ 1000) (w : World) : (Op.stringOp .add y z).run Tryz.prog w = .ok (.string (y ++ z)) w := run_string_add w _ _ (by omega) (by omega)
theorem rright_any (q b : Int) (d : ByteArray) (w : World) :
    Calls Tryz.prog 303 #[.agg #[.int .i64 q, .int .i64 b, .string d]] w fun e w' => e = .returned (.bool (decide (RecR q b d))) ∧ Below w.heap.size w w' := by
  by_cases h1 : 1 ≤ q
  · by_cases h2 : q ≤ 2147483647
    · by_cases h3 : 0 ≤ b
      · by_cases h4 : b ≤ 4096
        · by_cases h5 : d.size = 8
          · rw [decide_eq_true (show RecR q b d from ⟨h1, h2, h3, h4, h5⟩)]
            have hd : (((d.size : Nat) : Int) == 8) = true := by rw [h5]; rfl
            clear h5
            go_enter Tryz.func303, Tryz.ntmps303
            go_wp2
            go_ret
            exact ⟨rfl, (Below.refl _ _).alloc (Nat.le_refl _) _⟩
          · rw [decide_eq_false (show ¬ RecR q b d from fun h => h5 h.2.2.2.2)]
            have hd : (((d.size : Nat) : Int) == 8) = false := by simp; omega
            clear h5
            go_enter Tryz.func303, Tryz.ntmps303
            go_wp2
            go_ret
            exact ⟨rfl, (Below.refl _ _).alloc (Nat.le_refl _) _⟩
        · rw [decide_eq_false (show ¬ RecR q b d from fun h => h4 h.2.2.2.1)]
          go_enter Tryz.func303, Tryz.ntmps303
          go_wp2
          go_ret
          exact ⟨rfl, (Below.refl _ _).alloc (Nat.le_refl _) _⟩
      · rw [decide_eq_false (show ¬ RecR q b d from fun h => h3 h.2.2.1)]
        go_enter Tryz.func303, Tryz.ntmps303
        go_wp2
        go_ret
        exact ⟨rfl, (Below.refl _ _).alloc (Nat.le_refl _) _⟩
    · rw [decide_eq_false (show ¬ RecR q b d from fun h => h2 h.2.1)]
      go_enter Tryz.func303, Tryz.ntmps303
      go_wp2
      go_ret
      exact ⟨rfl, (Below.refl _ _).alloc (Nat.le_refl _) _⟩
  · rw [decide_eq_false (show ¬ RecR q b d from fun h => h1 h.1)]
    go_enter Tryz.func303, Tryz.ntmps303
    go_wp2
    go_ret
    exact ⟨rfl, (Below.refl _ _).alloc (Nat.le_refl _) _⟩
theorem sumR (s : ByteArray) (w : World) (hs : s.size ≤ 1000) : Calls Tryz.prog 257 #[.string s] w fun e w' => e = .returned (.int .i64 (sumV s)) ∧ w' = w := sum_any s w (by unfold maxLen; omega)
theorem seal_no (q b : Int) (d : ByteArray) (w : World) (h : ¬ RecR q b d) :
    Calls Tryz.prog 256 #[.agg #[.int .i64 q, .int .i64 b, .string d]] w fun e w' => e = .returned (.tuple #[.string ⟨#[]⟩, .int .i64 2]) ∧ Below w.heap.size w w' := by
  have HR := hide (fun V : World => rright_any q b d V)
  rw [decide_eq_false h] at HR
  clear h
  go_enter Tryz.func256, Tryz.ntmps256
  go_wp2_with fail
  refine (HR.out _).mono ?_
  rintro e w1 ⟨rfl, hb1⟩
  have B1 := hide hb1
  clear hb1 HR
  go_wp2
  go_ret2
  exact ⟨rfl, ((Below.refl w.heap.size w).alloc (Nat.le_refl _) _).trans (B1.out.mono (by simp))⟩
set_option maxRecDepth 20000 in
set_option maxHeartbeats 2000000 in
theorem seal_yes (q b : Int) (d : ByteArray) (w : World) (h : RecR q b d) :
    Calls Tryz.prog 256 #[.agg #[.int .i64 q, .int .i64 b, .string d]] w fun e w' => e = .returned (.tuple #[.string (sealS q b d), .int .i64 0]) ∧ Below w.heap.size w w' := by
  have HR := hide (fun V : World => rright_any q b d V)
  rw [decide_eq_true h] at HR
  have hd := h.2.2.2.2
  have hm : markB.size = 4 := rfl
  have cc1 := addR markB (numB 4 q) (by omega) (by rw [numB_size]; omega)
  have cc2 := addR (markB ++ numB 4 q) d (by simp only [ByteArray.size_append, numB_size]; omega) (by omega)
  have cc3 := addR (markB ++ numB 4 q ++ d) (numB 4 b) (by simp only [ByteArray.size_append, numB_size]; omega) (by simp only [numB_size]; omega)
  have cc4 := addR (markB ++ numB 4 q ++ d ++ numB 4 b) blankB (by simp only [ByteArray.size_append, numB_size]; omega) (by decide)
  have cc5 := addR (sealT q b d) (numB 4 (sumV (sealT q b d))) (by rw [sealT_size _ _ _ hd]; omega) (by simp only [numB_size]; omega)
  have HN1 := hide (fun V : World => number_any 4 q V (by decide))
  have HN2 := hide (fun V : World => number_any 4 b V (by decide))
  have HN3 := hide (fun V : World => number_any 4 (sumV (sealT q b d)) V (by decide))
  have HM := hide (fun V : World => sumR (sealT q b d) V (by rw [sealT_size _ _ _ hd]; omega))
  have HE : Hid (sealS q b d = sealT q b d ++ numB 4 (sumV (sealT q b d))) := rfl
  have HT : Hid (markB ++ numB 4 q ++ d ++ numB 4 b ++ blankB = sealT q b d) := rfl
  rw [HT.out] at cc4
  change ∀ w, (Op.stringOp .add ⟨#[115, 103, 110, 116]⟩ (numB 4 q)).run Tryz.prog w = _ at cc1
  change ∀ w, (Op.stringOp .add (markB ++ numB 4 q ++ d ++ numB 4 b) ⟨#[0, 0, 0, 0, 0, 0, 0, 0]⟩).run Tryz.prog w = _ at cc4
  generalize markB ++ numB 4 q ++ d ++ numB 4 b = t3 at cc3 cc4 HT
  generalize markB ++ numB 4 q ++ d = t2 at cc2 cc3
  generalize markB ++ numB 4 q = t1 at cc1 cc2
  generalize sealS q b d = z at HE ⊢
  generalize sealT q b d = t4 at cc4 cc5 HM HN3 HE HT
  generalize sumV t4 = s4 at cc5 HM HN3 HE
  clear h hd hm HT
  go_enter Tryz.func256, Tryz.ntmps256
  go_wp2_with fail
  refine (HR.out _).mono ?_
  rintro e w1 ⟨rfl, hb1⟩
  obtain ⟨W0, hW⟩ : ∃ W0, w.alloc (.cells #[.int .i64 q, .int .i64 b, .string d] 186) = W0 := ⟨_, rfl⟩
  have HC := hide (show W0.cell? ⟨w.heap.size, 0, none⟩ = some (.int .i64 q) ∧ W0.cell? ⟨w.heap.size, 1, none⟩ = some (.int .i64 b) ∧ W0.cell? ⟨w.heap.size, 2, none⟩ = some (.string d) by subst hW; refine ⟨?_, ?_, ?_⟩ <;> simp [go_sem])
  have HB := hide (show Below w.heap.size w W0 by subst hW; exact (Below.refl _ _).alloc (Nat.le_refl _) _)
  have hz : W0.heap.size = w.heap.size + 1 := by subst hW; simp
  have HS := hide (fun (V : World) (h : Below W0.heap.size W0 V) => (⟨(h.cell (p := ⟨w.heap.size, 0, none⟩) (by show w.heap.size < _; omega)).trans HC.out.1, (h.cell (p := ⟨w.heap.size, 1, none⟩) (by show w.heap.size < _; omega)).trans HC.out.2.1, (h.cell (p := ⟨w.heap.size, 2, none⟩) (by show w.heap.size < _; omega)).trans HC.out.2.2, h⟩ : V.cell? ⟨w.heap.size, 0, none⟩ = some (.int .i64 q) ∧ V.cell? ⟨w.heap.size, 1, none⟩ = some (.int .i64 b) ∧ V.cell? ⟨w.heap.size, 2, none⟩ = some (.string d) ∧ Below W0.heap.size W0 V))
  have hS0 : Below W0.heap.size W0 w1 := by subst hW; exact hb1
  clear hb1 HR hW
  have HH1 := hide (HS.out _ hS0)
  go_wp2_with fail
  go_region_held3 (fun V => V.cell? ⟨w.heap.size, 0, none⟩ = some (.int .i64 q) ∧ V.cell? ⟨w.heap.size, 1, none⟩ = some (.int .i64 b) ∧ V.cell? ⟨w.heap.size, 2, none⟩ = some (.string d) ∧ Below W0.heap.size W0 V) (first | exact HS.out _ hS2 | exact HS.out _ hS1 | exact HS.out _ hS0.drew) (first | (go_at_call 160; have hx := hS1; clear hx; refine (HN2.out _).mono ?_; rintro e w3 ⟨rfl, hb3⟩; have hS2 := heldB hS1 hb3 (Nat.le_refl _)) | (go_at_call 160; refine (HN1.out _).mono ?_; rintro e w2 ⟨rfl, hb2⟩; have hS1 := heldB hS0.drew hb2 (Nat.le_refl _)))
  go_wp2_with fail
  refine (HM.out _).mono ?_
  rintro e w4 ⟨rfl, rfl⟩
  go_wp2_with fail
  refine (HN3.out _).mono ?_
  rintro e w5 ⟨rfl, hb5⟩
  have B5 := hide hb5
  clear hb5
  go_wp2
  go_ret2
  exact ⟨congrArg (fun x => Ending.returned (Value.tuple #[.string x, .int .i64 0])) HE.out.symm, HB.out.trans ((heldB hS2 B5.out (Nat.le_refl _)).mono (by omega))⟩
end Go.Proofs.YtgaoeoijdpdjiabGreatDoor

namespace Go.Proofs.YtgaoeoijdpdjiabGreatDoor
open Go.RowKit
theorem setsMeasure_yes (b x e f t l : Nat) (hp : Pair b x e f) (k : Int) (w : World) (hk : k = 1 ∨ k = 2) (h1 : 1 ≤ t) (h2 : t ≤ 4) (h3 : 1 ≤ l) (h4 : l ≤ 3) :
    Calls Tryz.prog 155 #[.agg #[.int .i64 k, .int .i64 b, .int .i64 x, .int .i64 t, .int .i64 l]] w fun r w' =>
      r = .returned (.tuple #[.agg #[.int .i64 ((b * e : Nat) : Int), .int .i64 f, .int .i64 ((b * e + f : Nat) : Int), .int .i64 (totalZ t l), .int .i64 (sigZ b x t l), .int .i64 ((5 + 2 * b : Nat) : Int)], .int .i64 0]) ∧ Below w.heap.size w w' := by
  rcases hp with ⟨rfl, rfl, rfl, rfl⟩ | ⟨rfl, rfl, rfl, rfl⟩ | ⟨rfl, rfl, rfl, rfl⟩ | ⟨rfl, rfl, rfl, rfl⟩
  · exact measure_4_4 k t l w hk (by omega) (by omega) (by omega) (by omega)
  · exact measure_8_4 k t l w hk (by omega) (by omega) (by omega) (by omega)
  · exact measure_4_16 k t l w hk (by omega) (by omega) (by omega) (by omega)
  · exact measure_8_16 k t l w hk (by omega) (by omega) (by omega) (by omega)
end Go.Proofs.YtgaoeoijdpdjiabGreatDoor

namespace Go.Proofs.YtgaoeoijdpdjiabGreatDoor
open Go.RowKit
theorem makeU8g (k : Nat) (hk : k ≤ 1000) (w : World) : (Instr.makeSlice 170 (.int .i64 k) (.int .i64 k)).run Tryz.prog w = .ok (.slice (some ⟨w.heap.size, 0, none⟩) k k) (w.alloc (.cells ((List.replicate k 0).map (fun n => Value.int .u8 ((n : Nat) : Int))).toArray 5)) := by
  obtain ⟨i0, hi, hz0, hz1, hz2⟩ := info_parts infoU8
  have h := run_make (P := Tryz.prog) w 170 5 i0 (.int .u8 0) Tryz.underlying170 hi hz0 .i64 .i64 k k (by omega) (by omega) (by rw [hz2]; omega) (by omega)
  rw [hz1, Nat.mul_one, Int.toNat_natCast, madeU8] at h
  exact h
/-- The first n bytes, of which j are laid. -/
def someJ (s : ByteArray) (n j : Nat) : List Nat := (List.range n).map (fun i => if i < j then byt s i else 0)
def someL (s : ByteArray) (n : Nat) : List Nat := (List.range n).map (fun i => byt s i)
def someB (s : ByteArray) (n : Nat) : ByteArray := ⟨((someL s n).map UInt8.ofNat).toArray⟩
theorem someB_size (s : ByteArray) (n : Nat) : (someB s n).size = n := by simp [someB, ByteArray.size, someL]
theorem someJ_length (s : ByteArray) (n j : Nat) : (someJ s n j).length = n := by simp [someJ]
theorem someJ_zero (s : ByteArray) (n : Nat) : someJ s n 0 = List.replicate n 0 := by
  apply List.ext_getElem
  · simp [someJ]
  · intro i h1 h2; simp [someJ]
theorem someJ_step (s : ByteArray) (n j : Nat) : (someJ s n j).set j (byt s j) = someJ s n (j + 1) := by
  apply List.ext_getElem
  · simp [someJ]
  · intro i h1 h2
    rw [List.getElem_set]
    simp only [someJ, List.getElem_map, List.getElem_range]
    by_cases e : j = i
    · subst e; simp
    · rw [if_neg e]
      by_cases hi : i < j
      · rw [if_pos hi, if_pos (by omega)]
      · rw [if_neg hi, if_neg (by omega)]
theorem byt_end (s : ByteArray) (k : Nat) (h : s.size ≤ k) : byt s k = 0 := by
  unfold byt
  rw [List.getD_eq_getElem?_getD, List.getElem?_eq_none (by rw [List.length_map]; exact h)]
  rfl
theorem someJ_all (s : ByteArray) (n j : Nat) (h : n ≤ j ∨ s.size ≤ j) : someJ s n j = someL s n := by
  unfold someJ someL
  apply List.map_congr_left
  intro i hi
  have hi := List.mem_range.1 hi
  by_cases hlt : i < j
  · rw [if_pos hlt]
  · rw [if_neg hlt]
    rcases h with h | h
    · omega
    · rw [byt_end s i (by omega)]
theorem someL_lt (s : ByteArray) (n : Nat) : ∀ d ∈ someL s n, d < 256 := by
  intro d hd
  obtain ⟨i, _, rfl⟩ := List.mem_map.1 hd
  exact byt_lt s i
set_option maxRecDepth 20000 in
set_option maxHeartbeats 1000000 in
theorem someN_any (s : ByteArray) (n : Nat) (w : World) (hs : s.size ≤ maxLen) (hn : n ≤ 1000) :
    Calls Tryz.prog 49 #[.string s, .int .i64 n] w fun e w' => e = .returned (.string (someB s n)) ∧ Below w.heap.size w w' := by
  have hmk := makeU8g n hn
  unfold maxLen at hs
  go_enter Tryz.func49, Tryz.ntmps49
  go_wp2
  clear hmk
  go_loopw [6] (fun i wr => ∃ j : Nat, j ≤ n ∧ i = .int .i64 j ∧ Hid (RowK wr w.heap.size .u8 5 (someJ s n j)) ∧ Hid (Below w.heap.size w wr)) (fun i _ => n - (intOf i).toNat)
  case atStart =>
    refine ⟨0, Nat.zero_le _, rfl, ?_, (Below.refl _ _).alloc (Nat.le_refl _) _⟩
    show RowK _ _ _ _ _
    unfold RowK
    rw [heap_alloc_new, someJ_zero]
    simp
  case round =>
    obtain ⟨j, hj, rfl, hr, hb⟩ := hrel
    by_cases h1 : j < n
    · by_cases h2 : j < s.size
      · have hby : byt s j = (s[j]'h2).toNat := byt_of s j h2
        have HS := hide (someJ_step s n j)
        have hl := someJ_length s n j
        have hc := hr.out.cell (i := j) (by omega)
        have hf := hr.out.free j
        clear hl
        go_wp2
        go_roundw
        case rel =>
          refine ⟨j + 1, by omega, by go_num, ?_, hb.out.setCell (Nat.le_refl _) _⟩
          have := hr.out.set j (byt s j)
          rw [HS.out, hby] at this
          exact this
        case measure => simp [intOf]; omega
      · have HT := textRow wr w.heap.size n (someL s n) (someL_lt s n) (by rw [← someJ_all s n j (.inr (by omega))]; exact hr.out) (by simp [someL])
        go_wp2
        go_ret
        exact ⟨rfl, hb.out⟩
    · obtain rfl : j = n := by omega
      have HT := textRow wr w.heap.size j (someL s j) (someL_lt s j) (by rw [← someJ_all s j j (.inl (by omega))]; exact hr.out) (by simp [someL])
      go_wp2
      go_ret
      exact ⟨rfl, hb.out⟩
end Go.Proofs.YtgaoeoijdpdjiabGreatDoor
