/-
  Seeds and a place that come in by value, opened. The document's own question: is it a list of n values? The document's stirring lets the upper words stand: both stirrings come to the same eight words. A whole number in one byte: the program's one. The bytes of words, the highest first, as a plain function.
-/
import Derived.Test.YtgaoeoijdpdjiaaDoorPart7
import Derived.ShutString
import Derived.Test.YtgaoeoijdpdjiaaDoorPart4
import Derived.Test.YtgaoeoijdpdjiaaDoorPart6
namespace Go.Proofs.YtgaoeoijdpdjiaaDoor
open Go.ChangeShapes Go.WideShapes Go.ChangeAt Go.RowKit
open Go.ChangeMaps (open_string shut_string)

theorem array3 {a : Array Value} (h : a.size = 3) : ∃ c0 c1 c2, a = #[c0, c1, c2] := by
  obtain ⟨l⟩ := a
  match l, h with
  | [c0, c1, c2], _ => exact ⟨c0, c1, c2, rfl⟩
theorem array4 {a : Array Value} (h : a.size = 4) : ∃ c0 c1 c2 c3, a = #[c0, c1, c2, c3] := by
  obtain ⟨l⟩ := a
  match l, h with
  | [c0, c1, c2, c3], _ => exact ⟨c0, c1, c2, c3, rfl⟩
theorem cellsSeeds : Tryd.prog.cellsOf 33 = 3 := by kernel_rfl
theorem cellsPlace : Tryd.prog.cellsOf 27 = 4 := by kernel_rfl
theorem cellsStr : Tryd.prog.cellsOf 9 = 1 := by kernel_rfl

set_option maxRecDepth 100000 in
theorem open_place {H : Type} {enc : TypeId × Value → H} {W : World} {base b0 : Nat} {sp : Nat → Bool} {held : Bool} {r : Reach} {v : Value} {d : DataW H} {p : List MemPlace}
    (hv : Value.okWide Tryd.prog W r b0 27 v) (h : DataW.Trod enc Tryd.prog W base sp held 27 v d p) :
    ∃ a b c e : Int, v = .agg #[.int .i64 a, .int .i64 b, .int .i64 c, .int .i64 e] := by
  obtain ⟨cs, rfl, hsz⟩ := okWide_struct Tryd.underlying27 hv
  obtain ⟨c0, c1, c2, c3, rfl⟩ := array4 (hsz.trans cellsPlace)
  obtain ⟨fuel, hf⟩ := h
  obtain ⟨xs, n, _, _, _, hlen, hfs⟩ := DataW.trod_struct Tryd.underlying27 hf
  simp at hlen
  have g0 : DataW.trod enc Tryd.prog W base sp held n 3 [c0] = xs[0]? := by simpa [Value.cells, cellsInt] using hfs 0 _ rfl
  have g1 : DataW.trod enc Tryd.prog W base sp held n 3 [c1] = xs[1]? := by simpa [Value.cells, cellsInt] using hfs 1 _ rfl
  have g2 : DataW.trod enc Tryd.prog W base sp held n 3 [c2] = xs[2]? := by simpa [Value.cells, cellsInt] using hfs 2 _ rfl
  have g3 : DataW.trod enc Tryd.prog W base sp held n 3 [c3] = xs[3]? := by simpa [Value.cells, cellsInt] using hfs 3 _ rfl
  rw [List.getElem?_eq_getElem (by omega)] at g0 g1 g2 g3
  obtain ⟨k, e0, _, w0⟩ := DataW.trod_int Tryd.underlying3 g0
  obtain ⟨b, e1, _, w1⟩ := DataW.trod_int Tryd.underlying3 g1
  obtain ⟨x, e2, _, w2⟩ := DataW.trod_int Tryd.underlying3 g2
  obtain ⟨t, e3, _, w3⟩ := DataW.trod_int Tryd.underlying3 g3
  simp at e0 e1 e2 e3
  subst e0 e1 e2 e3
  exact ⟨k, b, x, t, rfl⟩

set_option maxRecDepth 100000 in
theorem open_seeds {H : Type} {enc : TypeId × Value → H} {W : World} {base b0 : Nat} {sp : Nat → Bool} {held : Bool} {r : Reach} {v : Value} {d : DataW H} {p : List MemPlace}
    (hv : Value.okWide Tryd.prog W r b0 33 v) (h : DataW.Trod enc Tryd.prog W base sp held 33 v d p) :
    ∃ a b c : ByteArray, v = .agg #[.string a, .string b, .string c] := by
  obtain ⟨cs, rfl, hsz⟩ := okWide_struct Tryd.underlying33 hv
  obtain ⟨c0, c1, c2, rfl⟩ := array3 (hsz.trans cellsSeeds)
  obtain ⟨fuel, hf⟩ := h
  obtain ⟨xs, n, _, _, _, hlen, hfs⟩ := DataW.trod_struct Tryd.underlying33 hf
  simp at hlen
  have g0 : DataW.trod enc Tryd.prog W base sp held n 9 [c0] = xs[0]? := by simpa [Value.cells, cellsStr] using hfs 0 _ rfl
  have g1 : DataW.trod enc Tryd.prog W base sp held n 9 [c1] = xs[1]? := by simpa [Value.cells, cellsStr] using hfs 1 _ rfl
  have g2 : DataW.trod enc Tryd.prog W base sp held n 9 [c2] = xs[2]? := by simpa [Value.cells, cellsStr] using hfs 2 _ rfl
  rw [List.getElem?_eq_getElem (by omega)] at g0 g1 g2
  obtain ⟨k, e0, _⟩ := DataW.trod_string Tryd.underlying9 g0
  obtain ⟨b, e1, _⟩ := DataW.trod_string Tryd.underlying9 g1
  obtain ⟨x, e2, _⟩ := DataW.trod_string Tryd.underlying9 g2
  simp at e0 e1 e2
  subst e0 e1 e2
  exact ⟨k, b, x, rfl⟩
end Go.Proofs.YtgaoeoijdpdjiaaDoor

namespace Go.Proofs.YtgaoeoijdpdjiaaDoor
open Go.RowKit

set_option maxRecDepth 20000 in
set_option maxHeartbeats 1000000 in
theorem rvalues_some (k b x t l n : Int) (bk o c : Nat) (xs : List ByteArray) (w : World) (hcells : ∀ (j : Nat) y, xs[j]? = some y → w.cell? ⟨bk, o + j, none⟩ = some (.string y)) (hbk : bk < w.heap.size) (hN : xs.length ≤ 8796093022208) :
    Calls Tryd.prog 45 #[.agg #[.int .i64 k, .int .i64 b, .int .i64 x, .int .i64 t, .int .i64 l], .slice (some ⟨bk, o, none⟩) xs.length c, .int .i64 n] w fun e w' => e = .returned (.bool (allLen b xs && decide ((xs.length : Int) = n))) ∧ Below w.heap.size w w' := by
  obtain ⟨W0, hW⟩ : ∃ W0, w.alloc (.cells #[.int .i64 k, .int .i64 b, .int .i64 x, .int .i64 t, .int .i64 l] 25) = W0 := ⟨_, rfl⟩
  have HF := hide (show W0.cell? ⟨w.heap.size, 1, none⟩ = some (.int .i64 b) by subst hW; simp [go_sem])
  have HB := hide (show Below w.heap.size w W0 by subst hW; exact (Below.refl _ _).alloc (Nat.le_refl _) _)
  have hz : W0.heap.size ≤ w.heap.size + 1 := by subst hW; simp
  have hz' : w.heap.size + 1 ≤ W0.heap.size := by subst hW; simp
  have HC := hide (fun (V : World) (h : Below W0.heap.size W0 V) (j : Nat) (y : ByteArray) (hj : xs[j]? = some y) => (h.cell (p := ⟨bk, o + j, none⟩) (by show bk < _; omega)).trans ((HB.out.cell (p := ⟨bk, o + j, none⟩) hbk).trans (hcells j y hj)))
  clear hcells
  go_enter Tryd.func45, Tryd.ntmps45
  go_wp2_with fail
  try rw [hW]
  clear hW
  go_loopw [7] (fun i wr => ∃ j : Nat, j ≤ xs.length ∧ i = .int .i64 j ∧ Hid (allLen b (xs.take j) = true) ∧ Hid (Below W0.heap.size W0 wr)) (fun i _ => xs.length - (intOf i).toNat)
  case atStart => exact ⟨0, Nat.zero_le _, rfl, rfl, Below.refl _ _⟩
  case round =>
    obtain ⟨j, hj, rfl, ha, hb⟩ := hrel
    have c1 := (hb.out.cell (p := ⟨w.heap.size, 1, none⟩) (by show w.heap.size < _; omega)).trans HF.out
    by_cases hlt : j < xs.length
    · have c0 := HC.out wr hb.out j xs[j] (List.getElem?_eq_getElem hlt)
      have HT := hide (allLen_take b xs j ha.out hlt)
      have HNO := hide (allLen_no b xs j hlt)
      have HBD := hide (hb.out.drew)
      generalize xs[j] = y at c0 HT HNO
      by_cases hy : (y.size : Int) = b
      · have hys : ((y.size : Int) == b) = true := by simpa using hy
        have hyn : ((y.size : Int) != b) = false := by rw [bne, hys]; rfl
        have HTT := hide (show allLen b (xs.take (j + 1)) = true by rw [HT.out]; simpa using hy)
        clear hy HNO HT
        go_wp2_with fail
        go_region
        go_wp2
        go_roundw
        case rel =>
          have R : ∃ j' : Nat, j' ≤ xs.length ∧ Value.int .i64 ((j : Int) + 1) = .int .i64 j' ∧ Hid (allLen b (xs.take j') = true) ∧ Hid (Below W0.heap.size W0 wr.drew) := ⟨j + 1, by omega, by go_num, HTT.out, HBD.out⟩
          first | exact R | ((repeat apply Exists.intro); exact ⟨R, rfl⟩)
        case measure => simp [intOf]; omega
      · have hys : ((y.size : Int) == b) = false := by simpa using hy
        have hyn : ((y.size : Int) != b) = true := by rw [bne, hys]; rfl
        have HF2 := hide (HNO.out hy)
        clear hy HNO
        go_wp2_with fail
        go_region
        go_wp2
        go_ret
        exact ⟨by rw [HF2.out]; rfl, HB.out.trans (HBD.out.mono (by omega))⟩
    · obtain rfl : j = xs.length := by omega
      have hz := ha.out
      rw [List.take_of_length_le (Nat.le_refl _)] at hz
      have HZ := hide hz
      clear hz
      go_wp2
      go_ret
      exact ⟨by rw [HZ.out]; rfl, HB.out.trans (hb.out.mono (by omega))⟩

set_option maxRecDepth 20000 in
set_option maxHeartbeats 1000000 in
theorem rvalues_nil (k b x t l n : Int) (w : World) :
    Calls Tryd.prog 45 #[.agg #[.int .i64 k, .int .i64 b, .int .i64 x, .int .i64 t, .int .i64 l], .slice none 0 0, .int .i64 n] w fun e w' => e = .returned (.bool (decide (0 = n))) ∧ Below w.heap.size w w' := by
  go_enter Tryd.func45, Tryd.ntmps45
  go_wp2
  go_rounds 1
  go_ret
  exact ⟨rfl, (Below.refl _ _).alloc (Nat.le_refl _) _⟩

set_option maxRecDepth 20000 in
set_option maxHeartbeats 1000000 in
theorem rvalues_emp (k b x t l n : Int) (a : Addr) (c : Nat) (w : World) :
    Calls Tryd.prog 45 #[.agg #[.int .i64 k, .int .i64 b, .int .i64 x, .int .i64 t, .int .i64 l], .slice (some a) 0 c, .int .i64 n] w fun e w' => e = .returned (.bool (decide (0 = n))) ∧ Below w.heap.size w w' := by
  go_enter Tryd.func45, Tryd.ntmps45
  go_wp2
  go_rounds 1
  go_ret
  exact ⟨rfl, (Below.refl _ _).alloc (Nat.le_refl _) _⟩
end Go.Proofs.YtgaoeoijdpdjiaaDoor

namespace Go.Proofs.YtgaoeoijdpdjiaaDoor

/-- The columns of round r, the upper words standing. -/
def mixRef (b r : Nat) (L : List Nat) : Nat → List Nat
  | 0 => L
  | k + 1 => colW b k (4 + (k + r) % 4) (mixRef b r L k)
def refTo (b : Nat) (L : List Nat) : Nat → List Nat
  | 0 => L
  | r + 1 => (mixRef b r (refTo b L r) 4).set 0 (at0 (mixRef b r (refTo b L r) 4) 0 ^^^ (r + 1))

theorem mixRef_length (b r : Nat) (L : List Nat) (k : Nat) : (mixRef b r L k).length = L.length := by
  induction k with
  | zero => rfl
  | succ k ih => simp only [mixRef, colW_length, ih]
theorem mixRef_words (b r : Nat) (L : List Nat) (k : Nat) (h : Words b L) : Words b (mixRef b r L k) := by
  induction k with
  | zero => exact h
  | succ k ih => exact ih.col _ _
theorem refTo_length (b : Nat) (L : List Nat) (r : Nat) : (refTo b L r).length = L.length := by
  induction r with
  | zero => rfl
  | succ r ih => simp only [refTo, List.length_set, mixRef_length, ih]
theorem refTo_words (b : Nat) (L : List Nat) (r : Nat) (h : Words b L) (hb : 4 ≤ b := by decide) (hr : r ≤ 8 := by omega) : Words b (refTo b L r) := by
  induction r with
  | zero => exact h
  | succ r ih =>
    have hm := mixRef_words b r (refTo b L r) 4 (ih (by omega))
    have h16 : 2 ^ 4 ≤ 2 ^ b := Nat.pow_le_pow_right (by decide) hb
    exact hm.set 0 _ (Nat.xor_lt_two_pow (hm.at 0) (by omega))

/-- The words as the program has them behind r rounds. -/
def permW (r : Nat) (L : List Nat) : List Nat := [at0 L 0, at0 L 1, at0 L 2, at0 L 3, at0 L (4 + r % 4), at0 L (4 + (1 + r) % 4), at0 L (4 + (2 + r) % 4), at0 L (4 + (3 + r) % 4)]

theorem mixRef_mod (b r : Nat) (L : List Nat) (k : Nat) : mixRef b r L k = mixRef b (r % 4) L k := by
  induction k with
  | zero => rfl
  | succ k ih => simp only [mixRef]; rw [ih, show (k + r) % 4 = (k + r % 4) % 4 by omega]
theorem permW_mod (r c : Nat) (L : List Nat) (h : r % 4 = c % 4) : permW r L = permW c L := by
  unfold permW
  rw [h, show (1 + r) % 4 = (1 + c) % 4 by omega, show (2 + r) % 4 = (2 + c) % 4 by omega, show (3 + r) % 4 = (3 + c) % 4 by omega]

/-- A column, written out. -/
theorem col_0_4 (b q0 q1 q2 q3 q4 q5 q6 q7 : Nat) : colW b 0 4 [q0, q1, q2, q3, q4, q5, q6, q7] = [addW b q0 q4, q1, q2, q3, rotW b q4 (turnN 0) ^^^ addW b q0 q4, q5, q6, q7] := by
  simp only [colW, at0, List.set_cons_zero, List.set_cons_succ, List.getD_cons_zero, List.getD_cons_succ]
theorem col_0_5 (b q0 q1 q2 q3 q4 q5 q6 q7 : Nat) : colW b 0 5 [q0, q1, q2, q3, q4, q5, q6, q7] = [addW b q0 q5, q1, q2, q3, q4, rotW b q5 (turnN 0) ^^^ addW b q0 q5, q6, q7] := by
  simp only [colW, at0, List.set_cons_zero, List.set_cons_succ, List.getD_cons_zero, List.getD_cons_succ]
theorem col_0_6 (b q0 q1 q2 q3 q4 q5 q6 q7 : Nat) : colW b 0 6 [q0, q1, q2, q3, q4, q5, q6, q7] = [addW b q0 q6, q1, q2, q3, q4, q5, rotW b q6 (turnN 0) ^^^ addW b q0 q6, q7] := by
  simp only [colW, at0, List.set_cons_zero, List.set_cons_succ, List.getD_cons_zero, List.getD_cons_succ]
theorem col_0_7 (b q0 q1 q2 q3 q4 q5 q6 q7 : Nat) : colW b 0 7 [q0, q1, q2, q3, q4, q5, q6, q7] = [addW b q0 q7, q1, q2, q3, q4, q5, q6, rotW b q7 (turnN 0) ^^^ addW b q0 q7] := by
  simp only [colW, at0, List.set_cons_zero, List.set_cons_succ, List.getD_cons_zero, List.getD_cons_succ]
theorem col_1_4 (b q0 q1 q2 q3 q4 q5 q6 q7 : Nat) : colW b 1 4 [q0, q1, q2, q3, q4, q5, q6, q7] = [q0, addW b q1 q4, q2, q3, rotW b q4 (turnN 1) ^^^ addW b q1 q4, q5, q6, q7] := by
  simp only [colW, at0, List.set_cons_zero, List.set_cons_succ, List.getD_cons_zero, List.getD_cons_succ]
theorem col_1_5 (b q0 q1 q2 q3 q4 q5 q6 q7 : Nat) : colW b 1 5 [q0, q1, q2, q3, q4, q5, q6, q7] = [q0, addW b q1 q5, q2, q3, q4, rotW b q5 (turnN 1) ^^^ addW b q1 q5, q6, q7] := by
  simp only [colW, at0, List.set_cons_zero, List.set_cons_succ, List.getD_cons_zero, List.getD_cons_succ]
theorem col_1_6 (b q0 q1 q2 q3 q4 q5 q6 q7 : Nat) : colW b 1 6 [q0, q1, q2, q3, q4, q5, q6, q7] = [q0, addW b q1 q6, q2, q3, q4, q5, rotW b q6 (turnN 1) ^^^ addW b q1 q6, q7] := by
  simp only [colW, at0, List.set_cons_zero, List.set_cons_succ, List.getD_cons_zero, List.getD_cons_succ]
theorem col_1_7 (b q0 q1 q2 q3 q4 q5 q6 q7 : Nat) : colW b 1 7 [q0, q1, q2, q3, q4, q5, q6, q7] = [q0, addW b q1 q7, q2, q3, q4, q5, q6, rotW b q7 (turnN 1) ^^^ addW b q1 q7] := by
  simp only [colW, at0, List.set_cons_zero, List.set_cons_succ, List.getD_cons_zero, List.getD_cons_succ]
theorem col_2_4 (b q0 q1 q2 q3 q4 q5 q6 q7 : Nat) : colW b 2 4 [q0, q1, q2, q3, q4, q5, q6, q7] = [q0, q1, addW b q2 q4, q3, rotW b q4 (turnN 2) ^^^ addW b q2 q4, q5, q6, q7] := by
  simp only [colW, at0, List.set_cons_zero, List.set_cons_succ, List.getD_cons_zero, List.getD_cons_succ]
theorem col_2_5 (b q0 q1 q2 q3 q4 q5 q6 q7 : Nat) : colW b 2 5 [q0, q1, q2, q3, q4, q5, q6, q7] = [q0, q1, addW b q2 q5, q3, q4, rotW b q5 (turnN 2) ^^^ addW b q2 q5, q6, q7] := by
  simp only [colW, at0, List.set_cons_zero, List.set_cons_succ, List.getD_cons_zero, List.getD_cons_succ]
theorem col_2_6 (b q0 q1 q2 q3 q4 q5 q6 q7 : Nat) : colW b 2 6 [q0, q1, q2, q3, q4, q5, q6, q7] = [q0, q1, addW b q2 q6, q3, q4, q5, rotW b q6 (turnN 2) ^^^ addW b q2 q6, q7] := by
  simp only [colW, at0, List.set_cons_zero, List.set_cons_succ, List.getD_cons_zero, List.getD_cons_succ]
theorem col_2_7 (b q0 q1 q2 q3 q4 q5 q6 q7 : Nat) : colW b 2 7 [q0, q1, q2, q3, q4, q5, q6, q7] = [q0, q1, addW b q2 q7, q3, q4, q5, q6, rotW b q7 (turnN 2) ^^^ addW b q2 q7] := by
  simp only [colW, at0, List.set_cons_zero, List.set_cons_succ, List.getD_cons_zero, List.getD_cons_succ]
theorem col_3_4 (b q0 q1 q2 q3 q4 q5 q6 q7 : Nat) : colW b 3 4 [q0, q1, q2, q3, q4, q5, q6, q7] = [q0, q1, q2, addW b q3 q4, rotW b q4 (turnN 3) ^^^ addW b q3 q4, q5, q6, q7] := by
  simp only [colW, at0, List.set_cons_zero, List.set_cons_succ, List.getD_cons_zero, List.getD_cons_succ]
theorem col_3_5 (b q0 q1 q2 q3 q4 q5 q6 q7 : Nat) : colW b 3 5 [q0, q1, q2, q3, q4, q5, q6, q7] = [q0, q1, q2, addW b q3 q5, q4, rotW b q5 (turnN 3) ^^^ addW b q3 q5, q6, q7] := by
  simp only [colW, at0, List.set_cons_zero, List.set_cons_succ, List.getD_cons_zero, List.getD_cons_succ]
theorem col_3_6 (b q0 q1 q2 q3 q4 q5 q6 q7 : Nat) : colW b 3 6 [q0, q1, q2, q3, q4, q5, q6, q7] = [q0, q1, q2, addW b q3 q6, q4, q5, rotW b q6 (turnN 3) ^^^ addW b q3 q6, q7] := by
  simp only [colW, at0, List.set_cons_zero, List.set_cons_succ, List.getD_cons_zero, List.getD_cons_succ]
theorem col_3_7 (b q0 q1 q2 q3 q4 q5 q6 q7 : Nat) : colW b 3 7 [q0, q1, q2, q3, q4, q5, q6, q7] = [q0, q1, q2, addW b q3 q7, q4, q5, q6, rotW b q7 (turnN 3) ^^^ addW b q3 q7] := by
  simp only [colW, at0, List.set_cons_zero, List.set_cons_succ, List.getD_cons_zero, List.getD_cons_succ]
theorem mix_out (b q0 q1 q2 q3 q4 q5 q6 q7 : Nat) : mixTo b [q0, q1, q2, q3, q4, q5, q6, q7] 4 = [addW b q0 q4, addW b q1 q5, addW b q2 q6, addW b q3 q7, rotW b q4 (turnN 0) ^^^ addW b q0 q4, rotW b q5 (turnN 1) ^^^ addW b q1 q5, rotW b q6 (turnN 2) ^^^ addW b q2 q6, rotW b q7 (turnN 3) ^^^ addW b q3 q7] := by
  show colW b 3 7 (colW b 2 6 (colW b 1 5 (colW b 0 4 [q0, q1, q2, q3, q4, q5, q6, q7]))) = _
  rw [col_0_4, col_1_5, col_2_6, col_3_7]
theorem ref_out_0 (b q0 q1 q2 q3 q4 q5 q6 q7 : Nat) : mixRef b 0 [q0, q1, q2, q3, q4, q5, q6, q7] 4 = [addW b q0 q4, addW b q1 q5, addW b q2 q6, addW b q3 q7, rotW b q4 (turnN 0) ^^^ addW b q0 q4, rotW b q5 (turnN 1) ^^^ addW b q1 q5, rotW b q6 (turnN 2) ^^^ addW b q2 q6, rotW b q7 (turnN 3) ^^^ addW b q3 q7] := by
  show colW b 3 7 (colW b 2 6 (colW b 1 5 (colW b 0 4 [q0, q1, q2, q3, q4, q5, q6, q7]))) = _
  rw [col_0_4, col_1_5, col_2_6, col_3_7]
theorem ref_out_1 (b q0 q1 q2 q3 q4 q5 q6 q7 : Nat) : mixRef b 1 [q0, q1, q2, q3, q4, q5, q6, q7] 4 = [addW b q0 q5, addW b q1 q6, addW b q2 q7, addW b q3 q4, rotW b q4 (turnN 3) ^^^ addW b q3 q4, rotW b q5 (turnN 0) ^^^ addW b q0 q5, rotW b q6 (turnN 1) ^^^ addW b q1 q6, rotW b q7 (turnN 2) ^^^ addW b q2 q7] := by
  show colW b 3 4 (colW b 2 7 (colW b 1 6 (colW b 0 5 [q0, q1, q2, q3, q4, q5, q6, q7]))) = _
  rw [col_0_5, col_1_6, col_2_7, col_3_4]
theorem ref_out_2 (b q0 q1 q2 q3 q4 q5 q6 q7 : Nat) : mixRef b 2 [q0, q1, q2, q3, q4, q5, q6, q7] 4 = [addW b q0 q6, addW b q1 q7, addW b q2 q4, addW b q3 q5, rotW b q4 (turnN 2) ^^^ addW b q2 q4, rotW b q5 (turnN 3) ^^^ addW b q3 q5, rotW b q6 (turnN 0) ^^^ addW b q0 q6, rotW b q7 (turnN 1) ^^^ addW b q1 q7] := by
  show colW b 3 5 (colW b 2 4 (colW b 1 7 (colW b 0 6 [q0, q1, q2, q3, q4, q5, q6, q7]))) = _
  rw [col_0_6, col_1_7, col_2_4, col_3_5]
theorem ref_out_3 (b q0 q1 q2 q3 q4 q5 q6 q7 : Nat) : mixRef b 3 [q0, q1, q2, q3, q4, q5, q6, q7] 4 = [addW b q0 q7, addW b q1 q4, addW b q2 q5, addW b q3 q6, rotW b q4 (turnN 1) ^^^ addW b q1 q4, rotW b q5 (turnN 2) ^^^ addW b q2 q5, rotW b q6 (turnN 3) ^^^ addW b q3 q6, rotW b q7 (turnN 0) ^^^ addW b q0 q7] := by
  show colW b 3 6 (colW b 2 5 (colW b 1 4 (colW b 0 7 [q0, q1, q2, q3, q4, q5, q6, q7]))) = _
  rw [col_0_7, col_1_4, col_2_5, col_3_6]
theorem perm_at (b m c : Nat) (hc : c < 4) (q0 q1 q2 q3 q4 q5 q6 q7 : Nat) :
    roundW m (mixTo b (permW c [q0, q1, q2, q3, q4, q5, q6, q7]) 4) = permW (c + 1) ((mixRef b c [q0, q1, q2, q3, q4, q5, q6, q7] 4).set 0 (at0 (mixRef b c [q0, q1, q2, q3, q4, q5, q6, q7] 4) 0 ^^^ m)) := by
  rcases (show c = 0 ∨ c = 1 ∨ c = 2 ∨ c = 3 by omega) with rfl | rfl | rfl | rfl
  · rw [show permW 0 [q0, q1, q2, q3, q4, q5, q6, q7] = [q0, q1, q2, q3, q4, q5, q6, q7] from rfl, mix_out, ref_out_0]
    simp only [roundW, permW, at0, List.set_cons_zero, List.getD_cons_zero, List.getD_cons_succ, Nat.reduceAdd, Nat.reduceMod]
  · rw [show permW 1 [q0, q1, q2, q3, q4, q5, q6, q7] = [q0, q1, q2, q3, q5, q6, q7, q4] from rfl, mix_out, ref_out_1]
    simp only [roundW, permW, at0, List.set_cons_zero, List.getD_cons_zero, List.getD_cons_succ, Nat.reduceAdd, Nat.reduceMod]
  · rw [show permW 2 [q0, q1, q2, q3, q4, q5, q6, q7] = [q0, q1, q2, q3, q6, q7, q4, q5] from rfl, mix_out, ref_out_2]
    simp only [roundW, permW, at0, List.set_cons_zero, List.getD_cons_zero, List.getD_cons_succ, Nat.reduceAdd, Nat.reduceMod]
  · rw [show permW 3 [q0, q1, q2, q3, q4, q5, q6, q7] = [q0, q1, q2, q3, q7, q4, q5, q6] from rfl, mix_out, ref_out_3]
    simp only [roundW, permW, at0, List.set_cons_zero, List.getD_cons_zero, List.getD_cons_succ, Nat.reduceAdd, Nat.reduceMod]

theorem perm_step (b r : Nat) (q0 q1 q2 q3 q4 q5 q6 q7 : Nat) :
    roundW (r + 1) (mixTo b (permW r [q0, q1, q2, q3, q4, q5, q6, q7]) 4) = permW (r + 1) ((mixRef b r [q0, q1, q2, q3, q4, q5, q6, q7] 4).set 0 (at0 (mixRef b r [q0, q1, q2, q3, q4, q5, q6, q7] 4) 0 ^^^ (r + 1))) := by
  rw [mixRef_mod b r, permW_mod r (r % 4) _ (by omega), permW_mod (r + 1) (r % 4 + 1) _ (by omega)]
  exact perm_at b (r + 1) (r % 4) (Nat.mod_lt _ (by decide)) q0 q1 q2 q3 q4 q5 q6 q7

theorem stir_perm (b : Nat) (L : List Nat) (r : Nat) (hL : L.length = 8) : stirTo b L r = permW r (refTo b L r) := by
  induction r with
  | zero =>
    obtain ⟨a0, a1, a2, a3, a4, a5, a6, a7, rfl⟩ := eight_of hL
    rfl
  | succ r ih =>
    obtain ⟨q0, q1, q2, q3, q4, q5, q6, q7, e⟩ := eight_of (show (refTo b L r).length = 8 by rw [refTo_length]; exact hL)
    show roundW (r + 1) (mixTo b (stirTo b L r) 4) = permW (r + 1) ((mixRef b r (refTo b L r) 4).set 0 (at0 (mixRef b r (refTo b L r) 4) 0 ^^^ (r + 1)))
    rw [ih, e]
    exact perm_step b r q0 q1 q2 q3 q4 q5 q6 q7

/-- One stirring. -/
def stirW (b : Nat) (L : List Nat) : List Nat := stirTo b L 8

theorem stir_same (b : Nat) (L : List Nat) (hL : L.length = 8) : refTo b L 8 = stirW b L := by
  unfold stirW
  rw [stir_perm b L 8 hL]
  obtain ⟨q0, q1, q2, q3, q4, q5, q6, q7, e⟩ := eight_of (show (refTo b L 8).length = 8 by rw [refTo_length]; exact hL)
  rw [e]
  rfl
end Go.Proofs.YtgaoeoijdpdjiaaDoor

namespace Go.Proofs.YtgaoeoijdpdjiaaDoor
open Go.RowKit

theorem one_any (v : Int) (w : World) :
    Calls Tryd.prog 95 #[.int .i64 v] w fun e w' => e = .returned (.string (numB 1 v)) ∧ Below w.heap.size w w' := by
  have HN := hide (number_any 1 v w (by decide))
  go_enter Tryd.func95, Tryd.ntmps95
  go_wp2_with fail
  refine HN.out.mono ?_
  rintro e w1 ⟨rfl, hb⟩
  go_wp2
  go_ret
  exact ⟨rfl, hb⟩
end Go.Proofs.YtgaoeoijdpdjiaaDoor

namespace Go.Proofs.YtgaoeoijdpdjiaaDoor
open Go.RowKit

/-- The i-th byte of words of n bytes each. -/
def outB (n : Nat) (L : List Nat) (i : Nat) : Nat := at0 L (i / n) / 2 ^ (8 * (n - 1 - i % n)) % 256
def outs (n : Nat) (L : List Nat) (m : Nat) : List Nat := (List.range m).map (outB n L)
theorem outs_length (n : Nat) (L : List Nat) (m : Nat) : (outs n L m).length = m := by simp [outs]
theorem outs_succ (n : Nat) (L : List Nat) (m : Nat) : outs n L (m + 1) = outs n L m ++ [outB n L m] := by simp [outs, List.range_succ]
theorem outB_lt (n : Nat) (L : List Nat) (i : Nat) : outB n L i < 256 := Nat.mod_lt _ (by decide)

/-- The cells of a list of bytes. -/
def cells8 (D : List Nat) : List Value := D.map (fun d => Value.int .u8 ((d : Nat) : Int))
theorem cells8_snoc (D : List Nat) (d : Nat) : cells8 (D ++ [d]) = cells8 D ++ [.int .u8 ((d : Nat) : Int)] := by simp [cells8]

theorem infoByte : (Tryd.prog.info? 5).map (fun i => (i.zero, i.size, i.bytes)) = some (some (.int .u8 0), 1, 1) := by kernel_rfl

theorem owns_lt {w : World} {base : Nat} {e : TypeId} {s : Nat} {v : Value} {n : Nat} {xs : List Value} (h : w.ownsRow base e s v n xs) : ∀ k, v.ownBlock = some k → base ≤ k ∧ k < w.heap.size := by
  intro k hk
  rcases h.2 with ⟨rfl, _⟩ | ⟨g, cap, cur, rfl, hg, hh, _⟩
  · simp [Value.ownBlock] at hk
  · simp only [Value.ownBlock, Option.some.injEq] at hk
    subst hk
    exact ⟨hg, lt_of_block hh⟩
theorem one_new (w : World) (v : Value) (t : TypeId) : ∀ j u, [v][j]? = some u → (w.alloc (.cells #[v] t)).cell? ((Addr.mk w.heap.size 0 none).add j) = some u := by
  intro j u hj
  match j, hj with
  | 0, hj => simp at hj; subst hj; simp [Addr.add]
theorem owns_some {w : World} {base : Nat} {e : TypeId} {s : Nat} {v : Value} {n : Nat} {xs : List Value} (h : w.ownsRow base e s v n xs) (hn : 0 < n) : ∃ g cap, v = .slice (some ⟨g, 0, none⟩) n cap := by
  rcases h.2 with ⟨rfl, rfl⟩ | ⟨g, cap, cur, rfl, _⟩
  · omega
  · exact ⟨g, cap, rfl⟩
/-- The text of a list of bytes. -/
def textOf (D : List Nat) : ByteArray := ⟨(D.map UInt8.ofNat).toArray⟩
theorem textOf_size (D : List Nat) : (textOf D).size = D.length := by simp [textOf, ByteArray.size]

theorem run_text (w : World) (base : Nat) (v : Value) (D : List Nat) (hD : ∀ d ∈ D, d < 256) (h : w.ownsRow base 5 1 v D.length (cells8 D)) (h0 : 0 < D.length) :
    (convert 60 9 v).run Tryd.prog w = .ok (.string (textOf D)) w := by
  obtain ⟨g, cap, rfl⟩ := owns_some h h0
  have hl : (D.map UInt8.ofNat).length = D.length := by simp
  have hc := run_convert_bytes_back (P := Tryd.prog) w 60 9 5 ⟨g, 0, none⟩ cap (D.map UInt8.ofNat) Tryd.underlying60 Tryd.underlying5 Tryd.underlying9 (by
    intro j hj
    have hj' : j < D.length := by simpa using hj
    have hadd : (Addr.mk g 0 none).add j = ⟨g, j, none⟩ := by unfold Addr.add; split <;> simp_all
    rw [hadd]
    rcases h.2 with ⟨h, _⟩ | ⟨g', cap', cur, h, _, hh, _, _, _, ht⟩
    · cases h
    · simp only [Value.slice.injEq, Option.some.injEq, Addr.mk.injEq, and_true, true_and] at h
      obtain ⟨rfl, rfl⟩ := h
      have h1 : (cur.toList.take (D.length * 1))[j]? = (cells8 D)[j]? := by rw [ht]
      rw [List.getElem?_take_of_lt (by omega)] at h1
      simp only [World.cell?, hh]
      have hd := hD D[j] (List.getElem_mem hj')
      simpa [cells8, hj', Nat.mod_eq_of_lt hd] using h1)
  rw [hl] at hc
  exact hc
end Go.Proofs.YtgaoeoijdpdjiaaDoor
