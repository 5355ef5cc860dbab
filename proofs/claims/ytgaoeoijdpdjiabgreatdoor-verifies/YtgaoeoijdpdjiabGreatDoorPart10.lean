/-
  The program's take over words of 32 bits: four words of a block go in. The document's own question: is it a list of n values? The bytes of words, the highest first, as a plain function. A number with one byte more.
-/
import Derived.Test.YtgaoeoijdpdjiabGreatDoorPart6
import Derived.Test.YtgaoeoijdpdjiabGreatDoorPart5
namespace Go.Proofs.YtgaoeoijdpdjiabGreatDoor
open Go.RowKit

/-- The first k words of the bytes from place o on, xored in. -/
def take32 (BL : List Nat) (o : Nat) (L : List Nat) : Nat → List Nat
  | 0 => L
  | j + 1 => (take32 BL o L j).set j (at0 (take32 BL o L j) j ^^^ beN BL (o + j * 4) 4)
theorem take32_length (BL : List Nat) (o : Nat) (L : List Nat) (j : Nat) : (take32 BL o L j).length = L.length := by
  induction j with
  | zero => rfl
  | succ j ih => simp only [take32, List.length_set, ih]
theorem take32_words (BL : List Nat) (o : Nat) (L : List Nat) (j : Nat) (h : Words 32 L) (hB : ∀ i, at0 BL i < 256) : Words 32 (take32 BL o L j) := by
  induction j with
  | zero => exact h
  | succ j ih => exact ih.set j _ (Nat.xor_lt_two_pow (ih.at j) (by have := beN_lt BL (o + j * 4) 4 hB; simpa using this))

theorem slice_take32 (h o cap j : Nat) (hj : j < 4) (hc : 16 ≤ cap) (wx : World) : (Instr.slice 170 (.slice (some ⟨h, o, none⟩) 16 cap) (some (.int .i64 ((j : Int) * 4))) (some (.int .i64 (((j : Int) + 1) * 4))) none).run Tryz.prog wx = .ok (.slice (some ⟨h, o + j * 4, none⟩) 4 (cap - j * 4)) wx := by
  have h0 : (0 : Int) ≤ (j : Int) * 4 := by omega
  have h2 : ((j : Int) + 1) * 4 ≤ (cap : Int) := by omega
  have h3 : ((j : Int) * 4).toNat = j * 4 := by omega
  have h4 : (((j : Int) + 1) * 4).toNat = j * 4 + 4 := by omega
  have h5 : j * 4 + 4 - j * 4 = 4 := by omega
  have h7 : ¬ cap = j * 4 := by omega
  simp [go_sem, h0, h2, h3, h4, h5, h7]
  rw [if_pos (by omega), if_pos (by omega)]

set_option maxHeartbeats 2000000 in
theorem take_32 (g h o cap : Nat) (L BL : List Nat) (w : World) (hr : RowK w g .u32 358 L) (hL : L.length = 8) (hW : Words 32 L) (hb : RowK w h .u8 5 BL) (hbl : o + 16 ≤ BL.length) (hB : ∀ i, at0 BL i < 256) (hc : 16 ≤ cap) (hgh : h ≠ g) :
    Calls Tryz.prog 292 #[.pointer (some ⟨g, 0, none⟩), .slice (some ⟨h, o, none⟩) 16 cap] w fun e w' => e = .returned (.tuple #[]) ∧ RowK w' g .u32 358 (take32 BL o L 4) ∧ Only g w w' := by
  have HR := hide hr
  have HL := hide hL
  have HW := hide hW
  have HB := hide hb
  have HBL := hide hbl
  have HBB := hide hB
  clear hr hL hW hb hbl hB
  go_enter Tryz.func292, Tryz.ntmps292
  go_wp2_with fail
  refine (size_32 _).mono ?_
  rintro e w1 ⟨rfl, rfl⟩
  go_wp2
  go_loopw [7] (fun i wr => ∃ j : Nat, j ≤ 4 ∧ i = .int .i64 j ∧ Hid (RowK wr g .u32 358 (take32 BL o L j)) ∧ Hid (Only g w1 wr)) (fun i _ => 4 - (intOf i).toNat)
  case atStart => exact ⟨0, by omega, rfl, HR, Only.refl _ _⟩
  case round =>
    obtain ⟨j, hj, rfl, hr, ho⟩ := hrel
    by_cases hlt : j < 4
    · have hlen : (take32 BL o L j).length = 8 := by rw [take32_length]; exact HL.out
      have hwd := take32_words BL o L j HW.out HBB.out
      have HS : Hid (take32 BL o L (j + 1) = (take32 BL o L j).set j (at0 (take32 BL o L j) j ^^^ beN BL (o + j * 4) 4)) := rfl
      generalize take32 BL o L j = K at hr hlen hwd HS
      have d1 := hr.out.cell (i := j) (by omega)
      have f1 := hr.out.free j
      have x1 : at0 K j < 4294967296 := by have := hwd.at j; simpa using this
      have HRD := hide (fun n' : Nat => read_32 h (o + j * 4) (cap - j * 4) BL (wr.drewN n') ((ho.out.row HB.out hgh).drewN n') (by have := HBL.out; omega) HBB.out)
      have y1 : beN BL (o + j * 4) 4 < 4294967296 := by have := beN_lt BL (o + j * 4) 4 HBB.out; simpa using this
      have HXO := hide (u32_xor_nat (at0 K j) (beN BL (o + j * 4) 4) x1 y1)
      have hsl := slice_take32 h o cap j hlt hc
      generalize beN BL (o + j * 4) 4 = v at HS HRD y1 HXO
      generalize hq : at0 K j = u at d1 x1 HXO HS
      have v1 : IntKind.i64.wrap ((j : Int) * 4) = (j : Int) * 4 := by rw [IntKind.wrap_i64]; omega
      have v2 : IntKind.i64.wrap ((j : Int) + 1) = (j : Int) + 1 := by rw [IntKind.wrap_i64]; omega
      have v3 : IntKind.i64.wrap (((j : Int) + 1) * 4) = ((j : Int) + 1) * 4 := by rw [IntKind.wrap_i64]; omega
      have q0 : (0 : Int) ≤ (j : Int) := by omega
      have q1 : (j : Int) < 8 := by omega
      clear hlen hwd hq x1 y1
      go_wp2
      go_region_with ((go_at_call 319; refine (HRD.out _).mono ?_; rintro e w' ⟨rfl, rfl⟩))
      all_goals
        go_wp2
        try rw [HXO.out]
        go_roundw
        case rel =>
          refine ⟨j + 1, by omega, by go_num, ?_, ?_⟩
          · have h := hr.out.set j (u ^^^ v)
            rw [← HS.out] at h
            exact h
          · unfold Hid
            first | exact (ho.out.drewN _).setCell j _ | (repeat (first | refine Only.drew ?_ | refine Only.setCell ?_ _ _); exact ho.out)
        case measure => simp [intOf]; omega
    · obtain rfl : j = 4 := by omega
      go_wp2
      go_end0
      exact ⟨rfl, hr.out, ho.out⟩
end Go.Proofs.YtgaoeoijdpdjiabGreatDoor

namespace Go.Proofs.YtgaoeoijdpdjiabGreatDoor
open Go.RowKit

set_option maxRecDepth 20000 in
set_option maxHeartbeats 1000000 in
theorem rvalues_some (k b x t l n : Int) (bk o c : Nat) (xs : List ByteArray) (w : World) (hcells : ∀ (j : Nat) y, xs[j]? = some y → w.cell? ⟨bk, o + j, none⟩ = some (.string y)) (hbk : bk < w.heap.size) (hN : xs.length ≤ 8796093022208) :
    Calls Tryz.prog 86 #[.agg #[.int .i64 k, .int .i64 b, .int .i64 x, .int .i64 t, .int .i64 l], .slice (some ⟨bk, o, none⟩) xs.length c, .int .i64 n] w fun e w' => e = .returned (.bool (allLen b xs && decide ((xs.length : Int) = n))) ∧ Below w.heap.size w w' := by
  obtain ⟨W0, hW⟩ : ∃ W0, w.alloc (.cells #[.int .i64 k, .int .i64 b, .int .i64 x, .int .i64 t, .int .i64 l] 26) = W0 := ⟨_, rfl⟩
  have HF := hide (show W0.cell? ⟨w.heap.size, 1, none⟩ = some (.int .i64 b) by subst hW; simp [go_sem])
  have HB := hide (show Below w.heap.size w W0 by subst hW; exact (Below.refl _ _).alloc (Nat.le_refl _) _)
  have hz : W0.heap.size ≤ w.heap.size + 1 := by subst hW; simp
  have hz' : w.heap.size + 1 ≤ W0.heap.size := by subst hW; simp
  have HC := hide (fun (V : World) (h : Below W0.heap.size W0 V) (j : Nat) (y : ByteArray) (hj : xs[j]? = some y) => (h.cell (p := ⟨bk, o + j, none⟩) (by show bk < _; omega)).trans ((HB.out.cell (p := ⟨bk, o + j, none⟩) hbk).trans (hcells j y hj)))
  clear hcells
  go_enter Tryz.func86, Tryz.ntmps86
  go_wp2_with fail
  try rw [hW]
  clear hW
  go_loopw [7] (fun i wr => ∃ j : Nat, j ≤ xs.length ∧ i = .int .i64 j ∧ Hid (allLen b (xs.take j) = true) ∧ Hid (Below W0.heap.size W0 wr)) (fun i _ => xs.length - (intOf i).toNat)
  case atStart => exact ⟨0, Nat.zero_le _, rfl, rfl, Below.refl _ _⟩
  case round =>
    obtain ⟨j, hj, rfl, ha, hb⟩ := hrel
    have c1 := (hb.out.cell (p := ⟨w.heap.size, 1, none⟩) (by show w.heap.size < _; omega)).trans HF.out
    by_cases hlt : j < xs.length
    · have c0 := HC.out wr hb.out j xs[j] (List.getElem?_eq_getElem hlt)
      have HT := hide (allLen_take b xs j ha.out hlt)
      have HNO := hide (allLen_no b xs j hlt)
      have HBD := hide (hb.out.drew)
      generalize xs[j] = y at c0 HT HNO
      by_cases hy : (y.size : Int) = b
      · have hys : ((y.size : Int) == b) = true := by simpa using hy
        have hyn : ((y.size : Int) != b) = false := by rw [bne, hys]; rfl
        have HTT := hide (show allLen b (xs.take (j + 1)) = true by rw [HT.out]; simpa using hy)
        clear hy HNO HT
        go_wp2_with fail
        go_region
        go_wp2
        go_roundw
        case rel =>
          have R : ∃ j' : Nat, j' ≤ xs.length ∧ Value.int .i64 ((j : Int) + 1) = .int .i64 j' ∧ Hid (allLen b (xs.take j') = true) ∧ Hid (Below W0.heap.size W0 wr.drew) := ⟨j + 1, by omega, by go_num, HTT.out, HBD.out⟩
          first | exact R | ((repeat apply Exists.intro); exact ⟨R, rfl⟩)
        case measure => simp [intOf]; omega
      · have hys : ((y.size : Int) == b) = false := by simpa using hy
        have hyn : ((y.size : Int) != b) = true := by rw [bne, hys]; rfl
        have HF2 := hide (HNO.out hy)
        clear hy HNO
        go_wp2_with fail
        go_region
        go_wp2
        go_ret
        exact ⟨by rw [HF2.out]; rfl, HB.out.trans (HBD.out.mono (by omega))⟩
    · obtain rfl : j = xs.length := by omega
      have hz := ha.out
      rw [List.take_of_length_le (Nat.le_refl _)] at hz
      have HZ := hide hz
      clear hz
      go_wp2
      go_ret
      exact ⟨by rw [HZ.out]; rfl, HB.out.trans (hb.out.mono (by omega))⟩

set_option maxRecDepth 20000 in
set_option maxHeartbeats 1000000 in
theorem rvalues_nil (k b x t l n : Int) (w : World) :
    Calls Tryz.prog 86 #[.agg #[.int .i64 k, .int .i64 b, .int .i64 x, .int .i64 t, .int .i64 l], .slice none 0 0, .int .i64 n] w fun e w' => e = .returned (.bool (decide (0 = n))) ∧ Below w.heap.size w w' := by
  go_enter Tryz.func86, Tryz.ntmps86
  go_wp2
  go_rounds 1
  go_ret
  exact ⟨rfl, (Below.refl _ _).alloc (Nat.le_refl _) _⟩

set_option maxRecDepth 20000 in
set_option maxHeartbeats 1000000 in
theorem rvalues_emp (k b x t l n : Int) (a : Addr) (c : Nat) (w : World) :
    Calls Tryz.prog 86 #[.agg #[.int .i64 k, .int .i64 b, .int .i64 x, .int .i64 t, .int .i64 l], .slice (some a) 0 c, .int .i64 n] w fun e w' => e = .returned (.bool (decide (0 = n))) ∧ Below w.heap.size w w' := by
  go_enter Tryz.func86, Tryz.ntmps86
  go_wp2
  go_rounds 1
  go_ret
  exact ⟨rfl, (Below.refl _ _).alloc (Nat.le_refl _) _⟩
end Go.Proofs.YtgaoeoijdpdjiabGreatDoor

namespace Go.Proofs.YtgaoeoijdpdjiabGreatDoor
open Go.RowKit

/-- The i-th byte of words of n bytes each. -/
def outB (n : Nat) (L : List Nat) (i : Nat) : Nat := at0 L (i / n) / 2 ^ (8 * (n - 1 - i % n)) % 256
def outs (n : Nat) (L : List Nat) (m : Nat) : List Nat := (List.range m).map (outB n L)
theorem outs_length (n : Nat) (L : List Nat) (m : Nat) : (outs n L m).length = m := by simp [outs]
theorem outs_succ (n : Nat) (L : List Nat) (m : Nat) : outs n L (m + 1) = outs n L m ++ [outB n L m] := by simp [outs, List.range_succ]
theorem outB_lt (n : Nat) (L : List Nat) (i : Nat) : outB n L i < 256 := Nat.mod_lt _ (by decide)

/-- The cells of a list of bytes. -/
def cells8 (D : List Nat) : List Value := D.map (fun d => Value.int .u8 ((d : Nat) : Int))
theorem cells8_snoc (D : List Nat) (d : Nat) : cells8 (D ++ [d]) = cells8 D ++ [.int .u8 ((d : Nat) : Int)] := by simp [cells8]

theorem infoByte : (Tryz.prog.info? 5).map (fun i => (i.zero, i.size, i.bytes)) = some (some (.int .u8 0), 1, 1) := by kernel_rfl

theorem owns_lt {w : World} {base : Nat} {e : TypeId} {s : Nat} {v : Value} {n : Nat} {xs : List Value} (h : w.ownsRow base e s v n xs) : ∀ k, v.ownBlock = some k → base ≤ k ∧ k < w.heap.size := by
  intro k hk
  rcases h.2 with ⟨rfl, _⟩ | ⟨g, cap, cur, rfl, hg, hh, _⟩
  · simp [Value.ownBlock] at hk
  · simp only [Value.ownBlock, Option.some.injEq] at hk
    subst hk
    exact ⟨hg, lt_of_block hh⟩
theorem one_new (w : World) (v : Value) (t : TypeId) : ∀ j u, [v][j]? = some u → (w.alloc (.cells #[v] t)).cell? ((Addr.mk w.heap.size 0 none).add j) = some u := by
  intro j u hj
  match j, hj with
  | 0, hj => simp at hj; subst hj; simp [Addr.add]
theorem owns_some {w : World} {base : Nat} {e : TypeId} {s : Nat} {v : Value} {n : Nat} {xs : List Value} (h : w.ownsRow base e s v n xs) (hn : 0 < n) : ∃ g cap, v = .slice (some ⟨g, 0, none⟩) n cap := by
  rcases h.2 with ⟨rfl, rfl⟩ | ⟨g, cap, cur, rfl, _⟩
  · omega
  · exact ⟨g, cap, rfl⟩
/-- The text of a list of bytes. -/
def textOf (D : List Nat) : ByteArray := ⟨(D.map UInt8.ofNat).toArray⟩
theorem textOf_size (D : List Nat) : (textOf D).size = D.length := by simp [textOf, ByteArray.size]

theorem run_text (w : World) (base : Nat) (v : Value) (D : List Nat) (hD : ∀ d ∈ D, d < 256) (h : w.ownsRow base 5 1 v D.length (cells8 D)) (h0 : 0 < D.length) :
    (convert 170 9 v).run Tryz.prog w = .ok (.string (textOf D)) w := by
  obtain ⟨g, cap, rfl⟩ := owns_some h h0
  have hl : (D.map UInt8.ofNat).length = D.length := by simp
  have hc := run_convert_bytes_back (P := Tryz.prog) w 170 9 5 ⟨g, 0, none⟩ cap (D.map UInt8.ofNat) Tryz.underlying170 Tryz.underlying5 Tryz.underlying9 (by
    intro j hj
    have hj' : j < D.length := by simpa using hj
    have hadd : (Addr.mk g 0 none).add j = ⟨g, j, none⟩ := by unfold Addr.add; split <;> simp_all
    rw [hadd]
    rcases h.2 with ⟨h, _⟩ | ⟨g', cap', cur, h, _, hh, _, _, _, ht⟩
    · cases h
    · simp only [Value.slice.injEq, Option.some.injEq, Addr.mk.injEq, and_true, true_and] at h
      obtain ⟨rfl, rfl⟩ := h
      have h1 : (cur.toList.take (D.length * 1))[j]? = (cells8 D)[j]? := by rw [ht]
      rw [List.getElem?_take_of_lt (by omega)] at h1
      simp only [World.cell?, hh]
      have hd := hD D[j] (List.getElem_mem hj')
      simpa [cells8, hj', Nat.mod_eq_of_lt hd] using h1)
  rw [hl] at hc
  exact hc
end Go.Proofs.YtgaoeoijdpdjiabGreatDoor

namespace Go.Proofs.YtgaoeoijdpdjiabGreatDoor
open Go.RowKit

theorem numB_succ (j : Nat) (v : Int) : numB (j + 1) v = ⟨#[UInt8.ofNat (v / 256 ^ j % 256).toNat]⟩ ++ numB j v := by
  apply ByteArray.ext
  simp [numB, numL]
end Go.Proofs.YtgaoeoijdpdjiabGreatDoor
