/-
  The program's take over words of 32 bits: four words of a block go in. A whole number in one byte: the program's one. The bytes of words, the highest first, as a plain function. A number with one byte more. The bytes of a text and its padding, as a list.
-/
import Derived.Test.YtgaoeoijdpdjiabDoorPart5
namespace Go.Proofs.YtgaoeoijdpdjiabDoor
open Go.RowKit

/-- The first k words of the bytes from place o on, xored in. -/
def take32 (BL : List Nat) (o : Nat) (L : List Nat) : Nat → List Nat
  | 0 => L
  | j + 1 => (take32 BL o L j).set j (at0 (take32 BL o L j) j ^^^ beN BL (o + j * 4) 4)
theorem take32_length (BL : List Nat) (o : Nat) (L : List Nat) (j : Nat) : (take32 BL o L j).length = L.length := by
  induction j with
  | zero => rfl
  | succ j ih => simp only [take32, List.length_set, ih]
theorem take32_words (BL : List Nat) (o : Nat) (L : List Nat) (j : Nat) (h : Words 32 L) (hB : ∀ i, at0 BL i < 256) : Words 32 (take32 BL o L j) := by
  induction j with
  | zero => exact h
  | succ j ih => exact ih.set j _ (Nat.xor_lt_two_pow (ih.at j) (by have := beN_lt BL (o + j * 4) 4 hB; simpa using this))

theorem slice_take32 (h o cap j : Nat) (hj : j < 4) (hc : 16 ≤ cap) (wx : World) : (Instr.slice 41 (.slice (some ⟨h, o, none⟩) 16 cap) (some (.int .i64 ((j : Int) * 4))) (some (.int .i64 (((j : Int) + 1) * 4))) none).run Tryd.prog wx = .ok (.slice (some ⟨h, o + j * 4, none⟩) 4 (cap - j * 4)) wx := by
  have h0 : (0 : Int) ≤ (j : Int) * 4 := by omega
  have h2 : ((j : Int) + 1) * 4 ≤ (cap : Int) := by omega
  have h3 : ((j : Int) * 4).toNat = j * 4 := by omega
  have h4 : (((j : Int) + 1) * 4).toNat = j * 4 + 4 := by omega
  have h5 : j * 4 + 4 - j * 4 = 4 := by omega
  have h7 : ¬ cap = j * 4 := by omega
  simp [go_sem, h0, h2, h3, h4, h5, h7]
  rw [if_pos (by omega), if_pos (by omega)]

set_option maxHeartbeats 2000000 in
theorem take_32 (g h o cap : Nat) (L BL : List Nat) (w : World) (hr : RowK w g .u32 101 L) (hL : L.length = 8) (hW : Words 32 L) (hb : RowK w h .u8 5 BL) (hbl : o + 16 ≤ BL.length) (hB : ∀ i, at0 BL i < 256) (hc : 16 ≤ cap) (hgh : h ≠ g) :
    Calls Tryd.prog 71 #[.pointer (some ⟨g, 0, none⟩), .slice (some ⟨h, o, none⟩) 16 cap] w fun e w' => e = .returned (.tuple #[]) ∧ RowK w' g .u32 101 (take32 BL o L 4) ∧ Only g w w' := by
  have HR := hide hr
  have HL := hide hL
  have HW := hide hW
  have HB := hide hb
  have HBL := hide hbl
  have HBB := hide hB
  clear hr hL hW hb hbl hB
  go_enter Tryd.func71, Tryd.ntmps71
  go_wp2_with fail
  refine (size_32 _).mono ?_
  rintro e w1 ⟨rfl, rfl⟩
  go_wp2
  go_loopw [7] (fun i wr => ∃ j : Nat, j ≤ 4 ∧ i = .int .i64 j ∧ Hid (RowK wr g .u32 101 (take32 BL o L j)) ∧ Hid (Only g w1 wr)) (fun i _ => 4 - (intOf i).toNat)
  case atStart => exact ⟨0, by omega, rfl, HR, Only.refl _ _⟩
  case round =>
    obtain ⟨j, hj, rfl, hr, ho⟩ := hrel
    by_cases hlt : j < 4
    · have hlen : (take32 BL o L j).length = 8 := by rw [take32_length]; exact HL.out
      have hwd := take32_words BL o L j HW.out HBB.out
      have HS : Hid (take32 BL o L (j + 1) = (take32 BL o L j).set j (at0 (take32 BL o L j) j ^^^ beN BL (o + j * 4) 4)) := rfl
      generalize take32 BL o L j = K at hr hlen hwd HS
      have d1 := hr.out.cell (i := j) (by omega)
      have f1 := hr.out.free j
      have x1 : at0 K j < 4294967296 := by have := hwd.at j; simpa using this
      have HRD := hide (fun n' : Nat => read_32 h (o + j * 4) (cap - j * 4) BL (wr.drewN n') ((ho.out.row HB.out hgh).drewN n') (by have := HBL.out; omega) HBB.out)
      have y1 : beN BL (o + j * 4) 4 < 4294967296 := by have := beN_lt BL (o + j * 4) 4 HBB.out; simpa using this
      have HXO := hide (u32_xor_nat (at0 K j) (beN BL (o + j * 4) 4) x1 y1)
      have hsl := slice_take32 h o cap j hlt hc
      generalize beN BL (o + j * 4) 4 = v at HS HRD y1 HXO
      generalize hq : at0 K j = u at d1 x1 HXO HS
      have v1 : IntKind.i64.wrap ((j : Int) * 4) = (j : Int) * 4 := by rw [IntKind.wrap_i64]; omega
      have v2 : IntKind.i64.wrap ((j : Int) + 1) = (j : Int) + 1 := by rw [IntKind.wrap_i64]; omega
      have v3 : IntKind.i64.wrap (((j : Int) + 1) * 4) = ((j : Int) + 1) * 4 := by rw [IntKind.wrap_i64]; omega
      have q0 : (0 : Int) ≤ (j : Int) := by omega
      have q1 : (j : Int) < 8 := by omega
      clear hlen hwd hq x1 y1
      go_wp2
      go_region_with ((go_at_call 86; refine (HRD.out _).mono ?_; rintro e w' ⟨rfl, rfl⟩))
      all_goals
        go_wp2
        try rw [HXO.out]
        go_roundw
        case rel =>
          refine ⟨j + 1, by omega, by go_num, ?_, ?_⟩
          · have h := hr.out.set j (u ^^^ v)
            rw [← HS.out] at h
            exact h
          · unfold Hid
            first | exact (ho.out.drewN _).setCell j _ | (repeat (first | refine Only.drew ?_ | refine Only.setCell ?_ _ _); exact ho.out)
        case measure => simp [intOf]; omega
    · obtain rfl : j = 4 := by omega
      go_wp2
      go_end0
      exact ⟨rfl, hr.out, ho.out⟩
end Go.Proofs.YtgaoeoijdpdjiabDoor

namespace Go.Proofs.YtgaoeoijdpdjiabDoor
open Go.RowKit

theorem one_any (v : Int) (w : World) :
    Calls Tryd.prog 79 #[.int .i64 v] w fun e w' => e = .returned (.string (numB 1 v)) ∧ Below w.heap.size w w' := by
  have HN := hide (number_any 1 v w (by decide))
  go_enter Tryd.func79, Tryd.ntmps79
  go_wp2_with fail
  refine HN.out.mono ?_
  rintro e w1 ⟨rfl, hb⟩
  go_wp2
  go_ret
  exact ⟨rfl, hb⟩
end Go.Proofs.YtgaoeoijdpdjiabDoor

namespace Go.Proofs.YtgaoeoijdpdjiabDoor
open Go.RowKit

/-- The i-th byte of words of n bytes each. -/
def outB (n : Nat) (L : List Nat) (i : Nat) : Nat := at0 L (i / n) / 2 ^ (8 * (n - 1 - i % n)) % 256
def outs (n : Nat) (L : List Nat) (m : Nat) : List Nat := (List.range m).map (outB n L)
theorem outs_length (n : Nat) (L : List Nat) (m : Nat) : (outs n L m).length = m := by simp [outs]
theorem outs_succ (n : Nat) (L : List Nat) (m : Nat) : outs n L (m + 1) = outs n L m ++ [outB n L m] := by simp [outs, List.range_succ]
theorem outB_lt (n : Nat) (L : List Nat) (i : Nat) : outB n L i < 256 := Nat.mod_lt _ (by decide)

/-- The cells of a list of bytes. -/
def cells8 (D : List Nat) : List Value := D.map (fun d => Value.int .u8 ((d : Nat) : Int))
theorem cells8_snoc (D : List Nat) (d : Nat) : cells8 (D ++ [d]) = cells8 D ++ [.int .u8 ((d : Nat) : Int)] := by simp [cells8]

theorem infoByte : (Tryd.prog.info? 5).map (fun i => (i.zero, i.size, i.bytes)) = some (some (.int .u8 0), 1, 1) := by kernel_rfl

theorem owns_lt {w : World} {base : Nat} {e : TypeId} {s : Nat} {v : Value} {n : Nat} {xs : List Value} (h : w.ownsRow base e s v n xs) : ∀ k, v.ownBlock = some k → base ≤ k ∧ k < w.heap.size := by
  intro k hk
  rcases h.2 with ⟨rfl, _⟩ | ⟨g, cap, cur, rfl, hg, hh, _⟩
  · simp [Value.ownBlock] at hk
  · simp only [Value.ownBlock, Option.some.injEq] at hk
    subst hk
    exact ⟨hg, lt_of_block hh⟩
theorem one_new (w : World) (v : Value) (t : TypeId) : ∀ j u, [v][j]? = some u → (w.alloc (.cells #[v] t)).cell? ((Addr.mk w.heap.size 0 none).add j) = some u := by
  intro j u hj
  match j, hj with
  | 0, hj => simp at hj; subst hj; simp [Addr.add]
theorem owns_some {w : World} {base : Nat} {e : TypeId} {s : Nat} {v : Value} {n : Nat} {xs : List Value} (h : w.ownsRow base e s v n xs) (hn : 0 < n) : ∃ g cap, v = .slice (some ⟨g, 0, none⟩) n cap := by
  rcases h.2 with ⟨rfl, rfl⟩ | ⟨g, cap, cur, rfl, _⟩
  · omega
  · exact ⟨g, cap, rfl⟩
/-- The text of a list of bytes. -/
def textOf (D : List Nat) : ByteArray := ⟨(D.map UInt8.ofNat).toArray⟩
theorem textOf_size (D : List Nat) : (textOf D).size = D.length := by simp [textOf, ByteArray.size]

theorem run_text (w : World) (base : Nat) (v : Value) (D : List Nat) (hD : ∀ d ∈ D, d < 256) (h : w.ownsRow base 5 1 v D.length (cells8 D)) (h0 : 0 < D.length) :
    (convert 41 9 v).run Tryd.prog w = .ok (.string (textOf D)) w := by
  obtain ⟨g, cap, rfl⟩ := owns_some h h0
  have hl : (D.map UInt8.ofNat).length = D.length := by simp
  have hc := run_convert_bytes_back (P := Tryd.prog) w 41 9 5 ⟨g, 0, none⟩ cap (D.map UInt8.ofNat) Tryd.underlying41 Tryd.underlying5 Tryd.underlying9 (by
    intro j hj
    have hj' : j < D.length := by simpa using hj
    have hadd : (Addr.mk g 0 none).add j = ⟨g, j, none⟩ := by unfold Addr.add; split <;> simp_all
    rw [hadd]
    rcases h.2 with ⟨h, _⟩ | ⟨g', cap', cur, h, _, hh, _, _, _, ht⟩
    · cases h
    · simp only [Value.slice.injEq, Option.some.injEq, Addr.mk.injEq, and_true, true_and] at h
      obtain ⟨rfl, rfl⟩ := h
      have h1 : (cur.toList.take (D.length * 1))[j]? = (cells8 D)[j]? := by rw [ht]
      rw [List.getElem?_take_of_lt (by omega)] at h1
      simp only [World.cell?, hh]
      have hd := hD D[j] (List.getElem_mem hj')
      simpa [cells8, hj', Nat.mod_eq_of_lt hd] using h1)
  rw [hl] at hc
  exact hc
end Go.Proofs.YtgaoeoijdpdjiabDoor

namespace Go.Proofs.YtgaoeoijdpdjiabDoor
open Go.RowKit

theorem numB_succ (j : Nat) (v : Int) : numB (j + 1) v = ⟨#[UInt8.ofNat (v / 256 ^ j % 256).toNat]⟩ ++ numB j v := by
  apply ByteArray.ext
  simp [numB, numL]
end Go.Proofs.YtgaoeoijdpdjiabDoor

namespace Go.Proofs.YtgaoeoijdpdjiabDoor
open Go.RowKit

/-- A text's bytes, and a 1 behind them. -/
def padL (s : ByteArray) : List Nat := s.data.toList.map UInt8.toNat ++ [1]

theorem padL_length (s : ByteArray) : (padL s).length = s.size + 1 := by simp [padL]

theorem padL_in (s : ByteArray) (i : Nat) (h : i < s.size) : at0 (padL s) i = (s[i]'h).toNat := by
  unfold padL at0
  rw [List.getD_eq_getElem?_getD, List.getElem?_append_left (by simpa using h), List.getElem?_map, List.getElem?_eq_getElem (by simpa using h)]
  rfl

theorem padL_at (s : ByteArray) : at0 (padL s) s.size = 1 := by
  unfold padL at0
  rw [List.getD_eq_getElem?_getD, List.getElem?_append_right (by simp)]
  simp

theorem padL_past (s : ByteArray) (i : Nat) (h : s.size < i) : at0 (padL s) i = 0 := by
  unfold at0
  rw [List.getD_eq_getElem?_getD, List.getElem?_eq_none (by rw [padL_length]; omega)]
  rfl

theorem padL_lt (s : ByteArray) (i : Nat) : at0 (padL s) i < 256 := by
  rcases Nat.lt_trichotomy i s.size with h | h | h
  · rw [padL_in s i h]; exact UInt8.toNat_lt _
  · rw [h, padL_at]; decide
  · rw [padL_past s i h]; decide
end Go.Proofs.YtgaoeoijdpdjiabDoor
