/-
  The bytes of words, the highest first, as a plain function. The program's text over words of 32 bits: the bytes of the first four. The document's own word of a text behind which a 1 and zeros lie.
-/
import Derived.Test.YtcaojimmdcdpiaaDoorPart3
import Derived.Test.YtcaojimmdcdpiaaDoorPart4
namespace Go.Proofs.YtcaojimmdcdpiaaDoor
open Go.RowKit

/-- The i-th byte of words of n bytes each. -/
def outB (n : Nat) (L : List Nat) (i : Nat) : Nat := at0 L (i / n) / 2 ^ (8 * (n - 1 - i % n)) % 256
def outs (n : Nat) (L : List Nat) (m : Nat) : List Nat := (List.range m).map (outB n L)
theorem outs_length (n : Nat) (L : List Nat) (m : Nat) : (outs n L m).length = m := by simp [outs]
theorem outs_succ (n : Nat) (L : List Nat) (m : Nat) : outs n L (m + 1) = outs n L m ++ [outB n L m] := by simp [outs, List.range_succ]
theorem outB_lt (n : Nat) (L : List Nat) (i : Nat) : outB n L i < 256 := Nat.mod_lt _ (by decide)

/-- The cells of a list of bytes. -/
def cells8 (D : List Nat) : List Value := D.map (fun d => Value.int .u8 ((d : Nat) : Int))
theorem cells8_snoc (D : List Nat) (d : Nat) : cells8 (D ++ [d]) = cells8 D ++ [.int .u8 ((d : Nat) : Int)] := by simp [cells8]

theorem infoByte : (Tryd.prog.info? 5).map (fun i => (i.zero, i.size, i.bytes)) = some (some (.int .u8 0), 1, 1) := by kernel_rfl

theorem owns_lt {w : World} {base : Nat} {e : TypeId} {s : Nat} {v : Value} {n : Nat} {xs : List Value} (h : w.ownsRow base e s v n xs) : ∀ k, v.ownBlock = some k → base ≤ k ∧ k < w.heap.size := by
  intro k hk
  rcases h.2 with ⟨rfl, _⟩ | ⟨g, cap, cur, rfl, hg, hh, _⟩
  · simp [Value.ownBlock] at hk
  · simp only [Value.ownBlock, Option.some.injEq] at hk
    subst hk
    exact ⟨hg, lt_of_block hh⟩
theorem one_new (w : World) (v : Value) (t : TypeId) : ∀ j u, [v][j]? = some u → (w.alloc (.cells #[v] t)).cell? ((Addr.mk w.heap.size 0 none).add j) = some u := by
  intro j u hj
  match j, hj with
  | 0, hj => simp at hj; subst hj; simp [Addr.add]
theorem owns_some {w : World} {base : Nat} {e : TypeId} {s : Nat} {v : Value} {n : Nat} {xs : List Value} (h : w.ownsRow base e s v n xs) (hn : 0 < n) : ∃ g cap, v = .slice (some ⟨g, 0, none⟩) n cap := by
  rcases h.2 with ⟨rfl, rfl⟩ | ⟨g, cap, cur, rfl, _⟩
  · omega
  · exact ⟨g, cap, rfl⟩
/-- The text of a list of bytes. -/
def textOf (D : List Nat) : ByteArray := ⟨(D.map UInt8.ofNat).toArray⟩
theorem textOf_size (D : List Nat) : (textOf D).size = D.length := by simp [textOf, ByteArray.size]

theorem run_text (w : World) (base : Nat) (v : Value) (D : List Nat) (hD : ∀ d ∈ D, d < 256) (h : w.ownsRow base 5 1 v D.length (cells8 D)) (h0 : 0 < D.length) :
    (convert 79 9 v).run Tryd.prog w = .ok (.string (textOf D)) w := by
  obtain ⟨g, cap, rfl⟩ := owns_some h h0
  have hl : (D.map UInt8.ofNat).length = D.length := by simp
  have hc := run_convert_bytes_back (P := Tryd.prog) w 79 9 5 ⟨g, 0, none⟩ cap (D.map UInt8.ofNat) Tryd.underlying79 Tryd.underlying5 Tryd.underlying9 (by
    intro j hj
    have hj' : j < D.length := by simpa using hj
    have hadd : (Addr.mk g 0 none).add j = ⟨g, j, none⟩ := by unfold Addr.add; split <;> simp_all
    rw [hadd]
    rcases h.2 with ⟨h, _⟩ | ⟨g', cap', cur, h, _, hh, _, _, _, ht⟩
    · cases h
    · simp only [Value.slice.injEq, Option.some.injEq, Addr.mk.injEq, and_true, true_and] at h
      obtain ⟨rfl, rfl⟩ := h
      have h1 : (cur.toList.take (D.length * 1))[j]? = (cells8 D)[j]? := by rw [ht]
      rw [List.getElem?_take_of_lt (by omega)] at h1
      simp only [World.cell?, hh]
      have hd := hD D[j] (List.getElem_mem hj')
      simpa [cells8, hj', Nat.mod_eq_of_lt hd] using h1)
  rw [hl] at hc
  exact hc
end Go.Proofs.YtcaojimmdcdpiaaDoor

namespace Go.Proofs.YtcaojimmdcdpiaaDoor
open Go.RowKit

set_option maxHeartbeats 2000000 in
theorem text_32 (g : Nat) (L : List Nat) (w : World) (hr : RowK w g .u32 149 L) (hL : L.length = 8) (hW : Words 32 L) :
    Calls Tryd.prog 128 #[.pointer (some ⟨g, 0, none⟩)] w fun e w' => e = .returned (.string (textOf (outs 4 L 16))) ∧ Below w.heap.size w w' := by
  have hmk : ∀ w : World, (Instr.makeSlice 79 (.int .i64 0) (.int .i64 16)).run Tryd.prog w = .ok (.slice (some ⟨w.heap.size, 0, none⟩) 0 16) (w.alloc (.cells #[.int .u8 0, .int .u8 0, .int .u8 0, .int .u8 0, .int .u8 0, .int .u8 0, .int .u8 0, .int .u8 0, .int .u8 0, .int .u8 0, .int .u8 0, .int .u8 0, .int .u8 0, .int .u8 0, .int .u8 0, .int .u8 0] 5)) := fun _ => by kernel_rfl
  have HR := hide hr
  have HL := hide hL
  have HW := hide hW
  clear hr hL hW
  obtain ⟨i0, hi, hz0, hz1, hz2⟩ := info_parts infoByte
  go_enter Tryd.func128, Tryd.ntmps128
  go_wp2_with fail
  refine (size_32 _).mono ?_
  rintro e w1 ⟨rfl, rfl⟩
  go_wp2
  have HO0 := hide (show (w1.alloc (.cells #[.int .u8 0, .int .u8 0, .int .u8 0, .int .u8 0, .int .u8 0, .int .u8 0, .int .u8 0, .int .u8 0, .int .u8 0, .int .u8 0, .int .u8 0, .int .u8 0, .int .u8 0, .int .u8 0, .int .u8 0, .int .u8 0] 5)).ownsRow w1.heap.size 5 1 (.slice (some ⟨w1.heap.size, 0, none⟩) 0 16) 0 [] from ⟨rfl, Or.inr ⟨w1.heap.size, 16, _, rfl, Nat.le_refl _, heap_alloc_new _ _, by omega, by unfold maxLen; omega, rfl, rfl⟩⟩)
  have HB0 := hide ((Below.refl w1.heap.size w1).alloc (Nat.le_refl _) (.cells #[.int .u8 0, .int .u8 0, .int .u8 0, .int .u8 0, .int .u8 0, .int .u8 0, .int .u8 0, .int .u8 0, .int .u8 0, .int .u8 0, .int .u8 0, .int .u8 0, .int .u8 0, .int .u8 0, .int .u8 0, .int .u8 0] 5))
  go_loopw [4, 11] (fun v i wr => ∃ a : Nat, a ≤ 4 ∧ i = .int .i64 a ∧ Hid (wr.ownsRow w1.heap.size 5 1 v (a * 4) (cells8 (outs 4 L (a * 4)))) ∧ Hid (Below w1.heap.size w1 wr)) (fun _ i _ => 4 - (intOf i).toNat)
  case atStart => exact ⟨0, by omega, rfl, HO0, HB0⟩
  case round =>
    obtain ⟨a, ha, rfl, ho, hb⟩ := hrel
    by_cases hlt : a < 4
    · obtain ⟨wo, rfl⟩ : ∃ wo : World, wo = wr := ⟨_, rfl⟩
      have hda : decide ((a : Int) < 4) = true := by simp; omega
      go_wp2
      go_loopw [4, 6] (fun v i wr => ∃ q : Nat, q ≤ 4 ∧ i = .int .i64 ((q : Int) - 1) ∧ Hid (wr.ownsRow w1.heap.size 5 1 v (a * 4 + (4 - q)) (cells8 (outs 4 L (a * 4 + (4 - q))))) ∧ Hid (Below w1.heap.size w1 wr)) (fun _ i _ => (intOf i + 1).toNat)
      case atStart => exact ⟨4, by omega, by simp, by simpa using ho, hb⟩
      case round =>
        obtain ⟨q, hq, rfl, ho, hb⟩ := hrel
        by_cases hq0 : 0 < q
        · obtain ⟨q, rfl⟩ : ∃ p, q = p + 1 := ⟨q - 1, by omega⟩
          have c := (HR.out.below hb.out HR.out.lt).cell (i := a) (by have := HL.out; omega)
          have HX := hide (HW.out.at a)
          have HOB : Hid (outB 4 L (a * 4 + (4 - (q + 1))) = at0 L a / 2 ^ (8 * q) % 256) := by
            show outB 4 L (a * 4 + (4 - (q + 1))) = _
            unfold outB
            rw [show (a * 4 + (4 - (q + 1))) / 4 = a by omega, show 4 - 1 - (a * 4 + (4 - (q + 1))) % 4 = q by omega]
          have HSU := hide (outs_succ 4 L (a * 4 + (4 - (q + 1))))
          generalize at0 L a = u at c HX HOB
          go_wp2_with (at_builtin; refine wpList_append_own _ rfl _ _ 79 rfl w1.heap.size 5 i0 (.int .u8 0) 1 1 Tryd.underlying79 hi hz0 hz1 hz2 rfl (by decide) _ _ _ rfl (ho.out.alloc _) ⟨wr.heap.size, 0, none⟩ 1 1 [_] rfl rfl (one_new _ _ _) ?c2 ?c3 ?c4 ?c5 ?_)
          case c2 => intro y hy; simp at hy; subst hy; rfl
          case c3 => unfold maxLen; omega
          case c4 => omega
          case c5 => have := hb.out.size; simp; omega
          intro v' w3 ho3 hgrow _
          have HB3 := hide ((hb.out.alloc hb.out.size _).grown hgrow (by have := hb.out.size; simp; omega) (fun p hp => (owns_lt ho.out p hp).1))
          have HO3 := hide ho3
          clear ho3 hgrow
          go_wp2
          go_roundw
          case rel =>
            have hcs : cells8 (outs 4 L (a * 4 + (4 - q))) = cells8 (outs 4 L (a * 4 + (4 - (q + 1)))) ++ [.int .u8 ((u : Int) / 2 ^ (8 * q) % 256)] := by
              rw [show a * 4 + (4 - q) = a * 4 + (4 - (q + 1)) + 1 by omega, HSU.out, cells8_snoc, HOB.out, Int.natCast_emod, Int.natCast_ediv, Int.natCast_pow]
              rfl
            have R : ∃ p : Nat, p ≤ 4 ∧ Value.int .i64 ((q : Int) - 1) = .int .i64 ((p : Int) - 1) ∧ Hid (w3.ownsRow w1.heap.size 5 1 v' (a * 4 + (4 - p)) (cells8 (outs 4 L (a * 4 + (4 - p))))) ∧ Hid (Below w1.heap.size w1 w3) :=
              ⟨q, by omega, rfl, by rw [hcs]; have h := HO3.out; rw [show a * 4 + (3 - q) + 1 = a * 4 + (4 - q) by omega, show a * 4 + (3 - q) = a * 4 + (4 - (q + 1)) by omega] at h; exact h, HB3.out⟩
            first | exact R | ((repeat apply Exists.intro); exact ⟨R, rfl⟩)
          case measure => simp [intOf]
        · obtain rfl : q = 0 := by omega
          go_wp2
          go_roundw
          case rel => exact ⟨a + 1, by omega, by go_num, by have h := ho; rw [show a * 4 + (4 - 0) = (a + 1) * 4 by omega] at h; exact h, hb⟩
          case measure => simp [intOf]; omega
    · obtain rfl : a = 4 := by omega
      have HT := hide (run_text wr w1.heap.size _ (outs 4 L 16) (fun d hd => by simp only [outs, List.mem_map] at hd; obtain ⟨i, _, rfl⟩ := hd; exact outB_lt _ _ _) (by rw [outs_length]; exact ho.out) (by rw [outs_length]; decide))
      have hT := HT.out
      go_wp2
      go_ret
      exact ⟨rfl, hb.out⟩
end Go.Proofs.YtcaojimmdcdpiaaDoor

namespace Go.Proofs.YtcaojimmdcdpiaaDoor
open Go.RowKit

/-- A text's bytes, and a 1 behind them. -/
def padL (s : ByteArray) : List Nat := s.data.toList.map UInt8.toNat ++ [1]

theorem padL_length (s : ByteArray) : (padL s).length = s.size + 1 := by simp [padL]
theorem padL_in (s : ByteArray) (i : Nat) (h : i < s.size) : at0 (padL s) i = (s[i]'h).toNat := by
  unfold padL at0
  rw [List.getD_eq_getElem?_getD, List.getElem?_append_left (by simpa using h), List.getElem?_map, List.getElem?_eq_getElem (by simpa using h)]
  rfl
theorem padL_at (s : ByteArray) : at0 (padL s) s.size = 1 := by
  unfold padL at0
  rw [List.getD_eq_getElem?_getD, List.getElem?_append_right (by simp)]
  simp
theorem padL_past (s : ByteArray) (i : Nat) (h : s.size < i) : at0 (padL s) i = 0 := by
  unfold at0
  rw [List.getD_eq_getElem?_getD, List.getElem?_eq_none (by rw [padL_length]; omega)]
  rfl
theorem padL_lt (s : ByteArray) (i : Nat) : at0 (padL s) i < 256 := by
  rcases Nat.lt_trichotomy i s.size with h | h | h
  · rw [padL_in s i h]; exact UInt8.toNat_lt _
  · rw [h, padL_at]; decide
  · rw [padL_past s i h]; decide

set_option maxHeartbeats 400000 in
theorem word_4 (s : ByteArray) (q : Nat) (w : World) (hs : s.size ≤ 1000) (hq : q ≤ 1000) :
    Calls Tryd.prog 98 #[.string s, .int .i64 q, .int .i64 4] w fun e w' => e = .returned (.int .u64 ((beN (padL s) (q * 4) 4 : Nat) : Int)) ∧ w' = w := by
  go_enter Tryd.func98, Tryd.ntmps98
  go_wp2
  go_loop [7, 8] (fun x i => ∃ j : Nat, j ≤ 4 ∧ i = .int .i64 ((q : Int) * 4 + j) ∧ x = .int .u64 ((beN (padL s) (q * 4) j : Nat) : Int)) (fun _ i => (((q : Int) + 1) * 4 - intOf i).toNat)
  case atStart => exact ⟨0, by omega, by simp, rfl⟩
  case round =>
    obtain ⟨j, hj, rfl, rfl⟩ := hrel
    by_cases hlt : j < 4
    · have hv : beN (padL s) (q * 4) j < 16777216 := Nat.lt_of_lt_of_le (beN_lt _ _ j (padL_lt s)) (Nat.pow_le_pow_right (by decide) (show j ≤ 3 by omega))
      have HS : Hid (beN (padL s) (q * 4) (j + 1) = beN (padL s) (q * 4) j * 256 + at0 (padL s) (q * 4 + j)) := rfl
      have HV := hide hv
      generalize beN (padL s) (q * 4) j = v at hv HS HV ⊢
      have HC := hide (padL_lt s (q * 4 + j))
      rcases Nat.lt_trichotomy (q * 4 + j) s.size with h | h | h
      · have HX := hide (padL_in s (q * 4 + j) h)
        have t1 : ((q : Int) * 4 + (j : Int)).toNat = q * 4 + j := by omega
        have h1 : (q : Int) * 4 + (j : Int) < (s.size : Int) := by omega
        have h2 : (0 : Int) ≤ (q : Int) * 4 + (j : Int) := by omega
        have hcb : (((s[q * 4 + j]'h).toNat : Nat) : Int) ≤ 255 := by have := UInt8.toNat_lt (s[q * 4 + j]'h); omega
        clear hv
        go_wp2
        go_round
        case rel =>
          refine ⟨j + 1, by omega, by go_num, ?_⟩
          rw [HS.out, HX.out]
          have := HV.out
          refine congrArg (Value.int IntKind.u64) ?_
          try simp only [IntKind.wrap_u64]
          omega
        case measure => simp [intOf]; omega
      · have HX := hide (show at0 (padL s) (q * 4 + j) = 1 by rw [h]; exact padL_at s)
        have h1 : decide ((q : Int) * 4 + (j : Int) < (s.size : Int)) = false := by simp; omega
        have h2 : ((q : Int) * 4 + (j : Int) == (s.size : Int)) = true := by rw [beq_iff_eq]; omega
        have H := hide h
        clear hv h
        go_wp2
        go_round
        case rel =>
          refine ⟨j + 1, by omega, by go_num, ?_⟩
          rw [HS.out, HX.out]
          have := HV.out
          refine congrArg (Value.int IntKind.u64) ?_
          try simp only [IntKind.wrap_u64]
          omega
        case measure => simp [intOf]; omega
      · have HX := hide (padL_past s (q * 4 + j) h)
        have h1 : decide ((q : Int) * 4 + (j : Int) < (s.size : Int)) = false := by simp; omega
        have h2 : ((q : Int) * 4 + (j : Int) == (s.size : Int)) = false := by rw [beq_eq_false_iff_ne]; omega
        clear hv
        go_wp2
        go_round
        case rel =>
          refine ⟨j + 1, by omega, by go_num, ?_⟩
          rw [HS.out, HX.out]
          have := HV.out
          refine congrArg (Value.int IntKind.u64) ?_
          try simp only [IntKind.wrap_u64]
          omega
        case measure => simp [intOf]; omega
    · obtain rfl : j = 4 := by omega
      go_wp2
      go_ret
      exact ⟨rfl, rfl⟩

set_option maxHeartbeats 400000 in
theorem word_8 (s : ByteArray) (q : Nat) (w : World) (hs : s.size ≤ 1000) (hq : q ≤ 1000) :
    Calls Tryd.prog 98 #[.string s, .int .i64 q, .int .i64 8] w fun e w' => e = .returned (.int .u64 ((beN (padL s) (q * 8) 8 : Nat) : Int)) ∧ w' = w := by
  go_enter Tryd.func98, Tryd.ntmps98
  go_wp2
  go_loop [7, 8] (fun x i => ∃ j : Nat, j ≤ 8 ∧ i = .int .i64 ((q : Int) * 8 + j) ∧ x = .int .u64 ((beN (padL s) (q * 8) j : Nat) : Int)) (fun _ i => (((q : Int) + 1) * 8 - intOf i).toNat)
  case atStart => exact ⟨0, by omega, by simp, rfl⟩
  case round =>
    obtain ⟨j, hj, rfl, rfl⟩ := hrel
    by_cases hlt : j < 8
    · have hv : beN (padL s) (q * 8) j < 72057594037927936 := Nat.lt_of_lt_of_le (beN_lt _ _ j (padL_lt s)) (Nat.pow_le_pow_right (by decide) (show j ≤ 7 by omega))
      have HS : Hid (beN (padL s) (q * 8) (j + 1) = beN (padL s) (q * 8) j * 256 + at0 (padL s) (q * 8 + j)) := rfl
      have HV := hide hv
      generalize beN (padL s) (q * 8) j = v at hv HS HV ⊢
      have HC := hide (padL_lt s (q * 8 + j))
      rcases Nat.lt_trichotomy (q * 8 + j) s.size with h | h | h
      · have HX := hide (padL_in s (q * 8 + j) h)
        have t1 : ((q : Int) * 8 + (j : Int)).toNat = q * 8 + j := by omega
        have h1 : (q : Int) * 8 + (j : Int) < (s.size : Int) := by omega
        have h2 : (0 : Int) ≤ (q : Int) * 8 + (j : Int) := by omega
        have hcb : (((s[q * 8 + j]'h).toNat : Nat) : Int) ≤ 255 := by have := UInt8.toNat_lt (s[q * 8 + j]'h); omega
        clear hv
        go_wp2
        go_round
        case rel =>
          refine ⟨j + 1, by omega, by go_num, ?_⟩
          rw [HS.out, HX.out]
          have := HV.out
          refine congrArg (Value.int IntKind.u64) ?_
          try simp only [IntKind.wrap_u64]
          omega
        case measure => simp [intOf]; omega
      · have HX := hide (show at0 (padL s) (q * 8 + j) = 1 by rw [h]; exact padL_at s)
        have h1 : decide ((q : Int) * 8 + (j : Int) < (s.size : Int)) = false := by simp; omega
        have h2 : ((q : Int) * 8 + (j : Int) == (s.size : Int)) = true := by rw [beq_iff_eq]; omega
        have H := hide h
        clear hv h
        go_wp2
        go_round
        case rel =>
          refine ⟨j + 1, by omega, by go_num, ?_⟩
          rw [HS.out, HX.out]
          have := HV.out
          refine congrArg (Value.int IntKind.u64) ?_
          try simp only [IntKind.wrap_u64]
          omega
        case measure => simp [intOf]; omega
      · have HX := hide (padL_past s (q * 8 + j) h)
        have h1 : decide ((q : Int) * 8 + (j : Int) < (s.size : Int)) = false := by simp; omega
        have h2 : ((q : Int) * 8 + (j : Int) == (s.size : Int)) = false := by rw [beq_eq_false_iff_ne]; omega
        clear hv
        go_wp2
        go_round
        case rel =>
          refine ⟨j + 1, by omega, by go_num, ?_⟩
          rw [HS.out, HX.out]
          have := HV.out
          refine congrArg (Value.int IntKind.u64) ?_
          try simp only [IntKind.wrap_u64]
          omega
        case measure => simp [intOf]; omega
    · obtain rfl : j = 8 := by omega
      go_wp2
      go_ret
      exact ⟨rfl, rfl⟩

end Go.Proofs.YtcaojimmdcdpiaaDoor
