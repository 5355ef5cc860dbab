/-
  The program's stir over words of 64 bits. The program's text over words of 64 bits: the bytes of the first four. The document's own Number, beside the program's.
-/
import Derived.Test.YtbncojflfnpikaaDoorPart12
import Derived.Test.YtbncojflfnpikaaDoorPart8
import Derived.Test.YtbncojflfnpikaaDoorPart11
import Derived.Test.YtbncojflfnpikaaDoorPart10
namespace Go.Proofs.YtbncojflfnpikaaDoor
open Go.RowKit

set_option maxHeartbeats 4000000 in
theorem stir_64 (g : Nat) (L : List Nat) (w : World) (hr : RowK w g .u64 152 L) (hL : L.length = 8) (hW : Words 64 L) (hT : Turns64 w) (hg : 0 < g) :
    Calls Tryd.prog 131 #[.pointer (some ⟨g, 0, none⟩)] w fun e w' => e = .returned (.tuple #[]) ∧ RowK w' g .u64 152 (stirTo 64 L 8) ∧ Only g w w' := by
  have HR := hide hr
  have HL := hide hL
  have HW := hide hW
  have HT := hide hT
  clear hr hL hW hT
  go_enter Tryd.func131, Tryd.ntmps131
  go_wp2
  go_loopw [3] (fun i wr => ∃ j : Nat, j ≤ 8 ∧ i = .int .i64 j ∧ Hid (RowK wr g .u64 152 (stirTo 64 L j)) ∧ Hid (Only g w wr)) (fun i _ => 8 - (intOf i).toNat)
  case atStart => exact ⟨0, by omega, rfl, HR, Only.refl _ _⟩
  case round =>
    obtain ⟨j, hj, rfl, hr, ho⟩ := hrel
    by_cases hlt : j < 8
    · have hlen : (stirTo 64 L j).length = 8 := by rw [stirTo_length _ _ _ HL.out]
      have hwd := stirTo_words 64 L j HL.out HW.out
      have HMX := hide (fun w' h1 h2 => mix_64 g (stirTo 64 L j) w' h1 hlen hwd h2 hg)
      have HS : Hid (stirTo 64 L (j + 1) = roundW (j + 1) (mixTo 64 (stirTo 64 L j) 4)) := rfl
      have hl4 : (mixTo 64 (stirTo 64 L j) 4).length = 8 := by rw [mixTo_length]; exact hlen
      have hw4 := mixTo_words 64 (stirTo 64 L j) 4 hwd
      clear hlen hwd
      go_wp2_with fail
      refine (HMX.out _ hr.out (fun i hi => (ho.out.cell (by simp; omega)).trans (HT.out i hi))).mono ?_
      rintro e w1 ⟨rfl, hr1, ho1⟩
      clear HMX
      generalize mixTo 64 (stirTo 64 L j) 4 = K at hr1 hl4 hw4 HS
      obtain ⟨a0, a1, a2, a3, a4, a5, a6, a7, rfl⟩ := eight_of hl4
      have R1 := hide hr1
      have O1 := hide (ho.out.trans ho1)
      have c0 : w1.cell? ⟨g, 0, none⟩ = some (.int .u64 (a0 : Int)) := hr1.cell (i := 0) (by simp)
      have c4 : w1.cell? ⟨g, 4, none⟩ = some (.int .u64 (a4 : Int)) := hr1.cell (i := 4) (by simp)
      have c5 : w1.cell? ⟨g, 5, none⟩ = some (.int .u64 (a5 : Int)) := hr1.cell (i := 5) (by simp)
      have c6 : w1.cell? ⟨g, 6, none⟩ = some (.int .u64 (a6 : Int)) := hr1.cell (i := 6) (by simp)
      have c7 : w1.cell? ⟨g, 7, none⟩ = some (.int .u64 (a7 : Int)) := hr1.cell (i := 7) (by simp)
      have fz : ∀ i, w1.frozen? ⟨g, i, none⟩ = false := fun i => hr1.free i
      have x0 : a0 < 18446744073709551616 := by have := hw4 a0 (by simp); simpa using this
      have HXO : Hid (bits BinOp.xor IntKind.u64 (a0 : Int) ((j : Int) + 1) = ((a0 ^^^ (j + 1) : Nat) : Int)) := u64_xor_nat a0 (j + 1) x0 (by omega)
      clear hr1 ho1 hl4 hw4
      go_wp2
      go_region
      go_wp2
      go_region
      go_wp2
      rw [HXO.out]
      go_roundw
      case rel =>
        refine ⟨j + 1, by omega, by go_num, ?_, ?_⟩
        · have h := ((((R1.out.set 4 a5).set 5 a6).set 6 a7).set 7 a4).set 0 (a0 ^^^ (j + 1))
          have e : ((((([a0, a1, a2, a3, a4, a5, a6, a7].set 4 a5).set 5 a6).set 6 a7).set 7 a4).set 0 (a0 ^^^ (j + 1))) = roundW (j + 1) [a0, a1, a2, a3, a4, a5, a6, a7] := by simp only [List.set_cons_zero, List.set_cons_succ, roundW]
          rw [e, ← HS.out] at h
          exact h
        · unfold Hid
          repeat (first | refine Only.drew ?_ | refine Only.setCell ?_ _ _)
          exact O1.out
      case measure => simp [intOf]; omega
    · obtain rfl : j = 8 := by omega
      go_wp2
      go_end0
      exact ⟨rfl, hr.out, ho.out⟩
end Go.Proofs.YtbncojflfnpikaaDoor

namespace Go.Proofs.YtbncojflfnpikaaDoor
open Go.RowKit

set_option maxHeartbeats 2000000 in
theorem text_64 (g : Nat) (L : List Nat) (w : World) (hr : RowK w g .u64 152 L) (hL : L.length = 8) (hW : Words 64 L) :
    Calls Tryd.prog 132 #[.pointer (some ⟨g, 0, none⟩)] w fun e w' => e = .returned (.string (textOf (outs 8 L 32))) ∧ Below w.heap.size w w' := by
  have hmk : ∀ w : World, (Instr.makeSlice 79 (.int .i64 0) (.int .i64 32)).run Tryd.prog w = .ok (.slice (some ⟨w.heap.size, 0, none⟩) 0 32) (w.alloc (.cells #[.int .u8 0, .int .u8 0, .int .u8 0, .int .u8 0, .int .u8 0, .int .u8 0, .int .u8 0, .int .u8 0, .int .u8 0, .int .u8 0, .int .u8 0, .int .u8 0, .int .u8 0, .int .u8 0, .int .u8 0, .int .u8 0, .int .u8 0, .int .u8 0, .int .u8 0, .int .u8 0, .int .u8 0, .int .u8 0, .int .u8 0, .int .u8 0, .int .u8 0, .int .u8 0, .int .u8 0, .int .u8 0, .int .u8 0, .int .u8 0, .int .u8 0, .int .u8 0] 5)) := fun _ => by kernel_rfl
  have HR := hide hr
  have HL := hide hL
  have HW := hide hW
  clear hr hL hW
  obtain ⟨i0, hi, hz0, hz1, hz2⟩ := info_parts infoByte
  go_enter Tryd.func132, Tryd.ntmps132
  go_wp2_with fail
  refine (size_64 _).mono ?_
  rintro e w1 ⟨rfl, rfl⟩
  go_wp2
  have HO0 := hide (show (w1.alloc (.cells #[.int .u8 0, .int .u8 0, .int .u8 0, .int .u8 0, .int .u8 0, .int .u8 0, .int .u8 0, .int .u8 0, .int .u8 0, .int .u8 0, .int .u8 0, .int .u8 0, .int .u8 0, .int .u8 0, .int .u8 0, .int .u8 0, .int .u8 0, .int .u8 0, .int .u8 0, .int .u8 0, .int .u8 0, .int .u8 0, .int .u8 0, .int .u8 0, .int .u8 0, .int .u8 0, .int .u8 0, .int .u8 0, .int .u8 0, .int .u8 0, .int .u8 0, .int .u8 0] 5)).ownsRow w1.heap.size 5 1 (.slice (some ⟨w1.heap.size, 0, none⟩) 0 32) 0 [] from ⟨rfl, Or.inr ⟨w1.heap.size, 32, _, rfl, Nat.le_refl _, heap_alloc_new _ _, by omega, by unfold maxLen; omega, rfl, rfl⟩⟩)
  have HB0 := hide ((Below.refl w1.heap.size w1).alloc (Nat.le_refl _) (.cells #[.int .u8 0, .int .u8 0, .int .u8 0, .int .u8 0, .int .u8 0, .int .u8 0, .int .u8 0, .int .u8 0, .int .u8 0, .int .u8 0, .int .u8 0, .int .u8 0, .int .u8 0, .int .u8 0, .int .u8 0, .int .u8 0, .int .u8 0, .int .u8 0, .int .u8 0, .int .u8 0, .int .u8 0, .int .u8 0, .int .u8 0, .int .u8 0, .int .u8 0, .int .u8 0, .int .u8 0, .int .u8 0, .int .u8 0, .int .u8 0, .int .u8 0, .int .u8 0] 5))
  go_loopw [4, 11] (fun v i wr => ∃ a : Nat, a ≤ 4 ∧ i = .int .i64 a ∧ Hid (wr.ownsRow w1.heap.size 5 1 v (a * 8) (cells8 (outs 8 L (a * 8)))) ∧ Hid (Below w1.heap.size w1 wr)) (fun _ i _ => 4 - (intOf i).toNat)
  case atStart => exact ⟨0, by omega, rfl, HO0, HB0⟩
  case round =>
    obtain ⟨a, ha, rfl, ho, hb⟩ := hrel
    by_cases hlt : a < 4
    · obtain ⟨wo, rfl⟩ : ∃ wo : World, wo = wr := ⟨_, rfl⟩
      have hda : decide ((a : Int) < 4) = true := by simp; omega
      go_wp2
      go_loopw [4, 6] (fun v i wr => ∃ q : Nat, q ≤ 8 ∧ i = .int .i64 ((q : Int) - 1) ∧ Hid (wr.ownsRow w1.heap.size 5 1 v (a * 8 + (8 - q)) (cells8 (outs 8 L (a * 8 + (8 - q))))) ∧ Hid (Below w1.heap.size w1 wr)) (fun _ i _ => (intOf i + 1).toNat)
      case atStart => exact ⟨8, by omega, by simp, by simpa using ho, hb⟩
      case round =>
        obtain ⟨q, hq, rfl, ho, hb⟩ := hrel
        by_cases hq0 : 0 < q
        · obtain ⟨q, rfl⟩ : ∃ p, q = p + 1 := ⟨q - 1, by omega⟩
          have c := (HR.out.below hb.out HR.out.lt).cell (i := a) (by have := HL.out; omega)
          have HX := hide (HW.out.at a)
          have HOB : Hid (outB 8 L (a * 8 + (8 - (q + 1))) = at0 L a / 2 ^ (8 * q) % 256) := by
            show outB 8 L (a * 8 + (8 - (q + 1))) = _
            unfold outB
            rw [show (a * 8 + (8 - (q + 1))) / 8 = a by omega, show 8 - 1 - (a * 8 + (8 - (q + 1))) % 8 = q by omega]
          have HSU := hide (outs_succ 8 L (a * 8 + (8 - (q + 1))))
          generalize at0 L a = u at c HX HOB
          go_wp2_with (at_builtin; refine wpList_append_own _ rfl _ _ 79 rfl w1.heap.size 5 i0 (.int .u8 0) 1 1 Tryd.underlying79 hi hz0 hz1 hz2 rfl (by decide) _ _ _ rfl (ho.out.alloc _) ⟨wr.heap.size, 0, none⟩ 1 1 [_] rfl rfl (one_new _ _ _) ?c2 ?c3 ?c4 ?c5 ?_)
          case c2 => intro y hy; simp at hy; subst hy; rfl
          case c3 => unfold maxLen; omega
          case c4 => omega
          case c5 => have := hb.out.size; simp; omega
          intro v' w3 ho3 hgrow _
          have HB3 := hide ((hb.out.alloc hb.out.size _).grown hgrow (by have := hb.out.size; simp; omega) (fun p hp => (owns_lt ho.out p hp).1))
          have HO3 := hide ho3
          clear ho3 hgrow
          go_wp2
          go_roundw
          case rel =>
            have hcs : cells8 (outs 8 L (a * 8 + (8 - q))) = cells8 (outs 8 L (a * 8 + (8 - (q + 1)))) ++ [.int .u8 ((u : Int) / 2 ^ (8 * q) % 256)] := by
              rw [show a * 8 + (8 - q) = a * 8 + (8 - (q + 1)) + 1 by omega, HSU.out, cells8_snoc, HOB.out, Int.natCast_emod, Int.natCast_ediv, Int.natCast_pow]
              rfl
            have R : ∃ p : Nat, p ≤ 8 ∧ Value.int .i64 ((q : Int) - 1) = .int .i64 ((p : Int) - 1) ∧ Hid (w3.ownsRow w1.heap.size 5 1 v' (a * 8 + (8 - p)) (cells8 (outs 8 L (a * 8 + (8 - p))))) ∧ Hid (Below w1.heap.size w1 w3) :=
              ⟨q, by omega, rfl, by rw [hcs]; have h := HO3.out; rw [show a * 8 + (7 - q) + 1 = a * 8 + (8 - q) by omega, show a * 8 + (7 - q) = a * 8 + (8 - (q + 1)) by omega] at h; exact h, HB3.out⟩
            first | exact R | ((repeat apply Exists.intro); exact ⟨R, rfl⟩)
          case measure => simp [intOf]
        · obtain rfl : q = 0 := by omega
          go_wp2
          go_roundw
          case rel => exact ⟨a + 1, by omega, by go_num, by have h := ho; rw [show a * 8 + (8 - 0) = (a + 1) * 8 by omega] at h; exact h, hb⟩
          case measure => simp [intOf]; omega
    · obtain rfl : a = 4 := by omega
      have HT := hide (run_text wr w1.heap.size _ (outs 8 L 32) (fun d hd => by simp only [outs, List.mem_map] at hd; obtain ⟨i, _, rfl⟩ := hd; exact outB_lt _ _ _) (by rw [outs_length]; exact ho.out) (by rw [outs_length]; decide))
      have hT := HT.out
      go_wp2
      go_ret
      exact ⟨rfl, hb.out⟩
end Go.Proofs.YtbncojflfnpikaaDoor
