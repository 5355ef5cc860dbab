/-
  A whole number in one byte: the program's one. The program's take over words of 32 bits: four words of a block go in. The program's mix over words of 32 bits.
-/
import Derived.Test.YtbncojflfnpikaaDoorPart7
namespace Go.Proofs.YtbncojflfnpikaaDoor
open Go.RowKit

theorem one_any (v : Int) (w : World) :
    Calls Tryd.prog 116 #[.int .i64 v] w fun e w' => e = .returned (.string (numB 1 v)) ∧ Below w.heap.size w w' := by
  have HN := hide (number_any 1 v w (by decide))
  go_enter Tryd.func116, Tryd.ntmps116
  go_wp2_with fail
  refine HN.out.mono ?_
  rintro e w1 ⟨rfl, hb⟩
  go_wp2
  go_ret
  exact ⟨rfl, hb⟩
end Go.Proofs.YtbncojflfnpikaaDoor

namespace Go.Proofs.YtbncojflfnpikaaDoor
open Go.RowKit

/-- The first k words of the bytes from place o on, xored in. -/
def take32 (BL : List Nat) (o : Nat) (L : List Nat) : Nat → List Nat
  | 0 => L
  | j + 1 => (take32 BL o L j).set j (at0 (take32 BL o L j) j ^^^ beN BL (o + j * 4) 4)
theorem take32_length (BL : List Nat) (o : Nat) (L : List Nat) (j : Nat) : (take32 BL o L j).length = L.length := by
  induction j with
  | zero => rfl
  | succ j ih => simp only [take32, List.length_set, ih]
theorem take32_words (BL : List Nat) (o : Nat) (L : List Nat) (j : Nat) (h : Words 32 L) (hB : ∀ i, at0 BL i < 256) : Words 32 (take32 BL o L j) := by
  induction j with
  | zero => exact h
  | succ j ih => exact ih.set j _ (Nat.xor_lt_two_pow (ih.at j) (by have := beN_lt BL (o + j * 4) 4 hB; simpa using this))

theorem slice_take32 (h o cap j : Nat) (hj : j < 4) (hc : 16 ≤ cap) (wx : World) : (Instr.slice 79 (.slice (some ⟨h, o, none⟩) 16 cap) (some (.int .i64 ((j : Int) * 4))) (some (.int .i64 (((j : Int) + 1) * 4))) none).run Tryd.prog wx = .ok (.slice (some ⟨h, o + j * 4, none⟩) 4 (cap - j * 4)) wx := by
  have h0 : (0 : Int) ≤ (j : Int) * 4 := by omega
  have h2 : ((j : Int) + 1) * 4 ≤ (cap : Int) := by omega
  have h3 : ((j : Int) * 4).toNat = j * 4 := by omega
  have h4 : (((j : Int) + 1) * 4).toNat = j * 4 + 4 := by omega
  have h5 : j * 4 + 4 - j * 4 = 4 := by omega
  have h7 : ¬ cap = j * 4 := by omega
  simp [go_sem, h0, h2, h3, h4, h5, h7]
  rw [if_pos (by omega), if_pos (by omega)]

set_option maxHeartbeats 2000000 in
theorem take_32 (g h o cap : Nat) (L BL : List Nat) (w : World) (hr : RowK w g .u32 149 L) (hL : L.length = 8) (hW : Words 32 L) (hb : RowK w h .u8 5 BL) (hbl : o + 16 ≤ BL.length) (hB : ∀ i, at0 BL i < 256) (hc : 16 ≤ cap) (hgh : h ≠ g) :
    Calls Tryd.prog 126 #[.pointer (some ⟨g, 0, none⟩), .slice (some ⟨h, o, none⟩) 16 cap] w fun e w' => e = .returned (.tuple #[]) ∧ RowK w' g .u32 149 (take32 BL o L 4) ∧ Only g w w' := by
  have HR := hide hr
  have HL := hide hL
  have HW := hide hW
  have HB := hide hb
  have HBL := hide hbl
  have HBB := hide hB
  clear hr hL hW hb hbl hB
  go_enter Tryd.func126, Tryd.ntmps126
  go_wp2_with fail
  refine (size_32 _).mono ?_
  rintro e w1 ⟨rfl, rfl⟩
  go_wp2
  go_loopw [7] (fun i wr => ∃ j : Nat, j ≤ 4 ∧ i = .int .i64 j ∧ Hid (RowK wr g .u32 149 (take32 BL o L j)) ∧ Hid (Only g w1 wr)) (fun i _ => 4 - (intOf i).toNat)
  case atStart => exact ⟨0, by omega, rfl, HR, Only.refl _ _⟩
  case round =>
    obtain ⟨j, hj, rfl, hr, ho⟩ := hrel
    by_cases hlt : j < 4
    · have hlen : (take32 BL o L j).length = 8 := by rw [take32_length]; exact HL.out
      have hwd := take32_words BL o L j HW.out HBB.out
      have HS : Hid (take32 BL o L (j + 1) = (take32 BL o L j).set j (at0 (take32 BL o L j) j ^^^ beN BL (o + j * 4) 4)) := rfl
      generalize take32 BL o L j = K at hr hlen hwd HS
      have d1 := hr.out.cell (i := j) (by omega)
      have f1 := hr.out.free j
      have x1 : at0 K j < 4294967296 := by have := hwd.at j; simpa using this
      have HRD := hide (fun n' : Nat => read_32 h (o + j * 4) (cap - j * 4) BL (wr.drewN n') ((ho.out.row HB.out hgh).drewN n') (by have := HBL.out; omega) HBB.out)
      have y1 : beN BL (o + j * 4) 4 < 4294967296 := by have := beN_lt BL (o + j * 4) 4 HBB.out; simpa using this
      have HXO := hide (u32_xor_nat (at0 K j) (beN BL (o + j * 4) 4) x1 y1)
      have hsl := slice_take32 h o cap j hlt hc
      generalize beN BL (o + j * 4) 4 = v at HS HRD y1 HXO
      generalize hq : at0 K j = u at d1 x1 HXO HS
      have v1 : IntKind.i64.wrap ((j : Int) * 4) = (j : Int) * 4 := by rw [IntKind.wrap_i64]; omega
      have v2 : IntKind.i64.wrap ((j : Int) + 1) = (j : Int) + 1 := by rw [IntKind.wrap_i64]; omega
      have v3 : IntKind.i64.wrap (((j : Int) + 1) * 4) = ((j : Int) + 1) * 4 := by rw [IntKind.wrap_i64]; omega
      have q0 : (0 : Int) ≤ (j : Int) := by omega
      have q1 : (j : Int) < 8 := by omega
      clear hlen hwd hq x1 y1
      go_wp2
      go_region_with ((go_at_call 144; refine (HRD.out _).mono ?_; rintro e w' ⟨rfl, rfl⟩))
      all_goals
        go_wp2
        try rw [HXO.out]
        go_roundw
        case rel =>
          refine ⟨j + 1, by omega, by go_num, ?_, ?_⟩
          · have h := hr.out.set j (u ^^^ v)
            rw [← HS.out] at h
            exact h
          · unfold Hid
            first | exact (ho.out.drewN _).setCell j _ | (repeat (first | refine Only.drew ?_ | refine Only.setCell ?_ _ _); exact ho.out)
        case measure => simp [intOf]; omega
    · obtain rfl : j = 4 := by omega
      go_wp2
      go_end0
      exact ⟨rfl, hr.out, ho.out⟩
end Go.Proofs.YtbncojflfnpikaaDoor

namespace Go.Proofs.YtbncojflfnpikaaDoor
open Go.RowKit

/-- The package's table of turns. -/
def Turns32 (w : World) : Prop := ∀ i, i < 4 → w.cell? ⟨0, i, none⟩ = some (.int .i64 ((turnN i : Nat) : Int))

theorem turn_or32 (i : Nat) (h : i < 4) : turnN i = 5 ∨ turnN i = 11 ∨ turnN i = 19 ∨ turnN i = 26 := by
  rcases (show i = 0 ∨ i = 1 ∨ i = 2 ∨ i = 3 by omega) with rfl | rfl | rfl | rfl <;> simp [turnN]

theorem add_32 (x y : Nat) : IntKind.u32.wrap ((x : Int) + (y : Int)) = ((addW 32 x y : Nat) : Int) := by
  rw [IntKind.wrap_u32]
  unfold addW
  omega

set_option maxHeartbeats 4000000 in
theorem mix_32 (g : Nat) (L : List Nat) (w : World) (hr : RowK w g .u32 149 L) (hL : L.length = 8) (hW : Words 32 L) (hT : Turns32 w) (hg : 0 < g) :
    Calls Tryd.prog 145 #[.pointer (some ⟨g, 0, none⟩)] w fun e w' => e = .returned (.tuple #[]) ∧ RowK w' g .u32 149 (mixTo 32 L 4) ∧ Only g w w' := by
  have HR := hide hr
  have HL := hide hL
  have HW := hide hW
  have HT := hide hT
  clear hr hL hW hT
  go_enter Tryd.func145, Tryd.ntmps145
  go_wp2
  go_loopw [4] (fun i wr => ∃ j : Nat, j ≤ 4 ∧ i = .int .i64 j ∧ Hid (RowK wr g .u32 149 (mixTo 32 L j)) ∧ Hid (Only g w wr)) (fun i _ => 4 - (intOf i).toNat)
  case atStart => exact ⟨0, by omega, rfl, HR, Only.refl _ _⟩
  case round =>
    obtain ⟨j, hj, rfl, hr, ho⟩ := hrel
    by_cases hlt : j < 4
    · have hlen : (mixTo 32 L j).length = 8 := by rw [mixTo_length]; exact HL.out
      have hwd := mixTo_words 32 L j HW.out
      have HS : Hid (mixTo 32 L (j + 1) = colW 32 j (j + 4) (mixTo 32 L j)) := rfl
      generalize mixTo 32 L j = K at hr hlen hwd HS
      have d1 := hr.out.cell (i := j) (by omega)
      have d2 := hr.out.cell (i := j + 4) (by omega)
      have f1 := hr.out.free j
      have x1 := hwd.at j
      have x2 := hwd.at (j + 4)
      have HA := hide (add_32 (at0 K j) (at0 K (j + 4)))
      have q0 : (0 : Int) ≤ (j : Int) := by omega
      have q1 : (j : Int) < 8 := by omega
      have q2 : (j : Int) + 4 < 8 := by omega
      have q3 : (0 : Int) ≤ (j : Int) + 4 := by omega
      have hlt8 : j < K.length := by omega
      have hk4 : j + 4 < K.length := by omega
      have t4 : ((j : Int) + 4).toNat = j + 4 := by omega
      clear hlen
      have HK := hide hwd
      clear hwd
      go_wp2
      go_region
      go_wp2
      have HT1 := hide (HT.out j hlt)
      have hgj : at0 (K.set j (addW 32 (at0 K j) (at0 K (j + 4)))) j = addW 32 (at0 K j) (at0 K (j + 4)) := at0_set_same _ _ _ hlt8
      have hgk : at0 (K.set j (addW 32 (at0 K j) (at0 K (j + 4)))) (j + 4) = at0 K (j + 4) := at0_set_other _ _ _ _ (by omega)
      have R1 := hide (hr.out.set j (addW 32 (at0 K j) (at0 K (j + 4))))
      rw [show ((at0 K j : Nat) : Int) + ((at0 K (j + 4) : Nat) : Int) = (((at0 K j + at0 K (j + 4) : Nat)) : Int) from (Int.natCast_add _ _).symm, show (((at0 K j + at0 K (j + 4) : Nat)) : Int) % 4294967296 = ((addW 32 (at0 K j) (at0 K (j + 4)) : Nat) : Int) from (Int.natCast_emod _ _).symm]
      have O1 := hide (ho.out.setCell j (.int .u32 ((addW 32 (at0 K j) (at0 K (j + 4)) : Nat) : Int)))
      generalize hV : wr.setCell ⟨g, j, none⟩ (.int .u32 ((addW 32 (at0 K j) (at0 K (j + 4)) : Nat) : Int)) = V at R1 O1 ⊢
      have e1 : V.cell? ⟨g, j, none⟩ = some (.int .u32 ((addW 32 (at0 K j) (at0 K (j + 4)) : Nat) : Int)) := by have h := R1.out.cell (i := j) (by rw [List.length_set]; omega); rwa [hgj] at h
      have e2 : V.cell? ⟨g, j + 4, none⟩ = some (.int .u32 ((at0 K (j + 4) : Nat) : Int)) := by have h := R1.out.cell (i := j + 4) (by rw [List.length_set]; omega); rwa [hgk] at h
      have e3 : V.cell? ⟨0, j, none⟩ = some (.int .i64 ((turnN j : Nat) : Int)) := (O1.out.cell (by simp; omega)).trans HT1.out
      have f2 : V.frozen? ⟨g, j + 4, none⟩ = false := R1.out.free _
      clear hV d1 d2 f1 hgj hgk
      have HTU := hide (fun w' : World => turned_32 (at0 K (j + 4)) (turnN j) w' (by simpa using x2) (turn_or32 j hlt))
      have HXO := hide (u32_xor_nat (rotW 32 (at0 K (j + 4)) (turnN j)) (addW 32 (at0 K j) (at0 K (j + 4))) (by have := rotW_lt 32 (at0 K (j + 4)) (turnN j) x2; simpa using this) (by have := addW_lt 32 (at0 K j) (at0 K (j + 4)); simpa using this))
      have HCO : Hid (colW 32 j (j + 4) K = (K.set j (addW 32 (at0 K j) (at0 K (j + 4)))).set (j + 4) (rotW 32 (at0 K (j + 4)) (turnN j) ^^^ addW 32 (at0 K j) (at0 K (j + 4)))) := rfl
      generalize rotW 32 (at0 K (j + 4)) (turnN j) = rt at HTU HXO HCO
      generalize addW 32 (at0 K j) (at0 K (j + 4)) = A at R1 O1 e1 HXO HCO
      generalize at0 K (j + 4) = y at e2 HTU x2
      generalize turnN j = tn at e3 HTU
      clear x1 HA
      go_region_with ((go_at_call 153; refine (HTU.out _).mono ?_; rintro e w' ⟨rfl, n, rfl⟩))
      all_goals
        go_wp2
        try rw [HXO.out]
        go_roundw
        case rel =>
          refine ⟨j + 1, by omega, by go_num, ?_, ?_⟩
          · unfold Hid
            rw [HS.out, HCO.out]
            exact R1.out.set (j + 4) (rt ^^^ A)
          · exact (O1.out.drewN _).setCell (j + 4) _
        case measure => simp [intOf]; omega
    · obtain rfl : j = 4 := by omega
      go_wp2
      go_end0
      exact ⟨rfl, hr.out, ho.out⟩
end Go.Proofs.YtbncojflfnpikaaDoor
