/-
  The program's mix over words of 32 bits.
-/
import Derived.Test.YtgaoeoijdpdjiaaGreatDoorPart2
namespace Go.Proofs.YtgaoeoijdpdjiaaGreatDoor
open Go.RowKit
/-- The package's table of turns. -/
def Turns32 (w : World) : Prop := ∀ i, i < 4 → w.cell? ⟨0, i, none⟩ = some (.int .i64 ((turnN i : Nat) : Int))
theorem turn_or32 (i : Nat) (h : i < 4) : turnN i = 5 ∨ turnN i = 11 ∨ turnN i = 19 ∨ turnN i = 26 := by
  rcases (show i = 0 ∨ i = 1 ∨ i = 2 ∨ i = 3 by omega) with rfl | rfl | rfl | rfl <;> simp [turnN]
theorem add_32 (x y : Nat) : IntKind.u32.wrap ((x : Int) + (y : Int)) = ((addW 32 x y : Nat) : Int) := by
  rw [IntKind.wrap_u32]
  unfold addW
  omega
set_option maxHeartbeats 4000000 in
theorem mix_32 (g : Nat) (L : List Nat) (w : World) (hr : RowK w g .u32 279 L) (hL : L.length = 8) (hW : Words 32 L) (hT : Turns32 w) (hg : 0 < g) :
    Calls Tryz.prog 272 #[.pointer (some ⟨g, 0, none⟩)] w fun e w' => e = .returned (.tuple #[]) ∧ RowK w' g .u32 279 (mixTo 32 L 4) ∧ Only g w w' := by
  have HR := hide hr
  have HL := hide hL
  have HW := hide hW
  have HT := hide hT
  clear hr hL hW hT
  go_enter Tryz.func272, Tryz.ntmps272
  go_wp2
  go_loopw [4] (fun i wr => ∃ j : Nat, j ≤ 4 ∧ i = .int .i64 j ∧ Hid (RowK wr g .u32 279 (mixTo 32 L j)) ∧ Hid (Only g w wr)) (fun i _ => 4 - (intOf i).toNat)
  case atStart => exact ⟨0, by omega, rfl, HR, Only.refl _ _⟩
  case round =>
    obtain ⟨j, hj, rfl, hr, ho⟩ := hrel
    by_cases hlt : j < 4
    · have hlen : (mixTo 32 L j).length = 8 := by rw [mixTo_length]; exact HL.out
      have hwd := mixTo_words 32 L j HW.out
      have HS : Hid (mixTo 32 L (j + 1) = colW 32 j (j + 4) (mixTo 32 L j)) := rfl
      generalize mixTo 32 L j = K at hr hlen hwd HS
      have d1 := hr.out.cell (i := j) (by omega)
      have d2 := hr.out.cell (i := j + 4) (by omega)
      have f1 := hr.out.free j
      have x1 := hwd.at j
      have x2 := hwd.at (j + 4)
      have HA := hide (add_32 (at0 K j) (at0 K (j + 4)))
      have q0 : (0 : Int) ≤ (j : Int) := by omega
      have q1 : (j : Int) < 8 := by omega
      have q2 : (j : Int) + 4 < 8 := by omega
      have q3 : (0 : Int) ≤ (j : Int) + 4 := by omega
      have hlt8 : j < K.length := by omega
      have hk4 : j + 4 < K.length := by omega
      have t4 : ((j : Int) + 4).toNat = j + 4 := by omega
      clear hlen
      have HK := hide hwd
      clear hwd
      go_wp2
      go_region
      go_wp2
      have HT1 := hide (HT.out j hlt)
      have hgj : at0 (K.set j (addW 32 (at0 K j) (at0 K (j + 4)))) j = addW 32 (at0 K j) (at0 K (j + 4)) := at0_set_same _ _ _ hlt8
      have hgk : at0 (K.set j (addW 32 (at0 K j) (at0 K (j + 4)))) (j + 4) = at0 K (j + 4) := at0_set_other _ _ _ _ (by omega)
      have R1 := hide (hr.out.set j (addW 32 (at0 K j) (at0 K (j + 4))))
      rw [show ((at0 K j : Nat) : Int) + ((at0 K (j + 4) : Nat) : Int) = (((at0 K j + at0 K (j + 4) : Nat)) : Int) from (Int.natCast_add _ _).symm, show (((at0 K j + at0 K (j + 4) : Nat)) : Int) % 4294967296 = ((addW 32 (at0 K j) (at0 K (j + 4)) : Nat) : Int) from (Int.natCast_emod _ _).symm]
      have O1 := hide (ho.out.setCell j (.int .u32 ((addW 32 (at0 K j) (at0 K (j + 4)) : Nat) : Int)))
      generalize hV : wr.setCell ⟨g, j, none⟩ (.int .u32 ((addW 32 (at0 K j) (at0 K (j + 4)) : Nat) : Int)) = V at R1 O1 ⊢
      have e1 : V.cell? ⟨g, j, none⟩ = some (.int .u32 ((addW 32 (at0 K j) (at0 K (j + 4)) : Nat) : Int)) := by have h := R1.out.cell (i := j) (by rw [List.length_set]; omega); rwa [hgj] at h
      have e2 : V.cell? ⟨g, j + 4, none⟩ = some (.int .u32 ((at0 K (j + 4) : Nat) : Int)) := by have h := R1.out.cell (i := j + 4) (by rw [List.length_set]; omega); rwa [hgk] at h
      have e3 : V.cell? ⟨0, j, none⟩ = some (.int .i64 ((turnN j : Nat) : Int)) := (O1.out.cell (by simp; omega)).trans HT1.out
      have f2 : V.frozen? ⟨g, j + 4, none⟩ = false := R1.out.free _
      clear hV d1 d2 f1 hgj hgk
      have HTU := hide (fun w' : World => turned_32 (at0 K (j + 4)) (turnN j) w' (by simpa using x2) (turn_or32 j hlt))
      have HXO := hide (u32_xor_nat (rotW 32 (at0 K (j + 4)) (turnN j)) (addW 32 (at0 K j) (at0 K (j + 4))) (by have := rotW_lt 32 (at0 K (j + 4)) (turnN j) x2; simpa using this) (by have := addW_lt 32 (at0 K j) (at0 K (j + 4)); simpa using this))
      have HCO : Hid (colW 32 j (j + 4) K = (K.set j (addW 32 (at0 K j) (at0 K (j + 4)))).set (j + 4) (rotW 32 (at0 K (j + 4)) (turnN j) ^^^ addW 32 (at0 K j) (at0 K (j + 4)))) := rfl
      generalize rotW 32 (at0 K (j + 4)) (turnN j) = rt at HTU HXO HCO
      generalize addW 32 (at0 K j) (at0 K (j + 4)) = A at R1 O1 e1 HXO HCO
      generalize at0 K (j + 4) = y at e2 HTU x2
      generalize turnN j = tn at e3 HTU
      clear x1 HA
      go_region_with ((go_at_call 308; refine (HTU.out _).mono ?_; rintro e w' ⟨rfl, n, rfl⟩))
      all_goals
        go_wp2
        try rw [HXO.out]
        go_roundw
        case rel =>
          refine ⟨j + 1, by omega, by go_num, ?_, ?_⟩
          · unfold Hid
            rw [HS.out, HCO.out]
            exact R1.out.set (j + 4) (rt ^^^ A)
          · exact (O1.out.drewN _).setCell (j + 4) _
        case measure => simp [intOf]; omega
    · obtain rfl : j = 4 := by omega
      go_wp2
      go_end0
      exact ⟨rfl, hr.out, ho.out⟩
end Go.Proofs.YtgaoeoijdpdjiaaGreatDoor
