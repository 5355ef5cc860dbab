/-
  The program's mix over words of 64 bits. The program's mix over words of 32 bits. sets.Measure at the sets that are right, by the two numbers that its digits hang on. sets.Measure at the sets that are right, by the two numbers that its digits hang on. sets.Measure at the sets that are right, by the two numbers that its digits hang on. sets.Measure at the sets that are right, by the two numbers that its digits hang on. The program's take over words of 32 bits: four words of a block go in. The program's take over words of 64 bits: four words of a block go in. Records as texts: plain functions and what holds of them: the check sum tells one byte from another. Sectors and writes by value: loaded, stored, built. The bytes of words, the highest first, as a plain function. The bytes of a text and its padding, as a list. What the walks of sets.Digits share: the row of digits as it grows. Seeds and a place that come in by value, opened. A whole number in one byte: the program's one.
-/
import Derived.Test.YtgaoeoijdpdjiabGreatDoorPart3
import Derived.Test.YtgaoeoijdpdjiabGreatDoorPartHide
import Derived.Deep.WholeRow
import Derived.Laws.Tables
import Derived.Test.YtgaoeoijdpdjiabGreatDoorPart2
import Derived.Deep.RegionHeld3
import Derived.Deep.DrawnRows
import Derived.ShutString
namespace Go.Proofs.YtgaoeoijdpdjiabGreatDoor
open Go.RowKit

/-- The package's table of turns. -/
def Turns64 (w : World) : Prop := ∀ i, i < 4 → w.cell? ⟨1, i, none⟩ = some (.int .i64 ((turnN i : Nat) : Int))

theorem turn_or64 (i : Nat) (h : i < 4) : turnN i = 5 ∨ turnN i = 11 ∨ turnN i = 19 ∨ turnN i = 26 := by
  rcases (show i = 0 ∨ i = 1 ∨ i = 2 ∨ i = 3 by omega) with rfl | rfl | rfl | rfl <;> simp [turnN]

theorem add_64 (x y : Nat) : IntKind.u64.wrap ((x : Int) + (y : Int)) = ((addW 64 x y : Nat) : Int) := by
  rw [IntKind.wrap_u64]
  unfold addW
  omega

set_option maxHeartbeats 4000000 in
theorem mix_64 (g : Nat) (L : List Nat) (w : World) (hr : RowK w g .u64 361 L) (hL : L.length = 8) (hW : Words 64 L) (hT : Turns64 w) (hg : 1 < g) :
    Calls Tryz.prog 322 #[.pointer (some ⟨g, 0, none⟩)] w fun e w' => e = .returned (.tuple #[]) ∧ RowK w' g .u64 361 (mixTo 64 L 4) ∧ Only g w w' := by
  have HR := hide hr
  have HL := hide hL
  have HW := hide hW
  have HT := hide hT
  clear hr hL hW hT
  go_enter Tryz.func322, Tryz.ntmps322
  go_wp2
  go_loopw [4] (fun i wr => ∃ j : Nat, j ≤ 4 ∧ i = .int .i64 j ∧ Hid (RowK wr g .u64 361 (mixTo 64 L j)) ∧ Hid (Only g w wr)) (fun i _ => 4 - (intOf i).toNat)
  case atStart => exact ⟨0, by omega, rfl, HR, Only.refl _ _⟩
  case round =>
    obtain ⟨j, hj, rfl, hr, ho⟩ := hrel
    by_cases hlt : j < 4
    · have hlen : (mixTo 64 L j).length = 8 := by rw [mixTo_length]; exact HL.out
      have hwd := mixTo_words 64 L j HW.out
      have HS : Hid (mixTo 64 L (j + 1) = colW 64 j (j + 4) (mixTo 64 L j)) := rfl
      generalize mixTo 64 L j = K at hr hlen hwd HS
      have d1 := hr.out.cell (i := j) (by omega)
      have d2 := hr.out.cell (i := j + 4) (by omega)
      have f1 := hr.out.free j
      have x1 := hwd.at j
      have x2 := hwd.at (j + 4)
      have HA := hide (add_64 (at0 K j) (at0 K (j + 4)))
      have q0 : (0 : Int) ≤ (j : Int) := by omega
      have q1 : (j : Int) < 8 := by omega
      have q2 : (j : Int) + 4 < 8 := by omega
      have q3 : (0 : Int) ≤ (j : Int) + 4 := by omega
      have hlt8 : j < K.length := by omega
      have hk4 : j + 4 < K.length := by omega
      have t4 : ((j : Int) + 4).toNat = j + 4 := by omega
      clear hlen
      have HK := hide hwd
      clear hwd
      go_wp2
      go_region
      go_wp2
      have HT1 := hide (HT.out j hlt)
      have hgj : at0 (K.set j (addW 64 (at0 K j) (at0 K (j + 4)))) j = addW 64 (at0 K j) (at0 K (j + 4)) := at0_set_same _ _ _ hlt8
      have hgk : at0 (K.set j (addW 64 (at0 K j) (at0 K (j + 4)))) (j + 4) = at0 K (j + 4) := at0_set_other _ _ _ _ (by omega)
      have R1 := hide (hr.out.set j (addW 64 (at0 K j) (at0 K (j + 4))))
      rw [IntKind.wrap_u64]
      rw [show ((at0 K j : Nat) : Int) + ((at0 K (j + 4) : Nat) : Int) = (((at0 K j + at0 K (j + 4) : Nat)) : Int) from (Int.natCast_add _ _).symm, show (((at0 K j + at0 K (j + 4) : Nat)) : Int) % 18446744073709551616 = ((addW 64 (at0 K j) (at0 K (j + 4)) : Nat) : Int) from (Int.natCast_emod _ _).symm]
      have O1 := hide (ho.out.setCell j (.int .u64 ((addW 64 (at0 K j) (at0 K (j + 4)) : Nat) : Int)))
      generalize hV : wr.setCell ⟨g, j, none⟩ (.int .u64 ((addW 64 (at0 K j) (at0 K (j + 4)) : Nat) : Int)) = V at R1 O1 ⊢
      have e1 : V.cell? ⟨g, j, none⟩ = some (.int .u64 ((addW 64 (at0 K j) (at0 K (j + 4)) : Nat) : Int)) := by have h := R1.out.cell (i := j) (by rw [List.length_set]; omega); rwa [hgj] at h
      have e2 : V.cell? ⟨g, j + 4, none⟩ = some (.int .u64 ((at0 K (j + 4) : Nat) : Int)) := by have h := R1.out.cell (i := j + 4) (by rw [List.length_set]; omega); rwa [hgk] at h
      have e3 : V.cell? ⟨1, j, none⟩ = some (.int .i64 ((turnN j : Nat) : Int)) := (O1.out.cell (by simp; omega)).trans HT1.out
      have f2 : V.frozen? ⟨g, j + 4, none⟩ = false := R1.out.free _
      clear hV d1 d2 f1 hgj hgk
      have HTU := hide (fun w' : World => turned_64 (at0 K (j + 4)) (turnN j) w' (by simpa using x2) (turn_or64 j hlt))
      have HXO := hide (u64_xor_nat (rotW 64 (at0 K (j + 4)) (turnN j)) (addW 64 (at0 K j) (at0 K (j + 4))) (by have := rotW_lt 64 (at0 K (j + 4)) (turnN j) x2; simpa using this) (by have := addW_lt 64 (at0 K j) (at0 K (j + 4)); simpa using this))
      have HCO : Hid (colW 64 j (j + 4) K = (K.set j (addW 64 (at0 K j) (at0 K (j + 4)))).set (j + 4) (rotW 64 (at0 K (j + 4)) (turnN j) ^^^ addW 64 (at0 K j) (at0 K (j + 4)))) := rfl
      generalize rotW 64 (at0 K (j + 4)) (turnN j) = rt at HTU HXO HCO
      generalize addW 64 (at0 K j) (at0 K (j + 4)) = A at R1 O1 e1 HXO HCO
      generalize at0 K (j + 4) = y at e2 HTU x2
      generalize turnN j = tn at e3 HTU
      clear x1 HA
      go_region_with ((go_at_call 328; refine (HTU.out _).mono ?_; rintro e w' ⟨rfl, n, rfl⟩))
      all_goals
        go_wp2
        try rw [HXO.out]
        go_roundw
        case rel =>
          refine ⟨j + 1, by omega, by go_num, ?_, ?_⟩
          · unfold Hid
            rw [HS.out, HCO.out]
            exact R1.out.set (j + 4) (rt ^^^ A)
          · exact (O1.out.drewN _).setCell (j + 4) _
        case measure => simp [intOf]; omega
    · obtain rfl : j = 4 := by omega
      go_wp2
      go_end0
      exact ⟨rfl, hr.out, ho.out⟩
end Go.Proofs.YtgaoeoijdpdjiabGreatDoor

namespace Go.Proofs.YtgaoeoijdpdjiabGreatDoor
open Go.RowKit

/-- The package's table of turns. -/
def Turns32 (w : World) : Prop := ∀ i, i < 4 → w.cell? ⟨1, i, none⟩ = some (.int .i64 ((turnN i : Nat) : Int))

theorem turn_or32 (i : Nat) (h : i < 4) : turnN i = 5 ∨ turnN i = 11 ∨ turnN i = 19 ∨ turnN i = 26 := by
  rcases (show i = 0 ∨ i = 1 ∨ i = 2 ∨ i = 3 by omega) with rfl | rfl | rfl | rfl <;> simp [turnN]

theorem add_32 (x y : Nat) : IntKind.u32.wrap ((x : Int) + (y : Int)) = ((addW 32 x y : Nat) : Int) := by
  rw [IntKind.wrap_u32]
  unfold addW
  omega

set_option maxHeartbeats 4000000 in
theorem mix_32 (g : Nat) (L : List Nat) (w : World) (hr : RowK w g .u32 358 L) (hL : L.length = 8) (hW : Words 32 L) (hT : Turns32 w) (hg : 1 < g) :
    Calls Tryz.prog 320 #[.pointer (some ⟨g, 0, none⟩)] w fun e w' => e = .returned (.tuple #[]) ∧ RowK w' g .u32 358 (mixTo 32 L 4) ∧ Only g w w' := by
  have HR := hide hr
  have HL := hide hL
  have HW := hide hW
  have HT := hide hT
  clear hr hL hW hT
  go_enter Tryz.func320, Tryz.ntmps320
  go_wp2
  go_loopw [4] (fun i wr => ∃ j : Nat, j ≤ 4 ∧ i = .int .i64 j ∧ Hid (RowK wr g .u32 358 (mixTo 32 L j)) ∧ Hid (Only g w wr)) (fun i _ => 4 - (intOf i).toNat)
  case atStart => exact ⟨0, by omega, rfl, HR, Only.refl _ _⟩
  case round =>
    obtain ⟨j, hj, rfl, hr, ho⟩ := hrel
    by_cases hlt : j < 4
    · have hlen : (mixTo 32 L j).length = 8 := by rw [mixTo_length]; exact HL.out
      have hwd := mixTo_words 32 L j HW.out
      have HS : Hid (mixTo 32 L (j + 1) = colW 32 j (j + 4) (mixTo 32 L j)) := rfl
      generalize mixTo 32 L j = K at hr hlen hwd HS
      have d1 := hr.out.cell (i := j) (by omega)
      have d2 := hr.out.cell (i := j + 4) (by omega)
      have f1 := hr.out.free j
      have x1 := hwd.at j
      have x2 := hwd.at (j + 4)
      have HA := hide (add_32 (at0 K j) (at0 K (j + 4)))
      have q0 : (0 : Int) ≤ (j : Int) := by omega
      have q1 : (j : Int) < 8 := by omega
      have q2 : (j : Int) + 4 < 8 := by omega
      have q3 : (0 : Int) ≤ (j : Int) + 4 := by omega
      have hlt8 : j < K.length := by omega
      have hk4 : j + 4 < K.length := by omega
      have t4 : ((j : Int) + 4).toNat = j + 4 := by omega
      clear hlen
      have HK := hide hwd
      clear hwd
      go_wp2
      go_region
      go_wp2
      have HT1 := hide (HT.out j hlt)
      have hgj : at0 (K.set j (addW 32 (at0 K j) (at0 K (j + 4)))) j = addW 32 (at0 K j) (at0 K (j + 4)) := at0_set_same _ _ _ hlt8
      have hgk : at0 (K.set j (addW 32 (at0 K j) (at0 K (j + 4)))) (j + 4) = at0 K (j + 4) := at0_set_other _ _ _ _ (by omega)
      have R1 := hide (hr.out.set j (addW 32 (at0 K j) (at0 K (j + 4))))
      rw [show ((at0 K j : Nat) : Int) + ((at0 K (j + 4) : Nat) : Int) = (((at0 K j + at0 K (j + 4) : Nat)) : Int) from (Int.natCast_add _ _).symm, show (((at0 K j + at0 K (j + 4) : Nat)) : Int) % 4294967296 = ((addW 32 (at0 K j) (at0 K (j + 4)) : Nat) : Int) from (Int.natCast_emod _ _).symm]
      have O1 := hide (ho.out.setCell j (.int .u32 ((addW 32 (at0 K j) (at0 K (j + 4)) : Nat) : Int)))
      generalize hV : wr.setCell ⟨g, j, none⟩ (.int .u32 ((addW 32 (at0 K j) (at0 K (j + 4)) : Nat) : Int)) = V at R1 O1 ⊢
      have e1 : V.cell? ⟨g, j, none⟩ = some (.int .u32 ((addW 32 (at0 K j) (at0 K (j + 4)) : Nat) : Int)) := by have h := R1.out.cell (i := j) (by rw [List.length_set]; omega); rwa [hgj] at h
      have e2 : V.cell? ⟨g, j + 4, none⟩ = some (.int .u32 ((at0 K (j + 4) : Nat) : Int)) := by have h := R1.out.cell (i := j + 4) (by rw [List.length_set]; omega); rwa [hgk] at h
      have e3 : V.cell? ⟨1, j, none⟩ = some (.int .i64 ((turnN j : Nat) : Int)) := (O1.out.cell (by simp; omega)).trans HT1.out
      have f2 : V.frozen? ⟨g, j + 4, none⟩ = false := R1.out.free _
      clear hV d1 d2 f1 hgj hgk
      have HTU := hide (fun w' : World => turned_32 (at0 K (j + 4)) (turnN j) w' (by simpa using x2) (turn_or32 j hlt))
      have HXO := hide (u32_xor_nat (rotW 32 (at0 K (j + 4)) (turnN j)) (addW 32 (at0 K j) (at0 K (j + 4))) (by have := rotW_lt 32 (at0 K (j + 4)) (turnN j) x2; simpa using this) (by have := addW_lt 32 (at0 K j) (at0 K (j + 4)); simpa using this))
      have HCO : Hid (colW 32 j (j + 4) K = (K.set j (addW 32 (at0 K j) (at0 K (j + 4)))).set (j + 4) (rotW 32 (at0 K (j + 4)) (turnN j) ^^^ addW 32 (at0 K j) (at0 K (j + 4)))) := rfl
      generalize rotW 32 (at0 K (j + 4)) (turnN j) = rt at HTU HXO HCO
      generalize addW 32 (at0 K j) (at0 K (j + 4)) = A at R1 O1 e1 HXO HCO
      generalize at0 K (j + 4) = y at e2 HTU x2
      generalize turnN j = tn at e3 HTU
      clear x1 HA
      go_region_with ((go_at_call 327; refine (HTU.out _).mono ?_; rintro e w' ⟨rfl, n, rfl⟩))
      all_goals
        go_wp2
        try rw [HXO.out]
        go_roundw
        case rel =>
          refine ⟨j + 1, by omega, by go_num, ?_, ?_⟩
          · unfold Hid
            rw [HS.out, HCO.out]
            exact R1.out.set (j + 4) (rt ^^^ A)
          · exact (O1.out.drewN _).setCell (j + 4) _
        case measure => simp [intOf]; omega
    · obtain rfl : j = 4 := by omega
      go_wp2
      go_end0
      exact ⟨rfl, hr.out, ho.out⟩
end Go.Proofs.YtgaoeoijdpdjiabGreatDoor

namespace Go.Proofs.YtgaoeoijdpdjiabGreatDoor
open Go.RowKit

theorem wrap_sig_8_4 (t l : Int) (h1 : 1 ≤ t) (h2 : t ≤ 4) (h3 : 1 ≤ l) (h4 : l ≤ 3) : IntKind.i64.wrap (IntKind.i64.wrap 12 + IntKind.i64.wrap (IntKind.i64.wrap (l * IntKind.i64.wrap (36 + t)) * 8)) = sigZ 8 4 t l := by
  rcases (show t = 1 ∨ t = 2 ∨ t = 3 ∨ t = 4 by omega) with rfl | rfl | rfl | rfl <;> rcases (show l = 1 ∨ l = 2 ∨ l = 3 by omega) with rfl | rfl | rfl <;> rfl
set_option maxHeartbeats 1000000 in
theorem measure_8_4 (k t l : Int) (w : World) (hk : k = 1 ∨ k = 2) (h1 : 1 ≤ t) (h2 : t ≤ 4) (h3 : 1 ≤ l) (h4 : l ≤ 3) :
    Calls Tryz.prog 155 #[.agg #[.int .i64 k, .int .i64 8, .int .i64 4, .int .i64 t, .int .i64 l]] w fun e w' =>
      e = .returned (.tuple #[.agg #[.int .i64 32, .int .i64 4, .int .i64 36, .int .i64 (totalZ t l), .int .i64 (sigZ 8 4 t l), .int .i64 21], .int .i64 0]) ∧ Below w.heap.size w w' := by
  have HR : Hid (rightB k 8 4 t l = true) := by show rightB k 8 4 t l = true; simp [rightB, hk, h1, h2, h3, h4]
  have hsh := shift_total t l h1 h2 h3 h4
  go_enter Tryz.func155, Tryz.ntmps155
  go_wp2_with (go_at_call 231; refine (check_any _ _ _ _ _ _).mono ?_; rintro e w' ⟨rfl, hb⟩; rw [HR.out]; obtain ⟨hc, hf⟩ := bcell hb; have hz := hb.size; simp at hz; have c1 : w'.cell? ⟨w.heap.size, 1, none⟩ = some (.int .i64 8) := (hb.cell (by simp <;> omega)).trans (by simp [go_sem, World.cell?_alloc_past]); have c2 : w'.cell? ⟨w.heap.size, 2, none⟩ = some (.int .i64 4) := (hb.cell (by simp <;> omega)).trans (by simp [go_sem, World.cell?_alloc_past]); have c3 : w'.cell? ⟨w.heap.size, 3, none⟩ = some (.int .i64 t) := (hb.cell (by simp <;> omega)).trans (by simp [go_sem, World.cell?_alloc_past]); have c4 : w'.cell? ⟨w.heap.size, 4, none⟩ = some (.int .i64 l) := (hb.cell (by simp <;> omega)).trans (by simp [go_sem, World.cell?_alloc_past]))
  obtain ⟨z0, z1, z2, z3, z4, z5⟩ := six_zero hb
  have HB : Hid (Below w.heap.size w w') := ((((Below.refl _ _).alloc (Nat.le_refl _) _).alloc (by simp) _).trans (hb.mono (by simp; omega)))
  have f0 : ∀ o, w'.frozen? ⟨w.heap.size + 1, o, none⟩ = false := fun o => (hf _ o (by simp)).trans (by simp [go_sem])
  clear hb hc hf
  go_quiet ((go_at_call 232; exact Calls.quiet_of_same (perByte_4 _)))
  go_wp2_with fail
  refine (count_96 _).mono ?_
  rintro e w'' ⟨rfl, rfl⟩
  go_wp2
  go_region_held3 (fun w' => w'.cell? ⟨w.heap.size, 1, none⟩ = some (.int .i64 8) ∧ w'.cell? ⟨w.heap.size, 3, none⟩ = some (.int .i64 t) ∧ w'.cell? ⟨w.heap.size, 4, none⟩ = some (.int .i64 l)) (simp [go_sem, c1, c3, c4]) (fail)
  go_wp2
  rw [wrap_sig_8_4 t l h1 h2 h3 h4]
  refine bodyPost_ret (v := .tuple #[.agg #[.int .i64 32, .int .i64 4, .int .i64 36, .int .i64 (totalZ t l), .int .i64 (sigZ 8 4 t l), .int .i64 21], .int .i64 0]) (by simp [results, Tryz.results155, go_sem, z0, z1, z2, z3, z4, z5]; rfl) rfl ⟨rfl, ?_⟩
  repeat refine Below.setCell ?_ (by simp) _
  exact below_drewN HB.out _

end Go.Proofs.YtgaoeoijdpdjiabGreatDoor

namespace Go.Proofs.YtgaoeoijdpdjiabGreatDoor
open Go.RowKit

theorem wrap_sig_4_16 (t l : Int) (h1 : 1 ≤ t) (h2 : t ≤ 4) (h3 : 1 ≤ l) (h4 : l ≤ 3) : IntKind.i64.wrap (IntKind.i64.wrap 8 + IntKind.i64.wrap (IntKind.i64.wrap (l * IntKind.i64.wrap (10 + t)) * 4)) = sigZ 4 16 t l := by
  rcases (show t = 1 ∨ t = 2 ∨ t = 3 ∨ t = 4 by omega) with rfl | rfl | rfl | rfl <;> rcases (show l = 1 ∨ l = 2 ∨ l = 3 by omega) with rfl | rfl | rfl <;> rfl
set_option maxHeartbeats 1000000 in
theorem measure_4_16 (k t l : Int) (w : World) (hk : k = 1 ∨ k = 2) (h1 : 1 ≤ t) (h2 : t ≤ 4) (h3 : 1 ≤ l) (h4 : l ≤ 3) :
    Calls Tryz.prog 155 #[.agg #[.int .i64 k, .int .i64 4, .int .i64 16, .int .i64 t, .int .i64 l]] w fun e w' =>
      e = .returned (.tuple #[.agg #[.int .i64 8, .int .i64 2, .int .i64 10, .int .i64 (totalZ t l), .int .i64 (sigZ 4 16 t l), .int .i64 13], .int .i64 0]) ∧ Below w.heap.size w w' := by
  have HR : Hid (rightB k 4 16 t l = true) := by show rightB k 4 16 t l = true; simp [rightB, hk, h1, h2, h3, h4]
  have hsh := shift_total t l h1 h2 h3 h4
  go_enter Tryz.func155, Tryz.ntmps155
  go_wp2_with (go_at_call 231; refine (check_any _ _ _ _ _ _).mono ?_; rintro e w' ⟨rfl, hb⟩; rw [HR.out]; obtain ⟨hc, hf⟩ := bcell hb; have hz := hb.size; simp at hz; have c1 : w'.cell? ⟨w.heap.size, 1, none⟩ = some (.int .i64 4) := (hb.cell (by simp <;> omega)).trans (by simp [go_sem, World.cell?_alloc_past]); have c2 : w'.cell? ⟨w.heap.size, 2, none⟩ = some (.int .i64 16) := (hb.cell (by simp <;> omega)).trans (by simp [go_sem, World.cell?_alloc_past]); have c3 : w'.cell? ⟨w.heap.size, 3, none⟩ = some (.int .i64 t) := (hb.cell (by simp <;> omega)).trans (by simp [go_sem, World.cell?_alloc_past]); have c4 : w'.cell? ⟨w.heap.size, 4, none⟩ = some (.int .i64 l) := (hb.cell (by simp <;> omega)).trans (by simp [go_sem, World.cell?_alloc_past]))
  obtain ⟨z0, z1, z2, z3, z4, z5⟩ := six_zero hb
  have HB : Hid (Below w.heap.size w w') := ((((Below.refl _ _).alloc (Nat.le_refl _) _).alloc (by simp) _).trans (hb.mono (by simp; omega)))
  have f0 : ∀ o, w'.frozen? ⟨w.heap.size + 1, o, none⟩ = false := fun o => (hf _ o (by simp)).trans (by simp [go_sem])
  clear hb hc hf
  go_quiet ((go_at_call 232; exact Calls.quiet_of_same (perByte_16 _)))
  go_wp2_with fail
  refine (count_120 _).mono ?_
  rintro e w'' ⟨rfl, rfl⟩
  go_wp2
  go_region_held3 (fun w' => w'.cell? ⟨w.heap.size, 1, none⟩ = some (.int .i64 4) ∧ w'.cell? ⟨w.heap.size, 3, none⟩ = some (.int .i64 t) ∧ w'.cell? ⟨w.heap.size, 4, none⟩ = some (.int .i64 l)) (simp [go_sem, c1, c3, c4]) (fail)
  go_wp2
  rw [wrap_sig_4_16 t l h1 h2 h3 h4]
  refine bodyPost_ret (v := .tuple #[.agg #[.int .i64 8, .int .i64 2, .int .i64 10, .int .i64 (totalZ t l), .int .i64 (sigZ 4 16 t l), .int .i64 13], .int .i64 0]) (by simp [results, Tryz.results155, go_sem, z0, z1, z2, z3, z4, z5]; rfl) rfl ⟨rfl, ?_⟩
  repeat refine Below.setCell ?_ (by simp) _
  exact below_drewN HB.out _

end Go.Proofs.YtgaoeoijdpdjiabGreatDoor

namespace Go.Proofs.YtgaoeoijdpdjiabGreatDoor
open Go.RowKit

theorem wrap_sig_8_16 (t l : Int) (h1 : 1 ≤ t) (h2 : t ≤ 4) (h3 : 1 ≤ l) (h4 : l ≤ 3) : IntKind.i64.wrap (IntKind.i64.wrap 12 + IntKind.i64.wrap (IntKind.i64.wrap (l * IntKind.i64.wrap (18 + t)) * 8)) = sigZ 8 16 t l := by
  rcases (show t = 1 ∨ t = 2 ∨ t = 3 ∨ t = 4 by omega) with rfl | rfl | rfl | rfl <;> rcases (show l = 1 ∨ l = 2 ∨ l = 3 by omega) with rfl | rfl | rfl <;> rfl
set_option maxHeartbeats 1000000 in
theorem measure_8_16 (k t l : Int) (w : World) (hk : k = 1 ∨ k = 2) (h1 : 1 ≤ t) (h2 : t ≤ 4) (h3 : 1 ≤ l) (h4 : l ≤ 3) :
    Calls Tryz.prog 155 #[.agg #[.int .i64 k, .int .i64 8, .int .i64 16, .int .i64 t, .int .i64 l]] w fun e w' =>
      e = .returned (.tuple #[.agg #[.int .i64 16, .int .i64 2, .int .i64 18, .int .i64 (totalZ t l), .int .i64 (sigZ 8 16 t l), .int .i64 21], .int .i64 0]) ∧ Below w.heap.size w w' := by
  have HR : Hid (rightB k 8 16 t l = true) := by show rightB k 8 16 t l = true; simp [rightB, hk, h1, h2, h3, h4]
  have hsh := shift_total t l h1 h2 h3 h4
  go_enter Tryz.func155, Tryz.ntmps155
  go_wp2_with (go_at_call 231; refine (check_any _ _ _ _ _ _).mono ?_; rintro e w' ⟨rfl, hb⟩; rw [HR.out]; obtain ⟨hc, hf⟩ := bcell hb; have hz := hb.size; simp at hz; have c1 : w'.cell? ⟨w.heap.size, 1, none⟩ = some (.int .i64 8) := (hb.cell (by simp <;> omega)).trans (by simp [go_sem, World.cell?_alloc_past]); have c2 : w'.cell? ⟨w.heap.size, 2, none⟩ = some (.int .i64 16) := (hb.cell (by simp <;> omega)).trans (by simp [go_sem, World.cell?_alloc_past]); have c3 : w'.cell? ⟨w.heap.size, 3, none⟩ = some (.int .i64 t) := (hb.cell (by simp <;> omega)).trans (by simp [go_sem, World.cell?_alloc_past]); have c4 : w'.cell? ⟨w.heap.size, 4, none⟩ = some (.int .i64 l) := (hb.cell (by simp <;> omega)).trans (by simp [go_sem, World.cell?_alloc_past]))
  obtain ⟨z0, z1, z2, z3, z4, z5⟩ := six_zero hb
  have HB : Hid (Below w.heap.size w w') := ((((Below.refl _ _).alloc (Nat.le_refl _) _).alloc (by simp) _).trans (hb.mono (by simp; omega)))
  have f0 : ∀ o, w'.frozen? ⟨w.heap.size + 1, o, none⟩ = false := fun o => (hf _ o (by simp)).trans (by simp [go_sem])
  clear hb hc hf
  go_quiet ((go_at_call 232; exact Calls.quiet_of_same (perByte_16 _)))
  go_wp2_with fail
  refine (count_240 _).mono ?_
  rintro e w'' ⟨rfl, rfl⟩
  go_wp2
  go_region_held3 (fun w' => w'.cell? ⟨w.heap.size, 1, none⟩ = some (.int .i64 8) ∧ w'.cell? ⟨w.heap.size, 3, none⟩ = some (.int .i64 t) ∧ w'.cell? ⟨w.heap.size, 4, none⟩ = some (.int .i64 l)) (simp [go_sem, c1, c3, c4]) (fail)
  go_wp2
  rw [wrap_sig_8_16 t l h1 h2 h3 h4]
  refine bodyPost_ret (v := .tuple #[.agg #[.int .i64 16, .int .i64 2, .int .i64 18, .int .i64 (totalZ t l), .int .i64 (sigZ 8 16 t l), .int .i64 21], .int .i64 0]) (by simp [results, Tryz.results155, go_sem, z0, z1, z2, z3, z4, z5]; rfl) rfl ⟨rfl, ?_⟩
  repeat refine Below.setCell ?_ (by simp) _
  exact below_drewN HB.out _

end Go.Proofs.YtgaoeoijdpdjiabGreatDoor

namespace Go.Proofs.YtgaoeoijdpdjiabGreatDoor
open Go.RowKit

theorem wrap_sig_4_4 (t l : Int) (h1 : 1 ≤ t) (h2 : t ≤ 4) (h3 : 1 ≤ l) (h4 : l ≤ 3) : IntKind.i64.wrap (IntKind.i64.wrap 8 + IntKind.i64.wrap (IntKind.i64.wrap (l * IntKind.i64.wrap (19 + t)) * 4)) = sigZ 4 4 t l := by
  rcases (show t = 1 ∨ t = 2 ∨ t = 3 ∨ t = 4 by omega) with rfl | rfl | rfl | rfl <;> rcases (show l = 1 ∨ l = 2 ∨ l = 3 by omega) with rfl | rfl | rfl <;> rfl
set_option maxHeartbeats 1000000 in
theorem measure_4_4 (k t l : Int) (w : World) (hk : k = 1 ∨ k = 2) (h1 : 1 ≤ t) (h2 : t ≤ 4) (h3 : 1 ≤ l) (h4 : l ≤ 3) :
    Calls Tryz.prog 155 #[.agg #[.int .i64 k, .int .i64 4, .int .i64 4, .int .i64 t, .int .i64 l]] w fun e w' =>
      e = .returned (.tuple #[.agg #[.int .i64 16, .int .i64 3, .int .i64 19, .int .i64 (totalZ t l), .int .i64 (sigZ 4 4 t l), .int .i64 13], .int .i64 0]) ∧ Below w.heap.size w w' := by
  have HR : Hid (rightB k 4 4 t l = true) := by show rightB k 4 4 t l = true; simp [rightB, hk, h1, h2, h3, h4]
  have hsh := shift_total t l h1 h2 h3 h4
  go_enter Tryz.func155, Tryz.ntmps155
  go_wp2_with (go_at_call 231; refine (check_any _ _ _ _ _ _).mono ?_; rintro e w' ⟨rfl, hb⟩; rw [HR.out]; obtain ⟨hc, hf⟩ := bcell hb; have hz := hb.size; simp at hz; have c1 : w'.cell? ⟨w.heap.size, 1, none⟩ = some (.int .i64 4) := (hb.cell (by simp <;> omega)).trans (by simp [go_sem, World.cell?_alloc_past]); have c2 : w'.cell? ⟨w.heap.size, 2, none⟩ = some (.int .i64 4) := (hb.cell (by simp <;> omega)).trans (by simp [go_sem, World.cell?_alloc_past]); have c3 : w'.cell? ⟨w.heap.size, 3, none⟩ = some (.int .i64 t) := (hb.cell (by simp <;> omega)).trans (by simp [go_sem, World.cell?_alloc_past]); have c4 : w'.cell? ⟨w.heap.size, 4, none⟩ = some (.int .i64 l) := (hb.cell (by simp <;> omega)).trans (by simp [go_sem, World.cell?_alloc_past]))
  obtain ⟨z0, z1, z2, z3, z4, z5⟩ := six_zero hb
  have HB : Hid (Below w.heap.size w w') := ((((Below.refl _ _).alloc (Nat.le_refl _) _).alloc (by simp) _).trans (hb.mono (by simp; omega)))
  have f0 : ∀ o, w'.frozen? ⟨w.heap.size + 1, o, none⟩ = false := fun o => (hf _ o (by simp)).trans (by simp [go_sem])
  clear hb hc hf
  go_quiet ((go_at_call 232; exact Calls.quiet_of_same (perByte_4 _)))
  go_wp2_with fail
  refine (count_48 _).mono ?_
  rintro e w'' ⟨rfl, rfl⟩
  go_wp2
  go_region_held3 (fun w' => w'.cell? ⟨w.heap.size, 1, none⟩ = some (.int .i64 4) ∧ w'.cell? ⟨w.heap.size, 3, none⟩ = some (.int .i64 t) ∧ w'.cell? ⟨w.heap.size, 4, none⟩ = some (.int .i64 l)) (simp [go_sem, c1, c3, c4]) (fail)
  go_wp2
  rw [wrap_sig_4_4 t l h1 h2 h3 h4]
  refine bodyPost_ret (v := .tuple #[.agg #[.int .i64 16, .int .i64 3, .int .i64 19, .int .i64 (totalZ t l), .int .i64 (sigZ 4 4 t l), .int .i64 13], .int .i64 0]) (by simp [results, Tryz.results155, go_sem, z0, z1, z2, z3, z4, z5]; rfl) rfl ⟨rfl, ?_⟩
  repeat refine Below.setCell ?_ (by simp) _
  exact below_drewN HB.out _

end Go.Proofs.YtgaoeoijdpdjiabGreatDoor

namespace Go.Proofs.YtgaoeoijdpdjiabGreatDoor
open Go.RowKit

/-- The first k words of the bytes from place o on, xored in. -/
def take32 (BL : List Nat) (o : Nat) (L : List Nat) : Nat → List Nat
  | 0 => L
  | j + 1 => (take32 BL o L j).set j (at0 (take32 BL o L j) j ^^^ beN BL (o + j * 4) 4)
theorem take32_length (BL : List Nat) (o : Nat) (L : List Nat) (j : Nat) : (take32 BL o L j).length = L.length := by
  induction j with
  | zero => rfl
  | succ j ih => simp only [take32, List.length_set, ih]
theorem take32_words (BL : List Nat) (o : Nat) (L : List Nat) (j : Nat) (h : Words 32 L) (hB : ∀ i, at0 BL i < 256) : Words 32 (take32 BL o L j) := by
  induction j with
  | zero => exact h
  | succ j ih => exact ih.set j _ (Nat.xor_lt_two_pow (ih.at j) (by have := beN_lt BL (o + j * 4) 4 hB; simpa using this))

theorem slice_take32 (h o cap j : Nat) (hj : j < 4) (hc : 16 ≤ cap) (wx : World) : (Instr.slice 170 (.slice (some ⟨h, o, none⟩) 16 cap) (some (.int .i64 ((j : Int) * 4))) (some (.int .i64 (((j : Int) + 1) * 4))) none).run Tryz.prog wx = .ok (.slice (some ⟨h, o + j * 4, none⟩) 4 (cap - j * 4)) wx := by
  have h0 : (0 : Int) ≤ (j : Int) * 4 := by omega
  have h2 : ((j : Int) + 1) * 4 ≤ (cap : Int) := by omega
  have h3 : ((j : Int) * 4).toNat = j * 4 := by omega
  have h4 : (((j : Int) + 1) * 4).toNat = j * 4 + 4 := by omega
  have h5 : j * 4 + 4 - j * 4 = 4 := by omega
  have h7 : ¬ cap = j * 4 := by omega
  simp [go_sem, h0, h2, h3, h4, h5, h7]
  rw [if_pos (by omega), if_pos (by omega)]

set_option maxHeartbeats 2000000 in
theorem take_32 (g h o cap : Nat) (L BL : List Nat) (w : World) (hr : RowK w g .u32 358 L) (hL : L.length = 8) (hW : Words 32 L) (hb : RowK w h .u8 5 BL) (hbl : o + 16 ≤ BL.length) (hB : ∀ i, at0 BL i < 256) (hc : 16 ≤ cap) (hgh : h ≠ g) :
    Calls Tryz.prog 292 #[.pointer (some ⟨g, 0, none⟩), .slice (some ⟨h, o, none⟩) 16 cap] w fun e w' => e = .returned (.tuple #[]) ∧ RowK w' g .u32 358 (take32 BL o L 4) ∧ Only g w w' := by
  have HR := hide hr
  have HL := hide hL
  have HW := hide hW
  have HB := hide hb
  have HBL := hide hbl
  have HBB := hide hB
  clear hr hL hW hb hbl hB
  go_enter Tryz.func292, Tryz.ntmps292
  go_wp2_with fail
  refine (size_32 _).mono ?_
  rintro e w1 ⟨rfl, rfl⟩
  go_wp2
  go_loopw [7] (fun i wr => ∃ j : Nat, j ≤ 4 ∧ i = .int .i64 j ∧ Hid (RowK wr g .u32 358 (take32 BL o L j)) ∧ Hid (Only g w1 wr)) (fun i _ => 4 - (intOf i).toNat)
  case atStart => exact ⟨0, by omega, rfl, HR, Only.refl _ _⟩
  case round =>
    obtain ⟨j, hj, rfl, hr, ho⟩ := hrel
    by_cases hlt : j < 4
    · have hlen : (take32 BL o L j).length = 8 := by rw [take32_length]; exact HL.out
      have hwd := take32_words BL o L j HW.out HBB.out
      have HS : Hid (take32 BL o L (j + 1) = (take32 BL o L j).set j (at0 (take32 BL o L j) j ^^^ beN BL (o + j * 4) 4)) := rfl
      generalize take32 BL o L j = K at hr hlen hwd HS
      have d1 := hr.out.cell (i := j) (by omega)
      have f1 := hr.out.free j
      have x1 : at0 K j < 4294967296 := by have := hwd.at j; simpa using this
      have HRD := hide (fun n' : Nat => read_32 h (o + j * 4) (cap - j * 4) BL (wr.drewN n') ((ho.out.row HB.out hgh).drewN n') (by have := HBL.out; omega) HBB.out)
      have y1 : beN BL (o + j * 4) 4 < 4294967296 := by have := beN_lt BL (o + j * 4) 4 HBB.out; simpa using this
      have HXO := hide (u32_xor_nat (at0 K j) (beN BL (o + j * 4) 4) x1 y1)
      have hsl := slice_take32 h o cap j hlt hc
      generalize beN BL (o + j * 4) 4 = v at HS HRD y1 HXO
      generalize hq : at0 K j = u at d1 x1 HXO HS
      have v1 : IntKind.i64.wrap ((j : Int) * 4) = (j : Int) * 4 := by rw [IntKind.wrap_i64]; omega
      have v2 : IntKind.i64.wrap ((j : Int) + 1) = (j : Int) + 1 := by rw [IntKind.wrap_i64]; omega
      have v3 : IntKind.i64.wrap (((j : Int) + 1) * 4) = ((j : Int) + 1) * 4 := by rw [IntKind.wrap_i64]; omega
      have q0 : (0 : Int) ≤ (j : Int) := by omega
      have q1 : (j : Int) < 8 := by omega
      clear hlen hwd hq x1 y1
      go_wp2
      go_region_with ((go_at_call 319; refine (HRD.out _).mono ?_; rintro e w' ⟨rfl, rfl⟩))
      all_goals
        go_wp2
        try rw [HXO.out]
        go_roundw
        case rel =>
          refine ⟨j + 1, by omega, by go_num, ?_, ?_⟩
          · have h := hr.out.set j (u ^^^ v)
            rw [← HS.out] at h
            exact h
          · unfold Hid
            first | exact (ho.out.drewN _).setCell j _ | (repeat (first | refine Only.drew ?_ | refine Only.setCell ?_ _ _); exact ho.out)
        case measure => simp [intOf]; omega
    · obtain rfl : j = 4 := by omega
      go_wp2
      go_end0
      exact ⟨rfl, hr.out, ho.out⟩
end Go.Proofs.YtgaoeoijdpdjiabGreatDoor

namespace Go.Proofs.YtgaoeoijdpdjiabGreatDoor
open Go.RowKit

/-- The first k words of the bytes from place o on, xored in. -/
def take64 (BL : List Nat) (o : Nat) (L : List Nat) : Nat → List Nat
  | 0 => L
  | j + 1 => (take64 BL o L j).set j (at0 (take64 BL o L j) j ^^^ beN BL (o + j * 8) 8)
theorem take64_length (BL : List Nat) (o : Nat) (L : List Nat) (j : Nat) : (take64 BL o L j).length = L.length := by
  induction j with
  | zero => rfl
  | succ j ih => simp only [take64, List.length_set, ih]
theorem take64_words (BL : List Nat) (o : Nat) (L : List Nat) (j : Nat) (h : Words 64 L) (hB : ∀ i, at0 BL i < 256) : Words 64 (take64 BL o L j) := by
  induction j with
  | zero => exact h
  | succ j ih => exact ih.set j _ (Nat.xor_lt_two_pow (ih.at j) (by have := beN_lt BL (o + j * 8) 8 hB; simpa using this))

theorem slice_take64 (h o cap j : Nat) (hj : j < 4) (hc : 32 ≤ cap) (wx : World) : (Instr.slice 170 (.slice (some ⟨h, o, none⟩) 32 cap) (some (.int .i64 ((j : Int) * 8))) (some (.int .i64 (((j : Int) + 1) * 8))) none).run Tryz.prog wx = .ok (.slice (some ⟨h, o + j * 8, none⟩) 8 (cap - j * 8)) wx := by
  have h0 : (0 : Int) ≤ (j : Int) * 8 := by omega
  have h2 : ((j : Int) + 1) * 8 ≤ (cap : Int) := by omega
  have h3 : ((j : Int) * 8).toNat = j * 8 := by omega
  have h4 : (((j : Int) + 1) * 8).toNat = j * 8 + 8 := by omega
  have h5 : j * 8 + 8 - j * 8 = 8 := by omega
  have h7 : ¬ cap = j * 8 := by omega
  simp [go_sem, h0, h2, h3, h4, h5, h7]
  rw [if_pos (by omega), if_pos (by omega)]

set_option maxHeartbeats 2000000 in
theorem take_64 (g h o cap : Nat) (L BL : List Nat) (w : World) (hr : RowK w g .u64 361 L) (hL : L.length = 8) (hW : Words 64 L) (hb : RowK w h .u8 5 BL) (hbl : o + 32 ≤ BL.length) (hB : ∀ i, at0 BL i < 256) (hc : 32 ≤ cap) (hgh : h ≠ g) :
    Calls Tryz.prog 296 #[.pointer (some ⟨g, 0, none⟩), .slice (some ⟨h, o, none⟩) 32 cap] w fun e w' => e = .returned (.tuple #[]) ∧ RowK w' g .u64 361 (take64 BL o L 4) ∧ Only g w w' := by
  have HR := hide hr
  have HL := hide hL
  have HW := hide hW
  have HB := hide hb
  have HBL := hide hbl
  have HBB := hide hB
  clear hr hL hW hb hbl hB
  go_enter Tryz.func296, Tryz.ntmps296
  go_wp2_with fail
  refine (size_64 _).mono ?_
  rintro e w1 ⟨rfl, rfl⟩
  go_wp2
  go_loopw [7] (fun i wr => ∃ j : Nat, j ≤ 4 ∧ i = .int .i64 j ∧ Hid (RowK wr g .u64 361 (take64 BL o L j)) ∧ Hid (Only g w1 wr)) (fun i _ => 4 - (intOf i).toNat)
  case atStart => exact ⟨0, by omega, rfl, HR, Only.refl _ _⟩
  case round =>
    obtain ⟨j, hj, rfl, hr, ho⟩ := hrel
    by_cases hlt : j < 4
    · have hlen : (take64 BL o L j).length = 8 := by rw [take64_length]; exact HL.out
      have hwd := take64_words BL o L j HW.out HBB.out
      have HS : Hid (take64 BL o L (j + 1) = (take64 BL o L j).set j (at0 (take64 BL o L j) j ^^^ beN BL (o + j * 8) 8)) := rfl
      generalize take64 BL o L j = K at hr hlen hwd HS
      have d1 := hr.out.cell (i := j) (by omega)
      have f1 := hr.out.free j
      have x1 : at0 K j < 18446744073709551616 := by have := hwd.at j; simpa using this
      have HRD := hide (fun n' : Nat => read_64 h (o + j * 8) (cap - j * 8) BL (wr.drewN n') ((ho.out.row HB.out hgh).drewN n') (by have := HBL.out; omega) HBB.out)
      have y1 : beN BL (o + j * 8) 8 < 18446744073709551616 := by have := beN_lt BL (o + j * 8) 8 HBB.out; simpa using this
      have HXO := hide (u64_xor_nat (at0 K j) (beN BL (o + j * 8) 8) x1 y1)
      have hsl := slice_take64 h o cap j hlt hc
      generalize beN BL (o + j * 8) 8 = v at HS HRD y1 HXO
      generalize hq : at0 K j = u at d1 x1 HXO HS
      have v1 : IntKind.i64.wrap ((j : Int) * 8) = (j : Int) * 8 := by rw [IntKind.wrap_i64]; omega
      have v2 : IntKind.i64.wrap ((j : Int) + 1) = (j : Int) + 1 := by rw [IntKind.wrap_i64]; omega
      have v3 : IntKind.i64.wrap (((j : Int) + 1) * 8) = ((j : Int) + 1) * 8 := by rw [IntKind.wrap_i64]; omega
      have q0 : (0 : Int) ≤ (j : Int) := by omega
      have q1 : (j : Int) < 8 := by omega
      clear hlen hwd hq x1 y1
      go_wp2
      go_region_with ((go_at_call 321; refine (HRD.out _).mono ?_; rintro e w' ⟨rfl, rfl⟩))
      all_goals
        go_wp2
        try rw [HXO.out]
        go_roundw
        case rel =>
          refine ⟨j + 1, by omega, by go_num, ?_, ?_⟩
          · have h := hr.out.set j (u ^^^ v)
            rw [← HS.out] at h
            exact h
          · unfold Hid
            first | exact (ho.out.drewN _).setCell j _ | (repeat (first | refine Only.drew ?_ | refine Only.setCell ?_ _ _); exact ho.out)
        case measure => simp [intOf]; omega
    · obtain rfl : j = 4 := by omega
      go_wp2
      go_end0
      exact ⟨rfl, hr.out, ho.out⟩
end Go.Proofs.YtgaoeoijdpdjiabGreatDoor

namespace Go.Proofs.YtgaoeoijdpdjiabGreatDoor

/-- The byte at a place (0 behind the end). -/
def byt (s : ByteArray) (k : Nat) : Nat := (s.data.toList.map UInt8.toNat).getD k 0
theorem byt_lt (s : ByteArray) (k : Nat) : byt s k < 256 := byte_lt s k

theorem top_bit (x : Nat) (h : x < 2147483648) : 2147483648 ≤ x ^^^ 3988292384 := by
  have h1 : (x ^^^ 3988292384).testBit 31 = true := by
    rw [Nat.testBit_xor, Nat.testBit_lt_two_pow (show x < 2 ^ 31 by omega)]
    decide
  have := Nat.ge_two_pow_of_testBit h1
  omega
theorem xor_right {a b c : Nat} (h : a ^^^ c = b ^^^ c) : a = b := by
  have e := congrArg (· ^^^ c) h
  simpa [Nat.xor_assoc, Nat.xor_self] using e
theorem xor_left {a b c : Nat} (h : c ^^^ a = c ^^^ b) : a = b := by
  rw [Nat.xor_comm c a, Nat.xor_comm c b] at h
  exact xor_right h
theorem crcStep_inj (u v : Nat) (hu : u < 4294967296) (hv : v < 4294967296) (h : crcStep u = crcStep v) : u = v := by
  unfold crcStep at h
  have tu := top_bit (u / 2) (by omega)
  have tv := top_bit (v / 2) (by omega)
  split at h <;> split at h
  · have := xor_right h
    omega
  · omega
  · omega
  · omega
theorem crcN_inj (n u v : Nat) (hu : u < 4294967296) (hv : v < 4294967296) (h : crcN n u = crcN n v) : u = v := by
  induction n with
  | zero => exact h
  | succ n ih => exact ih (crcStep_inj _ _ (crcN_lt n u hu) (crcN_lt n v hv) h)
theorem xor_lt32 (a b : Nat) (ha : a < 4294967296) (hb : b < 256) : a ^^^ b < 4294967296 := Nat.xor_lt_two_pow (n := 32) ha (Nat.lt_trans hb (by decide))
/-- One byte makes another sum. -/
theorem crcTo_same (s t : ByteArray) (k : Nat) (h : ∀ j, j < k → byt s j = byt t j) : crcTo s k = crcTo t k := by
  induction k with
  | zero => rfl
  | succ k ih =>
    have e : byt s k = byt t k := h k (by omega)
    show crcN 8 (crcTo s k ^^^ byt s k) = crcN 8 (crcTo t k ^^^ byt t k)
    rw [ih (fun j hj => h j (by omega)), e]
theorem crcTo_parts (s t : ByteArray) (a : Nat) (hs : ∀ j, j ≠ a → byt s j = byt t j) (ha : byt s a ≠ byt t a) : ∀ k, a < k → crcTo s k ≠ crcTo t k := by
  intro k
  induction k with
  | zero => intro h; omega
  | succ k ih =>
    intro hk e
    have e2 := crcN_inj 8 _ _ (xor_lt32 _ _ (crcTo_lt s k) (byte_lt s k)) (xor_lt32 _ _ (crcTo_lt t k) (byte_lt t k)) e
    change crcTo s k ^^^ byt s k = crcTo t k ^^^ byt t k at e2
    by_cases h : a = k
    · subst h
      rw [crcTo_same s t a (fun j hj => hs j (by omega))] at e2
      exact ha (xor_left e2)
    · rw [hs k (fun e => h e.symm)] at e2
      exact ih (by omega) (xor_right e2)

theorem byt_of (s : ByteArray) (k : Nat) (h : k < s.size) : byt s k = (s[k]'h).toNat := byte_eq s k h
theorem byt_ext (s t : ByteArray) (hz : s.size = t.size) (h : ∀ k, k < s.size → byt s k = byt t k) : s = t := by
  apply ByteArray.ext
  apply Array.ext
  · exact hz
  · intro i h1 h2
    have e := h i h1
    rw [byt_of s i h1, byt_of t i h2] at e
    exact UInt8.toNat_inj.1 e
theorem byt_left (x y : ByteArray) (k : Nat) (h : k < x.size) : byt (x ++ y) k = byt x k := by
  have h1 : k < x.data.toList.length := h
  simp only [byt, ByteArray.data_append, Array.toList_append, List.map_append, List.getD_eq_getElem?_getD]
  rw [List.getElem?_append_left (by rw [List.length_map]; exact h1)]
theorem byt_right (x y : ByteArray) (k : Nat) (h : x.size ≤ k) : byt (x ++ y) k = byt y (k - x.size) := by
  have h1 : x.data.toList.length ≤ k := h
  simp only [byt, ByteArray.data_append, Array.toList_append, List.map_append, List.getD_eq_getElem?_getD]
  rw [List.getElem?_append_right (by rw [List.length_map]; exact h1), List.length_map]
  rfl
theorem byt_part (s : ByteArray) (a b k : Nat) (hb : b ≤ s.size) (h : a + k < b) : byt (s.extract a b) k = byt s (a + k) := by
  rw [byt_of (s.extract a b) k (by rw [ByteArray.size_extract]; omega), byt_of s (a + k) (by omega), ByteArray.getElem_extract]
theorem byt_num (k : Nat) (v : Int) (j : Nat) (h : j < k) : (byt (numB k v) j : Int) = v / 256 ^ (k - 1 - j) % 256 := by
  have e : ∀ (k j : Nat), j < k → (numL k v).getD j 0 = (v / 256 ^ (k - 1 - j) % 256).toNat := by
    intro k
    induction k with
    | zero => intro j h; omega
    | succ k ih =>
      intro j h
      cases j with
      | zero => simp [numL]
      | succ j =>
        rw [numL, List.getD_cons_succ, ih j (by omega)]
        rw [show k + 1 - 1 - (j + 1) = k - 1 - j by omega]
  have e1 : byt (numB k v) j = (numL k v).getD j 0 := by
    unfold byt numB
    have hm : List.map UInt8.toNat (List.map UInt8.ofNat (numL k v)) = numL k v := by
      rw [List.map_map]
      refine (List.map_congr_left (g := id) ?_).trans (List.map_id _)
      intro d hd
      exact (UInt8.toNat_ofNat_of_lt' (numL_lt k v d hd))
    simp only [hm]
  rw [e1, e k j h, Int.toNat_of_nonneg (Int.emod_nonneg _ (by decide))]
/-- The value of k bytes from a place on, the highest first. -/
def valN (s : ByteArray) (i : Nat) : Nat → Nat
  | 0 => 0
  | k + 1 => valN s i k * 256 + byt s (i + k)
theorem valN_lt (s : ByteArray) (i : Nat) : valN s i 4 < 4294967296 := by
  have h0 := byt_lt s (i + 0)
  have h1 := byt_lt s (i + 1)
  have h2 := byt_lt s (i + 2)
  have h3 := byt_lt s (i + 3)
  simp only [valN]
  omega
theorem valN_part (s : ByteArray) (a b k : Nat) (hb : b ≤ s.size) (h : a + k ≤ b) : valN (s.extract a b) 0 k = valN s a k := by
  induction k with
  | zero => rfl
  | succ k ih => rw [valN, valN, ih (by omega), byt_part s a b _ hb (by omega), Nat.zero_add]
/-- Four bytes are the number that they tell. -/
theorem num_val (s : ByteArray) (i : Nat) (h : i + 4 ≤ s.size) : numB 4 (valN s i 4 : Nat) = s.extract i (i + 4) := by
  have h0 := byt_lt s (i + 0)
  have h1 := byt_lt s (i + 1)
  have h2 := byt_lt s (i + 2)
  have h3 := byt_lt s (i + 3)
  apply byt_ext
  · rw [numB_size, ByteArray.size_extract]; omega
  · intro k hk
    rw [numB_size] at hk
    have e1 := byt_num 4 (valN s i 4 : Nat) k hk
    have e2 := byt_part s i (i + 4) k h (by omega)
    rw [e2]
    generalize byt (numB 4 (valN s i 4 : Nat)) k = z at e1 ⊢
    clear e2
    have hc : k = 0 ∨ k = 1 ∨ k = 2 ∨ k = 3 := by omega
    simp only [valN] at e1
    rcases hc with rfl | rfl | rfl | rfl <;> simp only [Nat.reduceSub, Int.reducePow] at e1 <;> omega
theorem val_num (v : Int) (h0 : 0 ≤ v) (h1 : v < 4294967296) : (valN (numB 4 v) 0 4 : Int) = v := by
  have a0 := byt_num 4 v 0 (by decide)
  have a1 := byt_num 4 v 1 (by decide)
  have a2 := byt_num 4 v 2 (by decide)
  have a3 := byt_num 4 v 3 (by decide)
  simp only [valN, Nat.zero_add]
  simp only [Nat.reduceSub, Int.reducePow] at a0 a1 a2 a3
  omega
theorem num_inj (u v : Int) (hu : 0 ≤ u) (hu1 : u < 4294967296) (hv : 0 ≤ v) (hv1 : v < 4294967296) (h : numB 4 u = numB 4 v) : u = v := by
  rw [← val_num u hu hu1, ← val_num v hv hv1, h]

/-- The mark, and the eight zero bytes. -/
def markB : ByteArray := ⟨#[115, 103, 110, 116]⟩
def blankB : ByteArray := ⟨#[0, 0, 0, 0, 0, 0, 0, 0]⟩
theorem blank_num : numB 8 0 = blankB := by decide
/-- The sum of a text. -/
def sumV (s : ByteArray) : Int := 4294967295 - ((crcTo s s.size : Nat) : Int)
theorem sumV_lo (s : ByteArray) : 0 ≤ sumV s := by have := crcTo_lt s s.size; unfold sumV; omega
theorem sumV_hi (s : ByteArray) : sumV s < 4294967296 := by unfold sumV; omega
/-- A record's text, but for its sum; the whole text. -/
def sealT (q b : Int) (d : ByteArray) : ByteArray := markB ++ numB 4 q ++ d ++ numB 4 b ++ blankB
def sealS (q b : Int) (d : ByteArray) : ByteArray := sealT q b d ++ numB 4 (sumV (sealT q b d))
/-- A record that may be. -/
abbrev RecR (q b : Int) (d : ByteArray) : Prop := 1 ≤ q ∧ q ≤ 2147483647 ∧ 0 ≤ b ∧ b ≤ 4096 ∧ d.size = 8
theorem sealT_size (q b : Int) (d : ByteArray) (h : d.size = 8) : (sealT q b d).size = 28 := by
  simp only [sealT, ByteArray.size_append, numB_size, h]; rfl
theorem sealS_size (q b : Int) (d : ByteArray) (h : d.size = 8) : (sealS q b d).size = 32 := by
  rw [sealS, ByteArray.size_append, sealT_size q b d h, numB_size]

theorem extract_cat (s : ByteArray) (a b c : Nat) (h1 : a ≤ b) (h2 : b ≤ c) (h3 : c ≤ s.size) : s.extract a b ++ s.extract b c = s.extract a c := by
  apply byt_ext
  · simp only [ByteArray.size_append, ByteArray.size_extract]; omega
  · intro k hk
    simp only [ByteArray.size_append, ByteArray.size_extract] at hk
    by_cases h : k < b - a
    · rw [byt_left _ _ _ (by rw [ByteArray.size_extract]; omega), byt_part _ _ _ _ (by omega) (by omega), byt_part _ _ _ _ (by omega) (by omega)]
    · rw [byt_right _ _ _ (by rw [ByteArray.size_extract]; omega), ByteArray.size_extract, byt_part _ _ _ _ (by omega) (by omega), byt_part _ _ _ _ (by omega) (by omega)]
      congr 1; omega
theorem extract_all (s : ByteArray) (n : Nat) (h : s.size = n) : s.extract 0 n = s := by
  apply byt_ext
  · rw [ByteArray.size_extract]; omega
  · intro k hk
    rw [ByteArray.size_extract] at hk
    rw [byt_part _ _ _ _ (by omega) (by omega), Nat.zero_add]

/-- What stands in a text where a record has its parts. -/
def seqOf (s : ByteArray) : Int := (valN s 4 4 : Nat)
def boundOf (s : ByteArray) : Int := (valN s 16 4 : Nat)
def idOf (s : ByteArray) : ByteArray := s.extract 8 16

theorem app_inj {a b c d : ByteArray} (h : a ++ b = c ++ d) (hz : a.size = c.size) : a = c ∧ b = d := by
  have hs := congrArg ByteArray.size h
  simp only [ByteArray.size_append] at hs
  refine ⟨byt_ext _ _ hz ?_, byt_ext _ _ (by omega) ?_⟩
  · intro k hk
    have e : byt (a ++ b) k = byt (c ++ d) k := by rw [h]
    rwa [byt_left _ _ _ hk, byt_left _ _ _ (by omega)] at e
  · intro k hk
    have e : byt (a ++ b) (a.size + k) = byt (c ++ d) (a.size + k) := by rw [h]
    rw [byt_right _ _ _ (by omega), byt_right _ _ _ (by omega)] at e
    rwa [show a.size + k - a.size = k by omega, show a.size + k - c.size = k by omega] at e

/-- The text that is laid anew is the text, just if its mark, its blank and its sum are. -/
theorem again_iff (s : ByteArray) (hs : s.size = 32) :
    sealS (seqOf s) (boundOf s) (idOf s) = s ↔ s.extract 0 4 = markB ∧ s.extract 20 28 = blankB ∧ sumV (s.extract 0 28) = (valN s 28 4 : Nat) := by
  have e4 := num_val s 4 (by omega)
  have e16 := num_val s 16 (by omega)
  have e28 := num_val s 28 (by omega)
  have hl := valN_lt s 28
  have HT : sealT (seqOf s) (boundOf s) (idOf s) = markB ++ s.extract 4 8 ++ s.extract 8 16 ++ s.extract 16 20 ++ blankB := by
    rw [sealT, seqOf, boundOf, e4, e16, idOf]
  have H0 : s.extract 0 4 ++ s.extract 4 8 ++ s.extract 8 16 ++ s.extract 16 20 ++ s.extract 20 28 = s.extract 0 28 := by
    rw [extract_cat s 0 4 8 (by omega) (by omega) (by omega), extract_cat s 0 8 16 (by omega) (by omega) (by omega), extract_cat s 0 16 20 (by omega) (by omega) (by omega), extract_cat s 0 20 28 (by omega) (by omega) (by omega)]
  have H1 : s.extract 0 28 ++ s.extract 28 32 = s := by
    rw [extract_cat s 0 28 32 (by omega) (by omega) (by omega), extract_all s 32 hs]
  constructor
  · intro h
    have hd : (idOf s).size = 8 := by rw [idOf, ByteArray.size_extract]; omega
    have hp := app_inj (a := sealT (seqOf s) (boundOf s) (idOf s)) (c := s.extract 0 28) (h.trans H1.symm) (by rw [sealT_size _ _ _ hd, ByteArray.size_extract]; omega)
    obtain ⟨hp, hv⟩ := hp
    have hq := hp
    rw [HT, ← H0] at hp
    have hz : markB.size = (s.extract 0 4).size := by rw [ByteArray.size_extract, show markB.size = 4 from rfl]; omega
    obtain ⟨hp, h5⟩ := app_inj hp (by simp only [ByteArray.size_append]; omega)
    obtain ⟨hp, -⟩ := app_inj hp (by simp only [ByteArray.size_append]; omega)
    obtain ⟨hp, -⟩ := app_inj hp (by simp only [ByteArray.size_append]; omega)
    obtain ⟨hp, -⟩ := app_inj hp hz
    refine ⟨hp.symm, h5.symm, ?_⟩
    rw [hq, ← e28] at hv
    exact num_inj _ _ (sumV_lo _) (sumV_hi _) (by omega) (by omega) hv
  · rintro ⟨h1, h2, h3⟩
    have HQ : sealT (seqOf s) (boundOf s) (idOf s) = s.extract 0 28 := by rw [HT, ← H0, h1, h2]
    rw [sealS, HQ, h3, e28, H1]
theorem seq_seal (q b : Int) (d : ByteArray) (h : RecR q b d) : seqOf (sealS q b d) = q ∧ boundOf (sealS q b d) = b ∧ idOf (sealS q b d) = d := by
  obtain ⟨h1, h2, h3, h4, h5⟩ := h
  have hs := sealS_size q b d h5
  have hT := sealT_size q b d h5
  have hm : markB.size = 4 := rfl
  have hz : ∀ u : ByteArray, u.size = 32 → (u.extract 0 4).size = 4 ∧ (u.extract 4 8).size = 4 ∧ (u.extract 8 16).size = 8 ∧ (u.extract 16 20).size = 4 := by
    intro u hu
    simp only [ByteArray.size_extract]; omega
  have H0 := fun (u : ByteArray) (hu : u.size = 32) => show u.extract 0 4 ++ u.extract 4 8 ++ u.extract 8 16 ++ u.extract 16 20 ++ u.extract 20 28 ++ u.extract 28 32 = u by
    rw [extract_cat u 0 4 8 (by omega) (by omega) (by omega), extract_cat u 0 8 16 (by omega) (by omega) (by omega), extract_cat u 0 16 20 (by omega) (by omega) (by omega), extract_cat u 0 20 28 (by omega) (by omega) (by omega), extract_cat u 0 28 32 (by omega) (by omega) (by omega), extract_all u 32 hu]
  have E := H0 _ hs
  obtain ⟨z0, z4, z8, z16⟩ := hz _ hs
  have z20 : ((sealS q b d).extract 20 28).size = 8 := by rw [ByteArray.size_extract]; omega
  rw [show ∀ x : ByteArray, (x = sealS q b d) = (x = markB ++ numB 4 q ++ d ++ numB 4 b ++ blankB ++ numB 4 (sumV (sealT q b d))) from fun x => by rw [sealS]; rfl] at E
  obtain ⟨E, -⟩ := app_inj E (by simp only [ByteArray.size_append, numB_size, z0, z4, z8, z16, z20, h5]; rfl)
  obtain ⟨E, -⟩ := app_inj E (by simp only [ByteArray.size_append, numB_size, z0, z4, z8, z16, h5]; rfl)
  obtain ⟨E, E3⟩ := app_inj E (by simp only [ByteArray.size_append, numB_size, z0, z4, z8, h5]; rfl)
  obtain ⟨E, E2⟩ := app_inj E (by simp only [ByteArray.size_append, numB_size, z0, z4]; rfl)
  obtain ⟨E, E1⟩ := app_inj E (by simp only [z0]; rfl)
  refine ⟨?_, ?_, E2⟩
  · rw [← num_val _ _ (by omega)] at E1
    have := valN_lt (sealS q b d) 4
    exact num_inj _ _ (by unfold seqOf; omega) (by unfold seqOf; omega) (by omega) (by omega) E1
  · rw [← num_val _ _ (by omega)] at E3
    have := valN_lt (sealS q b d) 16
    exact num_inj _ _ (by unfold boundOf; omega) (by unfold boundOf; omega) (by omega) (by omega) E3
/-- A text with one other byte is no record's. -/
theorem spoiled (q b : Int) (d : ByteArray) (h : RecR q b d) (t : ByteArray) (ht : t.size = 32) (a : Nat) (ha : a < 32) (ho : ∀ j, j ≠ a → byt t j = byt (sealS q b d) j) (hn : byt t a ≠ byt (sealS q b d) a) : sealS (seqOf t) (boundOf t) (idOf t) ≠ t := by
  intro e
  have hs := sealS_size q b d h.2.2.2.2
  have e2 : sealS (seqOf (sealS q b d)) (boundOf (sealS q b d)) (idOf (sealS q b d)) = sealS q b d := by
    obtain ⟨h1, h2, h3⟩ := seq_seal q b d h
    rw [h1, h2, h3]
  generalize sealS q b d = s at *
  obtain ⟨a1, a2, a3⟩ := (again_iff t ht).1 e
  obtain ⟨b1, b2, b3⟩ := (again_iff s hs).1 e2
  have hpart : ∀ u : ByteArray, u.size = 32 → ∀ j, j < 28 → byt (u.extract 0 28) j = byt u j := by
    intro u hu j hj
    rw [byt_part u 0 28 j (by omega) (by omega), Nat.zero_add]
  have hout : ∀ u : ByteArray, u.size = 32 → ∀ j, 28 ≤ j → byt (u.extract 0 28) j = 0 := by
    intro u hu j hj
    have hz : (u.extract 0 28).size = 28 := by rw [ByteArray.size_extract]; omega
    unfold byt
    rw [List.getD_eq_getElem?_getD, List.getElem?_eq_none (by rw [List.length_map]; exact Nat.le_trans (Nat.le_of_eq hz) hj)]
    rfl
  have hzt : (t.extract 0 28).size = 28 := by rw [ByteArray.size_extract]; omega
  have hzs : (s.extract 0 28).size = 28 := by rw [ByteArray.size_extract]; omega
  by_cases h28 : a < 28
  · have hv : valN t 28 4 = valN s 28 4 := by
      simp only [valN]
      rw [ho (28 + 0) (by omega), ho (28 + 1) (by omega), ho (28 + 2) (by omega), ho (28 + 3) (by omega)]
    have hc := crcTo_parts (t.extract 0 28) (s.extract 0 28) a (by
      intro j hj
      by_cases h : j < 28
      · rw [hpart t ht j h, hpart s hs j h, ho j hj]
      · rw [hout t ht j (by omega), hout s hs j (by omega)]) (by rw [hpart t ht a h28, hpart s hs a h28]; exact hn) 28 h28
    rw [← hv, ← a3] at b3
    unfold sumV at b3
    rw [hzt, hzs] at b3
    omega
  · have hx : t.extract 0 28 = s.extract 0 28 := by
      apply byt_ext
      · rw [hzt, hzs]
      · intro k hk
        rw [hzt] at hk
        rw [hpart t ht k hk, hpart s hs k hk, ho k (by omega)]
    rw [hx, b3] at a3
    have a3 : valN s 28 4 = valN t 28 4 := by omega
    have hy : s.extract 28 32 = t.extract 28 32 := by
      have y1 := num_val s 28 (by omega)
      have y2 := num_val t 28 (by omega)
      rw [← y1, ← y2, a3]
    have y : byt (s.extract 28 32) (a - 28) = byt (t.extract 28 32) (a - 28) := by rw [hy]
    rw [byt_part _ _ _ _ (by omega) (by omega), byt_part _ _ _ _ (by omega) (by omega), show 28 + (a - 28) = a by omega] at y
    exact hn y.symm
end Go.Proofs.YtgaoeoijdpdjiabGreatDoor

namespace Go.Proofs.YtgaoeoijdpdjiabGreatDoor
open Go.RowKit

theorem list32 {l : List Value} (h : l.length = 32) : ∃ c0 c1 c2 c3 c4 c5 c6 c7 c8 c9 c10 c11 c12 c13 c14 c15 c16 c17 c18 c19 c20 c21 c22 c23 c24 c25 c26 c27 c28 c29 c30 c31, l = [c0, c1, c2, c3, c4, c5, c6, c7, c8, c9, c10, c11, c12, c13, c14, c15, c16, c17, c18, c19, c20, c21, c22, c23, c24, c25, c26, c27, c28, c29, c30, c31] := by
  match l, h with
  | [c0, c1, c2, c3, c4, c5, c6, c7, c8, c9, c10, c11, c12, c13, c14, c15, c16, c17, c18, c19, c20, c21, c22, c23, c24, c25, c26, c27, c28, c29, c30, c31], _ => exact ⟨c0, c1, c2, c3, c4, c5, c6, c7, c8, c9, c10, c11, c12, c13, c14, c15, c16, c17, c18, c19, c20, c21, c22, c23, c24, c25, c26, c27, c28, c29, c30, c31, rfl⟩
theorem sizeSec : (Tryz.prog.info? 239).map (·.size) = some 32 := by kernel_rfl
theorem sizeWri : (Tryz.prog.info? 241).map (·.size) = some 33 := by kernel_rfl
theorem cells32 {s : ByteArray} (h : s.size = 32) : (cellsB s).length = 32 := by rw [cellsB_length, h]
theorem pen33 {p : Nat × ByteArray} (h : p.2.size = 32) : (penC p).length = 33 := by rw [penC_length, h]

/-- Cells that lie one behind the other, loaded at once. -/
theorem loadFrom (w : World) (b o : Nat) (cs : List Value) (n : Nat) (hn : cs.length = n) (hr : w.rangeAt b o cs) : (loadCellsFrom ⟨b, o, none⟩ 0 n #[]).run Tryz.prog w = .ok cs.toArray w := by
  subst hn
  have := run_loadCells_list (P := Tryz.prog) w ⟨b, o, none⟩ cs (fun j v hv => by rw [Addr.add_mid]; exact hr j v hv)
  simpa [loadCells] using this

/-- So many cells from a place on, if they are all there. -/
def cellsAt (w : World) (b o : Nat) : Nat → Option (List Value)
  | 0 => some []
  | n + 1 => (w.cell? ⟨b, o, none⟩).bind (fun v => (cellsAt w b (o + 1) n).map (fun l => v :: l))
theorem cellsAt_range : ∀ (n : Nat) (cs : List Value) (w : World) (b o : Nat), cellsAt w b o n = some cs → cs.length = n ∧ w.rangeAt b o cs
  | 0, cs, w, b, o, h => by
    simp only [cellsAt, Option.some.injEq] at h
    subst h
    exact ⟨rfl, fun j v hv => by simp at hv⟩
  | n + 1, cs, w, b, o, h => by
    simp only [cellsAt] at h
    cases hc : w.cell? ⟨b, o, none⟩ with
    | none => simp [hc] at h
    | some v =>
      cases hr : cellsAt w b (o + 1) n with
      | none => simp [hc, hr] at h
      | some l =>
        simp only [hc, hr, Option.bind_some, Option.map_some, Option.some.injEq] at h
        subst h
        obtain ⟨h1, h2⟩ := cellsAt_range n l w b (o + 1) hr
        refine ⟨by simp [h1], ?_⟩
        intro j u hu
        cases j with
        | zero => simp at hu; subst hu; exact hc
        | succ j => rw [show o + (j + 1) = o + 1 + j by omega]; exact h2 j u (by simpa using hu)
theorem range_cellsAt : ∀ (cs : List Value) (n : Nat) (w : World) (b o : Nat), cs.length = n → w.rangeAt b o cs → cellsAt w b o n = some cs
  | [], n, w, b, o, hn, h => by subst hn; rfl
  | v :: l, n, w, b, o, hn, h => by
    subst hn
    have h0 : w.cell? ⟨b, o, none⟩ = some v := h 0 v rfl
    have hr := range_cellsAt l l.length w b (o + 1) rfl (fun j u hu => by rw [show o + 1 + j = o + (j + 1) by omega]; exact h (j + 1) u (by simpa using hu))
    simp [cellsAt, h0, hr]
def ptrCells (w : World) (n : Nat) : Value → Option (List Value)
  | .pointer (some ⟨b, o, none⟩) => cellsAt w b o n
  | _ => none
theorem ptrCells_at (w : World) (n b o : Nat) : ptrCells w n (.pointer (some ⟨b, o, none⟩)) = cellsAt w b o n := rfl
theorem ptrCells_range {w : World} {n : Nat} {v : Value} (h : (ptrCells w n v).isSome = true) : ∃ b o cs, v = .pointer (some ⟨b, o, none⟩) ∧ ptrCells w n v = some cs ∧ cs.length = n ∧ w.rangeAt b o cs := by
  obtain ⟨cs, hcs⟩ := Option.isSome_iff_exists.1 h
  match v, hcs with
  | .pointer (some ⟨b, o, none⟩), hcs =>
    obtain ⟨h1, h2⟩ := cellsAt_range n cs w b o hcs
    exact ⟨b, o, cs, rfl, hcs, h1, h2⟩
theorem wp_pre_sec {x : Operand} {d : Option Nat} {ty : TypeId} {ps : String} {af : Array Edge} {g : Option (Nat × Bool)} {a : Act} {w : World} {K : Act → World → Prop} {Q : Exit → Act → World → Prop} (h : (ptrCells w 32 (a.eval x)).isSome = true) :
    Oper.wp Tryz.prog { dst := d, op := .load 239 x, type := ty, pos := ps, after := af, guard := g } a w K Q = K (a.put d (.agg ((ptrCells w 32 (a.eval x)).getD []).toArray)) w := by
  obtain ⟨b, o, cs, hx, hcs, hl, hr⟩ := ptrCells_range h
  have hv := run_loadVar_mid (P := Tryz.prog) w b o 239 cs _ hr Tryz.underlying239 rfl (by rw [hl]; exact sizeSec)
  rw [hcs]
  unfold Oper.wp execOp
  simp only [hx, Instr.loadAt, Instr.sureAddr, Sem.run_bind, Sem.run_pure, Result.andThen_ok, hv]
  rfl
theorem wp_pre_wri {x : Operand} {d : Option Nat} {ty : TypeId} {ps : String} {af : Array Edge} {g : Option (Nat × Bool)} {a : Act} {w : World} {K : Act → World → Prop} {Q : Exit → Act → World → Prop} (h : (ptrCells w 33 (a.eval x)).isSome = true) :
    Oper.wp Tryz.prog { dst := d, op := .load 241 x, type := ty, pos := ps, after := af, guard := g } a w K Q = K (a.put d (.agg ((ptrCells w 33 (a.eval x)).getD []).toArray)) w := by
  obtain ⟨b, o, cs, hx, hcs, hl, hr⟩ := ptrCells_range h
  have hv := run_loadVar_mid (P := Tryz.prog) w b o 241 cs _ hr Tryz.underlying241 rfl (by rw [hl]; exact sizeWri)
  rw [hcs]
  unfold Oper.wp execOp
  simp only [hx, Instr.loadAt, Instr.sureAddr, Sem.run_bind, Sem.run_pure, Result.andThen_ok, hv]
  rfl

/-- A sector, a write, loaded by value. -/
theorem loadSec (w : World) (b o : Nat) (s : ByteArray) (h : s.size = 32) (hr : w.rangeAt b o (cellsB s)) : (Instr.loadAt 239 (.pointer (some ⟨b, o, none⟩))).run Tryz.prog w = .ok (.agg (cellsB s).toArray) w :=
  run_loadAt_mid w b o 239 (cellsB s) _ hr Tryz.underlying239 rfl (by rw [cells32 h]; exact sizeSec)
theorem loadWri (w : World) (b o : Nat) (p : Nat × ByteArray) (h : p.2.size = 32) (hr : w.rangeAt b o (penC p)) : (Instr.loadAt 241 (.pointer (some ⟨b, o, none⟩))).run Tryz.prog w = .ok (.agg (penC p).toArray) w :=
  run_loadAt_mid w b o 241 (penC p) _ hr Tryz.underlying241 rfl (by rw [pen33 h]; exact sizeWri)
theorem storeSec (w : World) (b o : Nat) (s : ByteArray) (h : s.size = 32) (hr : w.there b o 32) : (Instr.storeAt 239 (.pointer (some ⟨b, o, none⟩)) (.agg (cellsB s).toArray)).run Tryz.prog w = .ok () (w.setCells b o (cellsB s)) := by
  have hl := cells32 h
  have := run_storeAt_mid (P := Tryz.prog) w b o 239 (cellsB s).toArray (by rw [List.size_toArray, hl]; exact hr) (by rw [List.size_toArray, hl]; exact sizeSec) (all_oneCell_toArray (cellsB_one s))
  exact this
theorem newSec (w : World) (c : Array Value) (hc : c.size = 32) (s : ByteArray) (h : s.size = 32) : (Instr.storeAt 239 (.pointer (some ⟨w.heap.size, 0, none⟩)) (.agg (cellsB s).toArray)).run Tryz.prog (w.alloc (.cells c 239)) = .ok () (w.alloc (.cells (cellsB s).toArray 239)) :=
  run_storeAt_new w 239 c (cellsB s).toArray (by rw [List.size_toArray, cells32 h]; exact sizeSec) (by rw [hc, List.size_toArray, cells32 h]) (all_oneCell_toArray (cellsB_one s))
theorem newWri (w : World) (c : Array Value) (hc : c.size = 33) (p : Nat × ByteArray) (h : p.2.size = 32) : (Instr.storeAt 241 (.pointer (some ⟨w.heap.size, 0, none⟩)) (.agg (penC p).toArray)).run Tryz.prog (w.alloc (.cells c 241)) = .ok () (w.alloc (.cells (penC p).toArray 241)) :=
  run_storeAt_new w 241 c (penC p).toArray (by rw [List.size_toArray, pen33 h]; exact sizeWri) (by rw [hc, List.size_toArray, pen33 h]) (all_oneCell_toArray (penC_one p))
/-- A write built out of its two parts; a slice of one write. -/
def aggList : Value → List Value
  | .agg cs => cs.toList
  | _ => []
def isAggN (n : Nat) : Value → Bool
  | .agg cs => cs.size == n
  | _ => false
def isInt64 : Value → Bool
  | .int .i64 _ => true
  | _ => false
theorem aggList_at (l : List Value) : aggList (.agg l.toArray) = l := rfl
theorem isAggN_at (n : Nat) (l : List Value) : isAggN n (.agg l.toArray) = (l.length == n) := rfl
theorem isInt64_at (n : Int) : isInt64 (.int .i64 n) = true := rfl
theorem isAggN_out {n : Nat} {v : Value} (h : isAggN n v = true) : ∃ l : List Value, v = .agg l.toArray ∧ l.length = n := by
  cases v with
  | agg cs => exact ⟨cs.toList, by simp, by simpa [isAggN] using h⟩
  | _ => simp [isAggN] at h
theorem isInt64_out {v : Value} (h : isInt64 v = true) : ∃ n, v = .int .i64 n := by
  match v, h with
  | .int .i64 n, _ => exact ⟨n, rfl⟩
theorem buildWri (w : World) (n : Int) (l : List Value) (h : l.length = 32) : (Instr.build 241 #[(0, .int .i64 n), (1, .agg l.toArray)]).run Tryz.prog w = .ok (.agg (.int .i64 n :: l).toArray) w := by
  obtain ⟨c0, c1, c2, c3, c4, c5, c6, c7, c8, c9, c10, c11, c12, c13, c14, c15, c16, c17, c18, c19, c20, c21, c22, c23, c24, c25, c26, c27, c28, c29, c30, c31, rfl⟩ := list32 h
  refine run_build w 241 _ _ ?_
  first | (show _ = _; kernel_rfl) | rfl
theorem sliceWri (w : World) (l : List Value) (h : l.length = 33) : (Instr.buildSlice 180 1 #[(0, .agg l.toArray)]).run Tryz.prog w = .ok (.slice (some ⟨w.heap.size, 0, none⟩) 1 1) (w.alloc (.cells l.toArray 241)) := by
  cases l with
  | nil => simp at h
  | cons z l =>
    obtain ⟨c0, c1, c2, c3, c4, c5, c6, c7, c8, c9, c10, c11, c12, c13, c14, c15, c16, c17, c18, c19, c20, c21, c22, c23, c24, c25, c26, c27, c28, c29, c30, c31, rfl⟩ := list32 (l := l) (by simpa using h)
    first | (show _ = _; kernel_rfl) | rfl
theorem wp_pre_build {x y : Operand} {d : Option Nat} {ty : TypeId} {ps : String} {af : Array Edge} {g : Option (Nat × Bool)} {a : Act} {w : World} {K : Act → World → Prop} {Q : Exit → Act → World → Prop} (hx : isInt64 (a.eval x) = true) (hy : isAggN 32 (a.eval y) = true) :
    Oper.wp Tryz.prog { dst := d, op := .build 241 #[(0, x), (1, y)], type := ty, pos := ps, after := af, guard := g } a w K Q = K (a.put d (.agg (a.eval x :: aggList (a.eval y)).toArray)) w := by
  obtain ⟨n, hn⟩ := isInt64_out hx
  obtain ⟨l, hl, hl2⟩ := isAggN_out hy
  have hb := buildWri w n l hl2
  rw [hn, hl, aggList_at]
  unfold Oper.wp execOp
  simp only [List.map_toArray, List.map_cons, List.map_nil, hn, hl, Sem.run_bind, Sem.run_pure, Result.andThen_ok, hb]
  rfl
theorem wp_pre_slice {x : Operand} {d : Option Nat} {ty : TypeId} {ps : String} {af : Array Edge} {g : Option (Nat × Bool)} {a : Act} {w : World} {K : Act → World → Prop} {Q : Exit → Act → World → Prop} (hy : isAggN 33 (a.eval x) = true) :
    Oper.wp Tryz.prog { dst := d, op := .buildSlice 180 1 #[(0, x)], type := ty, pos := ps, after := af, guard := g } a w K Q = K (a.put d (.slice (some ⟨w.heap.size, 0, none⟩) 1 1)) (w.alloc (.cells (aggList (a.eval x)).toArray 241)) := by
  obtain ⟨l, hl, hl2⟩ := isAggN_out hy
  have hb := sliceWri w l hl2
  rw [hl, aggList_at]
  unfold Oper.wp execOp
  simp only [List.map_toArray, List.map_cons, List.map_nil, hl, Sem.run_bind, Sem.run_pure, Result.andThen_ok, hb]
  rfl
end Go.Proofs.YtgaoeoijdpdjiabGreatDoor

namespace Go.Proofs.YtgaoeoijdpdjiabGreatDoor
open Go.RowKit

/-- The i-th byte of words of n bytes each. -/
def outB (n : Nat) (L : List Nat) (i : Nat) : Nat := at0 L (i / n) / 2 ^ (8 * (n - 1 - i % n)) % 256
def outs (n : Nat) (L : List Nat) (m : Nat) : List Nat := (List.range m).map (outB n L)
theorem outs_length (n : Nat) (L : List Nat) (m : Nat) : (outs n L m).length = m := by simp [outs]
theorem outs_succ (n : Nat) (L : List Nat) (m : Nat) : outs n L (m + 1) = outs n L m ++ [outB n L m] := by simp [outs, List.range_succ]
theorem outB_lt (n : Nat) (L : List Nat) (i : Nat) : outB n L i < 256 := Nat.mod_lt _ (by decide)

/-- The cells of a list of bytes. -/
def cells8 (D : List Nat) : List Value := D.map (fun d => Value.int .u8 ((d : Nat) : Int))
theorem cells8_snoc (D : List Nat) (d : Nat) : cells8 (D ++ [d]) = cells8 D ++ [.int .u8 ((d : Nat) : Int)] := by simp [cells8]

theorem infoByte : (Tryz.prog.info? 5).map (fun i => (i.zero, i.size, i.bytes)) = some (some (.int .u8 0), 1, 1) := by kernel_rfl

theorem owns_lt {w : World} {base : Nat} {e : TypeId} {s : Nat} {v : Value} {n : Nat} {xs : List Value} (h : w.ownsRow base e s v n xs) : ∀ k, v.ownBlock = some k → base ≤ k ∧ k < w.heap.size := by
  intro k hk
  rcases h.2 with ⟨rfl, _⟩ | ⟨g, cap, cur, rfl, hg, hh, _⟩
  · simp [Value.ownBlock] at hk
  · simp only [Value.ownBlock, Option.some.injEq] at hk
    subst hk
    exact ⟨hg, lt_of_block hh⟩
theorem one_new (w : World) (v : Value) (t : TypeId) : ∀ j u, [v][j]? = some u → (w.alloc (.cells #[v] t)).cell? ((Addr.mk w.heap.size 0 none).add j) = some u := by
  intro j u hj
  match j, hj with
  | 0, hj => simp at hj; subst hj; simp [Addr.add]
theorem owns_some {w : World} {base : Nat} {e : TypeId} {s : Nat} {v : Value} {n : Nat} {xs : List Value} (h : w.ownsRow base e s v n xs) (hn : 0 < n) : ∃ g cap, v = .slice (some ⟨g, 0, none⟩) n cap := by
  rcases h.2 with ⟨rfl, rfl⟩ | ⟨g, cap, cur, rfl, _⟩
  · omega
  · exact ⟨g, cap, rfl⟩
/-- The text of a list of bytes. -/
def textOf (D : List Nat) : ByteArray := ⟨(D.map UInt8.ofNat).toArray⟩
theorem textOf_size (D : List Nat) : (textOf D).size = D.length := by simp [textOf, ByteArray.size]

theorem run_text (w : World) (base : Nat) (v : Value) (D : List Nat) (hD : ∀ d ∈ D, d < 256) (h : w.ownsRow base 5 1 v D.length (cells8 D)) (h0 : 0 < D.length) :
    (convert 170 9 v).run Tryz.prog w = .ok (.string (textOf D)) w := by
  obtain ⟨g, cap, rfl⟩ := owns_some h h0
  have hl : (D.map UInt8.ofNat).length = D.length := by simp
  have hc := run_convert_bytes_back (P := Tryz.prog) w 170 9 5 ⟨g, 0, none⟩ cap (D.map UInt8.ofNat) Tryz.underlying170 Tryz.underlying5 Tryz.underlying9 (by
    intro j hj
    have hj' : j < D.length := by simpa using hj
    have hadd : (Addr.mk g 0 none).add j = ⟨g, j, none⟩ := by unfold Addr.add; split <;> simp_all
    rw [hadd]
    rcases h.2 with ⟨h, _⟩ | ⟨g', cap', cur, h, _, hh, _, _, _, ht⟩
    · cases h
    · simp only [Value.slice.injEq, Option.some.injEq, Addr.mk.injEq, and_true, true_and] at h
      obtain ⟨rfl, rfl⟩ := h
      have h1 : (cur.toList.take (D.length * 1))[j]? = (cells8 D)[j]? := by rw [ht]
      rw [List.getElem?_take_of_lt (by omega)] at h1
      simp only [World.cell?, hh]
      have hd := hD D[j] (List.getElem_mem hj')
      simpa [cells8, hj', Nat.mod_eq_of_lt hd] using h1)
  rw [hl] at hc
  exact hc
end Go.Proofs.YtgaoeoijdpdjiabGreatDoor

namespace Go.Proofs.YtgaoeoijdpdjiabGreatDoor
open Go.RowKit

/-- A text's bytes, and a 1 behind them. -/
def padL (s : ByteArray) : List Nat := s.data.toList.map UInt8.toNat ++ [1]

theorem padL_length (s : ByteArray) : (padL s).length = s.size + 1 := by simp [padL]

theorem padL_in (s : ByteArray) (i : Nat) (h : i < s.size) : at0 (padL s) i = (s[i]'h).toNat := by
  unfold padL at0
  rw [List.getD_eq_getElem?_getD, List.getElem?_append_left (by simpa using h), List.getElem?_map, List.getElem?_eq_getElem (by simpa using h)]
  rfl

theorem padL_at (s : ByteArray) : at0 (padL s) s.size = 1 := by
  unfold padL at0
  rw [List.getD_eq_getElem?_getD, List.getElem?_append_right (by simp)]
  simp

theorem padL_past (s : ByteArray) (i : Nat) (h : s.size < i) : at0 (padL s) i = 0 := by
  unfold at0
  rw [List.getD_eq_getElem?_getD, List.getElem?_eq_none (by rw [padL_length]; omega)]
  rfl

theorem padL_lt (s : ByteArray) (i : Nat) : at0 (padL s) i < 256 := by
  rcases Nat.lt_trichotomy i s.size with h | h | h
  · rw [padL_in s i h]; exact UInt8.toNat_lt _
  · rw [h, padL_at]; decide
  · rw [padL_past s i h]; decide
end Go.Proofs.YtgaoeoijdpdjiabGreatDoor

namespace Go.Proofs.YtgaoeoijdpdjiabGreatDoor
open Go.RowKit

/-- A text's bytes as numbers. -/
def bytesN (m : ByteArray) : List Nat := m.data.toList.map UInt8.toNat

theorem bytesN_length (m : ByteArray) : (bytesN m).length = m.size := by simp [bytesN]
theorem bytesN_lt (m : ByteArray) : ∀ c ∈ bytesN m, c < 256 := by
  intro c hc
  simp only [bytesN, List.mem_map] at hc
  obtain ⟨u, _, rfl⟩ := hc
  exact UInt8.toNat_lt u

/-- The row of n places behind k bytes. -/
def rowAt (x e n : Nat) (A : List Nat) (k : Nat) : List Int := (firsts x e (A.take k)).map Int.ofNat ++ List.replicate (n - k * e) 0

theorem rowAt_length (x e n : Nat) (A : List Nat) (k : Nat) (hk : k ≤ A.length) (hn : k * e ≤ n) : (rowAt x e n A k).length = n := by
  simp [rowAt, firsts_length, Nat.min_eq_left hk]; omega

theorem firsts_append (x e : Nat) (a b : List Nat) : firsts x e (a ++ b) = firsts x e a ++ firsts x e b := by
  induction a with
  | nil => rfl
  | cons c r ih => simp [firsts, ih]

theorem rowAt_step (x e n : Nat) (A : List Nat) (k : Nat) (hk : k < A.length) (hn : (k + 1) * e ≤ n) :
    laidTo (rowAt x e n A k) (k * e) e (digs x e (A[k]?.getD 0)) 0 = rowAt x e n A (k + 1) := by
  have e1 : A.take (k + 1) = A.take k ++ [A[k]] := List.take_succ_eq_append_getElem hk
  have h1 : ((firsts x e (A.take k)).map Int.ofNat).length = k * e := by simp [firsts_length, Nat.min_eq_left (Nat.le_of_lt hk)]
  have hke : (k + 1) * e = k * e + e := Nat.succ_mul k e
  unfold laidTo rowAt
  rw [e1, firsts_append, List.map_append]
  simp only [List.getElem?_eq_getElem hk, Option.getD_some, Nat.add_zero, List.drop_zero, firsts, List.append_nil]
  rw [List.take_left' h1, List.drop_append, List.drop_of_length_le (by rw [h1]; omega), List.nil_append, h1, List.drop_replicate]
  congr 2
  omega

theorem rowAt_last (x e f n : Nat) (A : List Nat) (hn : n = A.length * e + f) :
    laidTo (rowAt x e n A A.length) (A.length * e) f (digs x f (lackN x (firsts x e A))) 0 = (digitsN x e f A).map Int.ofNat := by
  have h1 : ((firsts x e A).map Int.ofNat).length = A.length * e := by simp [firsts_length]
  unfold laidTo rowAt digitsN
  rw [List.take_of_length_le (Nat.le_refl A.length)]
  simp only [Nat.add_zero, List.drop_zero]
  rw [List.take_left' h1, List.drop_of_length_le (by simp [firsts_length]; omega), List.append_nil, List.map_append]

theorem rowAt_take (x e n : Nat) (A : List Nat) : (rowAt x e n A A.length).take (A.length * e) = (firsts x e A).map Int.ofNat := by
  have h1 : ((firsts x e A).map Int.ofNat).length = A.length * e := by simp [firsts_length]
  unfold rowAt
  rw [List.take_of_length_le (Nat.le_refl A.length), List.take_left' h1]

theorem row_new (w : World) (c : Array Value) (x e n : Nat) (A : List Nat) (h : c = (List.replicate n (Value.int .i64 0)).toArray) : RowZ (w.alloc (.cells c 3)) w.heap.size (rowAt x e n A 0) := by
  subst h
  unfold RowZ rowAt
  rw [heap_alloc_new]
  simp [firsts]
theorem byte_at (m : ByteArray) (k : Nat) (h : k < m.size) : (bytesN m)[k]?.getD 0 = (m[k]'h).toNat := by
  simp only [bytesN, List.getElem?_map]
  rw [List.getElem?_eq_getElem (by simpa using h)]
  rfl
end Go.Proofs.YtgaoeoijdpdjiabGreatDoor

namespace Go.Proofs.YtgaoeoijdpdjiabGreatDoor
open Go.ChangeShapes Go.WideShapes Go.ChangeAt Go.RowKit
open Go.ChangeMaps (open_string shut_string)

theorem array3 {a : Array Value} (h : a.size = 3) : ∃ c0 c1 c2, a = #[c0, c1, c2] := by
  obtain ⟨l⟩ := a
  match l, h with
  | [c0, c1, c2], _ => exact ⟨c0, c1, c2, rfl⟩
theorem array4 {a : Array Value} (h : a.size = 4) : ∃ c0 c1 c2 c3, a = #[c0, c1, c2, c3] := by
  obtain ⟨l⟩ := a
  match l, h with
  | [c0, c1, c2, c3], _ => exact ⟨c0, c1, c2, c3, rfl⟩
theorem cellsSeeds : Tryz.prog.cellsOf 42 = 3 := by kernel_rfl
theorem cellsPlace : Tryz.prog.cellsOf 91 = 4 := by kernel_rfl
theorem cellsStr : Tryz.prog.cellsOf 9 = 1 := by kernel_rfl

set_option maxRecDepth 100000 in
theorem open_place {H : Type} {enc : TypeId × Value → H} {W : World} {base b0 : Nat} {sp : Nat → Bool} {held : Bool} {r : Reach} {v : Value} {d : DataW H} {p : List MemPlace}
    (hv : Value.okWide Tryz.prog W r b0 91 v) (h : DataW.Trod enc Tryz.prog W base sp held 91 v d p) :
    ∃ a b c e : Int, v = .agg #[.int .i64 a, .int .i64 b, .int .i64 c, .int .i64 e] := by
  obtain ⟨cs, rfl, hsz⟩ := okWide_struct Tryz.underlying91 hv
  obtain ⟨c0, c1, c2, c3, rfl⟩ := array4 (hsz.trans cellsPlace)
  obtain ⟨fuel, hf⟩ := h
  obtain ⟨xs, n, _, _, _, hlen, hfs⟩ := DataW.trod_struct Tryz.underlying91 hf
  simp at hlen
  have g0 : DataW.trod enc Tryz.prog W base sp held n 3 [c0] = xs[0]? := by simpa [Value.cells, cellsInt] using hfs 0 _ rfl
  have g1 : DataW.trod enc Tryz.prog W base sp held n 3 [c1] = xs[1]? := by simpa [Value.cells, cellsInt] using hfs 1 _ rfl
  have g2 : DataW.trod enc Tryz.prog W base sp held n 3 [c2] = xs[2]? := by simpa [Value.cells, cellsInt] using hfs 2 _ rfl
  have g3 : DataW.trod enc Tryz.prog W base sp held n 3 [c3] = xs[3]? := by simpa [Value.cells, cellsInt] using hfs 3 _ rfl
  rw [List.getElem?_eq_getElem (by omega)] at g0 g1 g2 g3
  obtain ⟨k, e0, _, w0⟩ := DataW.trod_int Tryz.underlying3 g0
  obtain ⟨b, e1, _, w1⟩ := DataW.trod_int Tryz.underlying3 g1
  obtain ⟨x, e2, _, w2⟩ := DataW.trod_int Tryz.underlying3 g2
  obtain ⟨t, e3, _, w3⟩ := DataW.trod_int Tryz.underlying3 g3
  simp at e0 e1 e2 e3
  subst e0 e1 e2 e3
  exact ⟨k, b, x, t, rfl⟩

set_option maxRecDepth 100000 in
theorem open_seeds {H : Type} {enc : TypeId × Value → H} {W : World} {base b0 : Nat} {sp : Nat → Bool} {held : Bool} {r : Reach} {v : Value} {d : DataW H} {p : List MemPlace}
    (hv : Value.okWide Tryz.prog W r b0 42 v) (h : DataW.Trod enc Tryz.prog W base sp held 42 v d p) :
    ∃ a b c : ByteArray, v = .agg #[.string a, .string b, .string c] := by
  obtain ⟨cs, rfl, hsz⟩ := okWide_struct Tryz.underlying42 hv
  obtain ⟨c0, c1, c2, rfl⟩ := array3 (hsz.trans cellsSeeds)
  obtain ⟨fuel, hf⟩ := h
  obtain ⟨xs, n, _, _, _, hlen, hfs⟩ := DataW.trod_struct Tryz.underlying42 hf
  simp at hlen
  have g0 : DataW.trod enc Tryz.prog W base sp held n 9 [c0] = xs[0]? := by simpa [Value.cells, cellsStr] using hfs 0 _ rfl
  have g1 : DataW.trod enc Tryz.prog W base sp held n 9 [c1] = xs[1]? := by simpa [Value.cells, cellsStr] using hfs 1 _ rfl
  have g2 : DataW.trod enc Tryz.prog W base sp held n 9 [c2] = xs[2]? := by simpa [Value.cells, cellsStr] using hfs 2 _ rfl
  rw [List.getElem?_eq_getElem (by omega)] at g0 g1 g2
  obtain ⟨k, e0, _⟩ := DataW.trod_string Tryz.underlying9 g0
  obtain ⟨b, e1, _⟩ := DataW.trod_string Tryz.underlying9 g1
  obtain ⟨x, e2, _⟩ := DataW.trod_string Tryz.underlying9 g2
  simp at e0 e1 e2
  subst e0 e1 e2
  exact ⟨k, b, x, rfl⟩
end Go.Proofs.YtgaoeoijdpdjiabGreatDoor

namespace Go.Proofs.YtgaoeoijdpdjiabGreatDoor
open Go.RowKit

theorem one_any (v : Int) (w : World) :
    Calls Tryz.prog 312 #[.int .i64 v] w fun e w' => e = .returned (.string (numB 1 v)) ∧ Below w.heap.size w w' := by
  have HN := hide (number_any 1 v w (by decide))
  go_enter Tryz.func312, Tryz.ntmps312
  go_wp2_with fail
  refine HN.out.mono ?_
  rintro e w1 ⟨rfl, hb⟩
  go_wp2
  go_ret
  exact ⟨rfl, hb⟩
end Go.Proofs.YtgaoeoijdpdjiabGreatDoor
