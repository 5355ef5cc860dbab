/-
  The program's Seal.
-/
import Derived.Test.YtgaoeoijdpdjiaaDSum
import Derived.Test.YtgaoeoijdpdjiaaRNum
import Derived.Test.YtgaoeoijdpdjiaaTHeld
namespace Go.Proofs.Ytgaoeoijdpdjiaa
open Go.RowKit

theorem addR (y z : ByteArray) (hy : y.size ≤ 1000) (hz : z.size ≤ 1000) (w : World) : (Op.stringOp .add y z).run Try.prog w = .ok (.string (y ++ z)) w := run_string_add w _ _ (by omega) (by omega)

theorem rright_any (q b : Int) (d : ByteArray) (w : World) :
    Calls Try.prog 62 #[.agg #[.int .i64 q, .int .i64 b, .string d]] w fun e w' => e = .returned (.bool (decide (RecR q b d))) ∧ Below w.heap.size w w' := by
  by_cases h1 : 1 ≤ q
  · by_cases h2 : q ≤ 2147483647
    · by_cases h3 : 0 ≤ b
      · by_cases h4 : b ≤ 4096
        · by_cases h5 : d.size = 8
          · rw [decide_eq_true (show RecR q b d from ⟨h1, h2, h3, h4, h5⟩)]
            have hd : (((d.size : Nat) : Int) == 8) = true := by rw [h5]; rfl
            clear h5
            go_enter Try.func62, Try.ntmps62
            go_wp2
            go_ret
            exact ⟨rfl, (Below.refl _ _).alloc (Nat.le_refl _) _⟩
          · rw [decide_eq_false (show ¬ RecR q b d from fun h => h5 h.2.2.2.2)]
            have hd : (((d.size : Nat) : Int) == 8) = false := by simp; omega
            clear h5
            go_enter Try.func62, Try.ntmps62
            go_wp2
            go_ret
            exact ⟨rfl, (Below.refl _ _).alloc (Nat.le_refl _) _⟩
        · rw [decide_eq_false (show ¬ RecR q b d from fun h => h4 h.2.2.2.1)]
          go_enter Try.func62, Try.ntmps62
          go_wp2
          go_ret
          exact ⟨rfl, (Below.refl _ _).alloc (Nat.le_refl _) _⟩
      · rw [decide_eq_false (show ¬ RecR q b d from fun h => h3 h.2.2.1)]
        go_enter Try.func62, Try.ntmps62
        go_wp2
        go_ret
        exact ⟨rfl, (Below.refl _ _).alloc (Nat.le_refl _) _⟩
    · rw [decide_eq_false (show ¬ RecR q b d from fun h => h2 h.2.1)]
      go_enter Try.func62, Try.ntmps62
      go_wp2
      go_ret
      exact ⟨rfl, (Below.refl _ _).alloc (Nat.le_refl _) _⟩
  · rw [decide_eq_false (show ¬ RecR q b d from fun h => h1 h.1)]
    go_enter Try.func62, Try.ntmps62
    go_wp2
    go_ret
    exact ⟨rfl, (Below.refl _ _).alloc (Nat.le_refl _) _⟩

theorem sumR (s : ByteArray) (w : World) (hs : s.size ≤ 1000) : Calls Try.prog 64 #[.string s] w fun e w' => e = .returned (.int .i64 (sumV s)) ∧ w' = w := sum_any s w (by unfold maxLen; omega)

theorem seal_no (q b : Int) (d : ByteArray) (w : World) (h : ¬ RecR q b d) :
    Calls Try.prog 47 #[.agg #[.int .i64 q, .int .i64 b, .string d]] w fun e w' => e = .returned (.tuple #[.string ⟨#[]⟩, .int .i64 2]) ∧ Below w.heap.size w w' := by
  have HR := hide (fun V : World => rright_any q b d V)
  rw [decide_eq_false h] at HR
  clear h
  go_enter Try.func47, Try.ntmps47
  go_wp2_with fail
  refine (HR.out _).mono ?_
  rintro e w1 ⟨rfl, hb1⟩
  have B1 := hide hb1
  clear hb1 HR
  go_wp2
  go_ret2
  exact ⟨rfl, ((Below.refl w.heap.size w).alloc (Nat.le_refl _) _).trans (B1.out.mono (by simp))⟩

set_option maxRecDepth 20000 in
set_option maxHeartbeats 2000000 in
theorem seal_yes (q b : Int) (d : ByteArray) (w : World) (h : RecR q b d) :
    Calls Try.prog 47 #[.agg #[.int .i64 q, .int .i64 b, .string d]] w fun e w' => e = .returned (.tuple #[.string (sealS q b d), .int .i64 0]) ∧ Below w.heap.size w w' := by
  have HR := hide (fun V : World => rright_any q b d V)
  rw [decide_eq_true h] at HR
  have hd := h.2.2.2.2
  have hm : markB.size = 4 := rfl
  have cc1 := addR markB (numB 4 q) (by omega) (by rw [numB_size]; omega)
  have cc2 := addR (markB ++ numB 4 q) d (by simp only [ByteArray.size_append, numB_size]; omega) (by omega)
  have cc3 := addR (markB ++ numB 4 q ++ d) (numB 4 b) (by simp only [ByteArray.size_append, numB_size]; omega) (by simp only [numB_size]; omega)
  have cc4 := addR (markB ++ numB 4 q ++ d ++ numB 4 b) blankB (by simp only [ByteArray.size_append, numB_size]; omega) (by decide)
  have cc5 := addR (sealT q b d) (numB 4 (sumV (sealT q b d))) (by rw [sealT_size _ _ _ hd]; omega) (by simp only [numB_size]; omega)
  have HN1 := hide (fun V : World => number_any 4 q V (by decide))
  have HN2 := hide (fun V : World => number_any 4 b V (by decide))
  have HN3 := hide (fun V : World => number_any 4 (sumV (sealT q b d)) V (by decide))
  have HM := hide (fun V : World => sumR (sealT q b d) V (by rw [sealT_size _ _ _ hd]; omega))
  have HE : Hid (sealS q b d = sealT q b d ++ numB 4 (sumV (sealT q b d))) := rfl
  have HT : Hid (markB ++ numB 4 q ++ d ++ numB 4 b ++ blankB = sealT q b d) := rfl
  rw [HT.out] at cc4
  change ∀ w, (Op.stringOp .add ⟨#[115, 103, 110, 116]⟩ (numB 4 q)).run Try.prog w = _ at cc1
  change ∀ w, (Op.stringOp .add (markB ++ numB 4 q ++ d ++ numB 4 b) ⟨#[0, 0, 0, 0, 0, 0, 0, 0]⟩).run Try.prog w = _ at cc4
  generalize markB ++ numB 4 q ++ d ++ numB 4 b = t3 at cc3 cc4 HT
  generalize markB ++ numB 4 q ++ d = t2 at cc2 cc3
  generalize markB ++ numB 4 q = t1 at cc1 cc2
  generalize sealS q b d = z at HE ⊢
  generalize sealT q b d = t4 at cc4 cc5 HM HN3 HE HT
  generalize sumV t4 = s4 at cc5 HM HN3 HE
  clear h hd hm HT
  go_enter Try.func47, Try.ntmps47
  go_wp2_with fail
  refine (HR.out _).mono ?_
  rintro e w1 ⟨rfl, hb1⟩
  obtain ⟨W0, hW⟩ : ∃ W0, w.alloc (.cells #[.int .i64 q, .int .i64 b, .string d] 40) = W0 := ⟨_, rfl⟩
  have HC := hide (show W0.cell? ⟨w.heap.size, 0, none⟩ = some (.int .i64 q) ∧ W0.cell? ⟨w.heap.size, 1, none⟩ = some (.int .i64 b) ∧ W0.cell? ⟨w.heap.size, 2, none⟩ = some (.string d) by subst hW; refine ⟨?_, ?_, ?_⟩ <;> simp [go_sem])
  have HB := hide (show Below w.heap.size w W0 by subst hW; exact (Below.refl _ _).alloc (Nat.le_refl _) _)
  have hz : W0.heap.size = w.heap.size + 1 := by subst hW; simp
  have HS := hide (fun (V : World) (h : Below W0.heap.size W0 V) => (⟨(h.cell (p := ⟨w.heap.size, 0, none⟩) (by show w.heap.size < _; omega)).trans HC.out.1, (h.cell (p := ⟨w.heap.size, 1, none⟩) (by show w.heap.size < _; omega)).trans HC.out.2.1, (h.cell (p := ⟨w.heap.size, 2, none⟩) (by show w.heap.size < _; omega)).trans HC.out.2.2, h⟩ : V.cell? ⟨w.heap.size, 0, none⟩ = some (.int .i64 q) ∧ V.cell? ⟨w.heap.size, 1, none⟩ = some (.int .i64 b) ∧ V.cell? ⟨w.heap.size, 2, none⟩ = some (.string d) ∧ Below W0.heap.size W0 V))
  have hS0 : Below W0.heap.size W0 w1 := by subst hW; exact hb1
  clear hb1 HR hW
  have HH1 := hide (HS.out _ hS0)
  go_wp2_with fail
  go_region_held3 (fun V => V.cell? ⟨w.heap.size, 0, none⟩ = some (.int .i64 q) ∧ V.cell? ⟨w.heap.size, 1, none⟩ = some (.int .i64 b) ∧ V.cell? ⟨w.heap.size, 2, none⟩ = some (.string d) ∧ Below W0.heap.size W0 V) (first | exact HS.out _ hS2 | exact HS.out _ hS1 | exact HS.out _ hS0.drew) (first | (go_at_call 63; have hx := hS1; clear hx; refine (HN2.out _).mono ?_; rintro e w3 ⟨rfl, hb3⟩; have hS2 := heldB hS1 hb3 (Nat.le_refl _)) | (go_at_call 63; refine (HN1.out _).mono ?_; rintro e w2 ⟨rfl, hb2⟩; have hS1 := heldB hS0.drew hb2 (Nat.le_refl _)))
  go_wp2_with fail
  refine (HM.out _).mono ?_
  rintro e w4 ⟨rfl, rfl⟩
  go_wp2_with fail
  refine (HN3.out _).mono ?_
  rintro e w5 ⟨rfl, hb5⟩
  have B5 := hide hb5
  clear hb5
  go_wp2
  go_ret2
  exact ⟨congrArg (fun x => Ending.returned (Value.tuple #[.string x, .int .i64 0])) HE.out.symm, HB.out.trans ((heldB hS2 B5.out (Nat.le_refl _)).mono (by omega))⟩
end Go.Proofs.Ytgaoeoijdpdjiaa
