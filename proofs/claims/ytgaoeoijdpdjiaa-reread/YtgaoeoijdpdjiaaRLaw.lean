/-
  The law Seals answers true.
-/
import Derived.Test.YtgaoeoijdpdjiaaRRefUnsealC
namespace Go.Proofs.Ytgaoeoijdpdjiaa
open Go.RowKit

theorem numR_any (x : Int) (w : World) : Calls Try.prog 27 #[.int .i64 x] w fun e w' => e = .returned (.int .i64 x) ∧ w' = w := by
  go_enter Try.func27, Try.ntmps27
  go_wp2
  go_ret
  exact ⟨rfl, rfl⟩

/-- A record's text, and 0; or 2. -/
def sealV (q b : Int) (d : ByteArray) : ByteArray × Int := if RecR q b d then (sealS q b d, 0) else (⟨#[]⟩, 2)
theorem seal_any (q b : Int) (d : ByteArray) (w : World) :
    Calls Try.prog 47 #[.agg #[.int .i64 q, .int .i64 b, .string d]] w fun e w' => e = .returned (.tuple #[.string (sealV q b d).1, .int .i64 (sealV q b d).2]) ∧ Below w.heap.size w w' := by
  by_cases h : RecR q b d
  · rw [show sealV q b d = (sealS q b d, 0) by rw [sealV, if_pos h]]; exact seal_yes q b d w h
  · rw [show sealV q b d = (⟨#[]⟩, 2) by rw [sealV, if_neg h]]; exact seal_no q b d w h
theorem refSeal_any (q b : Int) (d : ByteArray) (w : World) :
    Calls Try.prog 36 #[.agg #[.int .i64 q, .int .i64 b, .string d]] w fun e w' => e = .returned (.tuple #[.string (sealV q b d).1, .int .i64 (sealV q b d).2]) ∧ Below w.heap.size w w' := by
  by_cases h : RecR q b d
  · rw [show sealV q b d = (sealS q b d, 0) by rw [sealV, if_pos h]]; exact refSeal_yes q b d w h
  · rw [show sealV q b d = (⟨#[]⟩, 2) by rw [sealV, if_neg h]]; exact refSeal_no q b d w h

theorem sseal_any (q b : Int) (d : ByteArray) (w : World) :
    Calls Try.prog 21 #[.agg #[.int .i64 q, .int .i64 b, .string d]] w fun e w' => e = .returned (.tuple #[.string (sealV q b d).1, .int .i64 (sealV q b d).2]) ∧ Below w.heap.size w w' := by
  have HS := hide (fun V : World => seal_any q b d V)
  generalize sealV q b d = z at HS ⊢
  obtain ⟨z1, z2⟩ := z
  go_enter Try.func21, Try.ntmps21
  go_wp2_with fail
  refine (HS.out _).mono ?_
  rintro e w1 ⟨rfl, hb1⟩
  have B1 := hide hb1
  clear hb1
  go_wp2
  go_ret2
  exact ⟨rfl, ((Below.refl w.heap.size w).alloc (Nat.le_refl _) _).trans (B1.out.mono (by simp))⟩

theorem suns_yes (s : ByteArray) (w : World) (h : isRec s = true) :
    Calls Try.prog 22 #[.string s] w fun e w' => e = .returned (.tuple #[.agg #[.int .i64 (seqOf s), .int .i64 (boundOf s), .string (idOf s)], .int .i64 0]) ∧ Below w.heap.size w w' := by
  have HS := hide (fun V : World => unseal_any s V)
  rw [unsV_yes h] at HS
  clear h
  generalize seqOf s = q at *
  generalize boundOf s = b at *
  generalize idOf s = d at *
  go_enter Try.func22, Try.ntmps22
  go_wp2_with fail
  refine (HS.out _).mono ?_
  rintro e w1 ⟨rfl, hb1⟩
  have B1 := hide ((Below.refl w.heap.size w).alloc (Nat.le_refl _) _ |>.trans (hb1.mono (by simp)))
  have c0 : w1.cell? ⟨w.heap.size, 0, none⟩ = some (.int .i64 0) := (hb1.cell (p := ⟨w.heap.size, 0, none⟩) (by simp)).trans (by simp [go_sem])
  have c1 : w1.cell? ⟨w.heap.size, 1, none⟩ = some (.int .i64 0) := (hb1.cell (p := ⟨w.heap.size, 1, none⟩) (by simp)).trans (by simp [go_sem])
  have c2 : w1.cell? ⟨w.heap.size, 2, none⟩ = some (.string ⟨#[]⟩) := (hb1.cell (p := ⟨w.heap.size, 2, none⟩) (by simp)).trans (by simp [go_sem])
  obtain ⟨hc, hf⟩ := bcellR hb1
  clear hb1
  go_wp2
  refine bodyPost_ret (v := .tuple #[.agg #[.int .i64 q, .int .i64 b, .string d], .int .i64 0]) (by simp [results, Try.results22, go_sem, c0, c1, c2]) rfl ⟨rfl, ?_⟩
  iterate 3 refine Below.setCell ?_ (by simp) _
  exact B1.out

theorem suns_no (s : ByteArray) (w : World) (h : isRec s = false) :
    Calls Try.prog 22 #[.string s] w fun e w' => e = .returned (.tuple #[.agg #[.int .i64 0, .int .i64 0, .string ⟨#[]⟩], .int .i64 6]) ∧ Below w.heap.size w w' := by
  have HS := hide (fun V : World => unseal_any s V)
  rw [unsV_no h] at HS
  clear h
  go_enter Try.func22, Try.ntmps22
  go_wp2_with fail
  refine (HS.out _).mono ?_
  rintro e w1 ⟨rfl, hb1⟩
  have B1 := hide ((Below.refl w.heap.size w).alloc (Nat.le_refl _) _ |>.trans (hb1.mono (by simp)))
  have c0 : w1.cell? ⟨w.heap.size, 0, none⟩ = some (.int .i64 0) := (hb1.cell (p := ⟨w.heap.size, 0, none⟩) (by simp)).trans (by simp [go_sem])
  have c1 : w1.cell? ⟨w.heap.size, 1, none⟩ = some (.int .i64 0) := (hb1.cell (p := ⟨w.heap.size, 1, none⟩) (by simp)).trans (by simp [go_sem])
  have c2 : w1.cell? ⟨w.heap.size, 2, none⟩ = some (.string ⟨#[]⟩) := (hb1.cell (p := ⟨w.heap.size, 2, none⟩) (by simp)).trans (by simp [go_sem])
  obtain ⟨hc, hf⟩ := bcellR hb1
  clear hb1
  go_wp2
  refine bodyPost_ret (v := .tuple #[.agg #[.int .i64 0, .int .i64 0, .string ⟨#[]⟩], .int .i64 6]) (by simp [results, Try.results22, go_sem, c0, c1, c2]) rfl ⟨rfl, ?_⟩
  iterate 3 refine Below.setCell ?_ (by simp) _
  exact B1.out

theorem seals_true (q b : Int) (d : ByteArray) (w : World) :
    Calls Try.prog 14 #[.agg #[.int .i64 q, .int .i64 b, .string d]] w fun e w' => e = .returned (.bool true) ∧ Below w.heap.size w w' := by
  have HS := hide (fun V : World => sseal_any q b d V)
  have HR := hide (fun V : World => refSeal_any q b d V)
  generalize sealV q b d = z at HS HR
  obtain ⟨z1, z2⟩ := z
  have HN := hide (fun V : World => numR_any z2 V)
  go_enter Try.func14, Try.ntmps14
  go_wp2_with fail
  refine (HS.out _).mono ?_
  rintro e w1 ⟨rfl, hb1⟩
  have B1 := hide ((Below.refl w.heap.size w).alloc (Nat.le_refl _) _ |>.trans (hb1.mono (by simp)))
  have c0 : w1.cell? ⟨w.heap.size, 0, none⟩ = some (.int .i64 q) := (hb1.cell (p := ⟨w.heap.size, 0, none⟩) (by simp)).trans (by simp [go_sem])
  have c1 : w1.cell? ⟨w.heap.size, 1, none⟩ = some (.int .i64 b) := (hb1.cell (p := ⟨w.heap.size, 1, none⟩) (by simp)).trans (by simp [go_sem])
  have c2 : w1.cell? ⟨w.heap.size, 2, none⟩ = some (.string d) := (hb1.cell (p := ⟨w.heap.size, 2, none⟩) (by simp)).trans (by simp [go_sem])
  clear hb1 HS
  go_wp2_with fail
  refine (HR.out _).mono ?_
  rintro e w2 ⟨rfl, hb2⟩
  have B2 := hide (B1.out.trans (hb2.mono B1.out.size))
  clear hb2 HR c0 c1 c2 B1
  go_wp2_with fail
  refine (HN.out _).mono ?_
  rintro e w3 ⟨rfl, rfl⟩
  go_wp2
  go_ret
  exact ⟨rfl, B2.out⟩

theorem unseals_true (s : ByteArray) (w : World) :
    Calls Try.prog 15 #[.string s] w fun e w' => e = .returned (.bool true) ∧ Below w.heap.size w w' := by
  cases h : isRec s
  · have HS := hide (fun V : World => suns_no s V h)
    have HR := hide (fun V : World => refUnseal_any s V)
    rw [unsV_no h] at HR
    have HN := hide (fun V : World => numR_any 6 V)
    clear h
    go_enter Try.func15, Try.ntmps15
    go_wp2_with fail
    refine (HS.out _).mono ?_
    rintro e w1 ⟨rfl, hb1⟩
    have B1 := hide hb1
    clear hb1 HS
    go_wp2_with fail
    refine (HR.out _).mono ?_
    rintro e w2 ⟨rfl, hb2⟩
    have B2 := hide (((B1.out.alloc B1.out.size _).trans (hb2.mono (by have := B1.out.size; simp; omega))))
    have hz : w1.heap.size < w2.heap.size := by have := hb2.size; simp at this; omega
    have c0 : w2.cell? ⟨w1.heap.size, 0, none⟩ = some (.int .i64 0) := (hb2.cell (p := ⟨w1.heap.size, 0, none⟩) (by simp)).trans (by simp [go_sem])
    have c1 : w2.cell? ⟨w1.heap.size, 1, none⟩ = some (.int .i64 0) := (hb2.cell (p := ⟨w1.heap.size, 1, none⟩) (by simp)).trans (by simp [go_sem])
    have c2 : w2.cell? ⟨w1.heap.size, 2, none⟩ = some (.string ⟨#[]⟩) := (hb2.cell (p := ⟨w1.heap.size, 2, none⟩) (by simp)).trans (by simp [go_sem])
    clear hb2 HR
    go_wp2_with ((go_at_call 27; refine (HN.out _).mono ?_; rintro e w3 ⟨rfl, rfl⟩))
    go_ret
    exact ⟨rfl, B2.out.alloc (Nat.le_trans B1.out.size (by omega)) _⟩
  · have HS := hide (fun V : World => suns_yes s V h)
    have HR := hide (fun V : World => refUnseal_any s V)
    rw [unsV_yes h] at HR
    have HN := hide (fun V : World => numR_any 0 V)
    clear h
    generalize seqOf s = q at *
    generalize boundOf s = b at *
    generalize idOf s = d at *
    go_enter Try.func15, Try.ntmps15
    go_wp2_with fail
    refine (HS.out _).mono ?_
    rintro e w1 ⟨rfl, hb1⟩
    have B1 := hide hb1
    clear hb1 HS
    go_wp2_with fail
    refine (HR.out _).mono ?_
    rintro e w2 ⟨rfl, hb2⟩
    have B2 := hide (((B1.out.alloc B1.out.size _).trans (hb2.mono (by have := B1.out.size; simp; omega))))
    have hz : w1.heap.size < w2.heap.size := by have := hb2.size; simp at this; omega
    have c0 : w2.cell? ⟨w1.heap.size, 0, none⟩ = some (.int .i64 q) := (hb2.cell (p := ⟨w1.heap.size, 0, none⟩) (by simp)).trans (by simp [go_sem])
    have c1 : w2.cell? ⟨w1.heap.size, 1, none⟩ = some (.int .i64 b) := (hb2.cell (p := ⟨w1.heap.size, 1, none⟩) (by simp)).trans (by simp [go_sem])
    have c2 : w2.cell? ⟨w1.heap.size, 2, none⟩ = some (.string d) := (hb2.cell (p := ⟨w1.heap.size, 2, none⟩) (by simp)).trans (by simp [go_sem])
    clear hb2 HR
    go_wp2_with ((go_at_call 27; refine (HN.out _).mono ?_; rintro e w3 ⟨rfl, rfl⟩))
    go_ret
    exact ⟨rfl, B2.out.alloc (Nat.le_trans B1.out.size (by omega)) _⟩

theorem sealsLaw_true (q b : Int) (d s : ByteArray) (w : World) :
    Calls Try.prog 5 #[.agg #[.int .i64 q, .int .i64 b, .string d], .string s] w fun e w' => e = .returned (.bool true) ∧ Below w.heap.size w w' := by
  have HS := hide (fun V : World => seals_true q b d V)
  have HU := hide (fun V : World => unseals_true s V)
  go_enter Try.func5, Try.ntmps5
  go_wp2_with fail
  refine (HS.out _).mono ?_
  rintro e w1 ⟨rfl, hb1⟩
  have B1 := hide ((Below.refl w.heap.size w).alloc (Nat.le_refl _) _ |>.trans (hb1.mono (by simp)))
  clear hb1 HS
  go_wp2_with fail
  refine (HU.out _).mono ?_
  rintro e w2 ⟨rfl, hb2⟩
  have B2 := hide (B1.out.trans (hb2.mono B1.out.size))
  clear hb2 HU B1
  go_wp2
  go_ret
  exact ⟨rfl, B2.out⟩
end Go.Proofs.Ytgaoeoijdpdjiaa
