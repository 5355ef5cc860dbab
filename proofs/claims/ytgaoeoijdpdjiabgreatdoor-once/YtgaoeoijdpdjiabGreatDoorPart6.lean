/-
  The program's Seal. The program's whole over words of 32 bits. The program's whole over words of 64 bits. The statement's own 'pick', over greater numbers; what one other byte makes of a text. A sector laid into the durable ones; a pending write read. signet.Digits at a right set and a text of its length: the digits of P6, in a new list. What a set measures, as whole numbers.
-/
import Derived.Test.YtgaoeoijdpdjiabGreatDoorPartDSum
import Derived.Test.YtgaoeoijdpdjiabGreatDoorPart5
import Derived.Test.YtgaoeoijdpdjiabGreatDoorPart2
import Derived.Test.YtgaoeoijdpdjiabGreatDoorPart4
import Derived.Test.YtgaoeoijdpdjiabGreatDoorPart1
import Derived.Lib.ConvBytes
namespace Go.Proofs.YtgaoeoijdpdjiabGreatDoor
open Go.RowKit

theorem addR (y z : ByteArray) (hy : y.size ≤ 1000) (hz : z.size ≤ 1000) (w : World) : (Op.stringOp .add y z).run Tryz.prog w = .ok (.string (y ++ z)) w := run_string_add w _ _ (by omega) (by omega)

theorem rright_any (q b : Int) (d : ByteArray) (w : World) :
    Calls Tryz.prog 303 #[.agg #[.int .i64 q, .int .i64 b, .string d]] w fun e w' => e = .returned (.bool (decide (RecR q b d))) ∧ Below w.heap.size w w' := by
  by_cases h1 : 1 ≤ q
  · by_cases h2 : q ≤ 2147483647
    · by_cases h3 : 0 ≤ b
      · by_cases h4 : b ≤ 4096
        · by_cases h5 : d.size = 8
          · rw [decide_eq_true (show RecR q b d from ⟨h1, h2, h3, h4, h5⟩)]
            have hd : (((d.size : Nat) : Int) == 8) = true := by rw [h5]; rfl
            clear h5
            go_enter Tryz.func303, Tryz.ntmps303
            go_wp2
            go_ret
            exact ⟨rfl, (Below.refl _ _).alloc (Nat.le_refl _) _⟩
          · rw [decide_eq_false (show ¬ RecR q b d from fun h => h5 h.2.2.2.2)]
            have hd : (((d.size : Nat) : Int) == 8) = false := by simp; omega
            clear h5
            go_enter Tryz.func303, Tryz.ntmps303
            go_wp2
            go_ret
            exact ⟨rfl, (Below.refl _ _).alloc (Nat.le_refl _) _⟩
        · rw [decide_eq_false (show ¬ RecR q b d from fun h => h4 h.2.2.2.1)]
          go_enter Tryz.func303, Tryz.ntmps303
          go_wp2
          go_ret
          exact ⟨rfl, (Below.refl _ _).alloc (Nat.le_refl _) _⟩
      · rw [decide_eq_false (show ¬ RecR q b d from fun h => h3 h.2.2.1)]
        go_enter Tryz.func303, Tryz.ntmps303
        go_wp2
        go_ret
        exact ⟨rfl, (Below.refl _ _).alloc (Nat.le_refl _) _⟩
    · rw [decide_eq_false (show ¬ RecR q b d from fun h => h2 h.2.1)]
      go_enter Tryz.func303, Tryz.ntmps303
      go_wp2
      go_ret
      exact ⟨rfl, (Below.refl _ _).alloc (Nat.le_refl _) _⟩
  · rw [decide_eq_false (show ¬ RecR q b d from fun h => h1 h.1)]
    go_enter Tryz.func303, Tryz.ntmps303
    go_wp2
    go_ret
    exact ⟨rfl, (Below.refl _ _).alloc (Nat.le_refl _) _⟩

theorem sumR (s : ByteArray) (w : World) (hs : s.size ≤ 1000) : Calls Tryz.prog 257 #[.string s] w fun e w' => e = .returned (.int .i64 (sumV s)) ∧ w' = w := sum_any s w (by unfold maxLen; omega)

theorem seal_no (q b : Int) (d : ByteArray) (w : World) (h : ¬ RecR q b d) :
    Calls Tryz.prog 256 #[.agg #[.int .i64 q, .int .i64 b, .string d]] w fun e w' => e = .returned (.tuple #[.string ⟨#[]⟩, .int .i64 2]) ∧ Below w.heap.size w w' := by
  have HR := hide (fun V : World => rright_any q b d V)
  rw [decide_eq_false h] at HR
  clear h
  go_enter Tryz.func256, Tryz.ntmps256
  go_wp2_with fail
  refine (HR.out _).mono ?_
  rintro e w1 ⟨rfl, hb1⟩
  have B1 := hide hb1
  clear hb1 HR
  go_wp2
  go_ret2
  exact ⟨rfl, ((Below.refl w.heap.size w).alloc (Nat.le_refl _) _).trans (B1.out.mono (by simp))⟩

set_option maxRecDepth 20000 in
set_option maxHeartbeats 2000000 in
theorem seal_yes (q b : Int) (d : ByteArray) (w : World) (h : RecR q b d) :
    Calls Tryz.prog 256 #[.agg #[.int .i64 q, .int .i64 b, .string d]] w fun e w' => e = .returned (.tuple #[.string (sealS q b d), .int .i64 0]) ∧ Below w.heap.size w w' := by
  have HR := hide (fun V : World => rright_any q b d V)
  rw [decide_eq_true h] at HR
  have hd := h.2.2.2.2
  have hm : markB.size = 4 := rfl
  have cc1 := addR markB (numB 4 q) (by omega) (by rw [numB_size]; omega)
  have cc2 := addR (markB ++ numB 4 q) d (by simp only [ByteArray.size_append, numB_size]; omega) (by omega)
  have cc3 := addR (markB ++ numB 4 q ++ d) (numB 4 b) (by simp only [ByteArray.size_append, numB_size]; omega) (by simp only [numB_size]; omega)
  have cc4 := addR (markB ++ numB 4 q ++ d ++ numB 4 b) blankB (by simp only [ByteArray.size_append, numB_size]; omega) (by decide)
  have cc5 := addR (sealT q b d) (numB 4 (sumV (sealT q b d))) (by rw [sealT_size _ _ _ hd]; omega) (by simp only [numB_size]; omega)
  have HN1 := hide (fun V : World => number_any 4 q V (by decide))
  have HN2 := hide (fun V : World => number_any 4 b V (by decide))
  have HN3 := hide (fun V : World => number_any 4 (sumV (sealT q b d)) V (by decide))
  have HM := hide (fun V : World => sumR (sealT q b d) V (by rw [sealT_size _ _ _ hd]; omega))
  have HE : Hid (sealS q b d = sealT q b d ++ numB 4 (sumV (sealT q b d))) := rfl
  have HT : Hid (markB ++ numB 4 q ++ d ++ numB 4 b ++ blankB = sealT q b d) := rfl
  rw [HT.out] at cc4
  change ∀ w, (Op.stringOp .add ⟨#[115, 103, 110, 116]⟩ (numB 4 q)).run Tryz.prog w = _ at cc1
  change ∀ w, (Op.stringOp .add (markB ++ numB 4 q ++ d ++ numB 4 b) ⟨#[0, 0, 0, 0, 0, 0, 0, 0]⟩).run Tryz.prog w = _ at cc4
  generalize markB ++ numB 4 q ++ d ++ numB 4 b = t3 at cc3 cc4 HT
  generalize markB ++ numB 4 q ++ d = t2 at cc2 cc3
  generalize markB ++ numB 4 q = t1 at cc1 cc2
  generalize sealS q b d = z at HE ⊢
  generalize sealT q b d = t4 at cc4 cc5 HM HN3 HE HT
  generalize sumV t4 = s4 at cc5 HM HN3 HE
  clear h hd hm HT
  go_enter Tryz.func256, Tryz.ntmps256
  go_wp2_with fail
  refine (HR.out _).mono ?_
  rintro e w1 ⟨rfl, hb1⟩
  obtain ⟨W0, hW⟩ : ∃ W0, w.alloc (.cells #[.int .i64 q, .int .i64 b, .string d] 186) = W0 := ⟨_, rfl⟩
  have HC := hide (show W0.cell? ⟨w.heap.size, 0, none⟩ = some (.int .i64 q) ∧ W0.cell? ⟨w.heap.size, 1, none⟩ = some (.int .i64 b) ∧ W0.cell? ⟨w.heap.size, 2, none⟩ = some (.string d) by subst hW; refine ⟨?_, ?_, ?_⟩ <;> simp [go_sem])
  have HB := hide (show Below w.heap.size w W0 by subst hW; exact (Below.refl _ _).alloc (Nat.le_refl _) _)
  have hz : W0.heap.size = w.heap.size + 1 := by subst hW; simp
  have HS := hide (fun (V : World) (h : Below W0.heap.size W0 V) => (⟨(h.cell (p := ⟨w.heap.size, 0, none⟩) (by show w.heap.size < _; omega)).trans HC.out.1, (h.cell (p := ⟨w.heap.size, 1, none⟩) (by show w.heap.size < _; omega)).trans HC.out.2.1, (h.cell (p := ⟨w.heap.size, 2, none⟩) (by show w.heap.size < _; omega)).trans HC.out.2.2, h⟩ : V.cell? ⟨w.heap.size, 0, none⟩ = some (.int .i64 q) ∧ V.cell? ⟨w.heap.size, 1, none⟩ = some (.int .i64 b) ∧ V.cell? ⟨w.heap.size, 2, none⟩ = some (.string d) ∧ Below W0.heap.size W0 V))
  have hS0 : Below W0.heap.size W0 w1 := by subst hW; exact hb1
  clear hb1 HR hW
  have HH1 := hide (HS.out _ hS0)
  go_wp2_with fail
  go_region_held3 (fun V => V.cell? ⟨w.heap.size, 0, none⟩ = some (.int .i64 q) ∧ V.cell? ⟨w.heap.size, 1, none⟩ = some (.int .i64 b) ∧ V.cell? ⟨w.heap.size, 2, none⟩ = some (.string d) ∧ Below W0.heap.size W0 V) (first | exact HS.out _ hS2 | exact HS.out _ hS1 | exact HS.out _ hS0.drew) (first | (go_at_call 160; have hx := hS1; clear hx; refine (HN2.out _).mono ?_; rintro e w3 ⟨rfl, hb3⟩; have hS2 := heldB hS1 hb3 (Nat.le_refl _)) | (go_at_call 160; refine (HN1.out _).mono ?_; rintro e w2 ⟨rfl, hb2⟩; have hS1 := heldB hS0.drew hb2 (Nat.le_refl _)))
  go_wp2_with fail
  refine (HM.out _).mono ?_
  rintro e w4 ⟨rfl, rfl⟩
  go_wp2_with fail
  refine (HN3.out _).mono ?_
  rintro e w5 ⟨rfl, hb5⟩
  have B5 := hide hb5
  clear hb5
  go_wp2
  go_ret2
  exact ⟨congrArg (fun x => Ending.returned (Value.tuple #[.string x, .int .i64 0])) HE.out.symm, HB.out.trans ((heldB hS2 B5.out (Nat.le_refl _)).mono (by omega))⟩
end Go.Proofs.YtgaoeoijdpdjiabGreatDoor

namespace Go.Proofs.YtgaoeoijdpdjiabGreatDoor
open Go.RowKit

def sliceLen32 : Value → Nat | .slice _ n _ => n | _ => 0

/-- The words behind m blocks. -/
def soak32 (BL : List Nat) : Nat → List Nat
  | 0 => [1, 2, 3, 4, 5, 6, 7, 8]
  | m + 1 => stirTo 32 (take32 BL (m * 16) (soak32 BL m) 4) 8
theorem soak32_zero (BL : List Nat) : soak32 BL 0 = [1, 2, 3, 4, 5, 6, 7, 8] := rfl
theorem soak32_succ (BL : List Nat) (m : Nat) : soak32 BL (m + 1) = stirTo 32 (take32 BL (m * 16) (soak32 BL m) 4) 8 := by rw [soak32]
theorem soak32_length (BL : List Nat) (m : Nat) : (soak32 BL m).length = 8 := by
  induction m with
  | zero => rfl
  | succ m ih => unfold soak32; rw [stirTo_length _ _ _ (by rw [take32_length]; exact ih)]
theorem soak32_words (BL : List Nat) (hB : ∀ i, at0 BL i < 256) (m : Nat) : Words 32 (soak32 BL m) := by
  induction m with
  | zero => intro x hx; simp [soak32] at hx; omega
  | succ m ih => unfold soak32; exact stirTo_words 32 _ 8 (by rw [take32_length]; exact soak32_length BL m) (take32_words BL _ _ 4 ih hB)


set_option maxHeartbeats 4000000 in
theorem whole_32 (s : ByteArray) (w : World) (hs : s.size ≤ 400) (hT : Turns32 w) (hw : 1 < w.heap.size) :
    Calls Tryz.prog 245 #[.string s] w fun e w' => e = .returned (.string (textOf (outs 4 (soak32 (padRow s ((s.size / 16 + 1) * 16)) (s.size / 16 + 1)) 16))) ∧ Below w.heap.size w w' := by
  have HT := hide hT
  have HS := hide hs
  clear hT hs
  obtain ⟨sk, HSK⟩ : ∃ F, Hid (soak32 = F) := ⟨_, rfl⟩
  obtain ⟨tx, HTE⟩ : ∃ F : List Nat → ByteArray, Hid (∀ L, textOf (outs 4 L 16) = F L) := ⟨_, fun _ => rfl⟩
  have HS0 : Hid (∀ BL, sk BL 0 = soak32 BL 0) := fun BL => by rw [← HSK.out]
  have HSS : Hid (∀ BL m, sk BL (m + 1) = stirTo 32 (take32 BL (m * 16) (sk BL m) 4) 8) := fun BL m => by rw [← HSK.out]; exact soak32_succ BL m
  have HSL : Hid (∀ BL m, (sk BL m).length = 8) := fun BL m => by rw [← HSK.out]; exact soak32_length BL m
  have HSW : Hid (∀ BL, (∀ i, at0 BL i < 256) → ∀ m, Words 32 (sk BL m)) := fun BL h m => by rw [← HSK.out]; exact soak32_words BL h m
  rw [HTE.out, HSK.out]
  go_enter Tryz.func245, Tryz.ntmps245
  go_wp2_with fail
  have R0 : Hid (RowK (w.alloc (.cells #[.int .u32 1, .int .u32 2, .int .u32 3, .int .u32 4, .int .u32 5, .int .u32 6, .int .u32 7, .int .u32 8] 358)) w.heap.size .u32 358 (sk (padRow s ((s.size / 16 + 1) * 16)) 0)) := by
    rw [HS0.out, soak32_zero]; exact heap_alloc_new _ _
  have B0 := hide ((Below.refl w.heap.size w).alloc (Nat.le_refl _) (.cells #[.int .u32 1, .int .u32 2, .int .u32 3, .int .u32 4, .int .u32 5, .int .u32 6, .int .u32 7, .int .u32 8] 358))
  have hz0 : (w.alloc (.cells #[.int .u32 1, .int .u32 2, .int .u32 3, .int .u32 4, .int .u32 5, .int .u32 6, .int .u32 7, .int .u32 8] 358)).heap.size = w.heap.size + 1 := by simp
  generalize hW0 : w.alloc (.cells #[.int .u32 1, .int .u32 2, .int .u32 3, .int .u32 4, .int .u32 5, .int .u32 6, .int .u32 7, .int .u32 8] 358) = W0 at R0 B0 hz0 ⊢
  clear hW0
  refine (size_32 _).mono ?_
  rintro e w1 ⟨rfl, rfl⟩
  go_wp2_with fail
  refine (padded_16 s _ HS.out).mono ?_
  rintro e w2 ⟨rfl, hr2, hb2⟩
  have R2 := hide (R0.out.below hb2 R0.out.lt)
  have P2 := hide hr2
  have B2 := hide (B0.out.trans (hb2.mono (by omega)))
  have HGH : Hid (w1.heap.size = w.heap.size + 1) := hz0
  have HK : Hid (s.size / 16 + 1 ≤ 26) := by unfold Hid; have := HS.out; omega
  have HB8 := hide (pad_small s ((s.size / 16 + 1) * 16))
  have HPL : Hid ((padRow s ((s.size / 16 + 1) * 16)).length = (s.size / 16 + 1) * 16) := padRow_length s _ (by omega)
  clear hr2 hb2 R0 B0 hz0
  obtain ⟨k, hk⟩ : ∃ k, k = s.size / 16 + 1 := ⟨_, rfl⟩
  obtain ⟨BL, hBL⟩ : ∃ BL, BL = padRow s ((s.size / 16 + 1) * 16) := ⟨_, rfl⟩
  obtain ⟨h, hh⟩ : ∃ h, h = w1.heap.size := ⟨_, rfl⟩
  obtain ⟨g, hg⟩ : ∃ g, g = w.heap.size := ⟨_, rfl⟩
  rw [← hBL] at HB8 HPL P2 R2
  rw [← hk] at HPL HK
  rw [← hh] at HGH P2
  rw [← hg] at HGH R2 B2 hw
  have HKE := hide hk
  have HBLE := hide hBL
  have HGE := hide hg
  rw [← hk, ← hh, ← hg]
  clear hk hh hg hBL
  go_wp2
  go_loopw [5] (fun v wr => ∃ (m : Nat) (p : Option Addr), m ≤ k ∧ v = .slice p ((k - m) * 16) ((k - m) * 16) ∧ (m < k → p = some ⟨h, m * 16, none⟩) ∧ Hid (RowK wr g .u32 358 (sk BL m)) ∧ Hid (RowK wr h .u8 5 BL) ∧ Hid (Below g w wr)) (fun v _ => sliceLen32 v)
  case atStart => exact ⟨0, _, by omega, by simp; rfl, fun _ => by simp, R2, P2, B2⟩
  case round =>
    obtain ⟨m, p, hm, rfl, hp, hr, hpr, hb⟩ := hrel
    by_cases hlt : m < k
    · obtain rfl := hp hlt
      obtain ⟨q, rfl⟩ : ∃ q, k = m + q + 1 := ⟨k - m - 1, by omega⟩
      rw [show m + q + 1 - m = q + 1 by omega]
      have HSM : Hid (sk BL (m + 1) = stirTo 32 (take32 BL (m * 16) (sk BL m) 4) 8) := HSS.out BL m
      have hl := HSL.out BL m
      have hwd := HSW.out BL HB8.out m
      have hlt4 : (take32 BL (m * 16) (sk BL m) 4).length = 8 := by rw [take32_length]; exact hl
      have hw4 := take32_words BL (m * 16) (sk BL m) 4 hwd HB8.out
      have HTK := hide (fun w' (h1 : RowK w' g .u32 358 (sk BL m)) (h2 : RowK w' h .u8 5 BL) => take_32 g h (m * 16) ((q + 1) * 16) (sk BL m) BL w' h1 hl hwd h2 (by rw [HPL.out]; omega) HB8.out (by omega) (by rw [HGH.out]; omega))
      have HST := hide (fun w' (h1 : RowK w' g .u32 358 (take32 BL (m * 16) (sk BL m) 4)) (h2 : Turns32 w') => stir_32 g (take32 BL (m * 16) (sk BL m) 4) w' h1 hlt4 hw4 h2 hw)
      clear hl hwd hlt4 hw4
      go_wp2_with fail
      refine (HTK.out _ hr.out hpr.out).mono ?_
      rintro e w3 ⟨rfl, hr3, ho3⟩
      have R3 := hide hr3
      have O3 := hide ho3
      clear hr3 ho3 HTK
      go_wp2_with fail
      refine (HST.out _ R3.out (fun i hi => (O3.out.cell (by simp; omega)).trans ((hb.out.cell (by simpa using hw)).trans (HT.out i hi)))).mono ?_
      rintro e w4 ⟨rfl, hr4, ho4⟩
      rw [← HSM.out] at hr4
      have R4 := hide hr4
      have O4 := hide (O3.out.trans ho4)
      have P4 := hide (O4.out.row hpr.out (by rw [HGH.out]; omega))
      have B4 := hide (O4.out.below hb.out (Nat.le_refl g))
      clear hr4 ho4 HST HSM O3 O4 R3 hr hpr hb
      by_cases hq : q = 0
      · subst hq
        go_wp2
        go_roundw
        case rel => exact ⟨.slice (some ⟨h, m * 16, none⟩) 0 0, _, _, _, _, _, _, _, _, _, _, _, ⟨m + 1, some ⟨h, m * 16, none⟩, by omega, by rw [show m + 0 + 1 - (m + 1) = 0 by omega, Nat.zero_mul], fun h => absurd h (by omega), R4, P4, B4⟩, rfl⟩
        case measure => simp [sliceLen32]
      · go_wp2
        go_roundw
        case rel => exact ⟨m + 1, _, by omega, by rw [show m + q + 1 - (m + 1) = q by omega, show (q + 1) * 16 - 16 = q * 16 by omega], fun _ => by rw [show (m + 1) * 16 = m * 16 + 16 by omega], R4, P4, B4⟩
        case measure => simp [sliceLen32]; omega
    · obtain rfl : m = k := by omega
      rw [show (m - m) * 16 = 0 by simp]
      have HT0 := text_32 g (sk BL m) wr hr.out (HSL.out BL m) (HSW.out BL HB8.out m)
      rw [HTE.out] at HT0
      have HTX := hide HT0
      clear HT0
      have HLT := hide hr.out.lt
      go_wp2_with fail
      refine HTX.out.mono ?_
      rintro e w5 ⟨rfl, hb5⟩
      have B5 := hide (hb.out.trans (hb5.mono (Nat.le_of_lt HLT.out)))
      clear hb5 HTX
      go_wp2
      go_ret
      refine ⟨?_, ?_⟩
      · rw [← HBLE.out, ← HKE.out]; rfl
      · rw [← HGE.out]; exact B5.out
end Go.Proofs.YtgaoeoijdpdjiabGreatDoor

namespace Go.Proofs.YtgaoeoijdpdjiabGreatDoor
open Go.RowKit

def sliceLen64 : Value → Nat | .slice _ n _ => n | _ => 0

/-- The words behind m blocks. -/
def soak64 (BL : List Nat) : Nat → List Nat
  | 0 => [1, 2, 3, 4, 5, 6, 7, 8]
  | m + 1 => stirTo 64 (take64 BL (m * 32) (soak64 BL m) 4) 8
theorem soak64_zero (BL : List Nat) : soak64 BL 0 = [1, 2, 3, 4, 5, 6, 7, 8] := rfl
theorem soak64_succ (BL : List Nat) (m : Nat) : soak64 BL (m + 1) = stirTo 64 (take64 BL (m * 32) (soak64 BL m) 4) 8 := by rw [soak64]
theorem soak64_length (BL : List Nat) (m : Nat) : (soak64 BL m).length = 8 := by
  induction m with
  | zero => rfl
  | succ m ih => unfold soak64; rw [stirTo_length _ _ _ (by rw [take64_length]; exact ih)]
theorem soak64_words (BL : List Nat) (hB : ∀ i, at0 BL i < 256) (m : Nat) : Words 64 (soak64 BL m) := by
  induction m with
  | zero => intro x hx; simp [soak64] at hx; omega
  | succ m ih => unfold soak64; exact stirTo_words 64 _ 8 (by rw [take64_length]; exact soak64_length BL m) (take64_words BL _ _ 4 ih hB)


set_option maxHeartbeats 4000000 in
theorem whole_64 (s : ByteArray) (w : World) (hs : s.size ≤ 400) (hT : Turns64 w) (hw : 1 < w.heap.size) :
    Calls Tryz.prog 246 #[.string s] w fun e w' => e = .returned (.string (textOf (outs 8 (soak64 (padRow s ((s.size / 32 + 1) * 32)) (s.size / 32 + 1)) 32))) ∧ Below w.heap.size w w' := by
  have HT := hide hT
  have HS := hide hs
  clear hT hs
  obtain ⟨sk, HSK⟩ : ∃ F, Hid (soak64 = F) := ⟨_, rfl⟩
  obtain ⟨tx, HTE⟩ : ∃ F : List Nat → ByteArray, Hid (∀ L, textOf (outs 8 L 32) = F L) := ⟨_, fun _ => rfl⟩
  have HS0 : Hid (∀ BL, sk BL 0 = soak64 BL 0) := fun BL => by rw [← HSK.out]
  have HSS : Hid (∀ BL m, sk BL (m + 1) = stirTo 64 (take64 BL (m * 32) (sk BL m) 4) 8) := fun BL m => by rw [← HSK.out]; exact soak64_succ BL m
  have HSL : Hid (∀ BL m, (sk BL m).length = 8) := fun BL m => by rw [← HSK.out]; exact soak64_length BL m
  have HSW : Hid (∀ BL, (∀ i, at0 BL i < 256) → ∀ m, Words 64 (sk BL m)) := fun BL h m => by rw [← HSK.out]; exact soak64_words BL h m
  rw [HTE.out, HSK.out]
  go_enter Tryz.func246, Tryz.ntmps246
  go_wp2_with fail
  have R0 : Hid (RowK (w.alloc (.cells #[.int .u64 1, .int .u64 2, .int .u64 3, .int .u64 4, .int .u64 5, .int .u64 6, .int .u64 7, .int .u64 8] 361)) w.heap.size .u64 361 (sk (padRow s ((s.size / 32 + 1) * 32)) 0)) := by
    rw [HS0.out, soak64_zero]; exact heap_alloc_new _ _
  have B0 := hide ((Below.refl w.heap.size w).alloc (Nat.le_refl _) (.cells #[.int .u64 1, .int .u64 2, .int .u64 3, .int .u64 4, .int .u64 5, .int .u64 6, .int .u64 7, .int .u64 8] 361))
  have hz0 : (w.alloc (.cells #[.int .u64 1, .int .u64 2, .int .u64 3, .int .u64 4, .int .u64 5, .int .u64 6, .int .u64 7, .int .u64 8] 361)).heap.size = w.heap.size + 1 := by simp
  generalize hW0 : w.alloc (.cells #[.int .u64 1, .int .u64 2, .int .u64 3, .int .u64 4, .int .u64 5, .int .u64 6, .int .u64 7, .int .u64 8] 361) = W0 at R0 B0 hz0 ⊢
  clear hW0
  refine (size_64 _).mono ?_
  rintro e w1 ⟨rfl, rfl⟩
  go_wp2_with fail
  refine (padded_32 s _ HS.out).mono ?_
  rintro e w2 ⟨rfl, hr2, hb2⟩
  have R2 := hide (R0.out.below hb2 R0.out.lt)
  have P2 := hide hr2
  have B2 := hide (B0.out.trans (hb2.mono (by omega)))
  have HGH : Hid (w1.heap.size = w.heap.size + 1) := hz0
  have HK : Hid (s.size / 32 + 1 ≤ 13) := by unfold Hid; have := HS.out; omega
  have HB8 := hide (pad_small s ((s.size / 32 + 1) * 32))
  have HPL : Hid ((padRow s ((s.size / 32 + 1) * 32)).length = (s.size / 32 + 1) * 32) := padRow_length s _ (by omega)
  clear hr2 hb2 R0 B0 hz0
  obtain ⟨k, hk⟩ : ∃ k, k = s.size / 32 + 1 := ⟨_, rfl⟩
  obtain ⟨BL, hBL⟩ : ∃ BL, BL = padRow s ((s.size / 32 + 1) * 32) := ⟨_, rfl⟩
  obtain ⟨h, hh⟩ : ∃ h, h = w1.heap.size := ⟨_, rfl⟩
  obtain ⟨g, hg⟩ : ∃ g, g = w.heap.size := ⟨_, rfl⟩
  rw [← hBL] at HB8 HPL P2 R2
  rw [← hk] at HPL HK
  rw [← hh] at HGH P2
  rw [← hg] at HGH R2 B2 hw
  have HKE := hide hk
  have HBLE := hide hBL
  have HGE := hide hg
  rw [← hk, ← hh, ← hg]
  clear hk hh hg hBL
  go_wp2
  go_loopw [5] (fun v wr => ∃ (m : Nat) (p : Option Addr), m ≤ k ∧ v = .slice p ((k - m) * 32) ((k - m) * 32) ∧ (m < k → p = some ⟨h, m * 32, none⟩) ∧ Hid (RowK wr g .u64 361 (sk BL m)) ∧ Hid (RowK wr h .u8 5 BL) ∧ Hid (Below g w wr)) (fun v _ => sliceLen64 v)
  case atStart => exact ⟨0, _, by omega, by simp; rfl, fun _ => by simp, R2, P2, B2⟩
  case round =>
    obtain ⟨m, p, hm, rfl, hp, hr, hpr, hb⟩ := hrel
    by_cases hlt : m < k
    · obtain rfl := hp hlt
      obtain ⟨q, rfl⟩ : ∃ q, k = m + q + 1 := ⟨k - m - 1, by omega⟩
      rw [show m + q + 1 - m = q + 1 by omega]
      have HSM : Hid (sk BL (m + 1) = stirTo 64 (take64 BL (m * 32) (sk BL m) 4) 8) := HSS.out BL m
      have hl := HSL.out BL m
      have hwd := HSW.out BL HB8.out m
      have hlt4 : (take64 BL (m * 32) (sk BL m) 4).length = 8 := by rw [take64_length]; exact hl
      have hw4 := take64_words BL (m * 32) (sk BL m) 4 hwd HB8.out
      have HTK := hide (fun w' (h1 : RowK w' g .u64 361 (sk BL m)) (h2 : RowK w' h .u8 5 BL) => take_64 g h (m * 32) ((q + 1) * 32) (sk BL m) BL w' h1 hl hwd h2 (by rw [HPL.out]; omega) HB8.out (by omega) (by rw [HGH.out]; omega))
      have HST := hide (fun w' (h1 : RowK w' g .u64 361 (take64 BL (m * 32) (sk BL m) 4)) (h2 : Turns64 w') => stir_64 g (take64 BL (m * 32) (sk BL m) 4) w' h1 hlt4 hw4 h2 hw)
      clear hl hwd hlt4 hw4
      go_wp2_with fail
      refine (HTK.out _ hr.out hpr.out).mono ?_
      rintro e w3 ⟨rfl, hr3, ho3⟩
      have R3 := hide hr3
      have O3 := hide ho3
      clear hr3 ho3 HTK
      go_wp2_with fail
      refine (HST.out _ R3.out (fun i hi => (O3.out.cell (by simp; omega)).trans ((hb.out.cell (by simpa using hw)).trans (HT.out i hi)))).mono ?_
      rintro e w4 ⟨rfl, hr4, ho4⟩
      rw [← HSM.out] at hr4
      have R4 := hide hr4
      have O4 := hide (O3.out.trans ho4)
      have P4 := hide (O4.out.row hpr.out (by rw [HGH.out]; omega))
      have B4 := hide (O4.out.below hb.out (Nat.le_refl g))
      clear hr4 ho4 HST HSM O3 O4 R3 hr hpr hb
      by_cases hq : q = 0
      · subst hq
        go_wp2
        go_roundw
        case rel => exact ⟨.slice (some ⟨h, m * 32, none⟩) 0 0, _, _, _, _, _, _, _, _, _, _, _, ⟨m + 1, some ⟨h, m * 32, none⟩, by omega, by rw [show m + 0 + 1 - (m + 1) = 0 by omega, Nat.zero_mul], fun h => absurd h (by omega), R4, P4, B4⟩, rfl⟩
        case measure => simp [sliceLen64]
      · go_wp2
        go_roundw
        case rel => exact ⟨m + 1, _, by omega, by rw [show m + q + 1 - (m + 1) = q by omega, show (q + 1) * 32 - 32 = q * 32 by omega], fun _ => by rw [show (m + 1) * 32 = m * 32 + 32 by omega], R4, P4, B4⟩
        case measure => simp [sliceLen64]; omega
    · obtain rfl : m = k := by omega
      rw [show (m - m) * 32 = 0 by simp]
      have HT0 := text_64 g (sk BL m) wr hr.out (HSL.out BL m) (HSW.out BL HB8.out m)
      rw [HTE.out] at HT0
      have HTX := hide HT0
      clear HT0
      have HLT := hide hr.out.lt
      go_wp2_with fail
      refine HTX.out.mono ?_
      rintro e w5 ⟨rfl, hb5⟩
      have B5 := hide (hb.out.trans (hb5.mono (Nat.le_of_lt HLT.out)))
      clear hb5 HTX
      go_wp2
      go_ret
      refine ⟨?_, ?_⟩
      · rw [← HBLE.out, ← HKE.out]; rfl
      · rw [← HGE.out]; exact B5.out
end Go.Proofs.YtgaoeoijdpdjiabGreatDoor

namespace Go.Proofs.YtgaoeoijdpdjiabGreatDoor
open Go.RowKit

set_option maxHeartbeats 400000 in
theorem pickR_any (c n : Int) (w : World) (h1 : 1 ≤ n) (h2 : n ≤ 2147483647) (hc : -9223372036854775808 ≤ c) (hc2 : c ≤ 9223372036854775807) :
    Calls Tryz.prog 17 #[.int .i64 c, .int .i64 n] w fun e w' => e = .returned (.int .i64 (pickZ c n)) ∧ w' = w := by
  by_cases h : c < 0
  · go_enter Tryz.func17, Tryz.ntmps17
    go_wp2
    go_ret
    refine ⟨ret_int ?_, rfl⟩
    unfold pickZ
    rw [if_pos h, ← Int.neg_tmod, Int.tmod_eq_emod_of_nonneg (by omega)]
  · go_enter Tryz.func17, Tryz.ntmps17
    go_wp2
    go_ret
    refine ⟨ret_int ?_, rfl⟩
    unfold pickZ
    rw [if_neg (by omega)]

theorem xor_ne (a v : Nat) (h : v ≠ 0) : a ^^^ v ≠ a := by
  intro e
  have e2 : a ^^^ v = a ^^^ 0 := by rw [e, Nat.xor_zero]
  exact h (xor_left e2)
/-- A text's bytes as numbers. -/
def nats (s : ByteArray) : List Nat := s.data.toList.map UInt8.toNat
theorem nats_length (s : ByteArray) : (nats s).length = s.size := by simp [nats]
theorem nats_lt (s : ByteArray) : ∀ d ∈ nats s, d < 256 := by
  intro d hd
  obtain ⟨u, _, rfl⟩ := List.mem_map.1 hd
  exact u.toNat_lt
/-- A text with another byte at a place. -/
def spoilt (s : ByteArray) (a v : Nat) : ByteArray := ⟨(((nats s).set a v).map UInt8.ofNat).toArray⟩
theorem spoilt_size (s : ByteArray) (a v : Nat) : (spoilt s a v).size = s.size := by
  rw [← nats_length s]
  simp [spoilt, ByteArray.size]
theorem byt_nats (s : ByteArray) (k : Nat) : byt s k = (nats s).getD k 0 := rfl
theorem nats_spoilt (s : ByteArray) (a v : Nat) (hv : v < 256) : nats (spoilt s a v) = (nats s).set a v := by
  unfold nats spoilt
  have hm : List.map UInt8.toNat (List.map UInt8.ofNat ((nats s).set a v)) = (nats s).set a v := by
    rw [List.map_map]
    refine (List.map_congr_left (g := id) ?_).trans (List.map_id _)
    intro d hd
    refine UInt8.toNat_ofNat_of_lt' ?_
    rcases List.mem_or_eq_of_mem_set hd with h | h
    · exact nats_lt s d h
    · rw [h]; exact hv
  exact hm
theorem spoilt_at (s : ByteArray) (a v : Nat) (hv : v < 256) (ha : a < s.size) : byt (spoilt s a v) a = v := by
  rw [byt_nats, nats_spoilt s a v hv]
  have : a < (nats s).length := by rw [nats_length]; exact ha
  simp [this]
theorem spoilt_other (s : ByteArray) (a v j : Nat) (hv : v < 256) (h : j ≠ a) : byt (spoilt s a v) j = byt s j := by
  rw [byt_nats, nats_spoilt s a v hv, byt_nats]
  simp [List.getElem?_set_ne (Ne.symm h)]
theorem isRec_spoilt (q b : Int) (d : ByteArray) (h : RecR q b d) (a v : Nat) (ha : a < 32) (hv : v < 256) (hn : v ≠ byt (sealS q b d) a) : isRec (spoilt (sealS q b d) a v) = false := by
  have hs := sealS_size q b d h.2.2.2.2
  have := spoiled q b d h (spoilt (sealS q b d) a v) (by rw [spoilt_size, hs]) a ha (fun j hj => spoilt_other _ _ _ _ hv hj) (by rw [spoilt_at _ _ _ hv (by omega)]; exact hn)
  rw [isRec, decide_eq_false (fun h => this h.2.2)]
theorem u8_xor_nat (a b : Nat) (ha : a < 256) (hb : b < 256) : bits .xor .u8 (a : Int) (b : Int) = ((a ^^^ b : Nat) : Int) := by
  have hx : a ^^^ b < 2 ^ 8 := Nat.xor_lt_two_pow (by omega) (by omega)
  have e1 : (BitVec.ofInt 8 (a : Int)).toNat = a := by rw [BitVec.toNat_ofInt]; omega
  have e2 : (BitVec.ofInt 8 (b : Int)).toNat = b := by rw [BitVec.toNat_ofInt]; omega
  show IntKind.u8.wrap ((BitVec.ofInt 8 (a : Int) ^^^ BitVec.ofInt 8 (b : Int)).toNat : Int) = _
  rw [BitVec.toNat_xor, e1, e2]
  show ((a ^^^ b : Nat) : Int) % 256 = _
  omega

/-- Three cells that are written. -/
theorem three_set {V : World} {B : Nat} {x0 x1 x2 : Value} (a0 a1 a2 : Value) (h0 : V.cell? ⟨B, 0, none⟩ = some x0) (h1 : V.cell? ⟨B, 1, none⟩ = some x1) (h2 : V.cell? ⟨B, 2, none⟩ = some x2) :
    (((V.setCell ⟨B, 0, none⟩ a0).setCell ⟨B, 1, none⟩ a1).setCell ⟨B, 2, none⟩ a2).cell? ⟨B, 0, none⟩ = some a0 ∧ (((V.setCell ⟨B, 0, none⟩ a0).setCell ⟨B, 1, none⟩ a1).setCell ⟨B, 2, none⟩ a2).cell? ⟨B, 1, none⟩ = some a1 ∧ (((V.setCell ⟨B, 0, none⟩ a0).setCell ⟨B, 1, none⟩ a1).setCell ⟨B, 2, none⟩ a2).cell? ⟨B, 2, none⟩ = some a2 := by
  have e1 : (V.setCell ⟨B, 0, none⟩ a0).cell? ⟨B, 1, none⟩ = some x1 := (World.cell?_setCell_other _ _ _ _ (by simp)).trans h1
  have e2 : ((V.setCell ⟨B, 0, none⟩ a0).setCell ⟨B, 1, none⟩ a1).cell? ⟨B, 2, none⟩ = some x2 := (World.cell?_setCell_other _ _ _ _ (by simp)).trans ((World.cell?_setCell_other _ _ _ _ (by simp)).trans h2)
  refine ⟨?_, ?_, World.cell?_setCell_same _ _ _ e2⟩
  · exact (World.cell?_setCell_other _ _ _ _ (by simp)).trans ((World.cell?_setCell_other _ _ _ _ (by simp)).trans (World.cell?_setCell_same _ _ _ h0))
  · exact (World.cell?_setCell_other _ _ _ _ (by simp)).trans (World.cell?_setCell_same _ _ _ e1)

/-- The text of bytes that lie one behind the other. -/
theorem textCells (w : World) (g cap : Nat) (D : List Nat) (hD : ∀ d ∈ D, d < 256) (h : ∀ j (hj : j < D.length), w.cell? ⟨g, j, none⟩ = some (.int .u8 ((D[j] : Nat) : Int))) :
    (convert 170 9 (.slice (some ⟨g, 0, none⟩) D.length cap)).run Tryz.prog w = .ok (.string ⟨(D.map UInt8.ofNat).toArray⟩) w := by
  have hl : (D.map UInt8.ofNat).length = D.length := by simp
  have hc := run_convert_bytes_back (P := Tryz.prog) w 170 9 5 ⟨g, 0, none⟩ cap (D.map UInt8.ofNat) Tryz.underlying170 Tryz.underlying5 Tryz.underlying9 (by
    intro j hj
    have hj' : j < D.length := by simpa using hj
    have hadd : (Addr.mk g 0 none).add j = ⟨g, j, none⟩ := by unfold Addr.add; split <;> simp_all
    rw [hadd, h j hj']
    have hd := hD D[j] (List.getElem_mem hj')
    simp [Nat.mod_eq_of_lt hd])
  rw [hl] at hc
  exact hc

/-- A text's bytes in a new row. -/
theorem bytes_of (t : ByteArray) (w : World) : ∃ cap V, (convert 9 170 (.string t)).run Tryz.prog w = .ok (.slice (some ⟨w.heap.size, 0, none⟩) t.size cap) V ∧ Below w.heap.size w V ∧ V.heap.size = w.heap.size + 1 ∧ (∀ j, j < t.size → V.cell? ⟨w.heap.size, j, none⟩ = some (.int .u8 ((byt t j : Nat) : Int))) ∧ (∀ j, j < t.size → V.frozen? ⟨w.heap.size, j, none⟩ = false) := by
  refine ⟨grownCap w t.size 0 5, Lib.bytesWorld w 5 t, Lib.run_convert_string_bytes w 9 170 5 t Tryz.underlying9 Tryz.underlying170 Tryz.underlying5, ?_, Lib.bytesWorld_size _ _ _, ?_, ?_⟩
  · exact ⟨rfl, rfl, rfl, by rw [Lib.bytesWorld_size]; omega, fun k hk => Lib.bytesWorld_at_old w _ t k hk⟩
  · intro j hj
    have e : (t.data.toList.getD j 0).toNat = byt t j := by
      have h : j < t.data.toList.length := hj
      unfold byt
      rw [List.getD_eq_getElem?_getD, List.getD_eq_getElem?_getD, List.getElem?_map, List.getElem?_eq_getElem h]
      rfl
    rw [Lib.bytesWorld_cell w _ t j hj, e]
  · intro j hj
    have := Lib.bytesWorld_at_new w 5 t
    simp [World.frozen?, this]
    simp [Lib.bytesCells]
    omega
end Go.Proofs.YtgaoeoijdpdjiabGreatDoor

namespace Go.Proofs.YtgaoeoijdpdjiabGreatDoor
open Go.RowKit

/-- A value of n cells may be stored there. -/
def StoreOk (w : World) (n : Nat) (v u : Value) : Prop := ∃ b o l, v = .pointer (some ⟨b, o, none⟩) ∧ u = .agg (List.toArray l) ∧ l.length = n ∧ (∀ c ∈ l, c.oneCell' = true) ∧ w.there b o n
def storeW (w : World) : Value → Value → World
  | .pointer (some ⟨b, o, none⟩), .agg cs => w.setCells b o cs.toList
  | _, _ => w
theorem storeW_at (w : World) (b o : Nat) (l : List Value) : storeW w (.pointer (some ⟨b, o, none⟩)) (.agg l.toArray) = w.setCells b o l := rfl
theorem wp_pre_store_sec {x y : Operand} {d : Option Nat} {ty : TypeId} {ps : String} {af : Array Edge} {g : Option (Nat × Bool)} {a : Act} {w : World} {K : Act → World → Prop} {Q : Exit → Act → World → Prop} (h : StoreOk w 32 (a.eval x) (a.eval y)) :
    Oper.wp Tryz.prog { dst := d, op := .store 239 x y, type := ty, pos := ps, after := af, guard := g } a w K Q = K (a.put d undef) (storeW w (a.eval x) (a.eval y)) := by
  obtain ⟨b, o, l, hx, hy, hl, h1, ht⟩ := h
  have hv := run_storeVar_mid (P := Tryz.prog) w b o 239 l.toArray (by rw [List.size_toArray, hl]; exact ht) (by rw [List.size_toArray, hl]; exact sizeSec) (all_oneCell_toArray h1)
  rw [hx, hy, storeW_at]
  unfold Oper.wp execOp
  simp only [hx, hy, Instr.storeAt, Instr.sureAddr, Sem.run_bind, Sem.run_pure, Result.andThen_ok, hv]
  rfl
theorem wp_pre_store_wri {x y : Operand} {d : Option Nat} {ty : TypeId} {ps : String} {af : Array Edge} {g : Option (Nat × Bool)} {a : Act} {w : World} {K : Act → World → Prop} {Q : Exit → Act → World → Prop} (h : StoreOk w 33 (a.eval x) (a.eval y)) :
    Oper.wp Tryz.prog { dst := d, op := .store 241 x y, type := ty, pos := ps, after := af, guard := g } a w K Q = K (a.put d undef) (storeW w (a.eval x) (a.eval y)) := by
  obtain ⟨b, o, l, hx, hy, hl, h1, ht⟩ := h
  have hv := run_storeVar_mid (P := Tryz.prog) w b o 241 l.toArray (by rw [List.size_toArray, hl]; exact ht) (by rw [List.size_toArray, hl]; exact sizeWri) (all_oneCell_toArray h1)
  rw [hx, hy, storeW_at]
  unfold Oper.wp execOp
  simp only [hx, hy, Instr.storeAt, Instr.sureAddr, Sem.run_bind, Sem.run_pure, Result.andThen_ok, hv]
  rfl
theorem there_new (w : World) (c : Array Value) (t : TypeId) (n : Nat) (hn : c.size = n) : (w.alloc (.cells c t)).there w.heap.size 0 n := by
  subst hn
  intro j hj
  have hb : (w.alloc (.cells c t)).heap[w.heap.size]? = some (.cells c t) := heap_alloc_new w _
  refine ⟨?_, ?_⟩
  · rw [Nat.zero_add, cell_of_row _ _ j c t _ hb, Array.getElem?_eq_getElem hj]; rfl
  · unfold World.frozen?
    rw [show (w.alloc (.cells c t)).heap[(⟨w.heap.size, 0 + j, none⟩ : Addr).block]? = some (.cells c t) from hb]
    simp
theorem setCells_new (w : World) (c : Array Value) (t : TypeId) (l : List Value) (h : c.size = l.length) : (w.alloc (.cells c t)).setCells w.heap.size 0 l = w.alloc (.cells l.toArray t) := by
  have e : ∀ (l : List Value) (o : Nat) (c : List Value), o + l.length ≤ c.length → (w.alloc (.cells c.toArray t)).setCells w.heap.size o l = w.alloc (.cells (overlay c o l).toArray t) := by
    intro l
    induction l with
    | nil => intro o c _; rfl
    | cons v r ih =>
      intro o c hc
      simp only [List.length_cons] at hc
      rw [World.setCells, overlay]
      have e1 : (w.alloc (.cells c.toArray t)).setCell ⟨w.heap.size, o, none⟩ v = w.alloc (.cells (c.set o v).toArray t) := by
        rw [setCell_eq_setRow _ _ _ _ _ _ _ (heap_alloc_new w _), World.setRow_alloc_new]
        simp
      rw [e1]
      exact ih (o + 1) (c.set o v) (by rw [List.length_set]; omega)
  obtain ⟨c⟩ := c
  simp only [List.size_toArray] at h
  rw [e l 0 c (by omega)]
  congr 3
  apply List.ext_getElem?
  intro k
  rw [overlay_get _ _ _ _ (by omega)]
  by_cases hk : k < l.length
  · rw [if_pos ⟨Nat.zero_le _, by omega⟩, Nat.sub_zero]
  · rw [if_neg (by omega), List.getElem?_eq_none (by omega), List.getElem?_eq_none (by omega)]

section
variable {lo D E : Nat} {pv : Value} {s : DSt} {w w' : World}
theorem DAt.secLen (h : DAt lo D E pv s w) : ∀ x ∈ s.dur, (cellsB x).length = 32 := fun x hx => cells32 (h.ok.sec x hx)
theorem DAt.penLen (h : DAt lo D E pv s w) : ∀ p ∈ s.pend, (penC p).length = 33 := fun p hp => pen33 (h.ok.pen p hp).2
theorem DAt.thereE (h : DAt lo D E pv s w) (k : Nat) (hk : k < s.n) : w.there E (k * 32) 32 := by
  intro j hj
  have hl := flat_length cellsB 32 s.dur h.secLen
  rw [h.ok.len] at hl
  have hb : k * 32 + 32 ≤ s.n * 32 := by rw [← Nat.succ_mul]; exact Nat.mul_le_mul_right 32 hk
  refine ⟨?_, freeOf h.durable _⟩
  rw [cell_of_row w E _ _ _ _ h.durable, List.getElem?_toArray, List.getElem?_eq_getElem (by rw [secs, hl]; omega)]
  rfl
theorem DAt.rangeE (h : DAt lo D E pv s w) (k : Nat) (x : ByteArray) (hx : s.dur[k]? = some x) : w.rangeAt E (k * 32) (cellsB x) :=
  flat_range cellsB 32 s.dur k x h.secLen hx h.durable (by
    rw [List.take_of_length_le (by rw [secs, flat_length cellsB 32 s.dur h.secLen]; exact Nat.le_refl _)]; rfl)
theorem DAt.stored (h : DAt lo D E pv s w) (k : Nat) (t : ByteArray) (hk : k < s.n) (ht : t.size = 32) : DAt lo D E pv { s with dur := s.dur.set k t } (w.setCells E (k * 32) (cellsB t)) := by
  have hK := kept_sets E (cellsB t) (k * 32) w
  refine ⟨?_, ?_, owns_kept h.pending hK (fun j e hj => h.pe (by rw [e]; exact congrArg some hj)), ⟨by simp [h.ok.len], ?_, h.ok.pen, h.ok.lo, h.ok.hi, h.ok.most, h.ok.tr, h.ok.tr2⟩, h.de, h.pd, h.pe, h.loD, h.loE⟩
  · rw [hK.block D h.ltD h.de]; exact h.disk
  · have := block_setCells E (cellsB t) (k * 32) (secs s.dur) w h.durable
    rw [secs, overlay_flat cellsB 32 s.dur k t h.secLen (cells32 ht) (by rw [h.ok.len]; exact hk)] at this
    exact this
  · intro x hx
    rcases List.mem_or_eq_of_mem_set hx with hx | hx
    · exact h.ok.sec x hx
    · rw [hx]; exact ht
theorem DAt.row (h : DAt lo D E pv s w) (hp : 0 < s.pend.length) : ∃ P cap, pv = .slice (some ⟨P, 0, none⟩) s.pend.length cap ∧ s.pend.length ≤ cap ∧ P < w.heap.size ∧ ∀ j p, s.pend[j]? = some p → w.rangeAt P (j * 33) (penC p) := by
  rcases h.pending.2 with ⟨_, h0⟩ | ⟨g, cap, cur, hv, hb, hg, hc, _, hs, ht⟩
  · omega
  · refine ⟨g, cap, hv, hc, (Array.getElem?_eq_some_iff.1 hg).1, fun j p hj => ?_⟩
    have hg' : w.heap[g]? = some (.cells cur.toList.toArray 241 (0, 0)) := by simpa using hg
    exact flat_range penC 33 s.pend j p h.penLen hj hg' ht
end
/-- What is durable behind the first j of the pending writes. -/
def laidJ (s : DSt) (j : Nat) : List ByteArray := (s.pend.take j).foldl (fun d p => d.set p.1 p.2) s.dur
theorem laidJ_zero (s : DSt) : laidJ s 0 = s.dur := rfl
theorem laidJ_succ (s : DSt) (j : Nat) (p : Nat × ByteArray) (h : s.pend[j]? = some p) : laidJ s (j + 1) = (laidJ s j).set p.1 p.2 := by
  obtain ⟨hj, rfl⟩ := List.getElem?_eq_some_iff.1 h
  rw [laidJ, List.take_succ_eq_append_getElem hj, List.foldl_append]
  rfl
end Go.Proofs.YtgaoeoijdpdjiabGreatDoor

namespace Go.Proofs.YtgaoeoijdpdjiabGreatDoor
open Go.RowKit

theorem setsDigits_any (b x e f : Nat) (hp : Pair b x e f) (k t l : Int) (m : ByteArray) (w : World) (hk : k = 1 ∨ k = 2) (h1 : 1 ≤ t) (h2 : t ≤ 4) (h3 : 1 ≤ l) (h4 : l ≤ 3) (hm : m.size = b) :
    Calls Tryz.prog 241 #[.agg #[.int .i64 k, .int .i64 b, .int .i64 x, .int .i64 t, .int .i64 l], .string m] w fun r w' =>
      ∃ g, r = .returned (.tuple #[.slice (some ⟨g, 0, none⟩) (b * e + f) (b * e + f), .int .i64 0]) ∧ w.heap.size ≤ g ∧ RowZ w' g ((digitsN x e f (bytesN m)).map Int.ofNat) ∧ Below w.heap.size w w' := by
  rcases hp with ⟨rfl, rfl, rfl, rfl⟩ | ⟨rfl, rfl, rfl, rfl⟩ | ⟨rfl, rfl, rfl, rfl⟩ | ⟨rfl, rfl, rfl, rfl⟩
  · exact digits_4_4 k t l m w hk h1 h2 h3 h4 hm
  · exact digits_8_4 k t l m w hk h1 h2 h3 h4 hm
  · exact digits_4_16 k t l m w hk h1 h2 h3 h4 hm
  · exact digits_8_16 k t l m w hk h1 h2 h3 h4 hm

set_option maxHeartbeats 400000 in
theorem digits_any (b x e f : Nat) (hp : Pair b x e f) (k t l : Int) (m : ByteArray) (w : World) (hk : k = 1 ∨ k = 2) (h1 : 1 ≤ t) (h2 : t ≤ 4) (h3 : 1 ≤ l) (h4 : l ≤ 3) (hm : m.size = b) :
    Calls Tryz.prog 190 #[.agg #[.int .i64 k, .int .i64 b, .int .i64 x, .int .i64 t, .int .i64 l], .string m] w fun r w' =>
      ∃ g, r = .returned (.tuple #[.slice (some ⟨g, 0, none⟩) (b * e + f) (b * e + f), .int .i64 0]) ∧ w.heap.size ≤ g ∧ RowZ w' g ((digitsN x e f (bytesN m)).map Int.ofNat) ∧ Below w.heap.size w w' := by
  have HC := hideM (setsDigits_any b x e f hp k t l m (w.alloc (.cells #[.int .i64 k, .int .i64 b, .int .i64 x, .int .i64 t, .int .i64 l] 26)) hk h1 h2 h3 h4 hm)
  clear hp hm
  go_enter Tryz.func190, Tryz.ntmps190
  go_wp2_with fail
  refine HC.out.mono ?_
  rintro r w1 ⟨g, rfl, hg, hr, hb⟩
  have HR := hideM hr
  have HB := hideM hb
  clear hr hb
  simp at hg
  go_wp2
  go_ret2
  exact ⟨g, rfl, by omega, HR.out, ((Below.refl _ _).alloc (Nat.le_refl _) _).trans (HB.out.mono (by simp))⟩
end Go.Proofs.YtgaoeoijdpdjiabGreatDoor

namespace Go.Proofs.YtgaoeoijdpdjiabGreatDoor
open Go.RowKit

theorem sigZ_nat {b x e f : Nat} (hp : Pair b x e f) (t l : Nat) : sigZ b x t l = ((4 + b + l * (b * e + f + t) * b : Nat) : Int) := by
  have hc : chainsZ (b : Int) (x : Int) = ((b * e + f : Nat) : Int) := by
    rcases hp with ⟨rfl, rfl, rfl, rfl⟩ | ⟨rfl, rfl, rfl, rfl⟩ | ⟨rfl, rfl, rfl, rfl⟩ | ⟨rfl, rfl, rfl, rfl⟩ <;> rfl
  rw [sigZ, hc]
  simp only [Int.natCast_add, Int.natCast_mul]
  rfl
theorem totalZ_nat (t l : Nat) : totalZ t l = ((2 ^ (t * l) : Nat) : Int) := by
  rw [totalZ, show ((t : Int) * (l : Int)) = ((t * l : Nat) : Int) by rw [Int.natCast_mul], Int.toNat_natCast, Int.natCast_pow]
  rfl
end Go.Proofs.YtgaoeoijdpdjiabGreatDoor
