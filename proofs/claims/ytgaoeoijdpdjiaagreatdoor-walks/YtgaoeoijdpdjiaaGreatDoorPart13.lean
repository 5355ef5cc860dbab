/-
  The program's whole over words of 64 bits.
-/
import Derived.Test.YtgaoeoijdpdjiaaGreatDoorPart7
import Derived.Test.YtgaoeoijdpdjiaaGreatDoorPart12
import Derived.Test.YtgaoeoijdpdjiaaGreatDoorPart6
namespace Go.Proofs.YtgaoeoijdpdjiaaGreatDoor
open Go.RowKit
def sliceLen64 : Value → Nat | .slice _ n _ => n | _ => 0
/-- The words behind m blocks. -/
def soak64 (BL : List Nat) : Nat → List Nat
  | 0 => [1, 2, 3, 4, 5, 6, 7, 8]
  | m + 1 => stirTo 64 (take64 BL (m * 32) (soak64 BL m) 4) 8
theorem soak64_zero (BL : List Nat) : soak64 BL 0 = [1, 2, 3, 4, 5, 6, 7, 8] := rfl
theorem soak64_succ (BL : List Nat) (m : Nat) : soak64 BL (m + 1) = stirTo 64 (take64 BL (m * 32) (soak64 BL m) 4) 8 := by rw [soak64]
theorem soak64_length (BL : List Nat) (m : Nat) : (soak64 BL m).length = 8 := by
  induction m with
  | zero => rfl
  | succ m ih => unfold soak64; rw [stirTo_length _ _ _ (by rw [take64_length]; exact ih)]
theorem soak64_words (BL : List Nat) (hB : ∀ i, at0 BL i < 256) (m : Nat) : Words 64 (soak64 BL m) := by
  induction m with
  | zero => intro x hx; simp [soak64] at hx; omega
  | succ m ih => unfold soak64; exact stirTo_words 64 _ 8 (by rw [take64_length]; exact soak64_length BL m) (take64_words BL _ _ 4 ih hB)
set_option maxHeartbeats 4000000 in
theorem whole_64 (s : ByteArray) (w : World) (hs : s.size ≤ 400) (hT : Turns64 w) (hw : 0 < w.heap.size) :
    Calls Tryz.prog 147 #[.string s] w fun e w' => e = .returned (.string (textOf (outs 8 (soak64 (padRow s ((s.size / 32 + 1) * 32)) (s.size / 32 + 1)) 32))) ∧ Below w.heap.size w w' := by
  have HT := hide hT
  have HS := hide hs
  clear hT hs
  obtain ⟨sk, HSK⟩ : ∃ F, Hid (soak64 = F) := ⟨_, rfl⟩
  obtain ⟨tx, HTE⟩ : ∃ F : List Nat → ByteArray, Hid (∀ L, textOf (outs 8 L 32) = F L) := ⟨_, fun _ => rfl⟩
  have HS0 : Hid (∀ BL, sk BL 0 = soak64 BL 0) := fun BL => by rw [← HSK.out]
  have HSS : Hid (∀ BL m, sk BL (m + 1) = stirTo 64 (take64 BL (m * 32) (sk BL m) 4) 8) := fun BL m => by rw [← HSK.out]; exact soak64_succ BL m
  have HSL : Hid (∀ BL m, (sk BL m).length = 8) := fun BL m => by rw [← HSK.out]; exact soak64_length BL m
  have HSW : Hid (∀ BL, (∀ i, at0 BL i < 256) → ∀ m, Words 64 (sk BL m)) := fun BL h m => by rw [← HSK.out]; exact soak64_words BL h m
  rw [HTE.out, HSK.out]
  go_enter Tryz.func147, Tryz.ntmps147
  go_wp2_with fail
  have R0 : Hid (RowK (w.alloc (.cells #[.int .u64 1, .int .u64 2, .int .u64 3, .int .u64 4, .int .u64 5, .int .u64 6, .int .u64 7, .int .u64 8] 283)) w.heap.size .u64 283 (sk (padRow s ((s.size / 32 + 1) * 32)) 0)) := by
    rw [HS0.out, soak64_zero]; exact heap_alloc_new _ _
  have B0 := hide ((Below.refl w.heap.size w).alloc (Nat.le_refl _) (.cells #[.int .u64 1, .int .u64 2, .int .u64 3, .int .u64 4, .int .u64 5, .int .u64 6, .int .u64 7, .int .u64 8] 283))
  have hz0 : (w.alloc (.cells #[.int .u64 1, .int .u64 2, .int .u64 3, .int .u64 4, .int .u64 5, .int .u64 6, .int .u64 7, .int .u64 8] 283)).heap.size = w.heap.size + 1 := by simp
  generalize hW0 : w.alloc (.cells #[.int .u64 1, .int .u64 2, .int .u64 3, .int .u64 4, .int .u64 5, .int .u64 6, .int .u64 7, .int .u64 8] 283) = W0 at R0 B0 hz0 ⊢
  clear hW0
  refine (size_64 _).mono ?_
  rintro e w1 ⟨rfl, rfl⟩
  go_wp2_with fail
  refine (padded_32 s _ HS.out).mono ?_
  rintro e w2 ⟨rfl, hr2, hb2⟩
  have R2 := hide (R0.out.below hb2 R0.out.lt)
  have P2 := hide hr2
  have B2 := hide (B0.out.trans (hb2.mono (by omega)))
  have HGH : Hid (w1.heap.size = w.heap.size + 1) := hz0
  have HK : Hid (s.size / 32 + 1 ≤ 13) := by unfold Hid; have := HS.out; omega
  have HB8 := hide (pad_small s ((s.size / 32 + 1) * 32))
  have HPL : Hid ((padRow s ((s.size / 32 + 1) * 32)).length = (s.size / 32 + 1) * 32) := padRow_length s _ (by omega)
  clear hr2 hb2 R0 B0 hz0
  obtain ⟨k, hk⟩ : ∃ k, k = s.size / 32 + 1 := ⟨_, rfl⟩
  obtain ⟨BL, hBL⟩ : ∃ BL, BL = padRow s ((s.size / 32 + 1) * 32) := ⟨_, rfl⟩
  obtain ⟨h, hh⟩ : ∃ h, h = w1.heap.size := ⟨_, rfl⟩
  obtain ⟨g, hg⟩ : ∃ g, g = w.heap.size := ⟨_, rfl⟩
  rw [← hBL] at HB8 HPL P2 R2
  rw [← hk] at HPL HK
  rw [← hh] at HGH P2
  rw [← hg] at HGH R2 B2 hw
  have HKE := hide hk
  have HBLE := hide hBL
  have HGE := hide hg
  rw [← hk, ← hh, ← hg]
  clear hk hh hg hBL
  go_wp2
  go_loopw [5] (fun v wr => ∃ (m : Nat) (p : Option Addr), m ≤ k ∧ v = .slice p ((k - m) * 32) ((k - m) * 32) ∧ (m < k → p = some ⟨h, m * 32, none⟩) ∧ Hid (RowK wr g .u64 283 (sk BL m)) ∧ Hid (RowK wr h .u8 5 BL) ∧ Hid (Below g w wr)) (fun v _ => sliceLen64 v)
  case atStart => exact ⟨0, _, by omega, by simp; rfl, fun _ => by simp, R2, P2, B2⟩
  case round =>
    obtain ⟨m, p, hm, rfl, hp, hr, hpr, hb⟩ := hrel
    by_cases hlt : m < k
    · obtain rfl := hp hlt
      obtain ⟨q, rfl⟩ : ∃ q, k = m + q + 1 := ⟨k - m - 1, by omega⟩
      rw [show m + q + 1 - m = q + 1 by omega]
      have HSM : Hid (sk BL (m + 1) = stirTo 64 (take64 BL (m * 32) (sk BL m) 4) 8) := HSS.out BL m
      have hl := HSL.out BL m
      have hwd := HSW.out BL HB8.out m
      have hlt4 : (take64 BL (m * 32) (sk BL m) 4).length = 8 := by rw [take64_length]; exact hl
      have hw4 := take64_words BL (m * 32) (sk BL m) 4 hwd HB8.out
      have HTK := hide (fun w' (h1 : RowK w' g .u64 283 (sk BL m)) (h2 : RowK w' h .u8 5 BL) => take_64 g h (m * 32) ((q + 1) * 32) (sk BL m) BL w' h1 hl hwd h2 (by rw [HPL.out]; omega) HB8.out (by omega) (by rw [HGH.out]; omega))
      have HST := hide (fun w' (h1 : RowK w' g .u64 283 (take64 BL (m * 32) (sk BL m) 4)) (h2 : Turns64 w') => stir_64 g (take64 BL (m * 32) (sk BL m) 4) w' h1 hlt4 hw4 h2 hw)
      clear hl hwd hlt4 hw4
      go_wp2_with fail
      refine (HTK.out _ hr.out hpr.out).mono ?_
      rintro e w3 ⟨rfl, hr3, ho3⟩
      have R3 := hide hr3
      have O3 := hide ho3
      clear hr3 ho3 HTK
      go_wp2_with fail
      refine (HST.out _ R3.out (fun i hi => (O3.out.cell (by simp; omega)).trans ((hb.out.cell (by simpa using hw)).trans (HT.out i hi)))).mono ?_
      rintro e w4 ⟨rfl, hr4, ho4⟩
      rw [← HSM.out] at hr4
      have R4 := hide hr4
      have O4 := hide (O3.out.trans ho4)
      have P4 := hide (O4.out.row hpr.out (by rw [HGH.out]; omega))
      have B4 := hide (O4.out.below hb.out (Nat.le_refl g))
      clear hr4 ho4 HST HSM O3 O4 R3 hr hpr hb
      by_cases hq : q = 0
      · subst hq
        go_wp2
        go_roundw
        case rel => exact ⟨.slice (some ⟨h, m * 32, none⟩) 0 0, _, _, _, _, _, _, _, _, _, _, _, ⟨m + 1, some ⟨h, m * 32, none⟩, by omega, by rw [show m + 0 + 1 - (m + 1) = 0 by omega, Nat.zero_mul], fun h => absurd h (by omega), R4, P4, B4⟩, rfl⟩
        case measure => simp [sliceLen64]
      · go_wp2
        go_roundw
        case rel => exact ⟨m + 1, _, by omega, by rw [show m + q + 1 - (m + 1) = q by omega, show (q + 1) * 32 - 32 = q * 32 by omega], fun _ => by rw [show (m + 1) * 32 = m * 32 + 32 by omega], R4, P4, B4⟩
        case measure => simp [sliceLen64]; omega
    · obtain rfl : m = k := by omega
      rw [show (m - m) * 32 = 0 by simp]
      have HT0 := text_64 g (sk BL m) wr hr.out (HSL.out BL m) (HSW.out BL HB8.out m)
      rw [HTE.out] at HT0
      have HTX := hide HT0
      clear HT0
      have HLT := hide hr.out.lt
      go_wp2_with fail
      refine HTX.out.mono ?_
      rintro e w5 ⟨rfl, hb5⟩
      have B5 := hide (hb.out.trans (hb5.mono (Nat.le_of_lt HLT.out)))
      clear hb5 HTX
      go_wp2
      go_ret
      refine ⟨?_, ?_⟩
      · rw [← HBLE.out, ← HKE.out]; rfl
      · rw [← HGE.out]; exact B5.out
end Go.Proofs.YtgaoeoijdpdjiaaGreatDoor
