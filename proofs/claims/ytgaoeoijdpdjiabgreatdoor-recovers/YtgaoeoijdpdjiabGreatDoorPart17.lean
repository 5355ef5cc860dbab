/-
  What a text is read as: a record, or none. Texts one behind the other; strings.Join without a separator. The program's whole over words of 32 bits. The program's whole over words of 64 bits. The program's Of: ErrArg, ErrLong, or the first n bytes of the whole. The document's H, and the program's Value. The text of a key. Seeds and a place that come in by value, with their bounds.
-/
import Derived.Test.YtgaoeoijdpdjiabGreatDoorPart8
import Derived.Test.YtgaoeoijdpdjiabGreatDoorPart13
import Derived.Test.YtgaoeoijdpdjiabGreatDoorPart3
import Derived.Test.YtgaoeoijdpdjiabGreatDoorPart14
import Derived.Test.YtgaoeoijdpdjiabGreatDoorPart16
import Derived.Test.YtgaoeoijdpdjiabGreatDoorPart11
import Derived.Test.YtgaoeoijdpdjiabGreatDoorPart2
import Derived.Deep.RegionHeld3
import Derived.Deep.DrawnRows
namespace Go.Proofs.YtgaoeoijdpdjiabGreatDoor
/-- Is the text a record's? -/
def isRec (s : ByteArray) : Bool := decide (s.size = 32 ∧ RecR (seqOf s) (boundOf s) (idOf s) ∧ sealS (seqOf s) (boundOf s) (idOf s) = s)
theorem isRec_iff (s : ByteArray) : isRec s = true ↔ s.size = 32 ∧ RecR (seqOf s) (boundOf s) (idOf s) ∧ sealS (seqOf s) (boundOf s) (idOf s) = s := by simp [isRec]
/-- What the text is read as. -/
def unsV (s : ByteArray) : Value := if isRec s then .tuple #[.agg #[.int .i64 (seqOf s), .int .i64 (boundOf s), .string (idOf s)], .int .i64 0] else .tuple #[.agg #[.int .i64 0, .int .i64 0, .string ⟨#[]⟩], .int .i64 6]
theorem unsV_yes {s : ByteArray} (h : isRec s = true) : unsV s = .tuple #[.agg #[.int .i64 (seqOf s), .int .i64 (boundOf s), .string (idOf s)], .int .i64 0] := by rw [unsV, if_pos h]
theorem unsV_no {s : ByteArray} (h : isRec s = false) : unsV s = .tuple #[.agg #[.int .i64 0, .int .i64 0, .string ⟨#[]⟩], .int .i64 6] := by rw [unsV, if_neg (by rw [h]; decide)]
theorem isRec_size {s : ByteArray} (h : s.size ≠ 32) : isRec s = false := by simp [isRec, h]
end Go.Proofs.YtgaoeoijdpdjiabGreatDoor

namespace Go.Proofs.YtgaoeoijdpdjiabGreatDoor
open Go.RowKit
/-- Texts, one behind the other. -/
def cat : List ByteArray → ByteArray
  | [] => ⟨#[]⟩
  | x :: r => x ++ cat r
theorem append_empty (x : ByteArray) : x ++ (⟨#[]⟩ : ByteArray) = x := by apply ByteArray.ext; simp
theorem cat_bytes (xs : List ByteArray) : (cat xs).data.toList = (xs.map (·.data.toList)).flatten := by
  induction xs with
  | nil => rfl
  | cons x r ih => simp [cat, ih]
theorem cat_join (xs : List ByteArray) : (⟨(Lib.join (xs.map (·.data.toList)) (⟨#[]⟩ : ByteArray).data.toList).toArray⟩ : ByteArray) = cat xs := by
  apply ByteArray.ext
  apply Array.ext'
  rw [cat_bytes]
  simp only [Lib.join]
  generalize xs.map (·.data.toList) = l
  induction l with
  | nil => rfl
  | cons a r ih =>
    cases r with
    | nil => simp [List.intercalate]
    | cons b r => simpa [List.intercalate] using ih
theorem cat_size (xs : List ByteArray) : (cat xs).size = (xs.map (·.size)).sum := by
  induction xs with
  | nil => rfl
  | cons x r ih => simp [cat, ByteArray.size_append, ih]
theorem join_any (bk o c : Nat) (xs : List ByteArray) (w : World) (hcells : ∀ (j : Nat) x, xs[j]? = some x → w.cell? ⟨bk, o + j, none⟩ = some (.string x)) (hbk : bk < w.heap.size) (hN : xs.length ≤ 1000) (hcap : xs.length ≤ c) (hlen : (cat xs).size ≤ 100000) :
    Calls Tryz.prog 161 #[.slice (some ⟨bk, o, none⟩) xs.length c, .string ⟨#[]⟩] w fun e w' => e = .returned (.string (cat xs)) ∧ Below w.heap.size w w' := by
  have h := strings_Join bk o c xs ⟨#[]⟩ w hcells hbk (by omega) hcap (by have h := congrArg ByteArray.size (cat_join xs); simp only [ByteArray.size, List.size_toArray] at h hlen; rw [h]; omega)
  rw [cat_join] at h
  exact h
end Go.Proofs.YtgaoeoijdpdjiabGreatDoor

namespace Go.Proofs.YtgaoeoijdpdjiabGreatDoor
open Go.RowKit
def sliceLen32 : Value → Nat | .slice _ n _ => n | _ => 0
/-- The words behind m blocks. -/
def soak32 (BL : List Nat) : Nat → List Nat
  | 0 => [1, 2, 3, 4, 5, 6, 7, 8]
  | m + 1 => stirTo 32 (take32 BL (m * 16) (soak32 BL m) 4) 8
theorem soak32_zero (BL : List Nat) : soak32 BL 0 = [1, 2, 3, 4, 5, 6, 7, 8] := rfl
theorem soak32_succ (BL : List Nat) (m : Nat) : soak32 BL (m + 1) = stirTo 32 (take32 BL (m * 16) (soak32 BL m) 4) 8 := by rw [soak32]
theorem soak32_length (BL : List Nat) (m : Nat) : (soak32 BL m).length = 8 := by
  induction m with
  | zero => rfl
  | succ m ih => unfold soak32; rw [stirTo_length _ _ _ (by rw [take32_length]; exact ih)]
theorem soak32_words (BL : List Nat) (hB : ∀ i, at0 BL i < 256) (m : Nat) : Words 32 (soak32 BL m) := by
  induction m with
  | zero => intro x hx; simp [soak32] at hx; omega
  | succ m ih => unfold soak32; exact stirTo_words 32 _ 8 (by rw [take32_length]; exact soak32_length BL m) (take32_words BL _ _ 4 ih hB)
set_option maxHeartbeats 4000000 in
theorem whole_32 (s : ByteArray) (w : World) (hs : s.size ≤ 400) (hT : Turns32 w) (hw : 1 < w.heap.size) :
    Calls Tryz.prog 245 #[.string s] w fun e w' => e = .returned (.string (textOf (outs 4 (soak32 (padRow s ((s.size / 16 + 1) * 16)) (s.size / 16 + 1)) 16))) ∧ Below w.heap.size w w' := by
  have HT := hide hT
  have HS := hide hs
  clear hT hs
  obtain ⟨sk, HSK⟩ : ∃ F, Hid (soak32 = F) := ⟨_, rfl⟩
  obtain ⟨tx, HTE⟩ : ∃ F : List Nat → ByteArray, Hid (∀ L, textOf (outs 4 L 16) = F L) := ⟨_, fun _ => rfl⟩
  have HS0 : Hid (∀ BL, sk BL 0 = soak32 BL 0) := fun BL => by rw [← HSK.out]
  have HSS : Hid (∀ BL m, sk BL (m + 1) = stirTo 32 (take32 BL (m * 16) (sk BL m) 4) 8) := fun BL m => by rw [← HSK.out]; exact soak32_succ BL m
  have HSL : Hid (∀ BL m, (sk BL m).length = 8) := fun BL m => by rw [← HSK.out]; exact soak32_length BL m
  have HSW : Hid (∀ BL, (∀ i, at0 BL i < 256) → ∀ m, Words 32 (sk BL m)) := fun BL h m => by rw [← HSK.out]; exact soak32_words BL h m
  rw [HTE.out, HSK.out]
  go_enter Tryz.func245, Tryz.ntmps245
  go_wp2_with fail
  have R0 : Hid (RowK (w.alloc (.cells #[.int .u32 1, .int .u32 2, .int .u32 3, .int .u32 4, .int .u32 5, .int .u32 6, .int .u32 7, .int .u32 8] 358)) w.heap.size .u32 358 (sk (padRow s ((s.size / 16 + 1) * 16)) 0)) := by
    rw [HS0.out, soak32_zero]; exact heap_alloc_new _ _
  have B0 := hide ((Below.refl w.heap.size w).alloc (Nat.le_refl _) (.cells #[.int .u32 1, .int .u32 2, .int .u32 3, .int .u32 4, .int .u32 5, .int .u32 6, .int .u32 7, .int .u32 8] 358))
  have hz0 : (w.alloc (.cells #[.int .u32 1, .int .u32 2, .int .u32 3, .int .u32 4, .int .u32 5, .int .u32 6, .int .u32 7, .int .u32 8] 358)).heap.size = w.heap.size + 1 := by simp
  generalize hW0 : w.alloc (.cells #[.int .u32 1, .int .u32 2, .int .u32 3, .int .u32 4, .int .u32 5, .int .u32 6, .int .u32 7, .int .u32 8] 358) = W0 at R0 B0 hz0 ⊢
  clear hW0
  refine (size_32 _).mono ?_
  rintro e w1 ⟨rfl, rfl⟩
  go_wp2_with fail
  refine (padded_16 s _ HS.out).mono ?_
  rintro e w2 ⟨rfl, hr2, hb2⟩
  have R2 := hide (R0.out.below hb2 R0.out.lt)
  have P2 := hide hr2
  have B2 := hide (B0.out.trans (hb2.mono (by omega)))
  have HGH : Hid (w1.heap.size = w.heap.size + 1) := hz0
  have HK : Hid (s.size / 16 + 1 ≤ 26) := by unfold Hid; have := HS.out; omega
  have HB8 := hide (pad_small s ((s.size / 16 + 1) * 16))
  have HPL : Hid ((padRow s ((s.size / 16 + 1) * 16)).length = (s.size / 16 + 1) * 16) := padRow_length s _ (by omega)
  clear hr2 hb2 R0 B0 hz0
  obtain ⟨k, hk⟩ : ∃ k, k = s.size / 16 + 1 := ⟨_, rfl⟩
  obtain ⟨BL, hBL⟩ : ∃ BL, BL = padRow s ((s.size / 16 + 1) * 16) := ⟨_, rfl⟩
  obtain ⟨h, hh⟩ : ∃ h, h = w1.heap.size := ⟨_, rfl⟩
  obtain ⟨g, hg⟩ : ∃ g, g = w.heap.size := ⟨_, rfl⟩
  rw [← hBL] at HB8 HPL P2 R2
  rw [← hk] at HPL HK
  rw [← hh] at HGH P2
  rw [← hg] at HGH R2 B2 hw
  have HKE := hide hk
  have HBLE := hide hBL
  have HGE := hide hg
  rw [← hk, ← hh, ← hg]
  clear hk hh hg hBL
  go_wp2
  go_loopw [5] (fun v wr => ∃ (m : Nat) (p : Option Addr), m ≤ k ∧ v = .slice p ((k - m) * 16) ((k - m) * 16) ∧ (m < k → p = some ⟨h, m * 16, none⟩) ∧ Hid (RowK wr g .u32 358 (sk BL m)) ∧ Hid (RowK wr h .u8 5 BL) ∧ Hid (Below g w wr)) (fun v _ => sliceLen32 v)
  case atStart => exact ⟨0, _, by omega, by simp; rfl, fun _ => by simp, R2, P2, B2⟩
  case round =>
    obtain ⟨m, p, hm, rfl, hp, hr, hpr, hb⟩ := hrel
    by_cases hlt : m < k
    · obtain rfl := hp hlt
      obtain ⟨q, rfl⟩ : ∃ q, k = m + q + 1 := ⟨k - m - 1, by omega⟩
      rw [show m + q + 1 - m = q + 1 by omega]
      have HSM : Hid (sk BL (m + 1) = stirTo 32 (take32 BL (m * 16) (sk BL m) 4) 8) := HSS.out BL m
      have hl := HSL.out BL m
      have hwd := HSW.out BL HB8.out m
      have hlt4 : (take32 BL (m * 16) (sk BL m) 4).length = 8 := by rw [take32_length]; exact hl
      have hw4 := take32_words BL (m * 16) (sk BL m) 4 hwd HB8.out
      have HTK := hide (fun w' (h1 : RowK w' g .u32 358 (sk BL m)) (h2 : RowK w' h .u8 5 BL) => take_32 g h (m * 16) ((q + 1) * 16) (sk BL m) BL w' h1 hl hwd h2 (by rw [HPL.out]; omega) HB8.out (by omega) (by rw [HGH.out]; omega))
      have HST := hide (fun w' (h1 : RowK w' g .u32 358 (take32 BL (m * 16) (sk BL m) 4)) (h2 : Turns32 w') => stir_32 g (take32 BL (m * 16) (sk BL m) 4) w' h1 hlt4 hw4 h2 hw)
      clear hl hwd hlt4 hw4
      go_wp2_with fail
      refine (HTK.out _ hr.out hpr.out).mono ?_
      rintro e w3 ⟨rfl, hr3, ho3⟩
      have R3 := hide hr3
      have O3 := hide ho3
      clear hr3 ho3 HTK
      go_wp2_with fail
      refine (HST.out _ R3.out (fun i hi => (O3.out.cell (by simp; omega)).trans ((hb.out.cell (by simpa using hw)).trans (HT.out i hi)))).mono ?_
      rintro e w4 ⟨rfl, hr4, ho4⟩
      rw [← HSM.out] at hr4
      have R4 := hide hr4
      have O4 := hide (O3.out.trans ho4)
      have P4 := hide (O4.out.row hpr.out (by rw [HGH.out]; omega))
      have B4 := hide (O4.out.below hb.out (Nat.le_refl g))
      clear hr4 ho4 HST HSM O3 O4 R3 hr hpr hb
      by_cases hq : q = 0
      · subst hq
        go_wp2
        go_roundw
        case rel => exact ⟨.slice (some ⟨h, m * 16, none⟩) 0 0, _, _, _, _, _, _, _, _, _, _, _, ⟨m + 1, some ⟨h, m * 16, none⟩, by omega, by rw [show m + 0 + 1 - (m + 1) = 0 by omega, Nat.zero_mul], fun h => absurd h (by omega), R4, P4, B4⟩, rfl⟩
        case measure => simp [sliceLen32]
      · go_wp2
        go_roundw
        case rel => exact ⟨m + 1, _, by omega, by rw [show m + q + 1 - (m + 1) = q by omega, show (q + 1) * 16 - 16 = q * 16 by omega], fun _ => by rw [show (m + 1) * 16 = m * 16 + 16 by omega], R4, P4, B4⟩
        case measure => simp [sliceLen32]; omega
    · obtain rfl : m = k := by omega
      rw [show (m - m) * 16 = 0 by simp]
      have HT0 := text_32 g (sk BL m) wr hr.out (HSL.out BL m) (HSW.out BL HB8.out m)
      rw [HTE.out] at HT0
      have HTX := hide HT0
      clear HT0
      have HLT := hide hr.out.lt
      go_wp2_with fail
      refine HTX.out.mono ?_
      rintro e w5 ⟨rfl, hb5⟩
      have B5 := hide (hb.out.trans (hb5.mono (Nat.le_of_lt HLT.out)))
      clear hb5 HTX
      go_wp2
      go_ret
      refine ⟨?_, ?_⟩
      · rw [← HBLE.out, ← HKE.out]; rfl
      · rw [← HGE.out]; exact B5.out
end Go.Proofs.YtgaoeoijdpdjiabGreatDoor

namespace Go.Proofs.YtgaoeoijdpdjiabGreatDoor
open Go.RowKit
def sliceLen64 : Value → Nat | .slice _ n _ => n | _ => 0
/-- The words behind m blocks. -/
def soak64 (BL : List Nat) : Nat → List Nat
  | 0 => [1, 2, 3, 4, 5, 6, 7, 8]
  | m + 1 => stirTo 64 (take64 BL (m * 32) (soak64 BL m) 4) 8
theorem soak64_zero (BL : List Nat) : soak64 BL 0 = [1, 2, 3, 4, 5, 6, 7, 8] := rfl
theorem soak64_succ (BL : List Nat) (m : Nat) : soak64 BL (m + 1) = stirTo 64 (take64 BL (m * 32) (soak64 BL m) 4) 8 := by rw [soak64]
theorem soak64_length (BL : List Nat) (m : Nat) : (soak64 BL m).length = 8 := by
  induction m with
  | zero => rfl
  | succ m ih => unfold soak64; rw [stirTo_length _ _ _ (by rw [take64_length]; exact ih)]
theorem soak64_words (BL : List Nat) (hB : ∀ i, at0 BL i < 256) (m : Nat) : Words 64 (soak64 BL m) := by
  induction m with
  | zero => intro x hx; simp [soak64] at hx; omega
  | succ m ih => unfold soak64; exact stirTo_words 64 _ 8 (by rw [take64_length]; exact soak64_length BL m) (take64_words BL _ _ 4 ih hB)
set_option maxHeartbeats 4000000 in
theorem whole_64 (s : ByteArray) (w : World) (hs : s.size ≤ 400) (hT : Turns64 w) (hw : 1 < w.heap.size) :
    Calls Tryz.prog 246 #[.string s] w fun e w' => e = .returned (.string (textOf (outs 8 (soak64 (padRow s ((s.size / 32 + 1) * 32)) (s.size / 32 + 1)) 32))) ∧ Below w.heap.size w w' := by
  have HT := hide hT
  have HS := hide hs
  clear hT hs
  obtain ⟨sk, HSK⟩ : ∃ F, Hid (soak64 = F) := ⟨_, rfl⟩
  obtain ⟨tx, HTE⟩ : ∃ F : List Nat → ByteArray, Hid (∀ L, textOf (outs 8 L 32) = F L) := ⟨_, fun _ => rfl⟩
  have HS0 : Hid (∀ BL, sk BL 0 = soak64 BL 0) := fun BL => by rw [← HSK.out]
  have HSS : Hid (∀ BL m, sk BL (m + 1) = stirTo 64 (take64 BL (m * 32) (sk BL m) 4) 8) := fun BL m => by rw [← HSK.out]; exact soak64_succ BL m
  have HSL : Hid (∀ BL m, (sk BL m).length = 8) := fun BL m => by rw [← HSK.out]; exact soak64_length BL m
  have HSW : Hid (∀ BL, (∀ i, at0 BL i < 256) → ∀ m, Words 64 (sk BL m)) := fun BL h m => by rw [← HSK.out]; exact soak64_words BL h m
  rw [HTE.out, HSK.out]
  go_enter Tryz.func246, Tryz.ntmps246
  go_wp2_with fail
  have R0 : Hid (RowK (w.alloc (.cells #[.int .u64 1, .int .u64 2, .int .u64 3, .int .u64 4, .int .u64 5, .int .u64 6, .int .u64 7, .int .u64 8] 361)) w.heap.size .u64 361 (sk (padRow s ((s.size / 32 + 1) * 32)) 0)) := by
    rw [HS0.out, soak64_zero]; exact heap_alloc_new _ _
  have B0 := hide ((Below.refl w.heap.size w).alloc (Nat.le_refl _) (.cells #[.int .u64 1, .int .u64 2, .int .u64 3, .int .u64 4, .int .u64 5, .int .u64 6, .int .u64 7, .int .u64 8] 361))
  have hz0 : (w.alloc (.cells #[.int .u64 1, .int .u64 2, .int .u64 3, .int .u64 4, .int .u64 5, .int .u64 6, .int .u64 7, .int .u64 8] 361)).heap.size = w.heap.size + 1 := by simp
  generalize hW0 : w.alloc (.cells #[.int .u64 1, .int .u64 2, .int .u64 3, .int .u64 4, .int .u64 5, .int .u64 6, .int .u64 7, .int .u64 8] 361) = W0 at R0 B0 hz0 ⊢
  clear hW0
  refine (size_64 _).mono ?_
  rintro e w1 ⟨rfl, rfl⟩
  go_wp2_with fail
  refine (padded_32 s _ HS.out).mono ?_
  rintro e w2 ⟨rfl, hr2, hb2⟩
  have R2 := hide (R0.out.below hb2 R0.out.lt)
  have P2 := hide hr2
  have B2 := hide (B0.out.trans (hb2.mono (by omega)))
  have HGH : Hid (w1.heap.size = w.heap.size + 1) := hz0
  have HK : Hid (s.size / 32 + 1 ≤ 13) := by unfold Hid; have := HS.out; omega
  have HB8 := hide (pad_small s ((s.size / 32 + 1) * 32))
  have HPL : Hid ((padRow s ((s.size / 32 + 1) * 32)).length = (s.size / 32 + 1) * 32) := padRow_length s _ (by omega)
  clear hr2 hb2 R0 B0 hz0
  obtain ⟨k, hk⟩ : ∃ k, k = s.size / 32 + 1 := ⟨_, rfl⟩
  obtain ⟨BL, hBL⟩ : ∃ BL, BL = padRow s ((s.size / 32 + 1) * 32) := ⟨_, rfl⟩
  obtain ⟨h, hh⟩ : ∃ h, h = w1.heap.size := ⟨_, rfl⟩
  obtain ⟨g, hg⟩ : ∃ g, g = w.heap.size := ⟨_, rfl⟩
  rw [← hBL] at HB8 HPL P2 R2
  rw [← hk] at HPL HK
  rw [← hh] at HGH P2
  rw [← hg] at HGH R2 B2 hw
  have HKE := hide hk
  have HBLE := hide hBL
  have HGE := hide hg
  rw [← hk, ← hh, ← hg]
  clear hk hh hg hBL
  go_wp2
  go_loopw [5] (fun v wr => ∃ (m : Nat) (p : Option Addr), m ≤ k ∧ v = .slice p ((k - m) * 32) ((k - m) * 32) ∧ (m < k → p = some ⟨h, m * 32, none⟩) ∧ Hid (RowK wr g .u64 361 (sk BL m)) ∧ Hid (RowK wr h .u8 5 BL) ∧ Hid (Below g w wr)) (fun v _ => sliceLen64 v)
  case atStart => exact ⟨0, _, by omega, by simp; rfl, fun _ => by simp, R2, P2, B2⟩
  case round =>
    obtain ⟨m, p, hm, rfl, hp, hr, hpr, hb⟩ := hrel
    by_cases hlt : m < k
    · obtain rfl := hp hlt
      obtain ⟨q, rfl⟩ : ∃ q, k = m + q + 1 := ⟨k - m - 1, by omega⟩
      rw [show m + q + 1 - m = q + 1 by omega]
      have HSM : Hid (sk BL (m + 1) = stirTo 64 (take64 BL (m * 32) (sk BL m) 4) 8) := HSS.out BL m
      have hl := HSL.out BL m
      have hwd := HSW.out BL HB8.out m
      have hlt4 : (take64 BL (m * 32) (sk BL m) 4).length = 8 := by rw [take64_length]; exact hl
      have hw4 := take64_words BL (m * 32) (sk BL m) 4 hwd HB8.out
      have HTK := hide (fun w' (h1 : RowK w' g .u64 361 (sk BL m)) (h2 : RowK w' h .u8 5 BL) => take_64 g h (m * 32) ((q + 1) * 32) (sk BL m) BL w' h1 hl hwd h2 (by rw [HPL.out]; omega) HB8.out (by omega) (by rw [HGH.out]; omega))
      have HST := hide (fun w' (h1 : RowK w' g .u64 361 (take64 BL (m * 32) (sk BL m) 4)) (h2 : Turns64 w') => stir_64 g (take64 BL (m * 32) (sk BL m) 4) w' h1 hlt4 hw4 h2 hw)
      clear hl hwd hlt4 hw4
      go_wp2_with fail
      refine (HTK.out _ hr.out hpr.out).mono ?_
      rintro e w3 ⟨rfl, hr3, ho3⟩
      have R3 := hide hr3
      have O3 := hide ho3
      clear hr3 ho3 HTK
      go_wp2_with fail
      refine (HST.out _ R3.out (fun i hi => (O3.out.cell (by simp; omega)).trans ((hb.out.cell (by simpa using hw)).trans (HT.out i hi)))).mono ?_
      rintro e w4 ⟨rfl, hr4, ho4⟩
      rw [← HSM.out] at hr4
      have R4 := hide hr4
      have O4 := hide (O3.out.trans ho4)
      have P4 := hide (O4.out.row hpr.out (by rw [HGH.out]; omega))
      have B4 := hide (O4.out.below hb.out (Nat.le_refl g))
      clear hr4 ho4 HST HSM O3 O4 R3 hr hpr hb
      by_cases hq : q = 0
      · subst hq
        go_wp2
        go_roundw
        case rel => exact ⟨.slice (some ⟨h, m * 32, none⟩) 0 0, _, _, _, _, _, _, _, _, _, _, _, ⟨m + 1, some ⟨h, m * 32, none⟩, by omega, by rw [show m + 0 + 1 - (m + 1) = 0 by omega, Nat.zero_mul], fun h => absurd h (by omega), R4, P4, B4⟩, rfl⟩
        case measure => simp [sliceLen64]
      · go_wp2
        go_roundw
        case rel => exact ⟨m + 1, _, by omega, by rw [show m + q + 1 - (m + 1) = q by omega, show (q + 1) * 32 - 32 = q * 32 by omega], fun _ => by rw [show (m + 1) * 32 = m * 32 + 32 by omega], R4, P4, B4⟩
        case measure => simp [sliceLen64]; omega
    · obtain rfl : m = k := by omega
      rw [show (m - m) * 32 = 0 by simp]
      have HT0 := text_64 g (sk BL m) wr hr.out (HSL.out BL m) (HSW.out BL HB8.out m)
      rw [HTE.out] at HT0
      have HTX := hide HT0
      clear HT0
      have HLT := hide hr.out.lt
      go_wp2_with fail
      refine HTX.out.mono ?_
      rintro e w5 ⟨rfl, hb5⟩
      have B5 := hide (hb.out.trans (hb5.mono (Nat.le_of_lt HLT.out)))
      clear hb5 HTX
      go_wp2
      go_ret
      refine ⟨?_, ?_⟩
      · rw [← HBLE.out, ← HKE.out]; rfl
      · rw [← HGE.out]; exact B5.out
end Go.Proofs.YtgaoeoijdpdjiabGreatDoor

namespace Go.Proofs.YtgaoeoijdpdjiabGreatDoor
open Go.RowKit
def whole32 (s : ByteArray) : ByteArray := textOf (outs 4 (soak32 (padRow s ((s.size / 16 + 1) * 16)) (s.size / 16 + 1)) 16)
def whole64 (s : ByteArray) : ByteArray := textOf (outs 8 (soak64 (padRow s ((s.size / 32 + 1) * 32)) (s.size / 32 + 1)) 32)
theorem whole32_size (s : ByteArray) : (whole32 s).size = 16 := by unfold whole32; rw [textOf_size, outs_length]
theorem whole64_size (s : ByteArray) : (whole64 s).size = 32 := by unfold whole64; rw [textOf_size, outs_length]
theorem whole32_at (s : ByteArray) (w : World) (hs : s.size ≤ 400) (hT : Turns32 w) (hw : 1 < w.heap.size) :
    Calls Tryz.prog 245 #[.string s] w fun e w' => e = .returned (.string (whole32 s)) ∧ Below w.heap.size w w' := whole_32 s w hs hT hw
theorem whole64_at (s : ByteArray) (w : World) (hs : s.size ≤ 400) (hT : Turns64 w) (hw : 1 < w.heap.size) :
    Calls Tryz.prog 246 #[.string s] w fun e w' => e = .returned (.string (whole64 s)) ∧ Below w.heap.size w w' := whole_64 s w hs hT hw
theorem of_arg (kind n : Int) (s : ByteArray) (w : World) (h : ¬ ((kind = 1 ∨ kind = 2) ∧ 1 ≤ n ∧ n ≤ 16)) :
    Calls Tryz.prog 169 #[.int .i64 kind, .int .i64 n, .string s] w fun e w' => e = .returned (.tuple #[.string ⟨#[]⟩, .int .i64 2]) ∧ w' = w := by
  by_cases h1 : kind = 1
  · subst h1
    by_cases h2 : n < 1
    · go_enter Tryz.func169, Tryz.ntmps169
      go_wp2
      go_ret2
      exact ⟨rfl, rfl⟩
    · have h3 : 16 < n := by omega
      go_enter Tryz.func169, Tryz.ntmps169
      go_wp2
      go_ret2
      exact ⟨rfl, rfl⟩
  · by_cases h1' : kind = 2
    · subst h1'
      by_cases h2 : n < 1
      · go_enter Tryz.func169, Tryz.ntmps169
        go_wp2
        go_ret2
        exact ⟨rfl, rfl⟩
      · have h3 : 16 < n := by omega
        go_enter Tryz.func169, Tryz.ntmps169
        go_wp2
        go_ret2
        exact ⟨rfl, rfl⟩
    · go_enter Tryz.func169, Tryz.ntmps169
      go_wp2
      go_ret2
      exact ⟨rfl, rfl⟩
theorem of_long (kind n : Int) (s : ByteArray) (w : World) (h1 : kind = 1 ∨ kind = 2) (h2 : 1 ≤ n) (h3 : n ≤ 16) (hs : 400 < s.size) :
    Calls Tryz.prog 169 #[.int .i64 kind, .int .i64 n, .string s] w fun e w' => e = .returned (.tuple #[.string ⟨#[]⟩, .int .i64 3]) ∧ w' = w := by
  rcases h1 with rfl | rfl
  · go_enter Tryz.func169, Tryz.ntmps169
    go_wp2
    go_ret2
    exact ⟨rfl, rfl⟩
  · go_enter Tryz.func169, Tryz.ntmps169
    go_wp2
    go_ret2
    exact ⟨rfl, rfl⟩
theorem of_32 (n : Nat) (s : ByteArray) (w : World) (h2 : 1 ≤ n) (h3 : n ≤ 16) (hs : s.size ≤ 400) (hT : Turns32 w) (hw : 1 < w.heap.size) :
    Calls Tryz.prog 169 #[.int .i64 1, .int .i64 (n : Int), .string s] w fun e w' => e = .returned (.tuple #[.string ((whole32 s).extract 0 n), .int .i64 0]) ∧ Below w.heap.size w w' := by
  have HW := hide (whole32_at s w hs hT hw)
  have hz := whole32_size s
  clear hT
  go_enter Tryz.func169, Tryz.ntmps169
  go_wp2_with fail
  refine HW.out.mono ?_
  rintro e w1 ⟨rfl, hb⟩
  go_wp2
  go_ret2
  exact ⟨rfl, hb⟩
theorem of_64 (n : Nat) (s : ByteArray) (w : World) (h2 : 1 ≤ n) (h3 : n ≤ 16) (hs : s.size ≤ 400) (hT : Turns64 w) (hw : 1 < w.heap.size) :
    Calls Tryz.prog 169 #[.int .i64 2, .int .i64 (n : Int), .string s] w fun e w' => e = .returned (.tuple #[.string ((whole64 s).extract 0 n), .int .i64 0]) ∧ Below w.heap.size w w' := by
  have HW := hide (whole64_at s w hs hT hw)
  have hz := whole64_size s
  clear hT
  go_enter Tryz.func169, Tryz.ntmps169
  go_wp2_with fail
  refine HW.out.mono ?_
  rintro e w1 ⟨rfl, hb⟩
  go_wp2
  go_ret2
  exact ⟨rfl, hb⟩
/-- What signet.Digest answers. -/
def digAns (kind n : Int) (s : ByteArray) : ByteArray × Int :=
  if (kind = 1 ∨ kind = 2) ∧ 1 ≤ n ∧ n ≤ 16 then (if s.size ≤ 400 then (if kind = 1 then ((whole32 s).extract 0 n.toNat, 0) else ((whole64 s).extract 0 n.toNat, 0)) else (⟨#[]⟩, 3)) else (⟨#[]⟩, 2)
theorem of_ans (kind n : Int) (s : ByteArray) (w : World) (h3 : Turns32 w) (h6 : Turns64 w) (hw : 1 < w.heap.size) :
    Calls Tryz.prog 169 #[.int .i64 kind, .int .i64 n, .string s] w fun e w' => e = .returned (.tuple #[.string (digAns kind n s).1, .int .i64 (digAns kind n s).2]) ∧ Below w.heap.size w w' := by
  by_cases h : (kind = 1 ∨ kind = 2) ∧ 1 ≤ n ∧ n ≤ 16
  · obtain ⟨hk, h1, h2⟩ := h
    by_cases hs : s.size ≤ 400
    · obtain ⟨m, rfl⟩ : ∃ m : Nat, n = (m : Int) := ⟨n.toNat, by omega⟩
      rcases hk with rfl | rfl
      · refine (of_32 m s w (by omega) (by omega) hs h3 hw).mono ?_
        rintro e w' ⟨rfl, hb⟩
        exact ⟨by simp [digAns, h1, h2, hs], hb⟩
      · refine (of_64 m s w (by omega) (by omega) hs h6 hw).mono ?_
        rintro e w' ⟨rfl, hb⟩
        exact ⟨by simp [digAns, h1, h2, hs], hb⟩
    · refine (of_long kind n s w hk h1 h2 (by omega)).mono ?_
      rintro e w' ⟨rfl, rfl⟩
      exact ⟨by simp [digAns, hk, h1, h2, hs], Below.refl _ _⟩
  · refine (of_arg kind n s w h).mono ?_
    rintro e w' ⟨rfl, rfl⟩
    exact ⟨by rw [digAns, if_neg h], Below.refl _ _⟩
end Go.Proofs.YtgaoeoijdpdjiabGreatDoor

namespace Go.Proofs.YtgaoeoijdpdjiabGreatDoor
open Go.RowKit
/-- The table of turns lies where the program reads it. -/
def Tn (w : World) : Prop := Turns32 w ∧ Turns64 w ∧ 1 < w.heap.size
theorem Tn.below {w w' : World} {B : Nat} (h : Tn w) (hb : Below B w w') (hB : 1 < B) : Tn w' := by
  obtain ⟨h3, h6, hw⟩ := h
  have hs := hb.size
  exact ⟨fun i hi => (hb.cell (p := ⟨1, i, none⟩) hB).trans (h3 i hi), fun i hi => (hb.cell (p := ⟨1, i, none⟩) hB).trans (h6 i hi), by omega⟩
theorem Tn.pos {w : World} (h : Tn w) : 1 < w.heap.size := h.2.2
theorem Tn.on {w w' : World} (h : Tn w) (hb : Below w.heap.size w w') : Tn w' := h.below hb h.pos
theorem Tn.alloc {w : World} (h : Tn w) (o : Obj) : Tn (w.alloc o) := h.on ((Below.refl _ _).alloc (Nat.le_refl _) o)
/-- The digest of a text, for words of the kind k, of b bytes. -/
def hv (k b : Int) (s : ByteArray) : ByteArray := (digAns k b s).1
theorem of_hv (k b : Int) (s : ByteArray) (w : World) (hk : k = 1 ∨ k = 2) (h1 : 1 ≤ b) (h2 : b ≤ 16) (hs : s.size ≤ 400) (hT : Tn w) :
    Calls Tryz.prog 169 #[.int .i64 k, .int .i64 b, .string s] w fun e w' => e = .returned (.tuple #[.string (hv k b s), .int .i64 0]) ∧ Below w.heap.size w w' := by
  refine (of_ans k b s w hT.1 hT.2.1 hT.2.2).mono ?_
  rintro e w' ⟨rfl, hb⟩
  refine ⟨?_, hb⟩
  have : (digAns k b s).2 = 0 := by
    unfold digAns
    rcases hk with rfl | rfl <;> simp [h1, h2, hs]
  rw [this]; rfl
theorem hv_size (k b : Int) (s : ByteArray) (hk : k = 1 ∨ k = 2) (h1 : 1 ≤ b) (h2 : b ≤ 16) (hs : s.size ≤ 400) : ((hv k b s).size : Int) = b := by
  unfold hv digAns
  have h3 := whole32_size s
  have h6 := whole64_size s
  rcases hk with rfl | rfl <;> simp [h1, h2, hs, ByteArray.size_extract, h3, h6] <;> omega
set_option maxHeartbeats 1000000 in
theorem value_any (k b x t l tag : Int) (bk o c : Nat) (xs : List ByteArray) (w : World) (hcells : ∀ (j : Nat) y, xs[j]? = some y → w.cell? ⟨bk, o + j, none⟩ = some (.string y)) (hbk : bk < w.heap.size) (hcap : xs.length ≤ c) (hN : xs.length ≤ 1000)
    (hk : k = 1 ∨ k = 2) (h1 : 1 ≤ b) (h2 : b ≤ 16) (hs : (cat xs).size ≤ 399) (hT : Tn w) :
    Calls Tryz.prog 248 #[.agg #[.int .i64 k, .int .i64 b, .int .i64 x, .int .i64 t, .int .i64 l], .int .i64 tag, .slice (some ⟨bk, o, none⟩) xs.length c] w fun e w' => e = .returned (.string (hv k b (numB 1 tag ++ cat xs))) ∧ Below w.heap.size w w' := by
  have HN := hide (fun w' : World => number_any 1 tag w' (by decide))
  have HJ := hide (fun (w' : World) (hb : Below (w.heap.size + 1) (w.alloc (.cells #[.int .i64 k, .int .i64 b, .int .i64 x, .int .i64 t, .int .i64 l] 26)) w') => join_any bk o c xs w' (fun j y h => (hb.cell (p := ⟨bk, o + j, none⟩) (by show bk < w.heap.size + 1; omega)).trans ((World.cell?_alloc_past _ _ _ hbk).trans (hcells j y h))) (by have := hb.size; simp at this; omega) hN hcap (by omega))
  have HO := hide (fun (w' : World) (hb : Below (w.heap.size + 1) (w.alloc (.cells #[.int .i64 k, .int .i64 b, .int .i64 x, .int .i64 t, .int .i64 l] 26)) w') => of_hv k b (numB 1 tag ++ cat xs) w' hk h1 h2 (by rw [ByteArray.size_append, numB_size]; omega) ((hT.alloc _).below hb (by omega)))
  clear hcells hT
  have hcc : ∀ w : World, (Op.stringOp .add (numB 1 tag) (cat xs)).run Tryz.prog w = .ok (.string (numB 1 tag ++ cat xs)) w := fun w => run_string_add w _ _ (by rw [numB_size]; omega) (by omega)
  go_enter Tryz.func248, Tryz.ntmps248
  go_wp2_with fail
  go_region_held3 (fun w' => w'.cell? ⟨w.heap.size, 0, none⟩ = some (.int .i64 k) ∧ w'.cell? ⟨w.heap.size, 1, none⟩ = some (.int .i64 b) ∧ Below (w.heap.size + 1) (w.alloc (.cells #[.int .i64 k, .int .i64 b, .int .i64 x, .int .i64 t, .int .i64 l] 26)) w') (first | exact hS3 | exact hS2 | exact hS1 | exact ⟨by simp [go_sem], by simp [go_sem], (Below.refl _ _).drew⟩) (first | (go_at_call 160; refine (HN.out _).mono ?_; rintro e w1 ⟨rfl, hb1⟩; have hS1 := held2 (by assumption) hb1 (by simp) (by simp) (by simp)) | (go_at_call 161; refine (HJ.out _ hS1.2.2).mono ?_; rintro e w2 ⟨rfl, hb2⟩; have hS2 := held2 hS1 hb2 (by simp) (by simp) (by simp)) | (go_at_call 169; refine (HO.out _ hS2.2.2).mono ?_; rintro e w3 ⟨rfl, hb3⟩; have hS3 := held2 hS2 hb3 (by simp) (by simp) (by simp)))
  go_wp2
  go_ret
  exact ⟨rfl, ((Below.refl _ _).alloc (Nat.le_refl _) _).trans (hS3.2.2.mono (by omega))⟩
end Go.Proofs.YtgaoeoijdpdjiabGreatDoor

namespace Go.Proofs.YtgaoeoijdpdjiabGreatDoor
open Go.RowKit
/-- The key's text of a set. -/
def headS (k b x t l : Int) : ByteArray := numB 1 k ++ numB 1 b ++ numB 1 x ++ numB 1 t ++ numB 1 l
theorem headS_size (k b x t l : Int) : (headS k b x t l).size = 5 := by simp only [headS, ByteArray.size_append, numB_size]
end Go.Proofs.YtgaoeoijdpdjiabGreatDoor

namespace Go.Proofs.YtgaoeoijdpdjiabGreatDoor
open Go.ChangeShapes Go.WideShapes Go.ChangeAt Go.RowKit
open Go.ChangeMaps (open_string shut_string)
set_option maxRecDepth 100000 in
theorem open_seedsM {H : Type} {enc : TypeId × Value → H} {W : World} {base b0 : Nat} {sp : Nat → Bool} {held : Bool} {r : Reach} {v : Value} {d : DataW H} {p : List MemPlace}
    (hv : Value.okWide Tryz.prog W r b0 42 v) (h : DataW.Trod enc Tryz.prog W base sp held 42 v d p) :
    ∃ a b c : ByteArray, v = .agg #[.string a, .string b, .string c] ∧ a.size ≤ maxLen ∧ b.size ≤ maxLen ∧ c.size ≤ maxLen := by
  obtain ⟨cs, rfl, hsz⟩ := okWide_struct Tryz.underlying42 hv
  obtain ⟨c0, c1, c2, rfl⟩ := array3 (hsz.trans cellsSeeds)
  obtain ⟨fuel, hf⟩ := h
  obtain ⟨xs, n, _, _, _, hlen, hfs⟩ := DataW.trod_struct Tryz.underlying42 hf
  simp at hlen
  have g0 : DataW.trod enc Tryz.prog W base sp held n 9 [c0] = xs[0]? := by simpa [Value.cells, cellsStr] using hfs 0 _ rfl
  have g1 : DataW.trod enc Tryz.prog W base sp held n 9 [c1] = xs[1]? := by simpa [Value.cells, cellsStr] using hfs 1 _ rfl
  have g2 : DataW.trod enc Tryz.prog W base sp held n 9 [c2] = xs[2]? := by simpa [Value.cells, cellsStr] using hfs 2 _ rfl
  rw [List.getElem?_eq_getElem (by omega)] at g0 g1 g2
  obtain ⟨k, e0, _, m0⟩ := DataW.trod_string Tryz.underlying9 g0
  obtain ⟨b, e1, _, m1⟩ := DataW.trod_string Tryz.underlying9 g1
  obtain ⟨x, e2, _, m2⟩ := DataW.trod_string Tryz.underlying9 g2
  simp at e0 e1 e2
  subst e0 e1 e2
  exact ⟨k, b, x, rfl, m0, m1, m2⟩
end Go.Proofs.YtgaoeoijdpdjiabGreatDoor
