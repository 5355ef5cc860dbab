/-
  The document's digested over words of 32 bits. The document's digested over words of 64 bits.
-/
import Derived.Test.YtgaoeoijdpdjiaaGreatDoorPart18
import Derived.Test.YtgaoeoijdpdjiaaGreatDoorPart17
import Derived.Test.YtgaoeoijdpdjiaaGreatDoorPart8
import Derived.Handy
namespace Go.Proofs.YtgaoeoijdpdjiaaGreatDoor
open Go.RowKit

theorem take32_succ (BL : List Nat) (o : Nat) (L : List Nat) (j : Nat) : take32 BL o L (j + 1) = (take32 BL o L j).set j (at0 (take32 BL o L j) j ^^^ beN BL (o + j * 4) 4) := by rw [take32]
theorem take32_zero (BL : List Nat) (o : Nat) (L : List Nat) : take32 BL o L 0 = L := by rw [take32]
theorem stirRef32 (L : List Nat) (hL : L.length = 8) : refTo 32 L 8 = stirTo 32 L 8 := stir_same 32 L hL

set_option maxRecDepth 20000 in
set_option maxHeartbeats 4000000 in
theorem digested_32 (n : Nat) (s : ByteArray) (w : World) (hn : 1 ≤ n) (hn2 : n ≤ 16) (hs : s.size ≤ 400) :
    Calls Tryz.prog 166 #[.int .i64 1, .int .i64 (n : Int), .string s] w fun e w' => e = .returned (.string (textOf (outs 4 (soak32 (padL s) (s.size / 16 + 1)) n))) ∧ Below w.heap.size w w' := by
  have HS := hide hs
  have HN := hide hn
  have HN2 := hide hn2
  clear hs hn hn2
  obtain ⟨sk, HSK⟩ : ∃ F, Hid (soak32 = F) := ⟨_, rfl⟩
  obtain ⟨tk, HTK⟩ : ∃ F, Hid (take32 = F) := ⟨_, rfl⟩
  obtain ⟨ou, HOU⟩ : ∃ F, Hid (outs = F) := ⟨_, rfl⟩
  have HS0 : Hid (∀ BL, sk BL 0 = [1, 2, 3, 4, 5, 6, 7, 8]) := fun BL => by rw [← HSK.out]; exact soak32_zero BL
  have HSS : Hid (∀ BL m, sk BL (m + 1) = stirTo 32 (tk BL (m * 16) (sk BL m) 4) 8) := fun BL m => by rw [← HSK.out, ← HTK.out]; exact soak32_succ BL m
  have HSL : Hid (∀ BL m, (sk BL m).length = 8) := fun BL m => by rw [← HSK.out]; exact soak32_length BL m
  have HSW : Hid (∀ BL, (∀ i, at0 BL i < 256) → ∀ m, Words 32 (sk BL m)) := fun BL h m => by rw [← HSK.out]; exact soak32_words BL h m
  have HT0 : Hid (∀ BL o L, tk BL o L 0 = L) := fun BL o L => by rw [← HTK.out]; exact take32_zero BL o L
  have HT1 : Hid (∀ BL o L j, tk BL o L (j + 1) = (tk BL o L j).set j (at0 (tk BL o L j) j ^^^ beN BL (o + j * 4) 4)) := fun BL o L j => by rw [← HTK.out]; exact take32_succ BL o L j
  have HTL : Hid (∀ BL o L j, (tk BL o L j).length = L.length) := fun BL o L j => by rw [← HTK.out]; exact take32_length BL o L j
  have HTW : Hid (∀ BL o L j, Words 32 L → (∀ i, at0 BL i < 256) → Words 32 (tk BL o L j)) := fun BL o L j h hB => by rw [← HTK.out]; exact take32_words BL o L j h hB
  have HOL : Hid (∀ n L m, (ou n L m).length = m) := fun n L m => by rw [← HOU.out]; exact outs_length n L m
  have HOS : Hid (∀ n L m, ou n L (m + 1) = ou n L m ++ [outB n L m]) := fun n L m => by rw [← HOU.out]; exact outs_succ n L m
  rw [HSK.out, HOU.out]
  go_enter Tryz.func166, Tryz.ntmps166
  go_wp2
  go_rounds 9
  have R0 : Hid (PoolAt (w.alloc (.cells #[.int .u64 1, .int .u64 2, .int .u64 3, .int .u64 4, .int .u64 5, .int .u64 6, .int .u64 7, .int .u64 8, .int .i64 32] 296)) w.heap.size 32 (sk (padL s) 0)) := by
    rw [HS0.out]; exact heap_alloc_new _ _
  have B0 := hide ((Below.refl w.heap.size w).alloc (Nat.le_refl _) (.cells #[.int .u64 1, .int .u64 2, .int .u64 3, .int .u64 4, .int .u64 5, .int .u64 6, .int .u64 7, .int .u64 8, .int .i64 32] 296))
  generalize hW0 : w.alloc (.cells #[.int .u64 1, .int .u64 2, .int .u64 3, .int .u64 4, .int .u64 5, .int .u64 6, .int .u64 7, .int .u64 8, .int .i64 32] 296) = W0 at R0 B0 ⊢
  clear hW0
  obtain ⟨g, hg⟩ : ∃ g, g = w.heap.size := ⟨_, rfl⟩
  rw [← hg] at R0 B0
  rw [← hg]
  have HGE := hide hg
  clear hg
  have HB8 := hide (fun i => padL_lt s i)
  have hz := HS.out
  go_loopw [10] (fun a wr => ∃ m : Nat, m ≤ s.size / 16 + 1 ∧ a = .int .i64 ((m : Int) * 4) ∧ Hid (PoolAt wr g 32 (sk (padL s) m)) ∧ Hid (Below g w wr)) (fun a _ => 500 - (intOf a).toNat)
  case atStart => exact ⟨0, by omega, by simp, R0, B0⟩
  case round =>
    obtain ⟨m, hm, rfl, hp, hb⟩ := hrel
    by_cases hlt : m ≤ s.size / 16
    · obtain ⟨wo, rfl⟩ : ∃ wo : World, wo = wr := ⟨_, rfl⟩
      have hda : decide ((m : Int) * 4 * 4 ≤ (s.size : Int)) = true := by simp; omega
      have hl := HSL.out (padL s) m
      have hwd := HSW.out (padL s) HB8.out m
      have HSM := hide (HSS.out (padL s) m)
      generalize sk (padL s) m = A at hp hl hwd HSM
      have HL := hide hl
      have HWD := hide hwd
      clear hl hwd
      go_wp2
      go_loopw [11] (fun i wr => ∃ j : Nat, j ≤ 4 ∧ i = .int .i64 j ∧ Hid (PoolAt wr g 32 (tk (padL s) (m * 16) A j)) ∧ Hid (Below g w wr)) (fun i _ => 4 - (intOf i).toNat)
      case atStart => exact ⟨0, by omega, rfl, by rw [HT0.out]; exact hp, hb⟩
      case round =>
        obtain ⟨j, hj, rfl, hp, hb⟩ := hrel
        by_cases hlt4 : j < 4
        · have hlen : (tk (padL s) (m * 16) A j).length = 8 := by rw [HTL.out]; exact HL.out
          have hwd := HTW.out (padL s) (m * 16) A j HWD.out HB8.out
          have HS4 := hide (HT1.out (padL s) (m * 16) A j)
          generalize tk (padL s) (m * 16) A j = K at hp hlen hwd HS4
          have HW := hide (fun w' : World => word_4 s (m * 4 + j) w' (by omega) (by omega))
          rw [show (m * 4 + j) * 4 = m * 16 + j * 4 by omega] at HW
          have d1 := hp.out.cell (i := j) (by omega)
          have f1 := hp.out.free j
          have x1 : at0 K j < 18446744073709551616 := Nat.lt_of_lt_of_le (hwd.at j) (by decide)
          have y1 : beN (padL s) (m * 16 + j * 4) 4 < 18446744073709551616 := Nat.lt_of_lt_of_le (beN_lt (padL s) (m * 16 + j * 4) 4 HB8.out) (by decide)
          have HXO := hide (u64_xor_nat (at0 K j) (beN (padL s) (m * 16 + j * 4) 4) x1 y1)
          have HLE := hide hlen
          generalize beN (padL s) (m * 16 + j * 4) 4 = v at HS4 HW y1 HXO
          generalize at0 K j = u at d1 x1 HXO HS4
          clear hlen hwd x1 y1
          have q1 : (j : Int) < 8 := by omega
          have hc : ((m * 4 + j : Nat) : Int) = (m : Int) * 4 + (j : Int) := by omega
          rw [hc] at HW
          clear hc
          go_wp2_with fail
          refine (HW.out _).mono ?_
          rintro e w3 ⟨rfl, rfl⟩
          clear HW
          go_wp2
          go_region
          go_wp2
          rw [HXO.out]
          go_roundw
          case rel =>
            refine ⟨j + 1, by omega, by go_num, ?_, ?_⟩
            · have h := hp.out.set j (u ^^^ v) (by have := HLE.out; omega)
              rw [← HS4.out] at h
              exact h
            · unfold Hid
              repeat (first | refine Below.drew ?_ | refine Below.setCell ?_ (Nat.le_refl g) _)
              exact hb.out
          case measure => simp [intOf]; omega
        · obtain rfl : j = 4 := by omega
          have HST := hide (stirred_32 g (tk (padL s) (m * 16) A 4) wr hp.out (by rw [HTL.out]; exact HL.out) (HTW.out (padL s) (m * 16) A 4 HWD.out HB8.out))
          go_wp2_with fail
          refine HST.out.mono ?_
          rintro e w4 ⟨rfl, hp4, ho4⟩
          clear HST
          rw [stirRef32 _ (by rw [HTL.out]; exact HL.out), ← HSM.out] at hp4
          have P4 := hide hp4
          have B4 := hide (ho4.below hb.out (Nat.le_refl g))
          clear hp4 ho4
          go_wp2
          go_roundw
          case rel => exact ⟨m + 1, by omega, by go_num, P4, B4⟩
          case measure => simp [intOf]; omega
    · obtain rfl : m = s.size / 16 + 1 := by omega
      have hl := HSL.out (padL s) (s.size / 16 + 1)
      have hwd := HSW.out (padL s) HB8.out (s.size / 16 + 1)
      generalize hLq : sk (padL s) (s.size / 16 + 1) = L at hp hl hwd ⊢
      have HLQ := hide hLq
      have HLL := hide hl
      have HWW := hide hwd
      clear hLq hl hwd
      have HGL := hide hp.out.lt
      obtain ⟨wo, rfl⟩ : ∃ wo : World, wo = wr := ⟨_, rfl⟩
      obtain ⟨i0, hi, hz0, hz1, hz2⟩ := info_parts infoByte
      go_wp2
      go_loopw [13, 14] (fun v i wr => ∃ a : Nat, a ≤ n ∧ i = .int .i64 a ∧ Hid (wr.ownsRow wo.heap.size 5 1 v a (cells8 (ou 4 L a))) ∧ Hid (Below wo.heap.size wo wr)) (fun _ i _ => 16 - (intOf i).toNat)
      case atStart => exact ⟨0, by omega, rfl, ⟨by simp [cells8, HOL.out], Or.inl ⟨rfl, rfl⟩⟩, Below.refl _ _⟩
      case round =>
        obtain ⟨a, ha, rfl, ho, hb2⟩ := hrel
        by_cases hlt2 : a < n
        · have hn2 := HN2.out
          have c := (hp.out.below hb2.out HGL.out).cell (i := a / 4) (by have := HLL.out; omega)
          have HX := hide (HWW.out.at (a / 4))
          have HOB : Hid (outB 4 L a = at0 L (a / 4) / 2 ^ (8 * (4 - 1 - a % 4)) % 256) := rfl
          have HSU := hide (HOS.out 4 L a)
          generalize at0 L (a / 4) = u at c HX HOB
          obtain ⟨d, hd⟩ : ∃ d, d = a / 4 := ⟨_, rfl⟩
          obtain ⟨q, hq⟩ : ∃ q, q = a % 4 := ⟨_, rfl⟩
          rw [← hd] at c
          rw [← hq] at HOB
          have e1 : (a : Int).tdiv 4 = (d : Int) := by rw [Int.tdiv_eq_ediv_of_nonneg (by omega)]; omega
          have e2 : (a : Int) / 4 = (d : Int) := by omega
          have e3 : (a : Int).tmod 4 = (q : Int) := by rw [Int.tmod_eq_emod_of_nonneg (by omega)]; omega
          have e4 : (a : Int) % 4 = (q : Int) := by omega
          have d8 : (d : Int) < 8 := by omega
          have q8 : (q : Int) < 4 := by omega
          clear hd hq
          go_wp2
          go_region
          have HOV := hide (show wr.drew.ownsRow wo.heap.size 5 1 u13 a (cells8 (ou 4 L a)) from ho.out)
          have HBV := hide hb2.out.drew
          generalize hV : wr.drew = V at HOV HBV ⊢
          clear hV c
          go_wp2_with (at_builtin; refine wpList_append_own _ rfl _ _ 125 rfl wo.heap.size 5 i0 (.int .u8 0) 1 1 Tryz.underlying125 hi hz0 hz1 hz2 rfl (by decide) _ _ _ rfl (HOV.out.alloc _) ⟨V.heap.size, 0, none⟩ 1 1 [_] rfl rfl (one_new _ _ _) ?c2 ?c3 ?c4 ?c5 ?_)
          case c2 => intro y hy; simp at hy; subst hy; rfl
          case c3 => unfold maxLen; omega
          case c4 => omega
          case c5 => have := HBV.out.size; simp; omega
          intro v' w3 ho3 hgrow _
          have HB3 := hide ((HBV.out.alloc HBV.out.size _).grown hgrow (by have := HBV.out.size; simp; omega) (fun p hp => (owns_lt HOV.out p hp).1))
          have HO3 := hide ho3
          clear ho3 hgrow
          go_wp2
          go_roundw
          case rel =>
            have hcs : cells8 (ou 4 L (a + 1)) = cells8 (ou 4 L a) ++ [.int .u8 ((u : Int) / 2 ^ (8 * (4 - 1 - q)) % 256)] := by
              rw [HSU.out, cells8_snoc, HOB.out, Int.natCast_emod, Int.natCast_ediv, Int.natCast_pow]
              rfl
            have R : ∃ p : Nat, p ≤ n ∧ Value.int .i64 ((a : Int) + 1) = .int .i64 (p : Int) ∧ Hid (w3.ownsRow wo.heap.size 5 1 v' p (cells8 (ou 4 L p))) ∧ Hid (Below wo.heap.size wo w3) :=
              ⟨a + 1, by omega, by go_num, by rw [hcs]; exact HO3.out, HB3.out⟩
            first | exact R | ((repeat apply Exists.intro); exact ⟨R, rfl⟩)
          case measure => simp [intOf]; omega
        · obtain rfl : a = n := by omega
          have HT := hide (run_text wr wo.heap.size _ (ou 4 L a) (fun d hd => by rw [← HOU.out] at hd; simp only [outs, List.mem_map] at hd; obtain ⟨i, _, rfl⟩ := hd; exact outB_lt _ _ _) (by rw [HOL.out]; exact ho.out) (by rw [HOL.out]; exact HN.out))
          have hT := HT.out
          go_wp2
          go_ret
          refine ⟨by rw [HLQ.out]; rfl, ?_⟩
          rw [← HGE.out]
          exact hb.out.trans (hb2.out.mono (Nat.le_of_lt HGL.out))
end Go.Proofs.YtgaoeoijdpdjiaaGreatDoor

namespace Go.Proofs.YtgaoeoijdpdjiaaGreatDoor
open Go.RowKit

theorem take64_succ (BL : List Nat) (o : Nat) (L : List Nat) (j : Nat) : take64 BL o L (j + 1) = (take64 BL o L j).set j (at0 (take64 BL o L j) j ^^^ beN BL (o + j * 8) 8) := by rw [take64]
theorem take64_zero (BL : List Nat) (o : Nat) (L : List Nat) : take64 BL o L 0 = L := by rw [take64]
theorem stirRef64 (L : List Nat) (hL : L.length = 8) : refTo 64 L 8 = stirTo 64 L 8 := stir_same 64 L hL

set_option maxRecDepth 20000 in
set_option maxHeartbeats 4000000 in
theorem digested_64 (n : Nat) (s : ByteArray) (w : World) (hn : 1 ≤ n) (hn2 : n ≤ 16) (hs : s.size ≤ 400) :
    Calls Tryz.prog 166 #[.int .i64 2, .int .i64 (n : Int), .string s] w fun e w' => e = .returned (.string (textOf (outs 8 (soak64 (padL s) (s.size / 32 + 1)) n))) ∧ Below w.heap.size w w' := by
  have HS := hide hs
  have HN := hide hn
  have HN2 := hide hn2
  clear hs hn hn2
  obtain ⟨sk, HSK⟩ : ∃ F, Hid (soak64 = F) := ⟨_, rfl⟩
  obtain ⟨tk, HTK⟩ : ∃ F, Hid (take64 = F) := ⟨_, rfl⟩
  obtain ⟨ou, HOU⟩ : ∃ F, Hid (outs = F) := ⟨_, rfl⟩
  have HS0 : Hid (∀ BL, sk BL 0 = [1, 2, 3, 4, 5, 6, 7, 8]) := fun BL => by rw [← HSK.out]; exact soak64_zero BL
  have HSS : Hid (∀ BL m, sk BL (m + 1) = stirTo 64 (tk BL (m * 32) (sk BL m) 4) 8) := fun BL m => by rw [← HSK.out, ← HTK.out]; exact soak64_succ BL m
  have HSL : Hid (∀ BL m, (sk BL m).length = 8) := fun BL m => by rw [← HSK.out]; exact soak64_length BL m
  have HSW : Hid (∀ BL, (∀ i, at0 BL i < 256) → ∀ m, Words 64 (sk BL m)) := fun BL h m => by rw [← HSK.out]; exact soak64_words BL h m
  have HT0 : Hid (∀ BL o L, tk BL o L 0 = L) := fun BL o L => by rw [← HTK.out]; exact take64_zero BL o L
  have HT1 : Hid (∀ BL o L j, tk BL o L (j + 1) = (tk BL o L j).set j (at0 (tk BL o L j) j ^^^ beN BL (o + j * 8) 8)) := fun BL o L j => by rw [← HTK.out]; exact take64_succ BL o L j
  have HTL : Hid (∀ BL o L j, (tk BL o L j).length = L.length) := fun BL o L j => by rw [← HTK.out]; exact take64_length BL o L j
  have HTW : Hid (∀ BL o L j, Words 64 L → (∀ i, at0 BL i < 256) → Words 64 (tk BL o L j)) := fun BL o L j h hB => by rw [← HTK.out]; exact take64_words BL o L j h hB
  have HOL : Hid (∀ n L m, (ou n L m).length = m) := fun n L m => by rw [← HOU.out]; exact outs_length n L m
  have HOS : Hid (∀ n L m, ou n L (m + 1) = ou n L m ++ [outB n L m]) := fun n L m => by rw [← HOU.out]; exact outs_succ n L m
  rw [HSK.out, HOU.out]
  go_enter Tryz.func166, Tryz.ntmps166
  go_wp2
  go_rounds 9
  have R0 : Hid (PoolAt (w.alloc (.cells #[.int .u64 1, .int .u64 2, .int .u64 3, .int .u64 4, .int .u64 5, .int .u64 6, .int .u64 7, .int .u64 8, .int .i64 64] 296)) w.heap.size 64 (sk (padL s) 0)) := by
    rw [HS0.out]; exact heap_alloc_new _ _
  have B0 := hide ((Below.refl w.heap.size w).alloc (Nat.le_refl _) (.cells #[.int .u64 1, .int .u64 2, .int .u64 3, .int .u64 4, .int .u64 5, .int .u64 6, .int .u64 7, .int .u64 8, .int .i64 64] 296))
  generalize hW0 : w.alloc (.cells #[.int .u64 1, .int .u64 2, .int .u64 3, .int .u64 4, .int .u64 5, .int .u64 6, .int .u64 7, .int .u64 8, .int .i64 64] 296) = W0 at R0 B0 ⊢
  clear hW0
  obtain ⟨g, hg⟩ : ∃ g, g = w.heap.size := ⟨_, rfl⟩
  rw [← hg] at R0 B0
  rw [← hg]
  have HGE := hide hg
  clear hg
  have HB8 := hide (fun i => padL_lt s i)
  have hz := HS.out
  go_loopw [10] (fun a wr => ∃ m : Nat, m ≤ s.size / 32 + 1 ∧ a = .int .i64 ((m : Int) * 4) ∧ Hid (PoolAt wr g 64 (sk (padL s) m)) ∧ Hid (Below g w wr)) (fun a _ => 500 - (intOf a).toNat)
  case atStart => exact ⟨0, by omega, by simp, R0, B0⟩
  case round =>
    obtain ⟨m, hm, rfl, hp, hb⟩ := hrel
    by_cases hlt : m ≤ s.size / 32
    · obtain ⟨wo, rfl⟩ : ∃ wo : World, wo = wr := ⟨_, rfl⟩
      have hda : decide ((m : Int) * 4 * 8 ≤ (s.size : Int)) = true := by simp; omega
      have hl := HSL.out (padL s) m
      have hwd := HSW.out (padL s) HB8.out m
      have HSM := hide (HSS.out (padL s) m)
      generalize sk (padL s) m = A at hp hl hwd HSM
      have HL := hide hl
      have HWD := hide hwd
      clear hl hwd
      go_wp2
      go_loopw [11] (fun i wr => ∃ j : Nat, j ≤ 4 ∧ i = .int .i64 j ∧ Hid (PoolAt wr g 64 (tk (padL s) (m * 32) A j)) ∧ Hid (Below g w wr)) (fun i _ => 4 - (intOf i).toNat)
      case atStart => exact ⟨0, by omega, rfl, by rw [HT0.out]; exact hp, hb⟩
      case round =>
        obtain ⟨j, hj, rfl, hp, hb⟩ := hrel
        by_cases hlt4 : j < 4
        · have hlen : (tk (padL s) (m * 32) A j).length = 8 := by rw [HTL.out]; exact HL.out
          have hwd := HTW.out (padL s) (m * 32) A j HWD.out HB8.out
          have HS4 := hide (HT1.out (padL s) (m * 32) A j)
          generalize tk (padL s) (m * 32) A j = K at hp hlen hwd HS4
          have HW := hide (fun w' : World => word_8 s (m * 4 + j) w' (by omega) (by omega))
          rw [show (m * 4 + j) * 8 = m * 32 + j * 8 by omega] at HW
          have d1 := hp.out.cell (i := j) (by omega)
          have f1 := hp.out.free j
          have x1 : at0 K j < 18446744073709551616 := Nat.lt_of_lt_of_le (hwd.at j) (by decide)
          have y1 : beN (padL s) (m * 32 + j * 8) 8 < 18446744073709551616 := Nat.lt_of_lt_of_le (beN_lt (padL s) (m * 32 + j * 8) 8 HB8.out) (by decide)
          have HXO := hide (u64_xor_nat (at0 K j) (beN (padL s) (m * 32 + j * 8) 8) x1 y1)
          have HLE := hide hlen
          generalize beN (padL s) (m * 32 + j * 8) 8 = v at HS4 HW y1 HXO
          generalize at0 K j = u at d1 x1 HXO HS4
          clear hlen hwd x1 y1
          have q1 : (j : Int) < 8 := by omega
          have hc : ((m * 4 + j : Nat) : Int) = (m : Int) * 4 + (j : Int) := by omega
          rw [hc] at HW
          clear hc
          go_wp2_with fail
          refine (HW.out _).mono ?_
          rintro e w3 ⟨rfl, rfl⟩
          clear HW
          go_wp2
          go_region
          go_wp2
          rw [HXO.out]
          go_roundw
          case rel =>
            refine ⟨j + 1, by omega, by go_num, ?_, ?_⟩
            · have h := hp.out.set j (u ^^^ v) (by have := HLE.out; omega)
              rw [← HS4.out] at h
              exact h
            · unfold Hid
              repeat (first | refine Below.drew ?_ | refine Below.setCell ?_ (Nat.le_refl g) _)
              exact hb.out
          case measure => simp [intOf]; omega
        · obtain rfl : j = 4 := by omega
          have HST := hide (stirred_64 g (tk (padL s) (m * 32) A 4) wr hp.out (by rw [HTL.out]; exact HL.out) (HTW.out (padL s) (m * 32) A 4 HWD.out HB8.out))
          go_wp2_with fail
          refine HST.out.mono ?_
          rintro e w4 ⟨rfl, hp4, ho4⟩
          clear HST
          rw [stirRef64 _ (by rw [HTL.out]; exact HL.out), ← HSM.out] at hp4
          have P4 := hide hp4
          have B4 := hide (ho4.below hb.out (Nat.le_refl g))
          clear hp4 ho4
          go_wp2
          go_roundw
          case rel => exact ⟨m + 1, by omega, by go_num, P4, B4⟩
          case measure => simp [intOf]; omega
    · obtain rfl : m = s.size / 32 + 1 := by omega
      have hl := HSL.out (padL s) (s.size / 32 + 1)
      have hwd := HSW.out (padL s) HB8.out (s.size / 32 + 1)
      generalize hLq : sk (padL s) (s.size / 32 + 1) = L at hp hl hwd ⊢
      have HLQ := hide hLq
      have HLL := hide hl
      have HWW := hide hwd
      clear hLq hl hwd
      have HGL := hide hp.out.lt
      obtain ⟨wo, rfl⟩ : ∃ wo : World, wo = wr := ⟨_, rfl⟩
      obtain ⟨i0, hi, hz0, hz1, hz2⟩ := info_parts infoByte
      go_wp2
      go_loopw [13, 14] (fun v i wr => ∃ a : Nat, a ≤ n ∧ i = .int .i64 a ∧ Hid (wr.ownsRow wo.heap.size 5 1 v a (cells8 (ou 8 L a))) ∧ Hid (Below wo.heap.size wo wr)) (fun _ i _ => 16 - (intOf i).toNat)
      case atStart => exact ⟨0, by omega, rfl, ⟨by simp [cells8, HOL.out], Or.inl ⟨rfl, rfl⟩⟩, Below.refl _ _⟩
      case round =>
        obtain ⟨a, ha, rfl, ho, hb2⟩ := hrel
        by_cases hlt2 : a < n
        · have hn2 := HN2.out
          have c := (hp.out.below hb2.out HGL.out).cell (i := a / 8) (by have := HLL.out; omega)
          have HX := hide (HWW.out.at (a / 8))
          have HOB : Hid (outB 8 L a = at0 L (a / 8) / 2 ^ (8 * (8 - 1 - a % 8)) % 256) := rfl
          have HSU := hide (HOS.out 8 L a)
          generalize at0 L (a / 8) = u at c HX HOB
          obtain ⟨d, hd⟩ : ∃ d, d = a / 8 := ⟨_, rfl⟩
          obtain ⟨q, hq⟩ : ∃ q, q = a % 8 := ⟨_, rfl⟩
          rw [← hd] at c
          rw [← hq] at HOB
          have e1 : (a : Int).tdiv 8 = (d : Int) := by rw [Int.tdiv_eq_ediv_of_nonneg (by omega)]; omega
          have e2 : (a : Int) / 8 = (d : Int) := by omega
          have e3 : (a : Int).tmod 8 = (q : Int) := by rw [Int.tmod_eq_emod_of_nonneg (by omega)]; omega
          have e4 : (a : Int) % 8 = (q : Int) := by omega
          have d8 : (d : Int) < 8 := by omega
          have q8 : (q : Int) < 8 := by omega
          clear hd hq
          go_wp2
          go_region
          have HOV := hide (show wr.drew.ownsRow wo.heap.size 5 1 u13 a (cells8 (ou 8 L a)) from ho.out)
          have HBV := hide hb2.out.drew
          generalize hV : wr.drew = V at HOV HBV ⊢
          clear hV c
          go_wp2_with (at_builtin; refine wpList_append_own _ rfl _ _ 125 rfl wo.heap.size 5 i0 (.int .u8 0) 1 1 Tryz.underlying125 hi hz0 hz1 hz2 rfl (by decide) _ _ _ rfl (HOV.out.alloc _) ⟨V.heap.size, 0, none⟩ 1 1 [_] rfl rfl (one_new _ _ _) ?c2 ?c3 ?c4 ?c5 ?_)
          case c2 => intro y hy; simp at hy; subst hy; rfl
          case c3 => unfold maxLen; omega
          case c4 => omega
          case c5 => have := HBV.out.size; simp; omega
          intro v' w3 ho3 hgrow _
          have HB3 := hide ((HBV.out.alloc HBV.out.size _).grown hgrow (by have := HBV.out.size; simp; omega) (fun p hp => (owns_lt HOV.out p hp).1))
          have HO3 := hide ho3
          clear ho3 hgrow
          go_wp2
          go_roundw
          case rel =>
            have hcs : cells8 (ou 8 L (a + 1)) = cells8 (ou 8 L a) ++ [.int .u8 ((u : Int) / 2 ^ (8 * (8 - 1 - q)) % 256)] := by
              rw [HSU.out, cells8_snoc, HOB.out, Int.natCast_emod, Int.natCast_ediv, Int.natCast_pow]
              rfl
            have R : ∃ p : Nat, p ≤ n ∧ Value.int .i64 ((a : Int) + 1) = .int .i64 (p : Int) ∧ Hid (w3.ownsRow wo.heap.size 5 1 v' p (cells8 (ou 8 L p))) ∧ Hid (Below wo.heap.size wo w3) :=
              ⟨a + 1, by omega, by go_num, by rw [hcs]; exact HO3.out, HB3.out⟩
            first | exact R | ((repeat apply Exists.intro); exact ⟨R, rfl⟩)
          case measure => simp [intOf]; omega
        · obtain rfl : a = n := by omega
          have HT := hide (run_text wr wo.heap.size _ (ou 8 L a) (fun d hd => by rw [← HOU.out] at hd; simp only [outs, List.mem_map] at hd; obtain ⟨i, _, rfl⟩ := hd; exact outB_lt _ _ _) (by rw [HOL.out]; exact ho.out) (by rw [HOL.out]; exact HN.out))
          have hT := HT.out
          go_wp2
          go_ret
          refine ⟨by rw [HLQ.out]; rfl, ?_⟩
          rw [← HGE.out]
          exact hb.out.trans (hb2.out.mono (Nat.le_of_lt HGL.out))
end Go.Proofs.YtgaoeoijdpdjiaaGreatDoor
