/-
  The document's Unseal.
-/
import Derived.Test.YtgaoeoijdpdjiaaRUnseal
import Derived.Test.YtgaoeoijdpdjiaaRNumR
import Derived.Test.YtgaoeoijdpdjiaaRRefSeal
namespace Go.Proofs.Ytgaoeoijdpdjiaa
open Go.RowKit

/-- The value of four bytes from a place on. -/
def rv (s : ByteArray) (a : Int) : Int := ((valN s a.toNat 4 : Nat) : Int)

theorem rv_any (s : ByteArray) (a : Int) (w : World) (h1 : s.size = 32) (h2 : Hid (0 ≤ a ∧ a ≤ 28)) :
    Calls Try.prog 56 #[.string s, .int .i64 a, .int .i64 4] w fun e w' => e = .returned (.int .i64 (rv s a)) ∧ w' = w := by
  have h2 := h2.out
  have h := refValue_any s a.toNat w (by omega) (by omega)
  rw [Int.toNat_of_nonneg h2.1] at h
  exact h

theorem refUnseal_short (s : ByteArray) (w : World) (h : s.size ≠ 32) :
    Calls Try.prog 37 #[.string s] w fun e w' => e = .returned (unsV s) ∧ Below w.heap.size w w' := by
  have HE := hide (unsV_no (isRec_size h))
  have hd : (((s.size : Nat) : Int) == 32) = false := by simp; omega
  have hd2 : (((s.size : Nat) : Int) != 32) = true := by simp; omega
  clear h
  generalize unsV s = z at HE ⊢
  go_enter Try.func37, Try.ntmps37
  go_wp2
  refine bodyPost_ret (v := .tuple #[.agg #[.int .i64 0, .int .i64 0, .string ⟨#[]⟩], .int .i64 6]) (by simp [results, Try.results37, go_sem]) rfl ⟨by rw [HE.out], ?_⟩
  exact (Below.refl _ _).alloc (Nat.le_refl _) _

theorem refUnseal_mark (s : ByteArray) (w : World) (h : s.size = 32) (hm : s.extract 0 4 ≠ markB) :
    Calls Try.prog 37 #[.string s] w fun e w' => e = .returned (unsV s) ∧ Below w.heap.size w w' := by
  have HE := hide (unsV_no (s := s) (by rw [Bool.eq_false_iff]; exact fun e => hm ((isRec_parts s h).1 e).1))
  have hd : (((s.size : Nat) : Int) == 32) = true := by rw [h]; rfl
  have hd2 : (((s.size : Nat) : Int) != 32) = false := by rw [h]; rfl
  have e1 := sliceS0 s 4 (by omega)
  simp only [Int.cast_ofNat_Int] at e1
  have hn := toList_ne hm
  rw [show markB.toList = [115, 103, 110, 116] from by first | (unfold markB; simp [go_sem]; done) | rfl | (rw [ByteArray.toList_eq_toList_data]; rfl)] at hn
  clear h hm
  generalize s.extract 0 4 = s0 at *
  generalize unsV s = z at HE ⊢
  go_enter Try.func37, Try.ntmps37
  go_wp2
  refine bodyPost_ret (v := .tuple #[.agg #[.int .i64 0, .int .i64 0, .string ⟨#[]⟩], .int .i64 6]) (by simp [results, Try.results37, go_sem]) rfl ⟨by rw [HE.out], ?_⟩
  exact (Below.refl _ _).alloc (Nat.le_refl _) _

set_option maxRecDepth 20000 in
set_option maxHeartbeats 2000000 in
theorem refUnseal_yes (s : ByteArray) (w : World) (hZ : s.size = 32) (hI : isRec s = true) :
    Calls Try.prog 37 #[.string s] w fun e w' => e = .returned (unsV s) ∧ Below w.heap.size w w' := by
  have HE := hide (unsV_yes hI)
  obtain ⟨hm, q1, q2, b1, ⟨b20, b24⟩, hs⟩ := (isRec_parts s hZ).1 hI
  have hd : (((s.size : Nat) : Int) == 32) = true := by rw [hZ]; rfl
  have hd2 : (((s.size : Nat) : Int) != 32) = false := by rw [hZ]; rfl
  have e1 := sliceS0 s 4 (by omega)
  have e2 := sliceS s 8 16 (by omega) (by omega)
  have e3 := sliceS0 s 28 (by omega)
  rw [hm] at e1
  change ∀ w : World, _ = Result.ok (Value.string ⟨#[115, 103, 110, 116]⟩) w at e1
  change ∀ w : World, _ = Result.ok (Value.string (idOf s)) w at e2
  simp only [Int.cast_ofNat_Int] at e1 e2 e3
  have HV := hide (fun (V : World) (a : Int) (h : Hid (0 ≤ a ∧ a ≤ 28)) => rv_any s a V hZ h)
  have HM := hide (fun V : World => refSumR (s.extract 0 28) V (by rw [ByteArray.size_extract]; omega))
  have g20 : (rv s 20 == 0) = true := by simp only [rv]; change (((valN s 20 4 : Nat) : Int) == 0) = true; rw [b20]; rfl
  have g24 : (rv s 24 == 0) = true := by simp only [rv]; change (((valN s 24 4 : Nat) : Int) == 0) = true; rw [b24]; rfl
  have HQ : Hid (rv s 28 = sumV (s.extract 0 28)) := hs.symm
  have g28 : (rv s 28 == sumV (s.extract 0 28)) = true := by rw [HQ.out]; exact beq_self_eq_true _
  have g28n : (rv s 28 != sumV (s.extract 0 28)) = false := by rw [bne, g28]; rfl
  change 1 ≤ rv s 4 at q1
  change rv s 4 ≤ _ at q2
  change rv s 16 ≤ _ at b1
  have hq : seqOf s = rv s 4 := rfl
  have hb : boundOf s = rv s 16 := rfl
  rw [hq, hb] at HE
  clear hZ hI hm b20 b24 hs HQ hq hb
  generalize idOf s = d at *
  generalize s.extract 0 28 = s28 at *
  generalize sumV s28 = m at *
  generalize unsV s = z at HE ⊢
  go_enter Try.func37, Try.ntmps37
  go_wp2_with fail
  go_region_held3 (fun V => True) (trivial) ((go_at_call 56; refine (HV.out _ _ (by constructor <;> decide)).mono ?_; rintro e w1 ⟨rfl, rfl⟩))
  all_goals
    generalize rv s 4 = q at *
    generalize rv s 16 = b at *
    go_wp2_with (first | (go_at_call 55; refine (HM.out _).mono ?_; rintro e w1 ⟨rfl, rfl⟩) | (go_at_call 56; refine (HV.out _ _ (by constructor <;> decide)).mono ?_; rintro e w1 ⟨rfl, rfl⟩))
    refine bodyPost_ret (v := .tuple #[.agg #[.int .i64 q, .int .i64 b, .string d], .int .i64 0]) (by simp [results, Try.results37, go_sem]) rfl ⟨by rw [HE.out], ?_⟩
    exact (((Below.refl _ _).alloc (Nat.le_refl _) _).alloc (by simp) _).drew
end Go.Proofs.Ytgaoeoijdpdjiaa
