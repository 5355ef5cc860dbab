/-
  The document's Unseal, where it finds no record: the number is none.
-/
import Derived.Test.YtgaoeoijdpdjiaaRRefUnseal
namespace Go.Proofs.Ytgaoeoijdpdjiaa
open Go.RowKit

set_option maxRecDepth 20000 in
set_option maxHeartbeats 2000000 in
theorem refUnseal_q1 (s : ByteArray) (w : World) (hZ : s.size = 32) (hm : s.extract 0 4 = markB) (hI : isRec s = false) (q1 : rv s 4 < 1) :
    Calls Try.prog 37 #[.string s] w fun e w' => e = .returned (unsV s) ∧ Below w.heap.size w w' := by
  have HE := hide (unsV_no hI)
  have hd : (((s.size : Nat) : Int) == 32) = true := by rw [hZ]; rfl
  have hd2 : (((s.size : Nat) : Int) != 32) = false := by rw [hZ]; rfl
  have e1 := sliceS0 s 4 (by omega)
  have e2 := sliceS s 8 16 (by omega) (by omega)
  have e3 := sliceS0 s 28 (by omega)
  rw [hm] at e1
  change ∀ w : World, _ = Result.ok (Value.string ⟨#[115, 103, 110, 116]⟩) w at e1
  change ∀ w : World, _ = Result.ok (Value.string (idOf s)) w at e2
  simp only [Int.cast_ofNat_Int] at e1 e2 e3
  have HV := hide (fun (V : World) (a : Int) (h : Hid (0 ≤ a ∧ a ≤ 28)) => rv_any s a V hZ h)
  have HM := hide (fun V : World => refSumR (s.extract 0 28) V (by rw [ByteArray.size_extract]; omega))
  clear hZ hm hI
  generalize idOf s = d at *
  generalize s.extract 0 28 = s28 at *
  generalize sumV s28 = m at *
  generalize unsV s = z at HE ⊢
  cases h20 : (rv s 20 == 0)
  ·
    go_enter Try.func37, Try.ntmps37
    go_wp2_with fail
    go_region_held3 (fun V => True) (trivial) ((go_at_call 56; refine (HV.out _ _ (by constructor <;> decide)).mono ?_; rintro e w1 ⟨rfl, rfl⟩))
    all_goals
      generalize rv s 4 = q at *
      generalize rv s 16 = b at *
      go_wp2_with (first | (go_at_call 55; refine (HM.out _).mono ?_; rintro e w1 ⟨rfl, rfl⟩) | (go_at_call 56; refine (HV.out _ _ (by constructor <;> decide)).mono ?_; rintro e w1 ⟨rfl, rfl⟩))
      refine bodyPost_ret (v := .tuple #[.agg #[.int .i64 0, .int .i64 0, .string ⟨#[]⟩], .int .i64 6]) (by simp [results, Try.results37, go_sem]) rfl ⟨by rw [HE.out], ?_⟩
      exact (((Below.refl _ _).alloc (Nat.le_refl _) _).alloc (by simp) _).drew
  · cases h24 : (rv s 24 == 0)
    ·
      go_enter Try.func37, Try.ntmps37
      go_wp2_with fail
      go_region_held3 (fun V => True) (trivial) ((go_at_call 56; refine (HV.out _ _ (by constructor <;> decide)).mono ?_; rintro e w1 ⟨rfl, rfl⟩))
      all_goals
        generalize rv s 4 = q at *
        generalize rv s 16 = b at *
        go_wp2_with (first | (go_at_call 55; refine (HM.out _).mono ?_; rintro e w1 ⟨rfl, rfl⟩) | (go_at_call 56; refine (HV.out _ _ (by constructor <;> decide)).mono ?_; rintro e w1 ⟨rfl, rfl⟩))
        refine bodyPost_ret (v := .tuple #[.agg #[.int .i64 0, .int .i64 0, .string ⟨#[]⟩], .int .i64 6]) (by simp [results, Try.results37, go_sem]) rfl ⟨by rw [HE.out], ?_⟩
        exact (((Below.refl _ _).alloc (Nat.le_refl _) _).alloc (by simp) _).drew
    ·
      go_enter Try.func37, Try.ntmps37
      go_wp2_with fail
      go_region_held3 (fun V => True) (trivial) ((go_at_call 56; refine (HV.out _ _ (by constructor <;> decide)).mono ?_; rintro e w1 ⟨rfl, rfl⟩))
      all_goals
        generalize rv s 4 = q at *
        generalize rv s 16 = b at *
        go_wp2_with (first | (go_at_call 55; refine (HM.out _).mono ?_; rintro e w1 ⟨rfl, rfl⟩) | (go_at_call 56; refine (HV.out _ _ (by constructor <;> decide)).mono ?_; rintro e w1 ⟨rfl, rfl⟩))
        refine bodyPost_ret (v := .tuple #[.agg #[.int .i64 0, .int .i64 0, .string ⟨#[]⟩], .int .i64 6]) (by simp [results, Try.results37, go_sem]) rfl ⟨by rw [HE.out], ?_⟩
        exact (((Below.refl _ _).alloc (Nat.le_refl _) _).alloc (by simp) _).drew

set_option maxRecDepth 20000 in
set_option maxHeartbeats 2000000 in
theorem refUnseal_q2 (s : ByteArray) (w : World) (hZ : s.size = 32) (hm : s.extract 0 4 = markB) (hI : isRec s = false) (q1 : 1 ≤ rv s 4) (q2 : 2147483647 < rv s 4) :
    Calls Try.prog 37 #[.string s] w fun e w' => e = .returned (unsV s) ∧ Below w.heap.size w w' := by
  have HE := hide (unsV_no hI)
  have hd : (((s.size : Nat) : Int) == 32) = true := by rw [hZ]; rfl
  have hd2 : (((s.size : Nat) : Int) != 32) = false := by rw [hZ]; rfl
  have e1 := sliceS0 s 4 (by omega)
  have e2 := sliceS s 8 16 (by omega) (by omega)
  have e3 := sliceS0 s 28 (by omega)
  rw [hm] at e1
  change ∀ w : World, _ = Result.ok (Value.string ⟨#[115, 103, 110, 116]⟩) w at e1
  change ∀ w : World, _ = Result.ok (Value.string (idOf s)) w at e2
  simp only [Int.cast_ofNat_Int] at e1 e2 e3
  have HV := hide (fun (V : World) (a : Int) (h : Hid (0 ≤ a ∧ a ≤ 28)) => rv_any s a V hZ h)
  have HM := hide (fun V : World => refSumR (s.extract 0 28) V (by rw [ByteArray.size_extract]; omega))
  clear hZ hm hI
  generalize idOf s = d at *
  generalize s.extract 0 28 = s28 at *
  generalize sumV s28 = m at *
  generalize unsV s = z at HE ⊢
  cases h20 : (rv s 20 == 0)
  ·
    go_enter Try.func37, Try.ntmps37
    go_wp2_with fail
    go_region_held3 (fun V => True) (trivial) ((go_at_call 56; refine (HV.out _ _ (by constructor <;> decide)).mono ?_; rintro e w1 ⟨rfl, rfl⟩))
    all_goals
      generalize rv s 4 = q at *
      generalize rv s 16 = b at *
      go_wp2_with (first | (go_at_call 55; refine (HM.out _).mono ?_; rintro e w1 ⟨rfl, rfl⟩) | (go_at_call 56; refine (HV.out _ _ (by constructor <;> decide)).mono ?_; rintro e w1 ⟨rfl, rfl⟩))
      refine bodyPost_ret (v := .tuple #[.agg #[.int .i64 0, .int .i64 0, .string ⟨#[]⟩], .int .i64 6]) (by simp [results, Try.results37, go_sem]) rfl ⟨by rw [HE.out], ?_⟩
      exact (((Below.refl _ _).alloc (Nat.le_refl _) _).alloc (by simp) _).drew
  · cases h24 : (rv s 24 == 0)
    ·
      go_enter Try.func37, Try.ntmps37
      go_wp2_with fail
      go_region_held3 (fun V => True) (trivial) ((go_at_call 56; refine (HV.out _ _ (by constructor <;> decide)).mono ?_; rintro e w1 ⟨rfl, rfl⟩))
      all_goals
        generalize rv s 4 = q at *
        generalize rv s 16 = b at *
        go_wp2_with (first | (go_at_call 55; refine (HM.out _).mono ?_; rintro e w1 ⟨rfl, rfl⟩) | (go_at_call 56; refine (HV.out _ _ (by constructor <;> decide)).mono ?_; rintro e w1 ⟨rfl, rfl⟩))
        refine bodyPost_ret (v := .tuple #[.agg #[.int .i64 0, .int .i64 0, .string ⟨#[]⟩], .int .i64 6]) (by simp [results, Try.results37, go_sem]) rfl ⟨by rw [HE.out], ?_⟩
        exact (((Below.refl _ _).alloc (Nat.le_refl _) _).alloc (by simp) _).drew
    ·
      go_enter Try.func37, Try.ntmps37
      go_wp2_with fail
      go_region_held3 (fun V => True) (trivial) ((go_at_call 56; refine (HV.out _ _ (by constructor <;> decide)).mono ?_; rintro e w1 ⟨rfl, rfl⟩))
      all_goals
        generalize rv s 4 = q at *
        generalize rv s 16 = b at *
        go_wp2_with (first | (go_at_call 55; refine (HM.out _).mono ?_; rintro e w1 ⟨rfl, rfl⟩) | (go_at_call 56; refine (HV.out _ _ (by constructor <;> decide)).mono ?_; rintro e w1 ⟨rfl, rfl⟩))
        refine bodyPost_ret (v := .tuple #[.agg #[.int .i64 0, .int .i64 0, .string ⟨#[]⟩], .int .i64 6]) (by simp [results, Try.results37, go_sem]) rfl ⟨by rw [HE.out], ?_⟩
        exact (((Below.refl _ _).alloc (Nat.le_refl _) _).alloc (by simp) _).drew

end Go.Proofs.Ytgaoeoijdpdjiaa
