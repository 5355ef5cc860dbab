/-
  The document's own start, chain and join. The document's own start. The document's own chain.
-/
import Derived.Test.YtgaoeoijdpdjiaaGreatDoorPart19
namespace Go.Proofs.YtgaoeoijdpdjiaaGreatDoor
open Go.RowKit
set_option maxRecDepth 20000 in
set_option maxHeartbeats 4000000 in
theorem rjoin_any (k x t l p0 p1 p2 p3 h j : Int) (b : Nat) (pub y z : ByteArray) (w : World) (hk : k = 1 ∨ k = 2) (h1 : 1 ≤ b) (h2 : b ≤ 16) (hs : pub.size ≤ 16) (hy : y.size ≤ 16) (hz' : z.size ≤ 16) (q0 : 0 ≤ p0 ∧ p0 ≤ 100000) (q1 : 0 ≤ p1 ∧ p1 ≤ 100000) (q2 : 0 ≤ h ∧ h ≤ 100000) (q3 : 0 ≤ j ∧ j ≤ 100000) :
    Calls Tryz.prog 97 #[.agg #[.int .i64 k, .int .i64 b, .int .i64 x, .int .i64 t, .int .i64 l], .string pub, .agg #[.int .i64 p0, .int .i64 p1, .int .i64 p2, .int .i64 p3], .int .i64 h, .int .i64 j, .string y, .string z] w fun e w' => e = .returned (.string (joinS k b pub p0 p1 h j y z)) ∧ Below w.heap.size w w' := by
  obtain ⟨W0, hW⟩ : ∃ W0, (w.alloc (.cells #[.int .i64 k, .int .i64 b, .int .i64 x, .int .i64 t, .int .i64 l] 23)).alloc (.cells #[.int .i64 p0, .int .i64 p1, .int .i64 p2, .int .i64 p3] 27) = W0 := ⟨_, rfl⟩
  have HF := hide (show FiveC w.heap.size W0 k b x t l by subst hW; refine ⟨?_, ?_, ?_, ?_, ?_⟩ <;> simp [go_sem])
  have HP := hide (show FourC (w.heap.size + 1) W0 p0 p1 p2 p3 by subst hW; refine ⟨?_, ?_, ?_, ?_⟩ <;> simp [go_sem])
  have HB := hide (show Below w.heap.size w W0 by subst hW; exact ((Below.refl _ _).alloc (Nat.le_refl _) _).alloc (by simp) _)
  have hz : W0.heap.size = w.heap.size + 2 := by subst hW; simp
  have HS := hide (fun (V : World) (h : Below W0.heap.size W0 V) => (by
    obtain ⟨c0, c1, c2, c3, c4⟩ := HF.out.below h (by omega)
    obtain ⟨d0, d1, d2, d3⟩ := HP.out.below h (by omega)
    exact ⟨c0, c1, c2, c3, c4, d0, d1, d2, d3, h⟩ : V.cell? ⟨w.heap.size, 0, none⟩ = some (.int .i64 k) ∧ V.cell? ⟨w.heap.size, 1, none⟩ = some (.int .i64 b) ∧ V.cell? ⟨w.heap.size, 2, none⟩ = some (.int .i64 x) ∧ V.cell? ⟨w.heap.size, 3, none⟩ = some (.int .i64 t) ∧ V.cell? ⟨w.heap.size, 4, none⟩ = some (.int .i64 l) ∧ V.cell? ⟨w.heap.size + 1, 0, none⟩ = some (.int .i64 p0) ∧ V.cell? ⟨w.heap.size + 1, 1, none⟩ = some (.int .i64 p1) ∧ V.cell? ⟨w.heap.size + 1, 2, none⟩ = some (.int .i64 p2) ∧ V.cell? ⟨w.heap.size + 1, 3, none⟩ = some (.int .i64 p3) ∧ Below W0.heap.size W0 V))
  have HT := hide (fun V : World => rtree_any p0 p1 p2 p3 V q0.1 q0.2 q1.1 q1.2)
  have HN2 := hide (fun V : World => refNumber_any 1 h V (by decide) q2.1 (by omega))
  have HN3 := hide (fun V : World => refNumber_any 1 j V (by decide) q3.1 (by omega))
  have HH := hide (fun V : World => rhash_any k x t l 4 b (pub ++ (numB 1 p0 ++ numB 4 p1) ++ numB 1 h ++ numB 1 j ++ y ++ z) V hk h1 h2 (by simp only [ByteArray.size_append, numB_size]; omega) (by omega) (by omega))
  have cc1 := sadd pub (numB 1 p0 ++ numB 4 p1) (by omega) (by simp only [ByteArray.size_append, numB_size]; omega)
  have cc2 := sadd (pub ++ (numB 1 p0 ++ numB 4 p1)) (numB 1 h) (by simp only [ByteArray.size_append, numB_size]; omega) (by rw [numB_size]; omega)
  have cc3 := sadd (pub ++ (numB 1 p0 ++ numB 4 p1) ++ numB 1 h) (numB 1 j) (by simp only [ByteArray.size_append, numB_size]; omega) (by rw [numB_size]; omega)
  have cc4 := sadd (pub ++ (numB 1 p0 ++ numB 4 p1) ++ numB 1 h ++ numB 1 j) y (by simp only [ByteArray.size_append, numB_size]; omega) (by omega)
  have cc5 := sadd (pub ++ (numB 1 p0 ++ numB 4 p1) ++ numB 1 h ++ numB 1 j ++ y) z (by simp only [ByteArray.size_append, numB_size]; omega) (by omega)
  have HE : Hid (hv k b (numB 1 4 ++ (pub ++ (numB 1 p0 ++ numB 4 p1) ++ numB 1 h ++ numB 1 j ++ y ++ z)) = joinS k b pub p0 p1 h j y z) := by
    show hv k b (numB 1 4 ++ (pub ++ (numB 1 p0 ++ numB 4 p1) ++ numB 1 h ++ numB 1 j ++ y ++ z)) = joinS k b pub p0 p1 h j y z
    unfold joinS; simp only [append_three]
  clear q0 q1 q2 q3
  go_enter Tryz.func97, Tryz.ntmps97
  go_wp2_with fail
  try rw [hW]
  go_region_held3 (fun V => V.cell? ⟨w.heap.size, 0, none⟩ = some (.int .i64 k) ∧ V.cell? ⟨w.heap.size, 1, none⟩ = some (.int .i64 b) ∧ V.cell? ⟨w.heap.size, 2, none⟩ = some (.int .i64 x) ∧ V.cell? ⟨w.heap.size, 3, none⟩ = some (.int .i64 t) ∧ V.cell? ⟨w.heap.size, 4, none⟩ = some (.int .i64 l) ∧ V.cell? ⟨w.heap.size + 1, 0, none⟩ = some (.int .i64 p0) ∧ V.cell? ⟨w.heap.size + 1, 1, none⟩ = some (.int .i64 p1) ∧ V.cell? ⟨w.heap.size + 1, 2, none⟩ = some (.int .i64 p2) ∧ V.cell? ⟨w.heap.size + 1, 3, none⟩ = some (.int .i64 p3) ∧ Below W0.heap.size W0 V) (first | exact HS.out _ hS4 | exact HS.out _ hS3 | exact HS.out _ hS2 | exact HS.out _ hS1 | exact HS.out _ (Below.refl _ _).drew) (first | (go_at_call 92; refine (HT.out _).mono ?_; rintro e w1 ⟨rfl, hb1⟩; have hS1 := heldB (Below.refl W0.heap.size W0).drew hb1 (Nat.le_refl _)) | (go_at_call 93; have hx := hS2; clear hx; refine (HN3.out _).mono ?_; rintro e w3 ⟨rfl, hb3⟩; have hS3 := heldB hS2 hb3 (Nat.le_refl _)) | (go_at_call 93; refine (HN2.out _).mono ?_; rintro e w2 ⟨rfl, hb2⟩; have hS2 := heldB hS1 hb2 (Nat.le_refl _)) | (go_at_call 91; refine (HH.out _).mono ?_; rintro e w4 ⟨rfl, hb4⟩; have hS4 := heldB hS3 hb4 (Nat.le_refl _)))
  go_wp2
  go_ret
  exact ⟨congrArg (fun z => Ending.returned (Value.string z)) HE.out, HB.out.trans (hS4.mono (by omega))⟩
end Go.Proofs.YtgaoeoijdpdjiaaGreatDoor

namespace Go.Proofs.YtgaoeoijdpdjiaaGreatDoor
open Go.RowKit
set_option maxRecDepth 20000 in
set_option maxHeartbeats 4000000 in
theorem rstart_any (k x t l p0 p1 p2 p3 : Int) (b : Nat) (sec rnd pub : ByteArray) (w : World) (hk : k = 1 ∨ k = 2) (h1 : 1 ≤ b) (h2 : b ≤ 16) (hs : sec.size ≤ 16) (q0 : 0 ≤ p0 ∧ p0 ≤ 100000) (q1 : 0 ≤ p1 ∧ p1 ≤ 100000) (q2 : 0 ≤ p2 ∧ p2 ≤ 100000) (q3 : 0 ≤ p3 ∧ p3 ≤ 100000) :
    Calls Tryz.prog 52 #[.agg #[.int .i64 k, .int .i64 b, .int .i64 x, .int .i64 t, .int .i64 l], .agg #[.string sec, .string rnd, .string pub], .agg #[.int .i64 p0, .int .i64 p1, .int .i64 p2, .int .i64 p3]] w fun e w' => e = .returned (.string (startS k b sec p0 p1 p2 p3)) ∧ Below w.heap.size w w' := by
  obtain ⟨W0, hW⟩ : ∃ W0, ((w.alloc (.cells #[.int .i64 k, .int .i64 b, .int .i64 x, .int .i64 t, .int .i64 l] 23)).alloc (.cells #[.string sec, .string rnd, .string pub] 25)).alloc (.cells #[.int .i64 p0, .int .i64 p1, .int .i64 p2, .int .i64 p3] 27) = W0 := ⟨_, rfl⟩
  have HF := hide (show FiveC w.heap.size W0 k b x t l by subst hW; refine ⟨?_, ?_, ?_, ?_, ?_⟩ <;> simp [go_sem])
  have HC := hide (show W0.cell? ⟨w.heap.size + 1, 0, none⟩ = some (.string sec) by subst hW; simp [go_sem])
  have HP := hide (show FourC (w.heap.size + 1 + 1) W0 p0 p1 p2 p3 by subst hW; refine ⟨?_, ?_, ?_, ?_⟩ <;> simp [go_sem])
  have HB := hide (show Below w.heap.size w W0 by subst hW; exact (((Below.refl _ _).alloc (Nat.le_refl _) _).alloc (by simp) _).alloc (by simp; omega) _)
  have hz : W0.heap.size = w.heap.size + 3 := by subst hW; simp
  have HS := hide (fun (V : World) (h : Below W0.heap.size W0 V) => (by
    obtain ⟨c0, c1, c2, c3, c4⟩ := HF.out.below h (by omega)
    obtain ⟨d0, d1, d2, d3⟩ := HP.out.below h (by omega)
    exact ⟨c0, c1, c2, c3, c4, (h.cell (p := ⟨w.heap.size + 1, 0, none⟩) (by show w.heap.size + 1 < _; omega)).trans HC.out, d0, d1, d2, d3, h⟩ : V.cell? ⟨w.heap.size, 0, none⟩ = some (.int .i64 k) ∧ V.cell? ⟨w.heap.size, 1, none⟩ = some (.int .i64 b) ∧ V.cell? ⟨w.heap.size, 2, none⟩ = some (.int .i64 x) ∧ V.cell? ⟨w.heap.size, 3, none⟩ = some (.int .i64 t) ∧ V.cell? ⟨w.heap.size, 4, none⟩ = some (.int .i64 l) ∧ V.cell? ⟨w.heap.size + 1, 0, none⟩ = some (.string sec) ∧ V.cell? ⟨w.heap.size + 1 + 1, 0, none⟩ = some (.int .i64 p0) ∧ V.cell? ⟨w.heap.size + 1 + 1, 1, none⟩ = some (.int .i64 p1) ∧ V.cell? ⟨w.heap.size + 1 + 1, 2, none⟩ = some (.int .i64 p2) ∧ V.cell? ⟨w.heap.size + 1 + 1, 3, none⟩ = some (.int .i64 p3) ∧ Below W0.heap.size W0 V))
  have HT := hide (fun V : World => rtree_any p0 p1 p2 p3 V q0.1 q0.2 q1.1 q1.2)
  have HN2 := hide (fun V : World => refNumber_any 1 p2 V (by decide) q2.1 (by omega))
  have HN3 := hide (fun V : World => refNumber_any 1 p3 V (by decide) q3.1 (by omega))
  have HH := hide (fun V : World => rhash_any k x t l 1 b (sec ++ (numB 1 p0 ++ numB 4 p1) ++ numB 1 p2 ++ numB 1 p3) V hk h1 h2 (by simp only [ByteArray.size_append, numB_size]; omega) (by omega) (by omega))
  have cc1 := sadd sec (numB 1 p0 ++ numB 4 p1) (by omega) (by simp only [ByteArray.size_append, numB_size]; omega)
  have cc2 := sadd (sec ++ (numB 1 p0 ++ numB 4 p1)) (numB 1 p2) (by simp only [ByteArray.size_append, numB_size]; omega) (by rw [numB_size]; omega)
  have cc3 := sadd (sec ++ (numB 1 p0 ++ numB 4 p1) ++ numB 1 p2) (numB 1 p3) (by simp only [ByteArray.size_append, numB_size]; omega) (by rw [numB_size]; omega)
  have HE : Hid (hv k b (numB 1 1 ++ (sec ++ (numB 1 p0 ++ numB 4 p1) ++ numB 1 p2 ++ numB 1 p3)) = startS k b sec p0 p1 p2 p3) := by
    show hv k b (numB 1 1 ++ (sec ++ (numB 1 p0 ++ numB 4 p1) ++ numB 1 p2 ++ numB 1 p3)) = startS k b sec p0 p1 p2 p3
    unfold startS; simp only [append_three]
  clear q0 q1 q2 q3
  go_enter Tryz.func52, Tryz.ntmps52
  go_wp2_with fail
  try rw [hW]
  go_region_held3 (fun V => V.cell? ⟨w.heap.size, 0, none⟩ = some (.int .i64 k) ∧ V.cell? ⟨w.heap.size, 1, none⟩ = some (.int .i64 b) ∧ V.cell? ⟨w.heap.size, 2, none⟩ = some (.int .i64 x) ∧ V.cell? ⟨w.heap.size, 3, none⟩ = some (.int .i64 t) ∧ V.cell? ⟨w.heap.size, 4, none⟩ = some (.int .i64 l) ∧ V.cell? ⟨w.heap.size + 1, 0, none⟩ = some (.string sec) ∧ V.cell? ⟨w.heap.size + 1 + 1, 0, none⟩ = some (.int .i64 p0) ∧ V.cell? ⟨w.heap.size + 1 + 1, 1, none⟩ = some (.int .i64 p1) ∧ V.cell? ⟨w.heap.size + 1 + 1, 2, none⟩ = some (.int .i64 p2) ∧ V.cell? ⟨w.heap.size + 1 + 1, 3, none⟩ = some (.int .i64 p3) ∧ Below W0.heap.size W0 V) (first | exact HS.out _ hS4 | exact HS.out _ hS3 | exact HS.out _ hS2 | exact HS.out _ hS1 | exact HS.out _ (Below.refl _ _).drew) (first | (go_at_call 92; refine (HT.out _).mono ?_; rintro e w1 ⟨rfl, hb1⟩; have hS1 := heldB (Below.refl W0.heap.size W0).drew hb1 (Nat.le_refl _)) | (go_at_call 93; have hx := hS2; clear hx; refine (HN3.out _).mono ?_; rintro e w3 ⟨rfl, hb3⟩; have hS3 := heldB hS2 hb3 (Nat.le_refl _)) | (go_at_call 93; refine (HN2.out _).mono ?_; rintro e w2 ⟨rfl, hb2⟩; have hS2 := heldB hS1 hb2 (Nat.le_refl _)) | (go_at_call 91; refine (HH.out _).mono ?_; rintro e w4 ⟨rfl, hb4⟩; have hS4 := heldB hS3 hb4 (Nat.le_refl _)))
  go_wp2
  go_ret
  exact ⟨congrArg (fun z => Ending.returned (Value.string z)) HE.out, HB.out.trans (hS4.mono (by omega))⟩
end Go.Proofs.YtgaoeoijdpdjiaaGreatDoor

namespace Go.Proofs.YtgaoeoijdpdjiaaGreatDoor
open Go.RowKit
set_option maxRecDepth 20000 in
set_option maxHeartbeats 4000000 in
theorem rchain_any (k x t l p0 p1 p2 p3 : Int) (b : Nat) (pub y : ByteArray) (f : Nat) (hk : k = 1 ∨ k = 2) (h1 : 1 ≤ b) (h2 : b ≤ 16) (hs : pub.size ≤ 16) (hy : (y.size : Int) = b) (q0 : 0 ≤ p0 ∧ p0 ≤ 100000) (q1 : 0 ≤ p1 ∧ p1 ≤ 100000) (q2 : 0 ≤ p2 ∧ p2 ≤ 100000) (q3 : 0 ≤ p3 ∧ p3 ≤ 100000) : ∀ (n : Nat) (_ : f + n ≤ 16) (w : World),
    Calls Tryz.prog 54 #[.agg #[.int .i64 k, .int .i64 b, .int .i64 x, .int .i64 t, .int .i64 l], .string pub, .agg #[.int .i64 p0, .int .i64 p1, .int .i64 p2, .int .i64 p3], .int .i64 f, .int .i64 (f + n : Nat), .string y] w fun e w' => e = .returned (.string (chainS k b pub p0 p1 p2 p3 f n y)) ∧ Below w.heap.size w w' := by
  intro n
  induction n with
  | zero =>
    intro _ w
    go_enter Tryz.func54, Tryz.ntmps54
    go_wp2
    go_ret
    exact ⟨rfl, ((Below.refl _ _).alloc (Nat.le_refl _) _).alloc (by simp) _⟩
  | succ n ih =>
    intro hn w
    have HI := hide (fun V : World => ih (by omega) V)
    clear ih
    obtain ⟨W0, hW⟩ : ∃ W0, (w.alloc (.cells #[.int .i64 k, .int .i64 b, .int .i64 x, .int .i64 t, .int .i64 l] 23)).alloc (.cells #[.int .i64 p0, .int .i64 p1, .int .i64 p2, .int .i64 p3] 27) = W0 := ⟨_, rfl⟩
    have HF := hide (show FiveC w.heap.size W0 k b x t l by subst hW; refine ⟨?_, ?_, ?_, ?_, ?_⟩ <;> simp [go_sem])
    have HP := hide (show FourC (w.heap.size + 1) W0 p0 p1 p2 p3 by subst hW; refine ⟨?_, ?_, ?_, ?_⟩ <;> simp [go_sem])
    have HB := hide (show Below w.heap.size w W0 by subst hW; exact ((Below.refl _ _).alloc (Nat.le_refl _) _).alloc (by simp) _)
    have hz : W0.heap.size = w.heap.size + 2 := by subst hW; simp
    have HS := hide (fun (V : World) (h : Below W0.heap.size W0 V) => (by
      obtain ⟨c0, c1, c2, c3, c4⟩ := HF.out.below h (by omega)
      obtain ⟨d0, d1, d2, d3⟩ := HP.out.below h (by omega)
      exact ⟨c0, c1, c2, c3, c4, d0, d1, d2, d3, h⟩ : V.cell? ⟨w.heap.size, 0, none⟩ = some (.int .i64 k) ∧ V.cell? ⟨w.heap.size, 1, none⟩ = some (.int .i64 b) ∧ V.cell? ⟨w.heap.size, 2, none⟩ = some (.int .i64 x) ∧ V.cell? ⟨w.heap.size, 3, none⟩ = some (.int .i64 t) ∧ V.cell? ⟨w.heap.size, 4, none⟩ = some (.int .i64 l) ∧ V.cell? ⟨w.heap.size + 1, 0, none⟩ = some (.int .i64 p0) ∧ V.cell? ⟨w.heap.size + 1, 1, none⟩ = some (.int .i64 p1) ∧ V.cell? ⟨w.heap.size + 1, 2, none⟩ = some (.int .i64 p2) ∧ V.cell? ⟨w.heap.size + 1, 3, none⟩ = some (.int .i64 p3) ∧ Below W0.heap.size W0 V))
    have HCS := hide (chainS_size k b pub p0 p1 p2 p3 f n y hk (by omega) (by omega) hs hy)
    obtain ⟨T, hTd⟩ : ∃ T : Int, (f : Int) + ((n : Int) + 1) = T := ⟨_, rfl⟩
    have hT1 : 1 ≤ T := by omega
    have hT2 : T ≤ 16 := by omega
    have hTf : (f : Int) < T := by omega
    have HTE := hide (show (f : Int) + (n : Int) = T - 1 by omega)
    have HST : Hid (chainS k b pub p0 p1 p2 p3 f (n + 1) y = stepS k b pub p0 p1 p2 p3 (T - 1) (chainS k b pub p0 p1 p2 p3 f n y)) := by rw [← HTE.out]; rfl
    rw [HST.out]
    generalize chainS k b pub p0 p1 p2 p3 f n y = u at HI HCS HST ⊢
    have hu : u.size ≤ 16 := by have := HCS.out; omega
    have HT := hide (fun V : World => rtree_any p0 p1 p2 p3 V q0.1 q0.2 q1.1 q1.2)
    have HN2 := hide (fun V : World => refNumber_any 1 p2 V (by decide) q2.1 (by omega))
    have HN3 := hide (fun V : World => refNumber_any 1 p3 V (by decide) q3.1 (by omega))
    have HN4 := hide (fun V : World => refNumber_any 1 (T - 1) V (by decide) (by omega) (by omega))
    have HH := hide (fun V : World => rhash_any k x t l 2 b (pub ++ (numB 1 p0 ++ numB 4 p1) ++ numB 1 p2 ++ numB 1 p3 ++ numB 1 (T - 1) ++ u) V hk h1 h2 (by simp only [ByteArray.size_append, numB_size]; omega) (by omega) (by omega))
    have cc1 := sadd pub (numB 1 p0 ++ numB 4 p1) (by omega) (by simp only [ByteArray.size_append, numB_size]; omega)
    have cc2 := sadd (pub ++ (numB 1 p0 ++ numB 4 p1)) (numB 1 p2) (by simp only [ByteArray.size_append, numB_size]; omega) (by rw [numB_size]; omega)
    have cc3 := sadd (pub ++ (numB 1 p0 ++ numB 4 p1) ++ numB 1 p2) (numB 1 p3) (by simp only [ByteArray.size_append, numB_size]; omega) (by rw [numB_size]; omega)
    have cc4 := sadd (pub ++ (numB 1 p0 ++ numB 4 p1) ++ numB 1 p2 ++ numB 1 p3) (numB 1 (T - 1)) (by simp only [ByteArray.size_append, numB_size]; omega) (by rw [numB_size]; omega)
    have cc5 := sadd (pub ++ (numB 1 p0 ++ numB 4 p1) ++ numB 1 p2 ++ numB 1 p3 ++ numB 1 (T - 1)) u (by simp only [ByteArray.size_append, numB_size]; omega) (by omega)
    have HE : Hid (hv k b (numB 1 2 ++ (pub ++ (numB 1 p0 ++ numB 4 p1) ++ numB 1 p2 ++ numB 1 p3 ++ numB 1 (T - 1) ++ u)) = stepS k b pub p0 p1 p2 p3 (T - 1) u) := by
      show hv k b (numB 1 2 ++ (pub ++ (numB 1 p0 ++ numB 4 p1) ++ numB 1 p2 ++ numB 1 p3 ++ numB 1 (T - 1) ++ u)) = stepS k b pub p0 p1 p2 p3 (T - 1) u
      unfold stepS; simp only [append_three]
    have hto : ((f + (n + 1) : Nat) : Int) = T := by omega
    have hto2 : ((f + n : Nat) : Int) = T - 1 := by omega
    rw [hto2] at HI
    rw [hto]
    clear hTd
    have hsub : IntKind.i64.wrap (T - 1) = T - 1 := by
      rw [IntKind.wrap_i64]; omega
    clear q0 q1 q2 q3 hto hto2
    obtain ⟨e0, e1, e2, e3, e4, f0, f1, f2, f3, _⟩ := HS.out W0 (Below.refl _ _)
    go_enter Tryz.func54, Tryz.ntmps54
    go_wp2_with fail
    refine (HI.out _).mono ?_
    rintro e w0 ⟨rfl, hb0⟩
    have hS0 := heldB (Below.refl W0.heap.size W0) hb0 (Nat.le_refl _)
    clear e0 e1 e2 e3 e4 f0 f1 f2 f3 hb0
    go_wp2_with fail
    go_region_held3 (fun V => V.cell? ⟨w.heap.size, 0, none⟩ = some (.int .i64 k) ∧ V.cell? ⟨w.heap.size, 1, none⟩ = some (.int .i64 b) ∧ V.cell? ⟨w.heap.size, 2, none⟩ = some (.int .i64 x) ∧ V.cell? ⟨w.heap.size, 3, none⟩ = some (.int .i64 t) ∧ V.cell? ⟨w.heap.size, 4, none⟩ = some (.int .i64 l) ∧ V.cell? ⟨w.heap.size + 1, 0, none⟩ = some (.int .i64 p0) ∧ V.cell? ⟨w.heap.size + 1, 1, none⟩ = some (.int .i64 p1) ∧ V.cell? ⟨w.heap.size + 1, 2, none⟩ = some (.int .i64 p2) ∧ V.cell? ⟨w.heap.size + 1, 3, none⟩ = some (.int .i64 p3) ∧ Below W0.heap.size W0 V) (first | exact HS.out _ hS5 | exact HS.out _ hS4 | exact HS.out _ hS3 | exact HS.out _ hS2 | exact HS.out _ hS1 | exact HS.out _ hS0.drew) (first | (go_at_call 92; refine (HT.out _).mono ?_; rintro e w1 ⟨rfl, hb1⟩; have hS1 := heldB hS0.drew hb1 (Nat.le_refl _)) | (go_at_call 93; have hx := hS3; clear hx; refine (HN4.out _).mono ?_; rintro e w4 ⟨rfl, hb4⟩; have hS4 := heldB hS3 hb4 (Nat.le_refl _)) | (go_at_call 93; have hx := hS2; clear hx; refine (HN3.out _).mono ?_; rintro e w3 ⟨rfl, hb3⟩; have hS3 := heldB hS2 hb3 (Nat.le_refl _)) | (go_at_call 93; refine (HN2.out _).mono ?_; rintro e w2 ⟨rfl, hb2⟩; have hS2 := heldB hS1 hb2 (Nat.le_refl _)) | (go_at_call 91; refine (HH.out _).mono ?_; rintro e w5 ⟨rfl, hb5⟩; have hS5 := heldB hS4 hb5 (Nat.le_refl _)))
    go_wp2
    go_ret
    exact ⟨congrArg (fun z => Ending.returned (Value.string z)) HE.out, HB.out.trans (hS5.mono (by omega))⟩
end Go.Proofs.YtgaoeoijdpdjiaaGreatDoor
