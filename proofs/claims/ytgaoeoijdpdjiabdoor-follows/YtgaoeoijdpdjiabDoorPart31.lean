/-
  The statement's own blank: a signature of zeros is one in form; its calls' answers being given. The program's Signing: the leaf that signs in a layer under an index. signet.Fold, Climb: what the calls below answer.
-/
import Derived.Test.YtgaoeoijdpdjiabDoorPart25
import Derived.Test.YtgaoeoijdpdjiabDoorPart30
import Derived.Test.YtgaoeoijdpdjiabDoorPart28
namespace Go.Proofs.YtgaoeoijdpdjiabDoor
open Go.RowKit

set_option maxRecDepth 20000 in
set_option maxHeartbeats 8000000 in
theorem blank_on (k b x t l ch A1 E NB M : Int) (N : Nat) (zs rnd : ByteArray) (ps : List ByteArray) (w : World) (hT : Tn w) (hr : (rnd.size : Int) = b)
    (w1 : IntKind.i64.wrap (4 + b) = A1) (w2 : IntKind.i64.wrap (ch + t) = E) (w3 : IntKind.i64.wrap (l * E) = (N : Int)) (w4 : IntKind.i64.wrap ((N : Int) * b) = NB) (w5 : IntKind.i64.wrap (A1 + NB) = M)
    (hKn : ∀ V : World, Tn V → Calls Tryd.prog 15 #[] V fun e w' => e = .returned (.bool true) ∧ Below V.heap.size V w')
    (hCh : ∀ V : World, Calls Tryd.prog 16 #[.agg #[.int .i64 k, .int .i64 b, .int .i64 x, .int .i64 t, .int .i64 l]] V fun e w' => e = .returned (.int .i64 ch) ∧ Below V.heap.size V w')
    (hSm : ∀ V : World, Calls Tryd.prog 5 #[.string ⟨#[]⟩, .int .i64 M] V fun e w' => e = .returned (.string zs) ∧ Below V.heap.size V w')
    (hSp : ∀ V : World, Calls Tryd.prog 10 #[.agg #[.int .i64 k, .int .i64 b, .int .i64 x, .int .i64 t, .int .i64 l], .string zs] V fun r w' => ∃ g, r = .returned (.tuple #[.agg #[.int .i64 0, .string rnd, .slice (some ⟨g, 0, none⟩) N N], .int .i64 0]) ∧ V.heap.size ≤ g ∧ Blk w' g (ps.map Value.string) 9 ∧ Below V.heap.size V w')
    (hSz : ∀ (V : World) (g : Nat), Blk V g (ps.map Value.string) 9 → Calls Tryd.prog 17 #[.agg #[.int .i64 k, .int .i64 b, .int .i64 x, .int .i64 t, .int .i64 l], .slice (some ⟨g, 0, none⟩) N N, .int .i64 N] V fun e w' => e = .returned (.bool true) ∧ Below V.heap.size V w')
    (hJn : ∀ (V : World) (g : Nat), Blk V g (ps.map Value.string) 9 → Calls Tryd.prog 11 #[.agg #[.int .i64 k, .int .i64 b, .int .i64 x, .int .i64 t, .int .i64 l], .agg #[.int .i64 0, .string rnd, .slice (some ⟨g, 0, none⟩) N N]] V fun e w' => e = .returned (.tuple #[.string zs, .int .i64 0]) ∧ Below V.heap.size V w') :
    Calls Tryd.prog 7 #[.agg #[.int .i64 k, .int .i64 b, .int .i64 x, .int .i64 t, .int .i64 l]] w fun e w' => e = .returned (.bool true) ∧ Below w.heap.size w w' := by
  have HKN := hide hKn
  have HCH := hide hCh
  have HSM := hide hSm
  have HSP := hide hSp
  have HSZ := hide hSz
  have HJN := hide hJn
  have g3 : ((rnd.size : Int) == b) = true := by simpa using hr
  have g3n : ((rnd.size : Int) != b) = false := by rw [bne, g3]; rfl
  obtain ⟨W0, hW⟩ : ∃ W0, w.alloc (.cells #[.int .i64 k, .int .i64 b, .int .i64 x, .int .i64 t, .int .i64 l] 23) = W0 := ⟨_, rfl⟩
  have HK := hide (show Blk W0 w.heap.size [.int .i64 k, .int .i64 b, .int .i64 x, .int .i64 t, .int .i64 l] 23 by rw [← hW]; exact Blk.new w _ _)
  have HB := hide (show Below w.heap.size w W0 by subst hW; exact (Below.refl _ _).alloc (Nat.le_refl _) _)
  have HTW := hide (hT.on HB.out)
  have HS := hide (fun (V : World) (h : Below W0.heap.size W0 V) => (by
    have q1 := HK.out.on h
    exact ⟨q1.cell 0, q1.cell 1, q1.cell 2, q1.cell 3, q1.cell 4⟩ : V.cell? ⟨w.heap.size, 0, none⟩ = some (.int .i64 k) ∧ V.cell? ⟨w.heap.size, 1, none⟩ = some (.int .i64 b) ∧ V.cell? ⟨w.heap.size, 2, none⟩ = some (.int .i64 x) ∧ V.cell? ⟨w.heap.size, 3, none⟩ = some (.int .i64 t) ∧ V.cell? ⟨w.heap.size, 4, none⟩ = some (.int .i64 l)))
  clear hKn hCh hSm hSp hSz hJn hT hr
  have HWE := hide hW
  clear hW
  go_enter Tryd.func7, Tryd.ntmps7
  go_wp2_with fail
  rw [HWE.out]
  refine (HKN.out _ HTW.out).mono ?_
  rintro e w1' ⟨rfl, hb1⟩
  have HB1 := hide (heldB (Below.refl W0.heap.size W0) hb1 (Nat.le_refl _))
  clear hb1 HWE
  have HS1 := hide (fun (V : World) (h : Below w1'.heap.size w1' V) => HS.out V (heldB HB1.out h (Nat.le_refl _)))
  go_wp2_with fail
  go_region_held3 (fun V => V.cell? ⟨w.heap.size, 0, none⟩ = some (.int .i64 k) ∧ V.cell? ⟨w.heap.size, 1, none⟩ = some (.int .i64 b) ∧ V.cell? ⟨w.heap.size, 2, none⟩ = some (.int .i64 x) ∧ V.cell? ⟨w.heap.size, 3, none⟩ = some (.int .i64 t) ∧ V.cell? ⟨w.heap.size, 4, none⟩ = some (.int .i64 l)) (first | exact HS1.out _ hS2 | exact HS1.out _ (Below.refl w1'.heap.size w1').drew) ((go_at_call 16; refine (HCH.out _).mono ?_; rintro e w2' ⟨rfl, hb2⟩; have hS2 := heldB (Below.refl w1'.heap.size w1').drew hb2 (Nat.le_refl _)))
  have HB2 := hide (heldB HB1.out hS2 (Nat.le_refl _))
  clear hS2 hb2
  go_wp2_with fail
  refine (HSM.out _).mono ?_
  rintro e w9 ⟨rfl, hb9⟩
  have HB9 := hide (heldB HB2.out hb9 (Nat.le_refl _))
  clear hb9
  obtain ⟨c0, c1, c2, c3, c4⟩ := HS.out _ HB9.out
  go_wp2_with fail
  refine (HSP.out _).mono ?_
  rintro e w3 ⟨g, rfl, hg, hbk, hb3⟩
  have HB3 := hide (heldB HB9.out hb3 (Nat.le_refl _))
  have HG3 := hide hbk
  clear hb3 hg hbk c0 c1 c2 c3 c4
  have HB4 := hide (HB3.out.alloc HB3.out.size (.cells #[.int .i64 0, .string rnd, .slice (some ⟨g, 0, none⟩) N N] 32))
  have HG4 := hide (HG3.out.alloc (.cells #[.int .i64 0, .string rnd, .slice (some ⟨g, 0, none⟩) N N] 32))
  have HP4 := hide (Blk.new w3 [.int .i64 0, .string rnd, .slice (some ⟨g, 0, none⟩) N N] 32)
  obtain ⟨W4, hW4⟩ : ∃ W4, w3.alloc (.cells #[.int .i64 0, .string rnd, .slice (some ⟨g, 0, none⟩) N N] 32) = W4 := ⟨_, rfl⟩
  rw [hW4] at HB4 HG4 HP4
  have HW4 := hide hW4
  clear hW4
  have HS4 := hide (fun (V : World) (h : Below W4.heap.size W4 V) => (by
    obtain ⟨c0, c1, c2, c3, c4⟩ := HS.out V (heldB HB4.out h (Nat.le_refl _))
    have q2 := HP4.out.on h
    exact ⟨c0, c1, c2, c3, c4, q2.cell 0, q2.cell 1, q2.cell 2⟩ : V.cell? ⟨w.heap.size, 0, none⟩ = some (.int .i64 k) ∧ V.cell? ⟨w.heap.size, 1, none⟩ = some (.int .i64 b) ∧ V.cell? ⟨w.heap.size, 2, none⟩ = some (.int .i64 x) ∧ V.cell? ⟨w.heap.size, 3, none⟩ = some (.int .i64 t) ∧ V.cell? ⟨w.heap.size, 4, none⟩ = some (.int .i64 l) ∧ V.cell? ⟨w3.heap.size, 0, none⟩ = some (.int .i64 0) ∧ V.cell? ⟨w3.heap.size, 1, none⟩ = some (.string rnd) ∧ V.cell? ⟨w3.heap.size, 2, none⟩ = some (.slice (some ⟨g, 0, none⟩) N N)))
  go_wp2_with fail
  rw [HW4.out]
  go_region_held3 (fun V => V.cell? ⟨w.heap.size, 0, none⟩ = some (.int .i64 k) ∧ V.cell? ⟨w.heap.size, 1, none⟩ = some (.int .i64 b) ∧ V.cell? ⟨w.heap.size, 2, none⟩ = some (.int .i64 x) ∧ V.cell? ⟨w.heap.size, 3, none⟩ = some (.int .i64 t) ∧ V.cell? ⟨w.heap.size, 4, none⟩ = some (.int .i64 l) ∧ V.cell? ⟨w3.heap.size, 0, none⟩ = some (.int .i64 0) ∧ V.cell? ⟨w3.heap.size, 1, none⟩ = some (.string rnd) ∧ V.cell? ⟨w3.heap.size, 2, none⟩ = some (.slice (some ⟨g, 0, none⟩) N N)) (first | exact HS4.out _ hS6 | exact HS4.out _ hS5 | exact HS4.out _ (Below.refl W4.heap.size W4).drew) (first | (go_at_call 16; refine (HCH.out _).mono ?_; rintro e w5' ⟨rfl, hb5⟩; have hS5 := heldB (Below.refl W4.heap.size W4).drew hb5 (Nat.le_refl _)) | (go_at_call 17; refine (HSZ.out _ g (HG4.out.on hS5)).mono ?_; rintro e w6 ⟨rfl, hb6⟩; have hS6 := heldB hS5 hb6 (Nat.le_refl _)))
  have HB6 := hide hS6
  have HG6 := hide (HG4.out.on hS6)
  clear hS5 hS6 hb5 hb6 HW4
  obtain ⟨c0, c1, c2, c3, c4, d0, d1, d2⟩ := HS4.out _ HB6.out
  go_wp2_with fail
  refine (HJN.out _ g HG6.out).mono ?_
  rintro e w7 ⟨rfl, hb7⟩
  have HB7 := hide (heldB (heldB HB4.out HB6.out (Nat.le_refl _)) hb7 (Nat.le_refl _))
  clear hb7
  go_wp2
  go_ret
  exact ⟨rfl, HB.out.trans (HB7.out.mono HB.out.size)⟩
end Go.Proofs.YtgaoeoijdpdjiabDoor

namespace Go.Proofs.YtgaoeoijdpdjiabDoor
open Go.RowKit

set_option maxRecDepth 20000 in
set_option maxHeartbeats 4000000 in
theorem signing_any (k b x l : Int) (t q idx : Nat) (w : World) (h1 : 1 ≤ t) (h2 : t ≤ 4) (hq : q ≤ 3) (hi : idx ≤ 100000) :
    Calls Tryd.prog 41 #[.agg #[.int .i64 k, .int .i64 b, .int .i64 x, .int .i64 t, .int .i64 l], .int .i64 idx, .int .i64 q] w fun e w' => e = .returned (.agg #[.int .i64 q, .int .i64 ((idx / 2 ^ (t * q) / 2 ^ t : Nat) : Int), .int .i64 ((idx / 2 ^ (t * q) % 2 ^ t : Nat) : Int), .int .i64 0]) ∧ Below w.heap.size w w' := by
  obtain ⟨d, hd⟩ : ∃ d, t * q = d := ⟨_, rfl⟩
  have hd12 : d ≤ 12 := by rw [← hd]; exact Nat.le_trans (Nat.mul_le_mul h2 hq) (by decide)
  have hw1 : IntKind.i64.wrap ((t : Int) * (q : Int)) = (d : Int) := by
    have e : (t : Int) * (q : Int) = (d : Int) := by rw [← hd, Int.natCast_mul]
    rw [e, IntKind.wrap_i64] <;> omega
  rw [hd]
  obtain ⟨N, hN⟩ : ∃ N, idx / 2 ^ d = N := ⟨_, rfl⟩
  have hNb : N ≤ 100000 := by rw [← hN]; exact Nat.le_trans (Nat.div_le_self _ _) hi
  have hsh : (idx : Int) / 2 ^ d = (N : Int) := by rw [← hN, Int.natCast_ediv, Int.natCast_pow]; rfl
  rw [hN]
  have HL := hide (fun V : World => setsLeaves_any k b x l t V h1 h2)
  obtain ⟨L, hL⟩ : ∃ L : Nat, 2 ^ t = L := ⟨_, rfl⟩
  have hL1 : 1 ≤ L := by rw [← hL]; exact Nat.one_le_two_pow
  rw [hL] at HL ⊢
  have hL0 : L ≠ 0 := by omega
  obtain ⟨A, hA⟩ : ∃ A : Nat, N / L = A := ⟨_, rfl⟩
  obtain ⟨C, hC⟩ : ∃ C : Nat, N % L = C := ⟨_, rfl⟩
  have hdv : Int.tdiv (N : Int) (L : Int) = (A : Int) := by rw [← hA, Int.tdiv_eq_ediv_of_nonneg (by omega)]; exact (Int.natCast_ediv _ _).symm
  have hmd : Int.tmod (N : Int) (L : Int) = (C : Int) := by rw [← hC, Int.tmod_eq_emod_of_nonneg (by omega)]; exact (Int.natCast_emod _ _).symm
  have hAb : A ≤ 100000 := by rw [← hA]; exact Nat.le_trans (Nat.div_le_self _ _) hNb
  have hCb : C ≤ 100000 := by rw [← hC]; exact Nat.le_trans (Nat.mod_le _ _) hNb
  have hv1 : IntKind.i64.wrap (A : Int) = (A : Int) := by rw [IntKind.wrap_i64] <;> omega
  have hv2 : IntKind.i64.wrap (C : Int) = (C : Int) := by rw [IntKind.wrap_i64] <;> omega
  rw [hA, hC]
  clear hA hC
  clear hL hd hN
  obtain ⟨W0, hW⟩ : ∃ W0, (w.alloc (.cells #[.int .i64 k, .int .i64 b, .int .i64 x, .int .i64 t, .int .i64 l] 23)).alloc (.cells #[.int .i64 0, .int .i64 0, .int .i64 0, .int .i64 0] 47) = W0 := ⟨_, rfl⟩
  have HF := hide (show FiveC w.heap.size W0 k b x t l by subst hW; refine ⟨?_, ?_, ?_, ?_, ?_⟩ <;> simp [go_sem])
  have HB := hide (show Below w.heap.size w W0 by subst hW; exact ((Below.refl _ _).alloc (Nat.le_refl _) _).alloc (by simp) _)
  have hz : W0.heap.size ≤ w.heap.size + 2 := by subst hW; simp
  have hz' : w.heap.size + 2 ≤ W0.heap.size := by subst hW; simp
  have HBK := hide (show Blk W0 (w.heap.size + 1) [.int .i64 0, .int .i64 0, .int .i64 0, .int .i64 0] 47 by
    subst hW
    have h := Blk.new (w.alloc (.cells #[.int .i64 k, .int .i64 b, .int .i64 x, .int .i64 t, .int .i64 l] 23)) [.int .i64 0, .int .i64 0, .int .i64 0, .int .i64 0] 47
    simp only [World.size_alloc] at h
    exact h)
  have HS5 := hide (fun (V : World) (h : Below (w.heap.size + 1) W0 V) => (HF.out.below h (by omega) : V.cell? ⟨w.heap.size, 0, none⟩ = some (.int .i64 k) ∧ V.cell? ⟨w.heap.size, 1, none⟩ = some (.int .i64 b) ∧ V.cell? ⟨w.heap.size, 2, none⟩ = some (.int .i64 x) ∧ V.cell? ⟨w.heap.size, 3, none⟩ = some (.int .i64 t) ∧ V.cell? ⟨w.heap.size, 4, none⟩ = some (.int .i64 l)))
  have HS := hide (fun (V : World) (h : Below W0.heap.size W0 V) => HS5.out V (h.mono (by omega)))
  obtain ⟨c0, c1, c2, c3, c4⟩ := HS.out W0 (Below.refl _ _)
  have HWE := hide hW
  clear hW
  go_enter Tryd.func41, Tryd.ntmps41
  go_wp2_with fail
  rw [HWE.out]
  clear c0 c1 c2 c3 c4
  refine wp_region_held_drew (S := fun V => V.cell? ⟨w.heap.size, 0, none⟩ = some (.int .i64 k) ∧ V.cell? ⟨w.heap.size, 1, none⟩ = some (.int .i64 b) ∧ V.cell? ⟨w.heap.size, 2, none⟩ = some (.int .i64 x) ∧ V.cell? ⟨w.heap.size, 3, none⟩ = some (.int .i64 t) ∧ V.cell? ⟨w.heap.size, 4, none⟩ = some (.int .i64 l)) (by kernel_rfl) (HS.out _ ((Below.refl W0.heap.size W0).drew)) (fun hHeld => ?_)
  refine wpAnyH_take (i := 0) (oi := ?oia0) (v := ?va0) ?hia0 (by kernel_rfl) (by kernel_rfl) (by kernel_rfl) ?hQa0 (Or.inl ⟨?h1a0, ?hya0⟩) hHeld ?resta0
  case hia0 => (simp only [List.getElem?_toArray, List.getElem?_cons_zero]; rfl)
  case hQa0 => exact fun _ _ _ h => h
  case h1a0 => rfl
  case hya0 => intro V hSV; (try dsimp only at hSV); go_simp; (try with_reducible rfl)
  try simp only [Act.put, List.setIfInBounds_toArray, List.set_cons_zero, List.set_cons_succ]
  refine wpAnyH_take (i := 1) (oi := ?oia1) (v := ?va1) ?hia1 (by kernel_rfl) (by kernel_rfl) (by kernel_rfl) ?hQa1 (Or.inl ⟨?h1a1, ?hya1⟩) hHeld ?resta1
  case hia1 => (simp only [List.getElem?_toArray, List.getElem?_cons_succ, List.getElem?_cons_zero]; rfl)
  case hQa1 => exact fun _ _ _ h => h
  case h1a1 => rfl
  case hya1 => intro V hSV; (try dsimp only at hSV); go_simp; (try with_reducible rfl)
  try simp only [Act.put, List.setIfInBounds_toArray, List.set_cons_zero, List.set_cons_succ]
  refine wpAnyH_take (i := 2) (oi := ?oia2) (v := ?va2) ?hia2 (by kernel_rfl) (by kernel_rfl) (by kernel_rfl) ?hQa2 (Or.inl ⟨?h1a2, ?hya2⟩) hHeld ?resta2
  case hia2 => (simp only [List.getElem?_toArray, List.getElem?_cons_succ, List.getElem?_cons_zero]; rfl)
  case hQa2 => exact fun _ _ _ h => h
  case h1a2 => rfl
  case hya2 => intro V hSV; (try dsimp only at hSV); go_simp; (try with_reducible rfl)
  try simp only [Act.put, List.setIfInBounds_toArray, List.set_cons_zero, List.set_cons_succ]
  refine wpAnyH_take (i := 5) (oi := ?oia5) (v := ?va5) ?hia5 (by kernel_rfl) (by kernel_rfl) (by kernel_rfl) ?hQa5 (Or.inl ⟨?h1a5, ?hya5⟩) hHeld ?resta5
  case hia5 => (simp only [List.getElem?_toArray, List.getElem?_cons_succ, List.getElem?_cons_zero]; rfl)
  case hQa5 => exact fun _ _ _ h => h
  case h1a5 => rfl
  case hya5 => intro V hSV; (try dsimp only at hSV); go_simp; (try with_reducible rfl)
  try simp only [Act.put, List.setIfInBounds_toArray, List.set_cons_zero, List.set_cons_succ]
  refine wpAnyH_take (i := 6) (oi := ?oia6) (v := ?va6) ?hia6 (by kernel_rfl) (by kernel_rfl) (by kernel_rfl) ?hQa6 (Or.inl ⟨?h1a6, ?hya6⟩) hHeld ?resta6
  case hia6 => (simp only [List.getElem?_toArray, List.getElem?_cons_succ, List.getElem?_cons_zero]; rfl)
  case hQa6 => exact fun _ _ _ h => h
  case h1a6 => rfl
  case hya6 => intro V hSV; (try dsimp only at hSV); go_simp; (try with_reducible rfl)
  try simp only [Act.put, List.setIfInBounds_toArray, List.set_cons_zero, List.set_cons_succ]
  refine wpAnyH_ready (rs := [3]) (by kernel_rfl) (by simp) ?_
  refine AllReadyH.cons (o := ?oa3) ?hoa3 (fun K hK => ?hsa3) AllReadyH.nil
  case hoa3 => (simp only [List.getElem?_toArray, List.getElem?_cons_succ, List.getElem?_cons_zero]; rfl)
  go_simp
  go_at_call 58
  refine (HL.out _).mono ?_
  rintro e w1 ⟨rfl, hb1⟩
  have hS1 := heldB (Below.refl W0.heap.size W0).drew hb1 (Nat.le_refl _)
  have HB1 := hide hS1
  clear hb1 hS1
  try go_wp2_with fail
  refine hK.out _ _ (HS.out _ (HB1.out)) (fun hHeld => ?_)
  clear hK K
  try simp only [Act.put, List.setIfInBounds_toArray, List.set_cons_zero, List.set_cons_succ]
  refine wpAnyH_take (i := 4) (oi := ?oia4) (v := ?va4) ?hia4 (by kernel_rfl) (by kernel_rfl) (by kernel_rfl) ?hQa4 (Or.inl ⟨?h1a4, ?hya4⟩) hHeld ?resta4
  case hia4 => (simp only [List.getElem?_toArray, List.getElem?_cons_succ, List.getElem?_cons_zero]; rfl)
  case hQa4 => exact fun _ _ _ h => h
  case h1a4 => rfl
  case hya4 => intro V hSV; (try dsimp only at hSV); go_simp; (try with_reducible rfl)
  try simp only [Act.put, List.setIfInBounds_toArray, List.set_cons_zero, List.set_cons_succ]
  refine wpAnyH_ready (rs := [7]) (by kernel_rfl) (by simp) ?_
  refine AllReadyH.cons (o := ?oa7) ?hoa7 (fun K hK => ?hsa7) AllReadyH.nil
  case hoa7 => (simp only [List.getElem?_toArray, List.getElem?_cons_succ, List.getElem?_cons_zero]; rfl)
  go_simp
  go_at_call 58
  refine (HL.out _).mono ?_
  rintro e w2 ⟨rfl, hb2⟩
  have hS2 := heldB HB1.out hb2 (Nat.le_refl _)
  have HB2 := hide hS2
  have HK2 := hide (HBK.out.below hS2 (by omega))
  clear hb2 hS2
  try go_wp2_with fail
  refine hK.out _ _ (HS.out _ (HB2.out)) (fun hHeld => ?_)
  clear hK K
  try simp only [Act.put, List.setIfInBounds_toArray, List.set_cons_zero, List.set_cons_succ]
  refine wpAnyH_take (i := 8) (oi := ?oia8) (v := ?va8) ?hia8 (by kernel_rfl) (by kernel_rfl) (by kernel_rfl) ?hQa8 (Or.inl ⟨?h1a8, ?hya8⟩) hHeld ?resta8
  case hia8 => (simp only [List.getElem?_toArray, List.getElem?_cons_succ, List.getElem?_cons_zero]; rfl)
  case hQa8 => exact fun _ _ _ h => h
  case h1a8 => rfl
  case hya8 => intro V hSV; (try dsimp only at hSV); go_simp; (try with_reducible rfl)
  try simp only [Act.put, List.setIfInBounds_toArray, List.set_cons_zero, List.set_cons_succ]
  refine wpAnyH_take (i := 9) (oi := ?oia9) (v := ?va9) ?hia9 (by kernel_rfl) (by kernel_rfl) (by kernel_rfl) ?hQa9 (Or.inl ⟨?h1a9, ?hya9⟩) hHeld ?resta9
  case hia9 => (simp only [List.getElem?_toArray, List.getElem?_cons_succ, List.getElem?_cons_zero]; rfl)
  case hQa9 => exact fun _ _ _ h => h
  case h1a9 => rfl
  case hya9 => intro V hSV; (try dsimp only at hSV); go_simp; (try with_reducible rfl)
  try simp only [Act.put, List.setIfInBounds_toArray, List.set_cons_zero, List.set_cons_succ]
  have r0 := HK2.out.cell 0
  have r1 := HK2.out.cell 1
  have r2 := HK2.out.cell 2
  have r3 := HK2.out.cell 3
  have f0 := HK2.out.free 0
  have f1 := HK2.out.free 1
  have f2 := HK2.out.free 2
  have f3 := HK2.out.free 3
  simp only [List.getElem?_cons_zero, List.getElem?_cons_succ] at r0 r1 r2 r3
  refine wpAnyH_ready (rs := [10]) (by kernel_rfl) (by simp) ?_
  refine AllReadyH.cons (o := ?oa10) ?hoa10 (fun K hK => ?hsa10) AllReadyH.nil
  case hoa10 => (simp only [List.getElem?_toArray, List.getElem?_cons_succ, List.getElem?_cons_zero]; rfl)
  go_simp
  refine hK.out _ _ (HS5.out _ (((((HB2.out.mono (by omega)).setCell (by simp <;> omega) _).setCell (by simp <;> omega) _).setCell (by simp <;> omega) _).setCell (by simp <;> omega) _)) (fun hHeld => ?_)
  clear hK K
  try simp only [Act.put, List.setIfInBounds_toArray, List.set_cons_zero, List.set_cons_succ]
  refine wpAnyH_done (by kernel_rfl) ?_ _
  go_wp2
  refine bodyPost_ret (v := .agg #[.int .i64 q, .int .i64 A, .int .i64 C, .int .i64 0]) (by simp [results, Tryd.results41, go_sem, r0, r1, r2, r3]) rfl ⟨rfl, ?_⟩
  have HBB := HB.out.trans (HB2.out.mono (by omega))
  iterate 4 refine Below.setCell ?_ (by simp <;> omega) _
  exact HBB
end Go.Proofs.YtgaoeoijdpdjiabDoor

namespace Go.Proofs.YtgaoeoijdpdjiabDoor
open Go.RowKit

set_option maxRecDepth 20000 in
set_option maxHeartbeats 4000000 in
theorem sFold_on (k b x t l : Int) (pub : ByteArray) (p0 p1 p2 p3 : Int) (sp : Option Addr) (n c : Nat) (cv : ByteArray) (er : Int) (w : World) (hT : Tn w) (hC : ∀ V : World, Below w.heap.size w V → Tn V → Calls Tryd.prog 53 #[.agg #[.int .i64 k, .int .i64 b, .int .i64 x, .int .i64 t, .int .i64 l], .string pub, .agg #[.int .i64 p0, .int .i64 p1, .int .i64 p2, .int .i64 p3], .slice sp n c] V fun e w' => e = .returned (.tuple #[.string cv, .int .i64 er]) ∧ Below V.heap.size V w') :
    Calls Tryd.prog 36 #[.agg #[.int .i64 k, .int .i64 b, .int .i64 x, .int .i64 t, .int .i64 l], .string pub, .agg #[.int .i64 p0, .int .i64 p1, .int .i64 p2, .int .i64 p3], .slice sp n c] w fun e w' => e = .returned (.tuple #[.string cv, .int .i64 er]) ∧ Below w.heap.size w w' := by
  obtain ⟨W0, hW⟩ : ∃ W0, (w.alloc (.cells #[.int .i64 k, .int .i64 b, .int .i64 x, .int .i64 t, .int .i64 l] 23)).alloc (.cells #[.int .i64 p0, .int .i64 p1, .int .i64 p2, .int .i64 p3] 47) = W0 := ⟨_, rfl⟩
  have HF := hide (show FiveC w.heap.size W0 k b x t l by subst hW; refine ⟨?_, ?_, ?_, ?_, ?_⟩ <;> simp [go_sem])
  have HP := hide (show FourC (w.heap.size + 1) W0 p0 p1 p2 p3 by subst hW; refine ⟨?_, ?_, ?_, ?_⟩ <;> simp [go_sem])
  have HB := hide (show Below w.heap.size w W0 by subst hW; exact ((Below.refl _ _).alloc (Nat.le_refl _) _).alloc (by simp) _)
  have hz : W0.heap.size ≤ w.heap.size + 2 := by subst hW; simp
  have hz' : w.heap.size + 2 ≤ W0.heap.size := by subst hW; simp
  have HBU := hide (fun (V : World) (h : Below W0.heap.size W0 V) => HB.out.trans (h.mono (by omega)))
  have HS := hide (fun (V : World) (h : Below W0.heap.size W0 V) => (by
    obtain ⟨c0, c1, c2, c3, c4⟩ := HF.out.below h (by omega)
    obtain ⟨d0, d1, d2, d3⟩ := HP.out.below h (by omega)
    exact ⟨c0, c1, c2, c3, c4, d0, d1, d2, d3⟩ : V.cell? ⟨w.heap.size, 0, none⟩ = some (.int .i64 k) ∧ V.cell? ⟨w.heap.size, 1, none⟩ = some (.int .i64 b) ∧ V.cell? ⟨w.heap.size, 2, none⟩ = some (.int .i64 x) ∧ V.cell? ⟨w.heap.size, 3, none⟩ = some (.int .i64 t) ∧ V.cell? ⟨w.heap.size, 4, none⟩ = some (.int .i64 l) ∧ V.cell? ⟨w.heap.size + 1, 0, none⟩ = some (.int .i64 p0) ∧ V.cell? ⟨w.heap.size + 1, 1, none⟩ = some (.int .i64 p1) ∧ V.cell? ⟨w.heap.size + 1, 2, none⟩ = some (.int .i64 p2) ∧ V.cell? ⟨w.heap.size + 1, 3, none⟩ = some (.int .i64 p3)))
  obtain ⟨c0, c1, c2, c3, c4, d0, d1, d2, d3⟩ := HS.out W0 (Below.refl _ _)
  have HTT := hide (hT.on HB.out)
  have HC := hide (hC W0 HB.out)
  clear hC hT
  go_enter Tryd.func36, Tryd.ntmps36
  go_wp2_with fail
  try rw [hW]
  refine (HC.out HTT.out).mono ?_
  rintro e w1 ⟨rfl, hb1⟩
  have HB1 := hide (HB.out.trans (hb1.mono (by omega)))
  clear hb1 c0 c1 c2 c3 c4 d0 d1 d2 d3
  go_wp2
  go_ret2
  exact ⟨rfl, HB1.out⟩

set_option maxRecDepth 20000 in
set_option maxHeartbeats 4000000 in
theorem sClimb_on (k b x t l : Int) (pub y : ByteArray) (p0 p1 p2 p3 : Int) (sp : Option Addr) (n c : Nat) (cv : ByteArray) (er : Int) (w : World) (hT : Tn w) (hC : ∀ V : World, Below w.heap.size w V → Tn V → Calls Tryd.prog 54 #[.agg #[.int .i64 k, .int .i64 b, .int .i64 x, .int .i64 t, .int .i64 l], .string pub, .agg #[.int .i64 p0, .int .i64 p1, .int .i64 p2, .int .i64 p3], .string y, .slice sp n c] V fun e w' => e = .returned (.tuple #[.string cv, .int .i64 er]) ∧ Below V.heap.size V w') :
    Calls Tryd.prog 37 #[.agg #[.int .i64 k, .int .i64 b, .int .i64 x, .int .i64 t, .int .i64 l], .string pub, .agg #[.int .i64 p0, .int .i64 p1, .int .i64 p2, .int .i64 p3], .string y, .slice sp n c] w fun e w' => e = .returned (.tuple #[.string cv, .int .i64 er]) ∧ Below w.heap.size w w' := by
  obtain ⟨W0, hW⟩ : ∃ W0, (w.alloc (.cells #[.int .i64 k, .int .i64 b, .int .i64 x, .int .i64 t, .int .i64 l] 23)).alloc (.cells #[.int .i64 p0, .int .i64 p1, .int .i64 p2, .int .i64 p3] 47) = W0 := ⟨_, rfl⟩
  have HF := hide (show FiveC w.heap.size W0 k b x t l by subst hW; refine ⟨?_, ?_, ?_, ?_, ?_⟩ <;> simp [go_sem])
  have HP := hide (show FourC (w.heap.size + 1) W0 p0 p1 p2 p3 by subst hW; refine ⟨?_, ?_, ?_, ?_⟩ <;> simp [go_sem])
  have HB := hide (show Below w.heap.size w W0 by subst hW; exact ((Below.refl _ _).alloc (Nat.le_refl _) _).alloc (by simp) _)
  have hz : W0.heap.size ≤ w.heap.size + 2 := by subst hW; simp
  have hz' : w.heap.size + 2 ≤ W0.heap.size := by subst hW; simp
  have HBU := hide (fun (V : World) (h : Below W0.heap.size W0 V) => HB.out.trans (h.mono (by omega)))
  have HS := hide (fun (V : World) (h : Below W0.heap.size W0 V) => (by
    obtain ⟨c0, c1, c2, c3, c4⟩ := HF.out.below h (by omega)
    obtain ⟨d0, d1, d2, d3⟩ := HP.out.below h (by omega)
    exact ⟨c0, c1, c2, c3, c4, d0, d1, d2, d3⟩ : V.cell? ⟨w.heap.size, 0, none⟩ = some (.int .i64 k) ∧ V.cell? ⟨w.heap.size, 1, none⟩ = some (.int .i64 b) ∧ V.cell? ⟨w.heap.size, 2, none⟩ = some (.int .i64 x) ∧ V.cell? ⟨w.heap.size, 3, none⟩ = some (.int .i64 t) ∧ V.cell? ⟨w.heap.size, 4, none⟩ = some (.int .i64 l) ∧ V.cell? ⟨w.heap.size + 1, 0, none⟩ = some (.int .i64 p0) ∧ V.cell? ⟨w.heap.size + 1, 1, none⟩ = some (.int .i64 p1) ∧ V.cell? ⟨w.heap.size + 1, 2, none⟩ = some (.int .i64 p2) ∧ V.cell? ⟨w.heap.size + 1, 3, none⟩ = some (.int .i64 p3)))
  obtain ⟨c0, c1, c2, c3, c4, d0, d1, d2, d3⟩ := HS.out W0 (Below.refl _ _)
  have HTT := hide (hT.on HB.out)
  have HC := hide (hC W0 HB.out)
  clear hC hT
  go_enter Tryd.func37, Tryd.ntmps37
  go_wp2_with fail
  try rw [hW]
  refine (HC.out HTT.out).mono ?_
  rintro e w1 ⟨rfl, hb1⟩
  have HB1 := hide (HB.out.trans (hb1.mono (by omega)))
  clear hb1 c0 c1 c2 c3 c4 d0 d1 d2 d3
  go_wp2
  go_ret2
  exact ⟨rfl, HB1.out⟩
end Go.Proofs.YtgaoeoijdpdjiabDoor
