/-
  A signer when nothing fails: a signature, a reservation, its state. A signer is made over a new disk of two sectors. The hall: a disk, the signers that there were, and what they gave away. How far a signer is that is over.
-/
import Derived.Test.YtgaoeoijdpdjiabGreatDoorPart39
import Derived.Test.YtgaoeoijdpdjiabGreatDoorPart17
import Derived.Test.YtgaoeoijdpdjiabGreatDoorPart21
import Derived.Test.YtgaoeoijdpdjiabGreatDoorPart3
import Derived.Test.YtgaoeoijdpdjiabGreatDoorPart12
import Derived.Lib.ConvBytes
import Derived.Test.YtgaoeoijdpdjiabGreatDoorPart6
import Derived.Test.YtgaoeoijdpdjiabGreatDoorPart40
namespace Go.Proofs.YtgaoeoijdpdjiabGreatDoor
open Go.RowKit
theorem valN_left (x y : ByteArray) : ∀ k, k ≤ x.size → valN (x ++ y) 0 k = valN x 0 k
  | 0, _ => rfl
  | k + 1, h => by rw [valN, valN, valN_left x y k (by omega), Nat.zero_add, byt_left x y k (by omega)]
theorem sig_head (k : Int) (b x e f t l : Nat) (sec rnd pub msg : ByteArray) (idx : Nat) (h : idx ≤ 4096) : 4 ≤ (sigS k b x e f t l sec rnd pub msg idx).size ∧ valN (sigS k b x e f t l sec rnd pub msg idx) 0 4 = idx := by
  unfold sigS
  rw [ByteArray.append_assoc]
  refine ⟨by rw [ByteArray.size_append, numB_size]; omega, ?_⟩
  rw [valN_left _ _ 4 (by rw [numB_size]; omega)]
  have := val_num (idx : Int) (by omega) (by omega)
  omega
end Go.Proofs.YtgaoeoijdpdjiabGreatDoor

namespace Go.Proofs.YtgaoeoijdpdjiabGreatDoor
open Go.RowKit
theorem zero_norec : isRec zeroS = false := by
  have h : seqOf zeroS = 0 := by decide
  unfold isRec
  rw [decide_eq_false]
  rintro ⟨_, ⟨h1, _⟩, _⟩
  rw [h] at h1
  exact absurd h1 (by decide)
theorem sy_calm (st : DSt) (ht : st.trouble = 0) (hp : st.pend = []) : sySt st = { st with syncs := st.syncs + 1 } := by
  obtain ⟨n, dur, pend, wr, sy, tr, te⟩ := st
  simp only at ht hp
  subst ht hp
  rfl
theorem rd_calm (st : DSt) (i : Nat) (hi : i < st.n) (ht : st.trouble = 0) : rdSt st i = st := by
  have h : 0 ≤ (i : Int) ∧ (i : Int) < st.n := ⟨by omega, by omega⟩
  rw [rdSt, if_neg (fun hn => hn h)]
  obtain ⟨n, dur, pend, wr, sy, tr, te⟩ := st
  simp only at ht
  subst ht
  rfl
theorem rda_calm (st : DSt) (i : Nat) (hi : i < st.n) (ht : st.trouble = 0) (hp : st.pend = []) : rdAns st i = (st.dur.getD i ⟨#[]⟩, 0) := by
  have h : 0 ≤ (i : Int) ∧ (i : Int) < st.n := ⟨by omega, by omega⟩
  rw [rdAns, if_neg (fun hn => hn h), if_neg (by rw [ht]; decide), latestB, hp]
  rfl
end Go.Proofs.YtgaoeoijdpdjiabGreatDoor

namespace Go.Proofs.YtgaoeoijdpdjiabGreatDoor
open Go.RowKit
/-- A hall's cells. -/
def hallC (SD : Nat) (k b x t l : Int) (s1 s2 s3 o1 o2 o3 : ByteArray) (sv bv gv : Value) : List Value :=
  [.int .i64 k, .int .i64 b, .int .i64 x, .int .i64 t, .int .i64 l, .string s1, .string s2, .string s3, .string o1, .string o2, .string o3, .pointer (some ⟨SD, 0, none⟩), sv, bv, gv]
theorem blk_new1 (w : World) (o : Obj) (vs : List Value) (T : TypeId) : Blk ((w.alloc o).alloc (.cells vs.toArray T)) (w.heap.size + 1) vs T := by
  have h := Blk.new (w.alloc o) vs T
  rw [World.size_alloc] at h
  exact h
theorem blk_new2 (w : World) (o o2 : Obj) (vs : List Value) (T : TypeId) : Blk (((w.alloc o).alloc o2).alloc (.cells vs.toArray T)) (w.heap.size + 2) vs T := by
  have h := Blk.new ((w.alloc o).alloc o2) vs T
  rw [World.size_alloc, World.size_alloc] at h
  exact h
set_option maxHeartbeats 400000 in
theorem pickN_any (c n : Int) (w : World) (h1 : 1 ≤ n) (h2 : n ≤ 9223372036854775807) (hc : -9223372036854775808 ≤ c) (hc2 : c ≤ 9223372036854775807) :
    Calls Tryz.prog 17 #[.int .i64 c, .int .i64 n] w fun e w' => e = .returned (.int .i64 (pickZ c n)) ∧ w' = w := by
  by_cases h : c < 0
  · go_enter Tryz.func17, Tryz.ntmps17
    go_wp2
    go_ret
    refine ⟨ret_int ?_, rfl⟩
    unfold pickZ
    rw [if_pos h, ← Int.neg_tmod, Int.tmod_eq_emod_of_nonneg (by omega)]
  · go_enter Tryz.func17, Tryz.ntmps17
    go_wp2
    go_ret
    refine ⟨ret_int ?_, rfl⟩
    unfold pickZ
    rw [if_neg (by omega)]
set_option maxRecDepth 20000 in
set_option maxHeartbeats 1000000 in
theorem entered_on (k b x t l : Int) (s1 s2 s3 o1 o2 o3 : ByteArray) (n : Nat) (w : World) (h1 : 1 ≤ n) (h2 : n ≤ 8) :
    Calls Tryz.prog 18 #[.agg #[.int .i64 k, .int .i64 b, .int .i64 x, .int .i64 t, .int .i64 l], .agg #[.string s1, .string s2, .string s3], .agg #[.string o1, .string o2, .string o3], .int .i64 n] w fun e w' =>
      ∃ H SD D F, e = .returned (.pointer (some ⟨H, 0, none⟩)) ∧ Blk w' H (hallC SD k b x t l s1 s2 s3 o1 o2 o3 (.slice none 0 0) (.slice none 0 0) (.slice none 0 0)) 65 ∧ Blk w' SD [.pointer (some ⟨D, 0, none⟩)] 135 ∧ DSk w.heap.size D (newD n) w' F ∧ ¬ F H ∧ ¬ F SD ∧ H ≠ SD ∧ w.heap.size ≤ H ∧ w.heap.size ≤ SD ∧ Below w.heap.size w w' := by
  obtain ⟨W0, hW⟩ : ∃ W0, ((w.alloc (.cells #[.int .i64 k, .int .i64 b, .int .i64 x, .int .i64 t, .int .i64 l] 26)).alloc (.cells #[.string s1, .string s2, .string s3] 42)).alloc (.cells #[.string o1, .string o2, .string o3] 42) = W0 := ⟨_, rfl⟩
  have HB := hide (show Below w.heap.size w W0 by subst hW; exact (((Below.refl _ _).alloc (Nat.le_refl _) _).alloc (by simp) _).alloc (by simp <;> omega) _)
  have HC := hide (show Blk W0 w.heap.size [.int .i64 k, .int .i64 b, .int .i64 x, .int .i64 t, .int .i64 l] 26 by subst hW; exact ((Blk.new w _ _).alloc _).alloc _)
  have HE := hide (show Blk W0 (w.heap.size + 1) [.string s1, .string s2, .string s3] 42 by subst hW; exact (blk_new1 w _ _ _).alloc _)
  have HG := hide (show Blk W0 (w.heap.size + 2) [.string o1, .string o2, .string o3] 42 by subst hW; exact blk_new2 w _ _ _ _)
  have HND := hide (snew_yes n W0 w.heap.size h1 h2 HB.out.size)
  have HWE := hide hW
  clear hW h1 h2
  go_enter Tryz.func18, Tryz.ntmps18
  go_wp2_with fail
  rw [HWE.out]
  refine HND.out.mono ?_
  rintro e1 w3 ⟨SD, F0, rfl, hs3, hf3, hb3⟩
  obtain ⟨D, E, pv, hbS, hd, n1, n2, n3, hloS, rfl⟩ := hs3
  have hC3 := HC.out.on hb3
  have hE3 := HE.out.on hb3
  have hG3 := HG.out.on hb3
  have c0 : w3.cell? ⟨w.heap.size, 0, none⟩ = some (.int .i64 k) := hC3.cell 0
  have c1 : w3.cell? ⟨w.heap.size, 1, none⟩ = some (.int .i64 b) := hC3.cell 1
  have c2 : w3.cell? ⟨w.heap.size, 2, none⟩ = some (.int .i64 x) := hC3.cell 2
  have c3 : w3.cell? ⟨w.heap.size, 3, none⟩ = some (.int .i64 t) := hC3.cell 3
  have c4 : w3.cell? ⟨w.heap.size, 4, none⟩ = some (.int .i64 l) := hC3.cell 4
  have d0 : w3.cell? ⟨w.heap.size + 1, 0, none⟩ = some (.string s1) := hE3.cell 0
  have d1 : w3.cell? ⟨w.heap.size + 1, 1, none⟩ = some (.string s2) := hE3.cell 1
  have d2 : w3.cell? ⟨w.heap.size + 1, 2, none⟩ = some (.string s3) := hE3.cell 2
  have g0 : w3.cell? ⟨w.heap.size + 2, 0, none⟩ = some (.string o1) := hG3.cell 0
  have g1 : w3.cell? ⟨w.heap.size + 2, 1, none⟩ = some (.string o2) := hG3.cell 1
  have g2 : w3.cell? ⟨w.heap.size + 2, 2, none⟩ = some (.string o3) := hG3.cell 2
  have hSDl : SD < w3.heap.size := (Array.getElem?_eq_some_iff.1 hbS).1
  have HF := hide (show DSk w.heap.size D (newD n) w3 (DFoot D E pv) from ⟨E, pv, hd, rfl⟩)
  have HSD := hide (show Blk w3 SD [.pointer (some ⟨D, 0, none⟩)] 135 from hbS)
  have HN := hide (show ¬ DFoot D E pv SD by rintro (e | e | e) <;> first | exact n1 e | exact n2 e | exact n3 e)
  have HL := hide (And.intro hSDl hloS)
  have HB3 := hide (HB.out.trans (hb3.mono HB.out.size))
  clear hbS hd n1 n2 n3 hloS hf3 hb3 hC3 hE3 hG3 hSDl
  go_wp2
  go_ret
  refine ⟨w3.heap.size, SD, D, DFoot D E pv, rfl, Blk.new w3 _ _, HSD.out.alloc _, HF.out.below ((Below.refl _ _).alloc (Nat.le_refl _) _), fun hf => ?_, HN.out, ?_, HB3.out.size, HL.out.2, HB3.out.alloc HB3.out.size _⟩
  · have := (HF.out.lt _ hf).2
    omega
  · have := HL.out.1
    omega
end Go.Proofs.YtgaoeoijdpdjiabGreatDoor

namespace Go.Proofs.YtgaoeoijdpdjiabGreatDoor
open Go.RowKit
set_option maxRecDepth 20000 in
set_option maxHeartbeats 2000000 in
theorem state_ov (S D : Nat) (tm k b x t l : Int) (root pub sec rnd : ByteArray) (tot bat nx q bd : Int) (id : ByteArray) (ov : Bool) (tm2 : Int) (w : World) (hB : Blk w S (sgC D tm k b x t l root pub sec rnd tot bat nx q bd id ov) 188) (hD : D < w.heap.size) (h5 : w.cell? ⟨D, 5, none⟩ = some (.int .i64 tm2)) (ho : ov = true ∨ tm ≠ tm2) :
    Calls Tryz.prog 71 #[.pointer (some ⟨S, 0, none⟩)] w fun e w' => e = .returned (.agg #[.int .i64 nx, .int .i64 bd, .int .i64 q, .bool true]) ∧ Below w.heap.size w w' := by
  obtain ⟨W0, hW⟩ : ∃ W0, w.alloc (.cells #[.int .i64 0, .int .i64 0, .int .i64 0, .bool false] 79) = W0 := ⟨_, rfl⟩
  have HB := hide (show Below w.heap.size w W0 by subst hW; exact (Below.refl _ _).alloc (Nat.le_refl _) _)
  have HSB := hide (hB.on HB.out)
  have hz : w.heap.size < W0.heap.size := by subst hW; simp
  have HK := hide (show Blk W0 w.heap.size [.int .i64 0, .int .i64 0, .int .i64 0, .bool false] 79 by rw [← hW]; exact Blk.new w _ _)
  have HO := hide (fun (V : World) (h : Below W0.heap.size W0 V) => (by
    have q := HSB.out.on h
    exact isOver_yes S D tm tm2 ov V q.lt (Nat.lt_of_lt_of_le hD (Nat.le_trans HB.out.size h.size)) (q.cell 0) (q.cell 1) (q.cell 18) ((h.cell (p := ⟨D, 5, none⟩) (Nat.lt_of_lt_of_le hD HB.out.size)).trans ((HB.out.cell (p := ⟨D, 5, none⟩) hD).trans h5)) ho : Calls Tryz.prog 114 #[.pointer (some ⟨S, 0, none⟩)] V fun e w' => e = .returned (.bool true) ∧ Below V.heap.size V w'))
  have HSL := hide hB.lt
  have HS5 := hide (fun (V : World) (h : Below w.heap.size W0 V) => (by
    have q1 := HSB.out.below h HSL.out
    exact ⟨q1.cell 14, q1.cell 15, q1.cell 16⟩ : V.cell? ⟨S, 14, none⟩ = some (.int .i64 nx) ∧ V.cell? ⟨S, 15, none⟩ = some (.int .i64 q) ∧ V.cell? ⟨S, 16, none⟩ = some (.int .i64 bd)))
  have HS := hide (fun (V : World) (h : Below W0.heap.size W0 V) => HS5.out V (h.mono HB.out.size))
  have HWE := hide hW
  have HZ := hide hz
  clear hW hB hD h5 hz ho
  go_enter Tryz.func71, Tryz.ntmps71
  go_wp2_with fail
  rw [HWE.out]
  refine wp_region_held_drew (S := fun V => V.cell? ⟨S, 14, none⟩ = some (.int .i64 nx) ∧ V.cell? ⟨S, 15, none⟩ = some (.int .i64 q) ∧ V.cell? ⟨S, 16, none⟩ = some (.int .i64 bd)) (by kernel_rfl) (HS.out _ ((Below.refl W0.heap.size W0).drew)) (fun hHeld => ?_)
  refine tk 0 hHeld (h := ?_)
  refine tk 1 hHeld (h := ?_)
  refine tk 2 hHeld (h := ?_)
  refine tk 3 hHeld (h := ?_)
  refine tk 4 hHeld (h := ?_)
  refine tk 5 hHeld (h := ?_)
  refine tk 6 hHeld (h := ?_)
  refine tk 7 hHeld (h := ?_)
  refine tk 8 hHeld (h := ?_)
  refine tk 9 hHeld (h := ?_)
  refine tk 10 hHeld (h := ?_)
  refine tk 11 hHeld (h := ?_)
  refine tk 12 hHeld (h := ?_)
  refine tk 13 hHeld (h := ?_)
  refine tk 14 hHeld (h := ?_)
  refine wpAnyH_ready (rs := [15]) (by kernel_rfl) (by simp) ?_
  refine AllReadyH.cons (o := ?oa15) ?hoa15 (fun K hK => ?hsa15) AllReadyH.nil
  case hoa15 => (simp only [List.getElem?_toArray, List.getElem?_cons_succ, List.getElem?_cons_zero]; rfl)
  go_simp
  go_at_call 114
  refine (HO.out _ (Below.refl W0.heap.size W0).drew).mono ?_
  rintro e w4 ⟨rfl, hb4⟩
  have HB4 := hide (heldB (Below.refl W0.heap.size W0).drew hb4 (Nat.le_refl _))
  have HK4 := hide (HK.out.on HB4.out)
  clear hb4
  try go_wp2_with fail
  refine hK.out _ _ (HS.out _ (HB4.out)) (fun hHeld => ?_)
  clear hK K
  try simp only [Act.put, List.setIfInBounds_toArray, List.set_cons_zero, List.set_cons_succ]
  refine tk 16 hHeld (h := ?_)
  have r0 := HK4.out.cell 0
  have f0 := HK4.out.free 0
  have r1 := HK4.out.cell 1
  have f1 := HK4.out.free 1
  have r2 := HK4.out.cell 2
  have f2 := HK4.out.free 2
  have r3 := HK4.out.cell 3
  have f3 := HK4.out.free 3
  simp only [List.getElem?_cons_zero, List.getElem?_cons_succ] at r0 r1 r2 r3
  refine wpAnyH_ready (rs := [17]) (by kernel_rfl) (by simp) ?_
  refine AllReadyH.cons (o := ?oa17) ?hoa17 (fun K hK => ?hsa17) AllReadyH.nil
  case hoa17 => (simp only [List.getElem?_toArray, List.getElem?_cons_succ, List.getElem?_cons_zero]; rfl)
  go_simp
  refine hK.out _ _ (HS5.out _ (((((HB4.out.mono (Nat.le_of_lt HZ.out)).setCell (p := ⟨w.heap.size, 0, none⟩) (Nat.le_refl _) _).setCell (p := ⟨w.heap.size, 1, none⟩) (Nat.le_refl _) _).setCell (p := ⟨w.heap.size, 2, none⟩) (Nat.le_refl _) _).setCell (p := ⟨w.heap.size, 3, none⟩) (Nat.le_refl _) _)) (fun hHeld => ?_)
  clear hK K
  try simp only [Act.put, List.setIfInBounds_toArray, List.set_cons_zero, List.set_cons_succ]
  refine wpAnyH_done (by kernel_rfl) ?_ _
  have HK9 := hide ((((HK4.out.set 0 (.int .i64 nx)).set 1 (.int .i64 bd)).set 2 (.int .i64 q)).set 3 (.bool true))
  have v0 := HK9.out.cell 0
  have v1 := HK9.out.cell 1
  have v2 := HK9.out.cell 2
  have v3 := HK9.out.cell 3
  have HB9 := hide (HB.out.trans (((((HB4.out.mono (Nat.le_of_lt HZ.out)).setCell (p := ⟨w.heap.size, 0, none⟩) (Nat.le_refl _) (.int .i64 nx)).setCell (p := ⟨w.heap.size, 1, none⟩) (Nat.le_refl _) (.int .i64 bd)).setCell (p := ⟨w.heap.size, 2, none⟩) (Nat.le_refl _) (.int .i64 q)).setCell (p := ⟨w.heap.size, 3, none⟩) (Nat.le_refl _) (.bool true)))
  clear r0 r1 r2 r3 f0 f1 f2 f3 hHeld
  generalize (((w4.setCell ⟨w.heap.size, 0, none⟩ (.int .i64 nx)).setCell ⟨w.heap.size, 1, none⟩ (.int .i64 bd)).setCell ⟨w.heap.size, 2, none⟩ (.int .i64 q)).setCell ⟨w.heap.size, 3, none⟩ (.bool true) = W9 at v0 v1 v2 v3 HB9 ⊢
  simp only [List.getElem?_cons_zero, List.getElem?_cons_succ, List.set_cons_zero, List.set_cons_succ] at v0 v1 v2 v3
  go_wp2
  refine bodyPost_ret (v := .agg #[.int .i64 nx, .int .i64 bd, .int .i64 q, .bool true]) (by simp [results, Tryz.results71, go_sem, v0, v1, v2, v3]) rfl ⟨rfl, ?_⟩
  exact HB9.out
set_option maxRecDepth 20000 in
set_option maxHeartbeats 2000000 in
theorem sgState_ov (G S : Nat) (nx bd q : Int) (w : World) (hG : Blk w G [.pointer (some ⟨S, 0, none⟩)] 142)
    (h : ∀ V : World, Below w.heap.size w V → Calls Tryz.prog 71 #[.pointer (some ⟨S, 0, none⟩)] V fun e w' => e = .returned (.agg #[.int .i64 nx, .int .i64 bd, .int .i64 q, .bool true]) ∧ Below V.heap.size V w') :
    Calls Tryz.prog 30 #[.pointer (some ⟨G, 0, none⟩)] w fun e w' => e = .returned (.agg #[.int .i64 nx, .int .i64 bd, .int .i64 q, .bool true]) ∧ Below w.heap.size w w' := by
  obtain ⟨W0, hW⟩ : ∃ W0, w.alloc (.cells #[.int .i64 0, .int .i64 0, .int .i64 0, .bool false] 79) = W0 := ⟨_, rfl⟩
  have HB := hide (show Below w.heap.size w W0 by subst hW; exact (Below.refl _ _).alloc (Nat.le_refl _) _)
  have HK := hide (show Blk W0 w.heap.size [.int .i64 0, .int .i64 0, .int .i64 0, .bool false] 79 by rw [← hW]; exact Blk.new w _ _)
  have H := hide (h W0 HB.out)
  have c0 : W0.cell? ⟨G, 0, none⟩ = some (.pointer (some ⟨S, 0, none⟩)) := (hG.on HB.out).cell 0
  have c0' : (w.alloc (.cells #[.int .i64 0, .int .i64 0, .int .i64 0, .bool false] 79)).cell? ⟨G, 0, none⟩ = some (.pointer (some ⟨S, 0, none⟩)) := by rw [hW]; exact c0
  have HZ := hide (show w.heap.size < W0.heap.size by subst hW; simp)
  have HWE := hide hW
  clear h hG hW c0
  go_enter Tryz.func30, Tryz.ntmps30
  go_wp2_with fail
  rw [HWE.out]
  refine H.out.mono ?_
  rintro e w4 ⟨rfl, hb4⟩
  have HK4 := hide (HK.out.on hb4)
  have HB4 := hide hb4
  have r0 : w4.cell? ⟨w.heap.size, 0, none⟩ = some (.int .i64 0) := HK4.out.cell 0
  have r1 : w4.cell? ⟨w.heap.size, 1, none⟩ = some (.int .i64 0) := HK4.out.cell 1
  have r2 : w4.cell? ⟨w.heap.size, 2, none⟩ = some (.int .i64 0) := HK4.out.cell 2
  have r3 : w4.cell? ⟨w.heap.size, 3, none⟩ = some (.bool false) := HK4.out.cell 3
  have f0 := HK4.out.free 0
  have f1 := HK4.out.free 1
  have f2 := HK4.out.free 2
  have f3 := HK4.out.free 3
  clear hb4 c0'
  go_wp2
  have HK9 := hide ((((HK4.out.set 0 (.int .i64 nx)).set 1 (.int .i64 bd)).set 2 (.int .i64 q)).set 3 (.bool true))
  have v0 := HK9.out.cell 0
  have v1 := HK9.out.cell 1
  have v2 := HK9.out.cell 2
  have v3 := HK9.out.cell 3
  have HB9 := hide (HB.out.trans (((((HB4.out.mono (Nat.le_of_lt HZ.out)).setCell (p := ⟨w.heap.size, 0, none⟩) (Nat.le_refl _) (.int .i64 nx)).setCell (p := ⟨w.heap.size, 1, none⟩) (Nat.le_refl _) (.int .i64 bd)).setCell (p := ⟨w.heap.size, 2, none⟩) (Nat.le_refl _) (.int .i64 q)).setCell (p := ⟨w.heap.size, 3, none⟩) (Nat.le_refl _) (.bool true)))
  clear r0 r1 r2 r3 f0 f1 f2 f3
  generalize (((w4.setCell ⟨w.heap.size, 0, none⟩ (.int .i64 nx)).setCell ⟨w.heap.size, 1, none⟩ (.int .i64 bd)).setCell ⟨w.heap.size, 2, none⟩ (.int .i64 q)).setCell ⟨w.heap.size, 3, none⟩ (.bool true) = W9 at v0 v1 v2 v3 HB9 ⊢
  simp only [List.getElem?_cons_zero, List.getElem?_cons_succ, List.set_cons_zero, List.set_cons_succ] at v0 v1 v2 v3
  refine bodyPost_ret (v := .agg #[.int .i64 nx, .int .i64 bd, .int .i64 q, .bool true]) (by simp [results, Tryz.results30, go_sem, v0, v1, v2, v3]) rfl ⟨rfl, ?_⟩
  exact HB9.out
end Go.Proofs.YtgaoeoijdpdjiabGreatDoor
