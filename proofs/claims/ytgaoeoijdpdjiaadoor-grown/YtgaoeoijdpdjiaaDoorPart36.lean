/-
  The program's New: no place of a tree. slices.Repeat of a list of one number. A new row of texts.
-/
import Derived.Test.YtgaoeoijdpdjiaaDoorPart31
import Derived.Test.YtgaoeoijdpdjiaaDoorPart29
import Derived.Test.YtgaoeoijdpdjiaaDoorPart6
import Derived.Laws.CopyOwn
namespace Go.Proofs.YtgaoeoijdpdjiaaDoor
open Go.RowKit

set_option maxRecDepth 20000 in
set_option maxHeartbeats 8000000 in
theorem new_pla (k b x t l a0 a1 ch a3 a4 a5 : Int) (sec rnd pub : ByteArray) (p0 p1 p2 p3 : Int) (w : World) (hC : ∀ V : World, Calls Tryd.prog 57 #[.agg #[.int .i64 k, .int .i64 b, .int .i64 x, .int .i64 t, .int .i64 l]] V fun e w' => e = .returned (.tuple #[.agg #[.int .i64 a0, .int .i64 a1, .int .i64 ch, .int .i64 a3, .int .i64 a4, .int .i64 a5], .int .i64 0]) ∧ Below V.heap.size V w') (hV : ∀ V : World, Calls Tryd.prog 96 #[.agg #[.int .i64 k, .int .i64 b, .int .i64 x, .int .i64 t, .int .i64 l], .agg #[.string sec, .string rnd, .string pub]] V fun e w' => e = .returned (.bool true) ∧ Below V.heap.size V w') (hI : ∀ V : World, Calls Tryd.prog 97 #[.agg #[.int .i64 k, .int .i64 b, .int .i64 x, .int .i64 t, .int .i64 l], .agg #[.int .i64 p0, .int .i64 p1, .int .i64 p2, .int .i64 p3]] V fun e w' => e = .returned (.bool false) ∧ Below V.heap.size V w') :
    Calls Tryd.prog 71 #[.agg #[.int .i64 k, .int .i64 b, .int .i64 x, .int .i64 t, .int .i64 l], .agg #[.string sec, .string rnd, .string pub], .agg #[.int .i64 p0, .int .i64 p1, .int .i64 p2, .int .i64 p3]] w fun e w' => e = .returned (.tuple #[.agg #[.int .i64 0, .int .i64 0, .int .i64 0, .int .i64 0, .int .i64 0, .string ⟨#[]⟩, .string ⟨#[]⟩, .string ⟨#[]⟩, .int .i64 0, .int .i64 0, .int .i64 0, .int .i64 0, .int .i64 0], .int .i64 2]) ∧ Below w.heap.size w w' := by
  obtain ⟨W0, hW⟩ : ∃ W0, (((w.alloc (.cells #[.int .i64 k, .int .i64 b, .int .i64 x, .int .i64 t, .int .i64 l] 25)).alloc (.cells #[.string sec, .string rnd, .string pub] 33)).alloc (.cells #[.int .i64 p0, .int .i64 p1, .int .i64 p2, .int .i64 p3] 27)).alloc (.cells #[.int .i64 0, .int .i64 0, .int .i64 0, .int .i64 0, .int .i64 0, .string ⟨#[]⟩, .string ⟨#[]⟩, .string ⟨#[]⟩, .int .i64 0, .int .i64 0, .int .i64 0, .int .i64 0, .int .i64 0] 95) = W0 := ⟨_, rfl⟩
  have HF := hide (show FiveC w.heap.size W0 k b x t l by subst hW; refine ⟨?_, ?_, ?_, ?_, ?_⟩ <;> simp [go_sem])
  have HSE := hide (show W0.cell? ⟨w.heap.size + 1, 0, none⟩ = some (.string sec) ∧ W0.cell? ⟨w.heap.size + 1, 1, none⟩ = some (.string rnd) ∧ W0.cell? ⟨w.heap.size + 1, 2, none⟩ = some (.string pub) by subst hW; refine ⟨?_, ?_, ?_⟩ <;> simp [go_sem])
  have HP := hide (show FourC (w.heap.size + 1 + 1) W0 p0 p1 p2 p3 by subst hW; refine ⟨?_, ?_, ?_, ?_⟩ <;> simp [go_sem])
  have HB := hide (show Below w.heap.size w W0 by subst hW; exact ((((Below.refl _ _).alloc (Nat.le_refl _) _).alloc (by simp) _).alloc (by simp; omega) _).alloc (by simp; omega) _)
  have hz : W0.heap.size ≤ w.heap.size + 4 := by subst hW; simp
  have hz' : w.heap.size + 4 ≤ W0.heap.size := by subst hW; simp
  have HBK := hide (show Blk W0 (w.heap.size + 1 + 1 + 1) [.int .i64 0, .int .i64 0, .int .i64 0, .int .i64 0, .int .i64 0, .string ⟨#[]⟩, .string ⟨#[]⟩, .string ⟨#[]⟩, .int .i64 0, .int .i64 0, .int .i64 0, .int .i64 0, .int .i64 0] 95 by
    subst hW
    have h := Blk.new (((w.alloc (.cells #[.int .i64 k, .int .i64 b, .int .i64 x, .int .i64 t, .int .i64 l] 25)).alloc (.cells #[.string sec, .string rnd, .string pub] 33)).alloc (.cells #[.int .i64 p0, .int .i64 p1, .int .i64 p2, .int .i64 p3] 27)) [.int .i64 0, .int .i64 0, .int .i64 0, .int .i64 0, .int .i64 0, .string ⟨#[]⟩, .string ⟨#[]⟩, .string ⟨#[]⟩, .int .i64 0, .int .i64 0, .int .i64 0, .int .i64 0, .int .i64 0] 95
    simp only [World.size_alloc] at h
    exact h)
  have HS := hide (fun (V : World) (h : Below W0.heap.size W0 V) => (by
    obtain ⟨c0, c1, c2, c3, c4⟩ := HF.out.below h (by omega)
    obtain ⟨d0, d1, d2, d3⟩ := HP.out.below h (by omega)
    exact ⟨c0, c1, c2, c3, c4, (h.cell (p := ⟨w.heap.size + 1, 0, none⟩) (by show w.heap.size + 1 < _; omega)).trans HSE.out.1, (h.cell (p := ⟨w.heap.size + 1, 1, none⟩) (by show w.heap.size + 1 < _; omega)).trans HSE.out.2.1, (h.cell (p := ⟨w.heap.size + 1, 2, none⟩) (by show w.heap.size + 1 < _; omega)).trans HSE.out.2.2, d0, d1, d2, d3⟩ : V.cell? ⟨w.heap.size, 0, none⟩ = some (.int .i64 k) ∧ V.cell? ⟨w.heap.size, 1, none⟩ = some (.int .i64 b) ∧ V.cell? ⟨w.heap.size, 2, none⟩ = some (.int .i64 x) ∧ V.cell? ⟨w.heap.size, 3, none⟩ = some (.int .i64 t) ∧ V.cell? ⟨w.heap.size, 4, none⟩ = some (.int .i64 l) ∧ V.cell? ⟨w.heap.size + 1, 0, none⟩ = some (.string sec) ∧ V.cell? ⟨w.heap.size + 1, 1, none⟩ = some (.string rnd) ∧ V.cell? ⟨w.heap.size + 1, 2, none⟩ = some (.string pub) ∧ V.cell? ⟨w.heap.size + 1 + 1, 0, none⟩ = some (.int .i64 p0) ∧ V.cell? ⟨w.heap.size + 1 + 1, 1, none⟩ = some (.int .i64 p1) ∧ V.cell? ⟨w.heap.size + 1 + 1, 2, none⟩ = some (.int .i64 p2) ∧ V.cell? ⟨w.heap.size + 1 + 1, 3, none⟩ = some (.int .i64 p3)))
  obtain ⟨c0, c1, c2, c3, c4, f0, f1, f2, d0, d1, d2, d3⟩ := HS.out W0 (Below.refl _ _)
  have HC := hide hC
  have HV := hide hV
  have HI := hide hI
  clear hC hV hI
  go_enter Tryd.func71, Tryd.ntmps71
  go_wp2_with fail
  try rw [hW]
  refine (HC.out _).mono ?_
  rintro e w1 ⟨rfl, hb1⟩
  have HB1 := hide (hb1.alloc hb1.size (.cells #[.int .i64 a0, .int .i64 a1, .int .i64 ch, .int .i64 a3, .int .i64 a4, .int .i64 a5] 68))
  have hzz := hb1.size
  have HZ := hide (Blk.new w1 [.int .i64 a0, .int .i64 a1, .int .i64 ch, .int .i64 a3, .int .i64 a4, .int .i64 a5] 68)
  clear hb1 c0 c1 c2 c3 c4 f0 f1 f2 d0 d1 d2 d3 hW
  obtain ⟨c0, c1, c2, c3, c4, f0, f1, f2, d0, d1, d2, d3⟩ := HS.out (w1.alloc (.cells #[.int .i64 a0, .int .i64 a1, .int .i64 ch, .int .i64 a3, .int .i64 a4, .int .i64 a5] 68)) HB1.out
  go_wp2_with fail
  refine (HV.out _).mono ?_
  rintro e w2 ⟨rfl, hb2⟩
  have HB2 := hide (heldB HB1.out hb2 (Nat.le_refl _))
  have HZ2 := hide (HZ.out.on hb2)
  clear hb2 c0 c1 c2 c3 c4 f0 f1 f2 d0 d1 d2 d3
  obtain ⟨c0, c1, c2, c3, c4, f0, f1, f2, d0, d1, d2, d3⟩ := HS.out w2 HB2.out
  go_wp2_with fail
  refine (HI.out _).mono ?_
  rintro e w3 ⟨rfl, hb3⟩
  have HB3 := hide (heldB HB2.out hb3 (Nat.le_refl _))
  have HZ3 := hide (HZ2.out.on hb3)
  clear hb3 c0 c1 c2 c3 c4 f0 f1 f2 d0 d1 d2 d3
  have bk := hide (HBK.out.below HB3.out (by omega))
  have y0 := bk.out.cell 0
  have y1 := bk.out.cell 1
  have y2 := bk.out.cell 2
  have y3 := bk.out.cell 3
  have y4 := bk.out.cell 4
  have y5 := bk.out.cell 5
  have y6 := bk.out.cell 6
  have y7 := bk.out.cell 7
  have y8 := bk.out.cell 8
  have y9 := bk.out.cell 9
  have y10 := bk.out.cell 10
  have y11 := bk.out.cell 11
  have y12 := bk.out.cell 12
  have fz := bk.out.free
  simp only [List.getElem?_cons_zero, List.getElem?_cons_succ] at y0 y1 y2 y3 y4 y5 y6 y7 y8 y9 y10 y11 y12
  have HBL := hide (HB.out.trans (HB3.out.mono (by omega)))
  clear bk
  go_wp2
  refine bodyPost_ret (v := .tuple #[.agg #[.int .i64 0, .int .i64 0, .int .i64 0, .int .i64 0, .int .i64 0, .string ⟨#[]⟩, .string ⟨#[]⟩, .string ⟨#[]⟩, .int .i64 0, .int .i64 0, .int .i64 0, .int .i64 0, .int .i64 0], .int .i64 2]) (by simp [results, Tryd.results71, go_sem, y0, y1, y2, y3, y4, y5, y6, y7, y8, y9, y10, y11, y12]) rfl ⟨rfl, ?_⟩
  iterate 13 refine Below.setCell ?_ (show w.heap.size ≤ _ by simp <;> omega) _
  exact HBL.out

end Go.Proofs.YtgaoeoijdpdjiaaDoor

namespace Go.Proofs.YtgaoeoijdpdjiaaDoor
open Go.RowKit

theorem infoInt : (Tryd.prog.info? 3).map (fun i => (i.zero, i.size, i.bytes)) = some (some (.int .i64 0), 1, 8) := by kernel_rfl

theorem cut_from (g N m : Nat) (hm : m < N) (wx : World) : (Instr.slice 125 (.slice (some ⟨g, 0, none⟩) N N) (some (.int .i64 m)) none none).run Tryd.prog wx = .ok (.slice (some ⟨g, m, none⟩) (N - m) (N - m)) wx := by
  have h2 : (m : Int) ≤ N := by omega
  have h3 : (0 : Int) ≤ m := by omega
  simp [go_sem, h2, h3]
  all_goals omega

theorem cut_to (g N m : Nat) (hm : m < N) (wx : World) : (Instr.slice 125 (.slice (some ⟨g, 0, none⟩) N N) none (some (.int .i64 m)) none).run Tryd.prog wx = .ok (.slice (some ⟨g, 0, none⟩) m N) wx := by
  have h2 : (m : Int) ≤ N := by omega
  have h3 : (0 : Int) ≤ m := by omega
  simp [go_sem, h2, h3]
  all_goals omega

theorem madeInt (n : Nat) : madeCells (Value.int .i64 0).cells n = (List.replicate n (Value.int .i64 0)).toArray := by
  apply Array.ext
  · simp [size_madeCells]
  · intro i h1 h2
    simp [madeCells, Value.cells, Nat.mod_one]
theorem makeInt (k : Nat) (hk : k ≤ 1000) (w : World) : (Instr.makeSlice 125 (.int .i64 k) (.int .i64 k)).run Tryd.prog w = .ok (.slice (some ⟨w.heap.size, 0, none⟩) k k) (w.alloc (.cells (List.replicate k (Value.int .i64 0)).toArray 3)) := by
  obtain ⟨i0, hi, hz0, hz1, hz2⟩ := info_parts infoInt
  have h := run_make (P := Tryd.prog) w 125 3 i0 (.int .i64 0) Tryd.underlying125 hi hz0 .i64 .i64 k k (by omega) (by omega) (by rw [hz2]; omega) (by omega)
  rw [hz1, Nat.mul_one, Int.toNat_natCast, madeInt] at h
  exact h

/-- The first m of n are v, the others 0. -/
def repL (v : Int) (n m : Nat) : List Value := List.replicate m (.int .i64 v) ++ List.replicate (n - m) (.int .i64 0)
theorem repL_len (v : Int) (n m : Nat) (h : m ≤ n) : (repL v n m).length = n := by simp [repL]; omega
theorem repL_splice (v : Int) (n m k : Nat) (h : m + k ≤ n) : splice (repL v n m) m (List.replicate k (.int .i64 v)) = repL v n (m + k) := by
  unfold splice repL
  rw [List.take_append_of_le_length (by simp), List.take_of_length_le (by simp), List.length_replicate, List.drop_append, List.drop_of_length_le (by simp), List.nil_append, List.length_replicate, List.drop_replicate, ← List.append_assoc, List.replicate_append_replicate]
  congr 2
  omega

set_option maxRecDepth 20000 in
set_option maxHeartbeats 2000000 in
theorem repeat_one (v : Int) (g ch : Nat) (w : World) (h1 : 1 ≤ ch) (h2 : ch ≤ 1000) (hg : g < w.heap.size) (hc : w.cell? ⟨g, 0, none⟩ = some (.int .i64 v))
    (hM : ∀ V : World, Calls Tryd.prog 122 #[.int .u64 1, .int .u64 ch] V fun e w' => e = .returned (.tuple #[.int .u64 0, .int .u64 ch]) ∧ w' = V) :
    Calls Tryd.prog 112 #[.slice (some ⟨g, 0, none⟩) 1 1, .int .i64 ch] w fun e w' => ∃ q, e = .returned (.slice (some ⟨q, 0, none⟩) ch ch) ∧ w.heap.size ≤ q ∧ Blk w' q (List.replicate ch (.int .i64 v)) 3 ∧ Below w.heap.size w w' := by
  obtain ⟨i0, hi, hz0, hz1, hz2⟩ := info_parts infoInt
  have hsz : (Tryd.prog.info? 3).map (·.size) = some 1 := by rw [hi]; simp [hz1]
  have hmk := makeInt ch h2
  have HM := hide hM
  obtain ⟨W1, hcp, HB, HR⟩ : ∃ W1, (Builtin.copy_ #[125, 125] 3 #[.slice (some ⟨w.heap.size, 0, none⟩) ch ch, .slice (some ⟨g, 0, none⟩) 1 1]).run Tryd.prog (w.alloc (.cells (Array.replicate ch (Value.int .i64 0)) 3)) = .ok (.int .i64 1) W1 ∧ Hid (Below w.heap.size w W1) ∧ Hid (Blk W1 w.heap.size (repL v ch 1) 3) := by
    have h0 : (w.alloc (.cells (Array.replicate ch (Value.int .i64 0)) 3)).heap[w.heap.size]? = some (.cells (Array.replicate ch (Value.int .i64 0)) 3 (0, 0)) := World.alloc_heap_new w _
    have h := run_copy_row (P := Tryd.prog) (w.alloc (.cells (Array.replicate ch (Value.int .i64 0)) 3)) 125 125 3 3 w.heap.size 0 ch ch ⟨g, 0, none⟩ 1 1 (Array.replicate ch (Value.int .i64 0)) 3 [.int .i64 v] Tryd.underlying125 hsz h0 (by rw [List.length_singleton]; exact (Nat.min_eq_left h1).symm) (by
      intro j u hj
      cases j with
      | zero => simp at hj; subst hj; exact (World.cell?_alloc_past _ _ _ hg).trans hc
      | succ j => simp at hj) (by simpa using h1) (by intro u hu; simp at hu; subst hu; rfl)
    refine ⟨_, h, below_setRow ((Below.refl _ _).alloc (Nat.le_refl _) _) (Nat.le_refl _) _, ?_⟩
    show Blk _ _ _ _
    unfold Blk
    rw [setRow_heap _ _ _ _ _ _ h0]
    congr 3
    simp [repL]
  clear hM hc
  have hc64 : IntKind.u64.wrap (ch : Int) = (ch : Int) := by rw [IntKind.wrap_u64] <;> omega
  have hci64 : IntKind.i64.wrap (ch : Int) = (ch : Int) := by rw [IntKind.wrap_i64] <;> omega
  have hbig : ¬ (9223372036854775807 : Int) < (ch : Int) := by omega
  have h0c : ¬ (ch : Int) < 0 := by omega
  go_enter Tryd.func112, Tryd.ntmps112
  go_wp2_with fail
  refine (HM.out _).mono ?_
  rintro e w1 ⟨rfl, hw1⟩
  obtain rfl := hw1.symm
  go_wp2_with fail
  clear hcp hmk hc64 hci64 hbig h0c HM hg
  go_loopw [8] (fun i wr => ∃ m : Nat, 1 ≤ m ∧ m ≤ ch ∧ i = .int .i64 m ∧ Hid (Blk wr w.heap.size (repL v ch m) 3) ∧ Hid (Below w.heap.size w wr)) (fun i _ => ch - (intOf i).toNat)
  case atStart => exact ⟨1, Nat.le_refl _, h1, rfl, HR.out, HB.out⟩
  case round =>
    obtain ⟨m, hm1, hm, rfl, hbk, hb⟩ := hrel
    by_cases hlt : m < ch
    · obtain ⟨c, hc⟩ : ∃ c, Nat.min m (ch - m) = c := ⟨_, rfl⟩
      have hc1 : 1 ≤ c := by rw [← hc]; exact Nat.le_min.2 ⟨hm1, by omega⟩
      have hc2 : c ≤ m := by rw [← hc]; exact Nat.min_le_left _ _
      have hc3 : m + c ≤ ch := by have : c ≤ ch - m := by rw [← hc]; exact Nat.min_le_right _ _
                                  omega
      have hf := cut_from w.heap.size ch m hlt
      have ht := cut_to w.heap.size ch m hlt
      have HCL := hide (show (List.replicate c (Value.int .i64 v)).length = Nat.min m (ch - m) by rw [List.length_replicate, hc])
      have HCE := hide (show ∀ (j : Nat) u, (List.replicate c (Value.int .i64 v))[j]? = some u → wr.drew.cell? ⟨w.heap.size, j, none⟩ = some u by
        intro j u hj
        rw [List.getElem?_replicate] at hj
        split at hj
        · rename_i hjc
          cases hj
          refine (hbk.out.cell j).trans ?_
          rw [repL, List.getElem?_append_left (by simp; omega), List.getElem?_replicate, if_pos (by omega)]
        · cases hj)
      have HFT := hide (show m + (List.replicate c (Value.int .i64 v)).length ≤ (repL v ch m).length by rw [List.length_replicate, repL_len v ch m hm]; exact hc3)
      have HON := hide (show ∀ u ∈ List.replicate c (Value.int .i64 v), u.oneCell' = true by intro u hu; rw [List.mem_replicate] at hu; rw [hu.2]; rfl)
      have HSP := hide (repL_splice v ch m c hc3)
      obtain ⟨W4, hcp, HB4, HR4⟩ : ∃ W4, (Builtin.copy_ #[125, 125] 3 #[.slice (some ⟨w.heap.size, m, none⟩) (ch - m) (ch - m), .slice (some ⟨w.heap.size, 0, none⟩) m ch]).run Tryd.prog wr.drew = .ok (.int .i64 c) W4 ∧ Hid (Below w.heap.size w W4) ∧ Hid (Blk W4 w.heap.size (repL v ch (m + c)) 3) := by
        have h := run_copy_row (P := Tryd.prog) wr.drew 125 125 3 3 w.heap.size m (ch - m) (ch - m) ⟨w.heap.size, 0, none⟩ m ch (repL v ch m).toArray 3 (List.replicate c (.int .i64 v)) Tryd.underlying125 hsz hbk.out HCL.out (by
          intro j u hj
          rw [show Addr.add ⟨w.heap.size, 0, none⟩ j = ⟨w.heap.size, j, none⟩ by unfold Addr.add; split <;> simp_all]
          exact HCE.out j u hj) (by simpa using HFT.out) HON.out
        refine ⟨_, h.trans (by rw [List.length_replicate]; rfl), below_setRow hb.out.drew (Nat.le_refl _) _, ?_⟩
        show Blk _ _ _ _
        unfold Blk
        rw [← HSP.out, splice, ← List.append_assoc, List.length_replicate]
        exact setRow_heap wr.drew _ _ _ _ _ hbk.out
      clear hc HCL HCE HFT HON HSP hsz hi hz0 hz1 hz2 i0
      go_wp2_with fail
      go_region
      go_wp2
      go_roundw
      case rel =>
        have R : ∃ m' : Nat, 1 ≤ m' ∧ m' ≤ ch ∧ Value.int .i64 ((m : Int) + (c : Int)) = .int .i64 m' ∧ Hid (Blk W4 w.heap.size (repL v ch m') 3) ∧ Hid (Below w.heap.size w W4) := ⟨m + c, by omega, by omega, by go_num, HR4.out, HB4.out⟩
        first | exact R | ((repeat apply Exists.intro); exact ⟨R, rfl⟩)
      case measure => simp [intOf]; omega
    · obtain rfl : m = ch := by omega
      go_wp2
      go_ret
      refine ⟨_, rfl, Nat.le_refl _, ?_, hb.out⟩
      have h := hbk.out
      rw [repL, Nat.sub_self, List.replicate_zero, List.append_nil] at h
      exact h
end Go.Proofs.YtgaoeoijdpdjiaaDoor

namespace Go.Proofs.YtgaoeoijdpdjiaaDoor
open Go.RowKit

theorem madeStr (n : Nat) : madeCells (Value.string ⟨#[]⟩).cells n = ((List.replicate n (⟨#[]⟩ : ByteArray)).map Value.string).toArray := by
  apply Array.ext
  · simp [size_madeCells]
  · intro i h1 h2
    simp [madeCells, Value.cells, Nat.mod_one]
theorem makeStr (k : Nat) (hk : k ≤ 1000) (w : World) : (Instr.makeSlice 28 (.int .i64 k) (.int .i64 k)).run Tryd.prog w = .ok (.slice (some ⟨w.heap.size, 0, none⟩) k k) (w.alloc (.cells ((List.replicate k (⟨#[]⟩ : ByteArray)).map Value.string).toArray 9)) := by
  obtain ⟨i0, hi, hz0, hz1, hz2⟩ := info_parts infoStr
  have h := run_make (P := Tryd.prog) w 28 9 i0 (.string ⟨#[]⟩) Tryd.underlying28 hi hz0 .i64 .i64 k k (by omega) (by omega) (by rw [hz2]; omega) (by omega)
  rw [hz1, Nat.mul_one, Int.toNat_natCast, madeStr] at h
  exact h

theorem heldN {n : Nat} {w W V : World} (h : Below n w W) (hb : Below W.heap.size W V) (hn : n ≤ w.heap.size) : Below n w V := h.trans (hb.mono (Nat.le_trans hn h.size))
end Go.Proofs.YtgaoeoijdpdjiaaDoor
