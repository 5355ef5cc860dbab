/-
  A new row of texts. slices.Repeat of a list of one number. From a leaf up to the root: what a climb makes. The document's own Placed: a tree below 0. The document's disk: Write and Sync. The statement's own lentKeep and wholeKeep: what a crash keeps, with spare room behind it, handed in, and looked at again.
-/
import Derived.Test.YtgaoeoijdpdjiaaGreatDoorPart18
import Derived.Test.YtgaoeoijdpdjiaaGreatDoorPart5
import Derived.Laws.CopyOwn
import Derived.Test.YtgaoeoijdpdjiaaGreatDoorPart19
import Derived.Test.YtgaoeoijdpdjiaaGreatDoorPart3
import Derived.WalkSpells
import Derived.Deep.QuietTactic
import Derived.BigQuiet
namespace Go.Proofs.YtgaoeoijdpdjiaaGreatDoor
open Go.RowKit
theorem madeStr (n : Nat) : madeCells (Value.string ⟨#[]⟩).cells n = ((List.replicate n (⟨#[]⟩ : ByteArray)).map Value.string).toArray := by
  apply Array.ext
  · simp [size_madeCells]
  · intro i h1 h2
    simp [madeCells, Value.cells, Nat.mod_one]
theorem makeStr (k : Nat) (hk : k ≤ 1000) (w : World) : (Instr.makeSlice 50 (.int .i64 k) (.int .i64 k)).run Tryz.prog w = .ok (.slice (some ⟨w.heap.size, 0, none⟩) k k) (w.alloc (.cells ((List.replicate k (⟨#[]⟩ : ByteArray)).map Value.string).toArray 9)) := by
  obtain ⟨i0, hi, hz0, hz1, hz2⟩ := info_parts infoStr
  have h := run_make (P := Tryz.prog) w 50 9 i0 (.string ⟨#[]⟩) Tryz.underlying50 hi hz0 .i64 .i64 k k (by omega) (by omega) (by rw [hz2]; omega) (by omega)
  rw [hz1, Nat.mul_one, Int.toNat_natCast, madeStr] at h
  exact h
theorem heldN {n : Nat} {w W V : World} (h : Below n w W) (hb : Below W.heap.size W V) (hn : n ≤ w.heap.size) : Below n w V := h.trans (hb.mono (Nat.le_trans hn h.size))
end Go.Proofs.YtgaoeoijdpdjiaaGreatDoor

namespace Go.Proofs.YtgaoeoijdpdjiaaGreatDoor
open Go.RowKit
theorem infoInt : (Tryz.prog.info? 3).map (fun i => (i.zero, i.size, i.bytes)) = some (some (.int .i64 0), 1, 8) := by kernel_rfl
theorem cut_from (g N m : Nat) (hm : m < N) (wx : World) : (Instr.slice 122 (.slice (some ⟨g, 0, none⟩) N N) (some (.int .i64 m)) none none).run Tryz.prog wx = .ok (.slice (some ⟨g, m, none⟩) (N - m) (N - m)) wx := by
  have h2 : (m : Int) ≤ N := by omega
  have h3 : (0 : Int) ≤ m := by omega
  simp [go_sem, h2, h3]
  all_goals omega
theorem cut_to (g N m : Nat) (hm : m < N) (wx : World) : (Instr.slice 122 (.slice (some ⟨g, 0, none⟩) N N) none (some (.int .i64 m)) none).run Tryz.prog wx = .ok (.slice (some ⟨g, 0, none⟩) m N) wx := by
  have h2 : (m : Int) ≤ N := by omega
  have h3 : (0 : Int) ≤ m := by omega
  simp [go_sem, h2, h3]
  all_goals omega
theorem madeInt (n : Nat) : madeCells (Value.int .i64 0).cells n = (List.replicate n (Value.int .i64 0)).toArray := by
  apply Array.ext
  · simp [size_madeCells]
  · intro i h1 h2
    simp [madeCells, Value.cells, Nat.mod_one]
theorem makeInt (k : Nat) (hk : k ≤ 1000) (w : World) : (Instr.makeSlice 122 (.int .i64 k) (.int .i64 k)).run Tryz.prog w = .ok (.slice (some ⟨w.heap.size, 0, none⟩) k k) (w.alloc (.cells (List.replicate k (Value.int .i64 0)).toArray 3)) := by
  obtain ⟨i0, hi, hz0, hz1, hz2⟩ := info_parts infoInt
  have h := run_make (P := Tryz.prog) w 122 3 i0 (.int .i64 0) Tryz.underlying122 hi hz0 .i64 .i64 k k (by omega) (by omega) (by rw [hz2]; omega) (by omega)
  rw [hz1, Nat.mul_one, Int.toNat_natCast, madeInt] at h
  exact h
/-- The first m of n are v, the others 0. -/
def repL (v : Int) (n m : Nat) : List Value := List.replicate m (.int .i64 v) ++ List.replicate (n - m) (.int .i64 0)
theorem repL_len (v : Int) (n m : Nat) (h : m ≤ n) : (repL v n m).length = n := by simp [repL]; omega
theorem repL_splice (v : Int) (n m k : Nat) (h : m + k ≤ n) : splice (repL v n m) m (List.replicate k (.int .i64 v)) = repL v n (m + k) := by
  unfold splice repL
  rw [List.take_append_of_le_length (by simp), List.take_of_length_le (by simp), List.length_replicate, List.drop_append, List.drop_of_length_le (by simp), List.nil_append, List.length_replicate, List.drop_replicate, ← List.append_assoc, List.replicate_append_replicate]
  congr 2
  omega
set_option maxRecDepth 20000 in
set_option maxHeartbeats 2000000 in
theorem repeat_one (v : Int) (g ch : Nat) (w : World) (h1 : 1 ≤ ch) (h2 : ch ≤ 1000) (hg : g < w.heap.size) (hc : w.cell? ⟨g, 0, none⟩ = some (.int .i64 v))
    (hM : ∀ V : World, Calls Tryz.prog 152 #[.int .u64 1, .int .u64 ch] V fun e w' => e = .returned (.tuple #[.int .u64 0, .int .u64 ch]) ∧ w' = V) :
    Calls Tryz.prog 73 #[.slice (some ⟨g, 0, none⟩) 1 1, .int .i64 ch] w fun e w' => ∃ q, e = .returned (.slice (some ⟨q, 0, none⟩) ch ch) ∧ w.heap.size ≤ q ∧ Blk w' q (List.replicate ch (.int .i64 v)) 3 ∧ Below w.heap.size w w' := by
  obtain ⟨i0, hi, hz0, hz1, hz2⟩ := info_parts infoInt
  have hsz : (Tryz.prog.info? 3).map (·.size) = some 1 := by rw [hi]; simp [hz1]
  have hmk := makeInt ch h2
  have HM := hide hM
  obtain ⟨W1, hcp, HB, HR⟩ : ∃ W1, (Builtin.copy_ #[122, 122] 3 #[.slice (some ⟨w.heap.size, 0, none⟩) ch ch, .slice (some ⟨g, 0, none⟩) 1 1]).run Tryz.prog (w.alloc (.cells (Array.replicate ch (Value.int .i64 0)) 3)) = .ok (.int .i64 1) W1 ∧ Hid (Below w.heap.size w W1) ∧ Hid (Blk W1 w.heap.size (repL v ch 1) 3) := by
    have h0 : (w.alloc (.cells (Array.replicate ch (Value.int .i64 0)) 3)).heap[w.heap.size]? = some (.cells (Array.replicate ch (Value.int .i64 0)) 3 (0, 0)) := World.alloc_heap_new w _
    have h := run_copy_row (P := Tryz.prog) (w.alloc (.cells (Array.replicate ch (Value.int .i64 0)) 3)) 122 122 3 3 w.heap.size 0 ch ch ⟨g, 0, none⟩ 1 1 (Array.replicate ch (Value.int .i64 0)) 3 [.int .i64 v] Tryz.underlying122 hsz h0 (by rw [List.length_singleton]; exact (Nat.min_eq_left h1).symm) (by
      intro j u hj
      cases j with
      | zero => simp at hj; subst hj; exact (World.cell?_alloc_past _ _ _ hg).trans hc
      | succ j => simp at hj) (by simpa using h1) (by intro u hu; simp at hu; subst hu; rfl)
    refine ⟨_, h, below_setRow ((Below.refl _ _).alloc (Nat.le_refl _) _) (Nat.le_refl _) _, ?_⟩
    show Blk _ _ _ _
    unfold Blk
    rw [setRow_heap _ _ _ _ _ _ h0]
    congr 3
    simp [repL]
  clear hM hc
  have hc64 : IntKind.u64.wrap (ch : Int) = (ch : Int) := by rw [IntKind.wrap_u64] <;> omega
  have hci64 : IntKind.i64.wrap (ch : Int) = (ch : Int) := by rw [IntKind.wrap_i64] <;> omega
  have hbig : ¬ (9223372036854775807 : Int) < (ch : Int) := by omega
  have h0c : ¬ (ch : Int) < 0 := by omega
  go_enter Tryz.func73, Tryz.ntmps73
  go_wp2_with fail
  refine (HM.out _).mono ?_
  rintro e w1 ⟨rfl, hw1⟩
  obtain rfl := hw1.symm
  go_wp2_with fail
  clear hcp hmk hc64 hci64 hbig h0c HM hg
  go_loopw [8] (fun i wr => ∃ m : Nat, 1 ≤ m ∧ m ≤ ch ∧ i = .int .i64 m ∧ Hid (Blk wr w.heap.size (repL v ch m) 3) ∧ Hid (Below w.heap.size w wr)) (fun i _ => ch - (intOf i).toNat)
  case atStart => exact ⟨1, Nat.le_refl _, h1, rfl, HR.out, HB.out⟩
  case round =>
    obtain ⟨m, hm1, hm, rfl, hbk, hb⟩ := hrel
    by_cases hlt : m < ch
    · obtain ⟨c, hc⟩ : ∃ c, Nat.min m (ch - m) = c := ⟨_, rfl⟩
      have hc1 : 1 ≤ c := by rw [← hc]; exact Nat.le_min.2 ⟨hm1, by omega⟩
      have hc2 : c ≤ m := by rw [← hc]; exact Nat.min_le_left _ _
      have hc3 : m + c ≤ ch := by have : c ≤ ch - m := by rw [← hc]; exact Nat.min_le_right _ _
                                  omega
      have hf := cut_from w.heap.size ch m hlt
      have ht := cut_to w.heap.size ch m hlt
      have HCL := hide (show (List.replicate c (Value.int .i64 v)).length = Nat.min m (ch - m) by rw [List.length_replicate, hc])
      have HCE := hide (show ∀ (j : Nat) u, (List.replicate c (Value.int .i64 v))[j]? = some u → wr.drew.cell? ⟨w.heap.size, j, none⟩ = some u by
        intro j u hj
        rw [List.getElem?_replicate] at hj
        split at hj
        · rename_i hjc
          cases hj
          refine (hbk.out.cell j).trans ?_
          rw [repL, List.getElem?_append_left (by simp; omega), List.getElem?_replicate, if_pos (by omega)]
        · cases hj)
      have HFT := hide (show m + (List.replicate c (Value.int .i64 v)).length ≤ (repL v ch m).length by rw [List.length_replicate, repL_len v ch m hm]; exact hc3)
      have HON := hide (show ∀ u ∈ List.replicate c (Value.int .i64 v), u.oneCell' = true by intro u hu; rw [List.mem_replicate] at hu; rw [hu.2]; rfl)
      have HSP := hide (repL_splice v ch m c hc3)
      obtain ⟨W4, hcp, HB4, HR4⟩ : ∃ W4, (Builtin.copy_ #[122, 122] 3 #[.slice (some ⟨w.heap.size, m, none⟩) (ch - m) (ch - m), .slice (some ⟨w.heap.size, 0, none⟩) m ch]).run Tryz.prog wr.drew = .ok (.int .i64 c) W4 ∧ Hid (Below w.heap.size w W4) ∧ Hid (Blk W4 w.heap.size (repL v ch (m + c)) 3) := by
        have h := run_copy_row (P := Tryz.prog) wr.drew 122 122 3 3 w.heap.size m (ch - m) (ch - m) ⟨w.heap.size, 0, none⟩ m ch (repL v ch m).toArray 3 (List.replicate c (.int .i64 v)) Tryz.underlying122 hsz hbk.out HCL.out (by
          intro j u hj
          rw [show Addr.add ⟨w.heap.size, 0, none⟩ j = ⟨w.heap.size, j, none⟩ by unfold Addr.add; split <;> simp_all]
          exact HCE.out j u hj) (by simpa using HFT.out) HON.out
        refine ⟨_, h.trans (by rw [List.length_replicate]; rfl), below_setRow hb.out.drew (Nat.le_refl _) _, ?_⟩
        show Blk _ _ _ _
        unfold Blk
        rw [← HSP.out, splice, ← List.append_assoc, List.length_replicate]
        exact setRow_heap wr.drew _ _ _ _ _ hbk.out
      clear hc HCL HCE HFT HON HSP hsz hi hz0 hz1 hz2 i0
      go_wp2_with fail
      go_region
      go_wp2
      go_roundw
      case rel =>
        have R : ∃ m' : Nat, 1 ≤ m' ∧ m' ≤ ch ∧ Value.int .i64 ((m : Int) + (c : Int)) = .int .i64 m' ∧ Hid (Blk W4 w.heap.size (repL v ch m') 3) ∧ Hid (Below w.heap.size w W4) := ⟨m + c, by omega, by omega, by go_num, HR4.out, HB4.out⟩
        first | exact R | ((repeat apply Exists.intro); exact ⟨R, rfl⟩)
      case measure => simp [intOf]; omega
    · obtain rfl : m = ch := by omega
      go_wp2
      go_ret
      refine ⟨_, rfl, Nat.le_refl _, ?_, hb.out⟩
      have h := hbk.out
      rw [repL, Nat.sub_self, List.replicate_zero, List.append_nil] at h
      exact h
end Go.Proofs.YtgaoeoijdpdjiaaGreatDoor

namespace Go.Proofs.YtgaoeoijdpdjiaaGreatDoor
open Go.RowKit
theorem tdiv_two (a : Nat) : Int.tdiv (a : Int) 2 = ((a / 2 : Nat) : Int) := by rw [Int.tdiv_eq_ediv_of_nonneg (by omega)]; omega
theorem tmod_two (a : Nat) : Int.tmod (a : Int) 2 = ((a % 2 : Nat) : Int) := by rw [Int.tmod_eq_emod_of_nonneg (by omega)]; omega
end Go.Proofs.YtgaoeoijdpdjiaaGreatDoor

namespace Go.Proofs.YtgaoeoijdpdjiaaGreatDoor
open Go.RowKit
set_option maxRecDepth 20000 in
set_option maxHeartbeats 8000000 in
theorem placed_1 (k x a0 a1 a3 a4 a5 : Int) (b t l q ch : Nat) (p1 p2 p3 : Int) (w : World) (h2 : t ≤ 4) (h4 : l ≤ 3) (hq : q < l)
    (hsz : ∀ V : World, Calls Tryz.prog 89 #[.agg #[.int .i64 k, .int .i64 b, .int .i64 x, .int .i64 t, .int .i64 l]] V fun r w' => r = .returned (.agg #[.int .i64 a0, .int .i64 a1, .int .i64 ch, .int .i64 a3, .int .i64 a4, .int .i64 a5]) ∧ Below V.heap.size V w') (e1 : p1 < 0) :
    Calls Tryz.prog 51 #[.agg #[.int .i64 k, .int .i64 b, .int .i64 x, .int .i64 t, .int .i64 l], .agg #[.int .i64 q, .int .i64 p1, .int .i64 p2, .int .i64 p3]] w fun e w' => e = .returned (.bool false) ∧ Below w.heap.size w w' := by
  have ha : 2 ^ t ≤ 16 := Nat.le_trans (Nat.pow_le_pow_right (by decide) h2) (by decide)
  have hpl : (2 ^ t) ^ (l - 1 - q) ≤ 65536 := Nat.le_trans (Nat.pow_le_pow_left ha _) (Nat.le_trans (Nat.pow_le_pow_right (by decide) (show l - 1 - q ≤ 2 by omega)) (by decide))
  have HLV := hide (fun V : World => leaves_any t k b x l V h2)
  have HPW := hide (fun V : World => power_any (2 ^ t) (l - 1 - q) V ha (by omega) hpl Nat.one_le_two_pow)
  rw [show ((l - 1 - q : Nat) : Int) = (l : Int) - 1 - (q : Int) by omega] at HPW
  generalize ((2 ^ t) ^ (l - 1 - q) : Nat) = tr at HPW 
  generalize (2 ^ t : Nat) = lv at HLV HPW 
  clear ha hpl
  have HSZ := hide hsz
  have g0 : ¬ ((q : Int) < 0) := by omega
  have g1 : ¬ ((l : Int) ≤ (q : Int)) := by omega
  have hwa : IntKind.i64.wrap ((l : Int) - 1) = (l : Int) - 1 := by rw [IntKind.wrap_i64]; omega
  have hwb : IntKind.i64.wrap ((l : Int) - 1 - (q : Int)) = (l : Int) - 1 - (q : Int) := by rw [IntKind.wrap_i64]; omega
  obtain ⟨W0, hW⟩ : ∃ W0, (w.alloc (.cells #[.int .i64 k, .int .i64 b, .int .i64 x, .int .i64 t, .int .i64 l] 23)).alloc (.cells #[.int .i64 q, .int .i64 p1, .int .i64 p2, .int .i64 p3] 27) = W0 := ⟨_, rfl⟩
  have HF := hide (show FiveC w.heap.size W0 k b x t l by subst hW; refine ⟨?_, ?_, ?_, ?_, ?_⟩ <;> simp [go_sem])
  have HP := hide (show FourC (w.heap.size + 1) W0 q p1 p2 p3 by subst hW; refine ⟨?_, ?_, ?_, ?_⟩ <;> simp [go_sem])
  have HB := hide (show Below w.heap.size w W0 by subst hW; exact ((Below.refl _ _).alloc (Nat.le_refl _) _).alloc (by simp) _)
  have hz : W0.heap.size ≤ w.heap.size + 2 := by subst hW; simp
  have hz' : w.heap.size + 2 ≤ W0.heap.size := by subst hW; simp
  obtain ⟨c0, c1, c2, c3, c4⟩ := HF.out
  obtain ⟨d0, d1, d2, d3⟩ := HP.out
  clear hsz
  go_enter Tryz.func51, Tryz.ntmps51
  go_wp2_with fail
  try rw [hW]
  refine (HSZ.out _).mono ?_
  rintro e w1 ⟨rfl, hb1⟩
  have HB1 := hide (show Below W0.heap.size W0 (w1.alloc (.cells #[.int .i64 a0, .int .i64 a1, .int .i64 ch, .int .i64 a3, .int .i64 a4, .int .i64 a5] 127)) from (hb1.mono (Nat.le_refl _)).alloc hb1.size _)
  have HZ := hide (Blk.new w1 [.int .i64 a0, .int .i64 a1, .int .i64 ch, .int .i64 a3, .int .i64 a4, .int .i64 a5] 127)
  have hz1 : (w1.alloc (.cells #[.int .i64 a0, .int .i64 a1, .int .i64 ch, .int .i64 a3, .int .i64 a4, .int .i64 a5] 127)).heap.size = w1.heap.size + 1 := by simp
  have hzz := hb1.size
  obtain ⟨c0', c1', c2', c3', c4'⟩ := HF.out.below hb1 (by omega)
  obtain ⟨d0', d1', d2', d3'⟩ := HP.out.below hb1 (by omega)
  clear hb1 c0 c1 c2 c3 c4 d0 d1 d2 d3 hW
  go_wp2_with fail
  obtain ⟨W1, hW1⟩ : ∃ W1, w1.alloc (.cells #[.int .i64 a0, .int .i64 a1, .int .i64 ch, .int .i64 a3, .int .i64 a4, .int .i64 a5] 127) = W1 := ⟨_, rfl⟩
  rw [hW1] at HB1 HZ hz1 ⊢
  clear hW1 c0' c1' c2' c3' c4' d0' d1' d2' d3'
  have HS := hide (fun (V : World) (h : Below W1.heap.size W1 V) => (by
    have h0 := heldB HB1.out (h.mono (Nat.le_refl _)) (Nat.le_refl _)
    obtain ⟨c0, c1, c2, c3, c4⟩ := HF.out.below h0 (by omega)
    obtain ⟨d0, d1, d2, d3⟩ := HP.out.below h0 (by omega)
    exact ⟨c0, c1, c2, c3, c4, d0, d1, d2, d3, (HZ.out.on h).cell 2, h⟩ : V.cell? ⟨w.heap.size, 0, none⟩ = some (.int .i64 k) ∧ V.cell? ⟨w.heap.size, 1, none⟩ = some (.int .i64 b) ∧ V.cell? ⟨w.heap.size, 2, none⟩ = some (.int .i64 x) ∧ V.cell? ⟨w.heap.size, 3, none⟩ = some (.int .i64 t) ∧ V.cell? ⟨w.heap.size, 4, none⟩ = some (.int .i64 l) ∧ V.cell? ⟨w.heap.size + 1, 0, none⟩ = some (.int .i64 q) ∧ V.cell? ⟨w.heap.size + 1, 1, none⟩ = some (.int .i64 p1) ∧ V.cell? ⟨w.heap.size + 1, 2, none⟩ = some (.int .i64 p2) ∧ V.cell? ⟨w.heap.size + 1, 3, none⟩ = some (.int .i64 p3) ∧ V.cell? ⟨w1.heap.size, 2, none⟩ = some (.int .i64 ch) ∧ Below W1.heap.size W1 V))
  go_region_held3 (fun V => V.cell? ⟨w.heap.size, 0, none⟩ = some (.int .i64 k) ∧ V.cell? ⟨w.heap.size, 1, none⟩ = some (.int .i64 b) ∧ V.cell? ⟨w.heap.size, 2, none⟩ = some (.int .i64 x) ∧ V.cell? ⟨w.heap.size, 3, none⟩ = some (.int .i64 t) ∧ V.cell? ⟨w.heap.size, 4, none⟩ = some (.int .i64 l) ∧ V.cell? ⟨w.heap.size + 1, 0, none⟩ = some (.int .i64 q) ∧ V.cell? ⟨w.heap.size + 1, 1, none⟩ = some (.int .i64 p1) ∧ V.cell? ⟨w.heap.size + 1, 2, none⟩ = some (.int .i64 p2) ∧ V.cell? ⟨w.heap.size + 1, 3, none⟩ = some (.int .i64 p3) ∧ V.cell? ⟨w1.heap.size, 2, none⟩ = some (.int .i64 ch) ∧ Below W1.heap.size W1 V) (first | exact HS.out _ hS2 | exact HS.out _ hS1 | exact HS.out _ (Below.refl _ _).drew) (first | (go_at_call 90; refine (HLV.out _).mono ?_; rintro e w2 ⟨rfl, hb2⟩; have hS1 := heldB (Below.refl W1.heap.size W1).drew hb2 (Nat.le_refl _)) | (go_at_call 55; refine (HPW.out _).mono ?_; rintro e w3 ⟨rfl, rfl⟩; have hS2 := hS1))
  go_wp2_with fail
  have d1 : decide (0 ≤ p1) = false := by simp; omega
  clear e1
  refine wp_region_held_drew (S := fun V => V.cell? ⟨w.heap.size, 0, none⟩ = some (.int .i64 k) ∧ V.cell? ⟨w.heap.size, 1, none⟩ = some (.int .i64 b) ∧ V.cell? ⟨w.heap.size, 2, none⟩ = some (.int .i64 x) ∧ V.cell? ⟨w.heap.size, 3, none⟩ = some (.int .i64 t) ∧ V.cell? ⟨w.heap.size, 4, none⟩ = some (.int .i64 l) ∧ V.cell? ⟨w.heap.size + 1, 0, none⟩ = some (.int .i64 q) ∧ V.cell? ⟨w.heap.size + 1, 1, none⟩ = some (.int .i64 p1) ∧ V.cell? ⟨w.heap.size + 1, 2, none⟩ = some (.int .i64 p2) ∧ V.cell? ⟨w.heap.size + 1, 3, none⟩ = some (.int .i64 p3) ∧ V.cell? ⟨w1.heap.size, 2, none⟩ = some (.int .i64 ch) ∧ Below W1.heap.size W1 V) (by kernel_rfl) (HS.out _ (hS2.drew)) (fun hHeld => ?_)
  refine wpAnyH_take (i := 0) (oi := ?oip0) (v := ?vp0) ?hip0 (by kernel_rfl) (by kernel_rfl) (by kernel_rfl) ?hQp0 (Or.inl ⟨?h1p0, ?hyp0⟩) hHeld ?restp0
  case hip0 => (simp only [List.getElem?_toArray, List.getElem?_cons_zero]; rfl)
  case hQp0 => exact fun _ _ _ h => h
  case h1p0 => rfl
  case hyp0 => intro V hSV; (try dsimp only at hSV); go_simp; (try with_reducible rfl)
  try simp only [Act.put, List.setIfInBounds_toArray, List.set_cons_zero, List.set_cons_succ]
  refine wpAnyH_take (i := 1) (oi := ?oip1) (v := ?vp1) ?hip1 (by kernel_rfl) (by kernel_rfl) (by kernel_rfl) ?hQp1 (Or.inl ⟨?h1p1, ?hyp1⟩) hHeld ?restp1
  case hip1 => (simp only [List.getElem?_toArray, List.getElem?_cons_succ, List.getElem?_cons_zero]; rfl)
  case hQp1 => exact fun _ _ _ h => h
  case h1p1 => rfl
  case hyp1 => intro V hSV; (try dsimp only at hSV); go_simp; (try with_reducible rfl)
  try simp only [Act.put, List.setIfInBounds_toArray, List.set_cons_zero, List.set_cons_succ]
  refine wpAnyH_take (i := 2) (oi := ?oip2) (v := ?vp2) ?hip2 (by kernel_rfl) (by kernel_rfl) (by kernel_rfl) ?hQp2 (Or.inl ⟨?h1p2, ?hyp2⟩) hHeld ?restp2
  case hip2 => (simp only [List.getElem?_toArray, List.getElem?_cons_succ, List.getElem?_cons_zero]; rfl)
  case hQp2 => exact fun _ _ _ h => h
  case h1p2 => rfl
  case hyp2 => intro V hSV; (try dsimp only at hSV); go_simp; (try with_reducible rfl)
  try simp only [Act.put, List.setIfInBounds_toArray, List.set_cons_zero, List.set_cons_succ]
  refine wpAnyH_take (i := 3) (oi := ?oip3) (v := ?vp3) ?hip3 (by kernel_rfl) (by kernel_rfl) (by kernel_rfl) ?hQp3 (Or.inl ⟨?h1p3, ?hyp3⟩) hHeld ?restp3
  case hip3 => (simp only [List.getElem?_toArray, List.getElem?_cons_succ, List.getElem?_cons_zero]; rfl)
  case hQp3 => exact fun _ _ _ h => h
  case h1p3 => rfl
  case hyp3 => intro V hSV; (try dsimp only at hSV); go_simp; (try with_reducible rfl)
  try simp only [Act.put, List.setIfInBounds_toArray, List.set_cons_zero, List.set_cons_succ]
  refine wpAnyH_take (i := 4) (oi := ?oip4) (v := undef) ?hip4 (by kernel_rfl) (by kernel_rfl) (by kernel_rfl) ?hQp4 (Or.inr ⟨?h1p4, rfl⟩) hHeld ?restp4
  case hip4 => (simp only [List.getElem?_toArray, List.getElem?_cons_succ, List.getElem?_cons_zero]; rfl)
  case hQp4 => exact fun _ _ _ h => h
  case h1p4 => rfl
  try simp only [Act.put, List.setIfInBounds_toArray, List.set_cons_zero, List.set_cons_succ]
  refine wpAnyH_take (i := 5) (oi := ?oip5) (v := undef) ?hip5 (by kernel_rfl) (by kernel_rfl) (by kernel_rfl) ?hQp5 (Or.inr ⟨?h1p5, rfl⟩) hHeld ?restp5
  case hip5 => (simp only [List.getElem?_toArray, List.getElem?_cons_succ, List.getElem?_cons_zero]; rfl)
  case hQp5 => exact fun _ _ _ h => h
  case h1p5 => rfl
  try simp only [Act.put, List.setIfInBounds_toArray, List.set_cons_zero, List.set_cons_succ]
  refine wpAnyH_take (i := 6) (oi := ?oip6) (v := undef) ?hip6 (by kernel_rfl) (by kernel_rfl) (by kernel_rfl) ?hQp6 (Or.inr ⟨?h1p6, rfl⟩) hHeld ?restp6
  case hip6 => (simp only [List.getElem?_toArray, List.getElem?_cons_succ, List.getElem?_cons_zero]; rfl)
  case hQp6 => exact fun _ _ _ h => h
  case h1p6 => rfl
  try simp only [Act.put, List.setIfInBounds_toArray, List.set_cons_zero, List.set_cons_succ]
  refine wpAnyH_take (i := 7) (oi := ?oip7) (v := undef) ?hip7 (by kernel_rfl) (by kernel_rfl) (by kernel_rfl) ?hQp7 (Or.inr ⟨?h1p7, rfl⟩) hHeld ?restp7
  case hip7 => (simp only [List.getElem?_toArray, List.getElem?_cons_succ, List.getElem?_cons_zero]; rfl)
  case hQp7 => exact fun _ _ _ h => h
  case h1p7 => rfl
  try simp only [Act.put, List.setIfInBounds_toArray, List.set_cons_zero, List.set_cons_succ]
  refine wpAnyH_take (i := 8) (oi := ?oip8) (v := ?vp8) ?hip8 (by kernel_rfl) (by kernel_rfl) (by kernel_rfl) ?hQp8 (Or.inl ⟨?h1p8, ?hyp8⟩) hHeld ?restp8
  case hip8 => (simp only [List.getElem?_toArray, List.getElem?_cons_succ, List.getElem?_cons_zero]; rfl)
  case hQp8 => exact fun _ _ _ h => h
  case h1p8 => rfl
  case hyp8 => intro V hSV; (try dsimp only at hSV); go_simp; (try with_reducible rfl)
  try simp only [Act.put, List.setIfInBounds_toArray, List.set_cons_zero, List.set_cons_succ]
  refine wpAnyH_take (i := 9) (oi := ?oip9) (v := ?vp9) ?hip9 (by kernel_rfl) (by kernel_rfl) (by kernel_rfl) ?hQp9 (Or.inl ⟨?h1p9, ?hyp9⟩) hHeld ?restp9
  case hip9 => (simp only [List.getElem?_toArray, List.getElem?_cons_succ, List.getElem?_cons_zero]; rfl)
  case hQp9 => exact fun _ _ _ h => h
  case h1p9 => rfl
  case hyp9 => intro V hSV; (try dsimp only at hSV); go_simp; (try with_reducible rfl)
  try simp only [Act.put, List.setIfInBounds_toArray, List.set_cons_zero, List.set_cons_succ]
  refine wpAnyH_take (i := 10) (oi := ?oip10) (v := undef) ?hip10 (by kernel_rfl) (by kernel_rfl) (by kernel_rfl) ?hQp10 (Or.inr ⟨?h1p10, rfl⟩) hHeld ?restp10
  case hip10 => (simp only [List.getElem?_toArray, List.getElem?_cons_succ, List.getElem?_cons_zero]; rfl)
  case hQp10 => exact fun _ _ _ h => h
  case h1p10 => rfl
  try simp only [Act.put, List.setIfInBounds_toArray, List.set_cons_zero, List.set_cons_succ]
  refine wpAnyH_take (i := 11) (oi := ?oip11) (v := undef) ?hip11 (by kernel_rfl) (by kernel_rfl) (by kernel_rfl) ?hQp11 (Or.inr ⟨?h1p11, rfl⟩) hHeld ?restp11
  case hip11 => (simp only [List.getElem?_toArray, List.getElem?_cons_succ, List.getElem?_cons_zero]; rfl)
  case hQp11 => exact fun _ _ _ h => h
  case h1p11 => rfl
  try simp only [Act.put, List.setIfInBounds_toArray, List.set_cons_zero, List.set_cons_succ]
  refine wpAnyH_take (i := 12) (oi := ?oip12) (v := undef) ?hip12 (by kernel_rfl) (by kernel_rfl) (by kernel_rfl) ?hQp12 (Or.inr ⟨?h1p12, rfl⟩) hHeld ?restp12
  case hip12 => (simp only [List.getElem?_toArray, List.getElem?_cons_succ, List.getElem?_cons_zero]; rfl)
  case hQp12 => exact fun _ _ _ h => h
  case h1p12 => rfl
  try simp only [Act.put, List.setIfInBounds_toArray, List.set_cons_zero, List.set_cons_succ]
  refine wpAnyH_take (i := 13) (oi := ?oip13) (v := ?vp13) ?hip13 (by kernel_rfl) (by kernel_rfl) (by kernel_rfl) ?hQp13 (Or.inl ⟨?h1p13, ?hyp13⟩) hHeld ?restp13
  case hip13 => (simp only [List.getElem?_toArray, List.getElem?_cons_succ, List.getElem?_cons_zero]; rfl)
  case hQp13 => exact fun _ _ _ h => h
  case h1p13 => rfl
  case hyp13 => intro V hSV; (try dsimp only at hSV); go_simp; (try with_reducible rfl)
  try simp only [Act.put, List.setIfInBounds_toArray, List.set_cons_zero, List.set_cons_succ]
  refine wpAnyH_take (i := 14) (oi := ?oip14) (v := ?vp14) ?hip14 (by kernel_rfl) (by kernel_rfl) (by kernel_rfl) ?hQp14 (Or.inl ⟨?h1p14, ?hyp14⟩) hHeld ?restp14
  case hip14 => (simp only [List.getElem?_toArray, List.getElem?_cons_succ, List.getElem?_cons_zero]; rfl)
  case hQp14 => exact fun _ _ _ h => h
  case h1p14 => rfl
  case hyp14 => intro V hSV; (try dsimp only at hSV); go_simp; (try with_reducible rfl)
  try simp only [Act.put, List.setIfInBounds_toArray, List.set_cons_zero, List.set_cons_succ]
  refine wpAnyH_take (i := 15) (oi := ?oip15) (v := undef) ?hip15 (by kernel_rfl) (by kernel_rfl) (by kernel_rfl) ?hQp15 (Or.inr ⟨?h1p15, rfl⟩) hHeld ?restp15
  case hip15 => (simp only [List.getElem?_toArray, List.getElem?_cons_succ, List.getElem?_cons_zero]; rfl)
  case hQp15 => exact fun _ _ _ h => h
  case h1p15 => rfl
  try simp only [Act.put, List.setIfInBounds_toArray, List.set_cons_zero, List.set_cons_succ]
  refine wpAnyH_take (i := 16) (oi := ?oip16) (v := undef) ?hip16 (by kernel_rfl) (by kernel_rfl) (by kernel_rfl) ?hQp16 (Or.inr ⟨?h1p16, rfl⟩) hHeld ?restp16
  case hip16 => (simp only [List.getElem?_toArray, List.getElem?_cons_succ, List.getElem?_cons_zero]; rfl)
  case hQp16 => exact fun _ _ _ h => h
  case h1p16 => rfl
  try simp only [Act.put, List.setIfInBounds_toArray, List.set_cons_zero, List.set_cons_succ]
  refine wpAnyH_take (i := 17) (oi := ?oip17) (v := undef) ?hip17 (by kernel_rfl) (by kernel_rfl) (by kernel_rfl) ?hQp17 (Or.inr ⟨?h1p17, rfl⟩) hHeld ?restp17
  case hip17 => (simp only [List.getElem?_toArray, List.getElem?_cons_succ, List.getElem?_cons_zero]; rfl)
  case hQp17 => exact fun _ _ _ h => h
  case h1p17 => rfl
  try simp only [Act.put, List.setIfInBounds_toArray, List.set_cons_zero, List.set_cons_succ]
  refine wpAnyH_take (i := 18) (oi := ?oip18) (v := undef) ?hip18 (by kernel_rfl) (by kernel_rfl) (by kernel_rfl) ?hQp18 (Or.inr ⟨?h1p18, rfl⟩) hHeld ?restp18
  case hip18 => (simp only [List.getElem?_toArray, List.getElem?_cons_succ, List.getElem?_cons_zero]; rfl)
  case hQp18 => exact fun _ _ _ h => h
  case h1p18 => rfl
  try simp only [Act.put, List.setIfInBounds_toArray, List.set_cons_zero, List.set_cons_succ]
  refine wpAnyH_take (i := 19) (oi := ?oip19) (v := undef) ?hip19 (by kernel_rfl) (by kernel_rfl) (by kernel_rfl) ?hQp19 (Or.inr ⟨?h1p19, rfl⟩) hHeld ?restp19
  case hip19 => (simp only [List.getElem?_toArray, List.getElem?_cons_succ, List.getElem?_cons_zero]; rfl)
  case hQp19 => exact fun _ _ _ h => h
  case h1p19 => rfl
  try simp only [Act.put, List.setIfInBounds_toArray, List.set_cons_zero, List.set_cons_succ]
  refine wpAnyH_take (i := 20) (oi := ?oip20) (v := ?vp20) ?hip20 (by kernel_rfl) (by kernel_rfl) (by kernel_rfl) ?hQp20 (Or.inl ⟨?h1p20, ?hyp20⟩) hHeld ?restp20
  case hip20 => (simp only [List.getElem?_toArray, List.getElem?_cons_succ, List.getElem?_cons_zero]; rfl)
  case hQp20 => exact fun _ _ _ h => h
  case h1p20 => rfl
  case hyp20 => intro V hSV; (try dsimp only at hSV); go_simp; (try with_reducible rfl)
  try simp only [Act.put, List.setIfInBounds_toArray, List.set_cons_zero, List.set_cons_succ]
  refine wpAnyH_take (i := 21) (oi := ?oip21) (v := ?vp21) ?hip21 (by kernel_rfl) (by kernel_rfl) (by kernel_rfl) ?hQp21 (Or.inl ⟨?h1p21, ?hyp21⟩) hHeld ?restp21
  case hip21 => (simp only [List.getElem?_toArray, List.getElem?_cons_succ, List.getElem?_cons_zero]; rfl)
  case hQp21 => exact fun _ _ _ h => h
  case h1p21 => rfl
  case hyp21 => intro V hSV; (try dsimp only at hSV); go_simp; (try with_reducible rfl)
  try simp only [Act.put, List.setIfInBounds_toArray, List.set_cons_zero, List.set_cons_succ]
  refine wpAnyH_take (i := 22) (oi := ?oip22) (v := undef) ?hip22 (by kernel_rfl) (by kernel_rfl) (by kernel_rfl) ?hQp22 (Or.inr ⟨?h1p22, rfl⟩) hHeld ?restp22
  case hip22 => (simp only [List.getElem?_toArray, List.getElem?_cons_succ, List.getElem?_cons_zero]; rfl)
  case hQp22 => exact fun _ _ _ h => h
  case h1p22 => rfl
  try simp only [Act.put, List.setIfInBounds_toArray, List.set_cons_zero, List.set_cons_succ]
  refine wpAnyH_take (i := 23) (oi := ?oip23) (v := undef) ?hip23 (by kernel_rfl) (by kernel_rfl) (by kernel_rfl) ?hQp23 (Or.inr ⟨?h1p23, rfl⟩) hHeld ?restp23
  case hip23 => (simp only [List.getElem?_toArray, List.getElem?_cons_succ, List.getElem?_cons_zero]; rfl)
  case hQp23 => exact fun _ _ _ h => h
  case h1p23 => rfl
  try simp only [Act.put, List.setIfInBounds_toArray, List.set_cons_zero, List.set_cons_succ]
  refine wpAnyH_take (i := 24) (oi := ?oip24) (v := undef) ?hip24 (by kernel_rfl) (by kernel_rfl) (by kernel_rfl) ?hQp24 (Or.inr ⟨?h1p24, rfl⟩) hHeld ?restp24
  case hip24 => (simp only [List.getElem?_toArray, List.getElem?_cons_succ, List.getElem?_cons_zero]; rfl)
  case hQp24 => exact fun _ _ _ h => h
  case h1p24 => rfl
  try simp only [Act.put, List.setIfInBounds_toArray, List.set_cons_zero, List.set_cons_succ]
  refine wpAnyH_take (i := 25) (oi := ?oip25) (v := ?vp25) ?hip25 (by kernel_rfl) (by kernel_rfl) (by kernel_rfl) ?hQp25 (Or.inl ⟨?h1p25, ?hyp25⟩) hHeld ?restp25
  case hip25 => (simp only [List.getElem?_toArray, List.getElem?_cons_succ, List.getElem?_cons_zero]; rfl)
  case hQp25 => exact fun _ _ _ h => h
  case h1p25 => rfl
  case hyp25 => intro V hSV; (try dsimp only at hSV); go_simp; (try with_reducible rfl)
  try simp only [Act.put, List.setIfInBounds_toArray, List.set_cons_zero, List.set_cons_succ]
  refine wpAnyH_take (i := 26) (oi := ?oip26) (v := ?vp26) ?hip26 (by kernel_rfl) (by kernel_rfl) (by kernel_rfl) ?hQp26 (Or.inl ⟨?h1p26, ?hyp26⟩) hHeld ?restp26
  case hip26 => (simp only [List.getElem?_toArray, List.getElem?_cons_succ, List.getElem?_cons_zero]; rfl)
  case hQp26 => exact fun _ _ _ h => h
  case h1p26 => rfl
  case hyp26 => intro V hSV; (try dsimp only at hSV); go_simp; (try with_reducible rfl)
  try simp only [Act.put, List.setIfInBounds_toArray, List.set_cons_zero, List.set_cons_succ]
  refine wpAnyH_take (i := 27) (oi := ?oip27) (v := undef) ?hip27 (by kernel_rfl) (by kernel_rfl) (by kernel_rfl) ?hQp27 (Or.inr ⟨?h1p27, rfl⟩) hHeld ?restp27
  case hip27 => (simp only [List.getElem?_toArray, List.getElem?_cons_succ, List.getElem?_cons_zero]; rfl)
  case hQp27 => exact fun _ _ _ h => h
  case h1p27 => rfl
  try simp only [Act.put, List.setIfInBounds_toArray, List.set_cons_zero, List.set_cons_succ]
  refine wpAnyH_take (i := 28) (oi := ?oip28) (v := undef) ?hip28 (by kernel_rfl) (by kernel_rfl) (by kernel_rfl) ?hQp28 (Or.inr ⟨?h1p28, rfl⟩) hHeld ?restp28
  case hip28 => (simp only [List.getElem?_toArray, List.getElem?_cons_succ, List.getElem?_cons_zero]; rfl)
  case hQp28 => exact fun _ _ _ h => h
  case h1p28 => rfl
  try simp only [Act.put, List.setIfInBounds_toArray, List.set_cons_zero, List.set_cons_succ]
  refine wpAnyH_take (i := 29) (oi := ?oip29) (v := undef) ?hip29 (by kernel_rfl) (by kernel_rfl) (by kernel_rfl) ?hQp29 (Or.inr ⟨?h1p29, rfl⟩) hHeld ?restp29
  case hip29 => (simp only [List.getElem?_toArray, List.getElem?_cons_succ, List.getElem?_cons_zero]; rfl)
  case hQp29 => exact fun _ _ _ h => h
  case h1p29 => rfl
  try simp only [Act.put, List.setIfInBounds_toArray, List.set_cons_zero, List.set_cons_succ]
  refine wpAnyH_take (i := 30) (oi := ?oip30) (v := undef) ?hip30 (by kernel_rfl) (by kernel_rfl) (by kernel_rfl) ?hQp30 (Or.inr ⟨?h1p30, rfl⟩) hHeld ?restp30
  case hip30 => (simp only [List.getElem?_toArray, List.getElem?_cons_succ, List.getElem?_cons_zero]; rfl)
  case hQp30 => exact fun _ _ _ h => h
  case h1p30 => rfl
  try simp only [Act.put, List.setIfInBounds_toArray, List.set_cons_zero, List.set_cons_succ]
  refine wpAnyH_take (i := 31) (oi := ?oip31) (v := undef) ?hip31 (by kernel_rfl) (by kernel_rfl) (by kernel_rfl) ?hQp31 (Or.inr ⟨?h1p31, rfl⟩) hHeld ?restp31
  case hip31 => (simp only [List.getElem?_toArray, List.getElem?_cons_succ, List.getElem?_cons_zero]; rfl)
  case hQp31 => exact fun _ _ _ h => h
  case h1p31 => rfl
  try simp only [Act.put, List.setIfInBounds_toArray, List.set_cons_zero, List.set_cons_succ]
  refine wpAnyH_take (i := 32) (oi := ?oip32) (v := ?vp32) ?hip32 (by kernel_rfl) (by kernel_rfl) (by kernel_rfl) ?hQp32 (Or.inl ⟨?h1p32, ?hyp32⟩) hHeld ?restp32
  case hip32 => (simp only [List.getElem?_toArray, List.getElem?_cons_succ, List.getElem?_cons_zero]; rfl)
  case hQp32 => exact fun _ _ _ h => h
  case h1p32 => rfl
  case hyp32 => intro V hSV; (try dsimp only at hSV); go_simp; (try with_reducible rfl)
  try simp only [Act.put, List.setIfInBounds_toArray, List.set_cons_zero, List.set_cons_succ]
  refine wpAnyH_take (i := 33) (oi := ?oip33) (v := ?vp33) ?hip33 (by kernel_rfl) (by kernel_rfl) (by kernel_rfl) ?hQp33 (Or.inl ⟨?h1p33, ?hyp33⟩) hHeld ?restp33
  case hip33 => (simp only [List.getElem?_toArray, List.getElem?_cons_succ, List.getElem?_cons_zero]; rfl)
  case hQp33 => exact fun _ _ _ h => h
  case h1p33 => rfl
  case hyp33 => intro V hSV; (try dsimp only at hSV); go_simp; (try with_reducible rfl)
  try simp only [Act.put, List.setIfInBounds_toArray, List.set_cons_zero, List.set_cons_succ]
  refine wpAnyH_done (by kernel_rfl) ?_ _
  go_wp2
  go_ret
  exact ⟨rfl, HB.out.trans ((HB1.out.trans ((hS2.drew).mono (by omega))).mono (by omega))⟩
end Go.Proofs.YtgaoeoijdpdjiaaGreatDoor

namespace Go.Proofs.YtgaoeoijdpdjiaaGreatDoor
open Go.RowKit
theorem info_partsQ {o : Option TypeInfo} {z : Option Value} {s b : Nat} (h : o.map (fun i => (i.zero, i.size, i.bytes)) = some (z, s, b)) : ∃ i, o = some i ∧ i.zero = z ∧ i.size = s ∧ i.bytes = b := by
  cases o with
  | none => simp at h
  | some i => simp at h; exact ⟨i, rfl, h.1, h.2.1, h.2.2⟩
/-- One cell of a row is written. -/
theorem owns_set {w : World} {lo : Nat} {e : TypeId} {sz g n cap : Nat} {xs : List Value} (h : w.ownsRow lo e sz (.slice (some ⟨g, 0, none⟩) n cap) n xs) (i : Nat) (u : Value) : (w.setCell ⟨g, i, none⟩ u).ownsRow lo e sz (.slice (some ⟨g, 0, none⟩) n cap) n (xs.set i u) := by
  refine ⟨by rw [List.length_set]; exact h.1, .inr ?_⟩
  rcases h.2 with ⟨e1, _⟩ | ⟨g', cap', cur, e1, h1, h2, h3, h4, h5, h6⟩
  · simp at e1
  · simp only [Value.slice.injEq, Option.some.injEq, Addr.mk.injEq, and_true, true_and] at e1
    obtain ⟨rfl, rfl⟩ := e1
    have hb : Blk w g cur.toList e := by unfold Blk; rw [h2]
    have hs := hb.set i u
    exact ⟨g, cap, (cur.toList.set i u).toArray, rfl, h1, hs, h3, h4, by simp [h5], by simp [List.take_set, h6]⟩
theorem owns_free {w : World} {lo : Nat} {e : TypeId} {sz g n cap : Nat} {xs : List Value} (h : w.ownsRow lo e sz (.slice (some ⟨g, 0, none⟩) n cap) n xs) (i : Nat) : w.frozen? ⟨g, i, none⟩ = false := by
  rcases h.2 with ⟨e1, _⟩ | ⟨g', cap', cur, e1, _, h2, _⟩
  · simp at e1
  · simp only [Value.slice.injEq, Option.some.injEq, Addr.mk.injEq, and_true, true_and] at e1
    obtain ⟨rfl, rfl⟩ := e1
    simp [World.frozen?, h2]
end Go.Proofs.YtgaoeoijdpdjiaaGreatDoor

namespace Go.Proofs.YtgaoeoijdpdjiaaGreatDoor
open Go.RowKit
/-- A list of truths that came in: nil, empty at some place, or from a place on. -/
def KeepAt (w : World) (sp : Option Addr) (n c : Nat) (K : List Bool) : Prop :=
  (sp = none ∧ n = 0 ∧ c = 0 ∧ K = []) ∨ ∃ a : Addr, sp = some a ∧ n = K.length ∧ (K = [] ∨ ∃ bk o, a = ⟨bk, o, none⟩ ∧ K.length ≤ c ∧ bk < w.heap.size ∧ ∀ (j : Nat) y, K[j]? = some y → w.cell? ⟨bk, o + j, none⟩ = some (.bool y))
end Go.Proofs.YtgaoeoijdpdjiaaGreatDoor
