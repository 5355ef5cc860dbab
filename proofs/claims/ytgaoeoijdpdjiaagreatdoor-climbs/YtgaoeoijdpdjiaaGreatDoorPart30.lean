/-
  A new row of texts. slices.Repeat of a list of one number. A list of texts in memory, and what both sides say of its lengths. The three boxes of a set, of seeds and of a place. From a leaf up to the root: what a climb makes. The statement's own small functions: bare, leaves. A place's tree.
-/
import Derived.Test.YtgaoeoijdpdjiaaGreatDoorPart20
import Derived.Test.YtgaoeoijdpdjiaaGreatDoorPart4
import Derived.Laws.CopyOwn
import Derived.Test.YtgaoeoijdpdjiaaGreatDoorPart5
import Derived.Test.YtgaoeoijdpdjiaaGreatDoorPart29
namespace Go.Proofs.YtgaoeoijdpdjiaaGreatDoor
open Go.RowKit
theorem madeStr (n : Nat) : madeCells (Value.string ⟨#[]⟩).cells n = ((List.replicate n (⟨#[]⟩ : ByteArray)).map Value.string).toArray := by
  apply Array.ext
  · simp [size_madeCells]
  · intro i h1 h2
    simp [madeCells, Value.cells, Nat.mod_one]
theorem makeStr (k : Nat) (hk : k ≤ 1000) (w : World) : (Instr.makeSlice 50 (.int .i64 k) (.int .i64 k)).run Tryz.prog w = .ok (.slice (some ⟨w.heap.size, 0, none⟩) k k) (w.alloc (.cells ((List.replicate k (⟨#[]⟩ : ByteArray)).map Value.string).toArray 9)) := by
  obtain ⟨i0, hi, hz0, hz1, hz2⟩ := info_parts infoStr
  have h := run_make (P := Tryz.prog) w 50 9 i0 (.string ⟨#[]⟩) Tryz.underlying50 hi hz0 .i64 .i64 k k (by omega) (by omega) (by rw [hz2]; omega) (by omega)
  rw [hz1, Nat.mul_one, Int.toNat_natCast, madeStr] at h
  exact h
theorem heldN {n : Nat} {w W V : World} (h : Below n w W) (hb : Below W.heap.size W V) (hn : n ≤ w.heap.size) : Below n w V := h.trans (hb.mono (Nat.le_trans hn h.size))
end Go.Proofs.YtgaoeoijdpdjiaaGreatDoor

namespace Go.Proofs.YtgaoeoijdpdjiaaGreatDoor
open Go.RowKit
theorem infoInt : (Tryz.prog.info? 3).map (fun i => (i.zero, i.size, i.bytes)) = some (some (.int .i64 0), 1, 8) := by kernel_rfl
theorem cut_from (g N m : Nat) (hm : m < N) (wx : World) : (Instr.slice 122 (.slice (some ⟨g, 0, none⟩) N N) (some (.int .i64 m)) none none).run Tryz.prog wx = .ok (.slice (some ⟨g, m, none⟩) (N - m) (N - m)) wx := by
  have h2 : (m : Int) ≤ N := by omega
  have h3 : (0 : Int) ≤ m := by omega
  simp [go_sem, h2, h3]
  all_goals omega
theorem cut_to (g N m : Nat) (hm : m < N) (wx : World) : (Instr.slice 122 (.slice (some ⟨g, 0, none⟩) N N) none (some (.int .i64 m)) none).run Tryz.prog wx = .ok (.slice (some ⟨g, 0, none⟩) m N) wx := by
  have h2 : (m : Int) ≤ N := by omega
  have h3 : (0 : Int) ≤ m := by omega
  simp [go_sem, h2, h3]
  all_goals omega
theorem madeInt (n : Nat) : madeCells (Value.int .i64 0).cells n = (List.replicate n (Value.int .i64 0)).toArray := by
  apply Array.ext
  · simp [size_madeCells]
  · intro i h1 h2
    simp [madeCells, Value.cells, Nat.mod_one]
theorem makeInt (k : Nat) (hk : k ≤ 1000) (w : World) : (Instr.makeSlice 122 (.int .i64 k) (.int .i64 k)).run Tryz.prog w = .ok (.slice (some ⟨w.heap.size, 0, none⟩) k k) (w.alloc (.cells (List.replicate k (Value.int .i64 0)).toArray 3)) := by
  obtain ⟨i0, hi, hz0, hz1, hz2⟩ := info_parts infoInt
  have h := run_make (P := Tryz.prog) w 122 3 i0 (.int .i64 0) Tryz.underlying122 hi hz0 .i64 .i64 k k (by omega) (by omega) (by rw [hz2]; omega) (by omega)
  rw [hz1, Nat.mul_one, Int.toNat_natCast, madeInt] at h
  exact h
/-- The first m of n are v, the others 0. -/
def repL (v : Int) (n m : Nat) : List Value := List.replicate m (.int .i64 v) ++ List.replicate (n - m) (.int .i64 0)
theorem repL_len (v : Int) (n m : Nat) (h : m ≤ n) : (repL v n m).length = n := by simp [repL]; omega
theorem repL_splice (v : Int) (n m k : Nat) (h : m + k ≤ n) : splice (repL v n m) m (List.replicate k (.int .i64 v)) = repL v n (m + k) := by
  unfold splice repL
  rw [List.take_append_of_le_length (by simp), List.take_of_length_le (by simp), List.length_replicate, List.drop_append, List.drop_of_length_le (by simp), List.nil_append, List.length_replicate, List.drop_replicate, ← List.append_assoc, List.replicate_append_replicate]
  congr 2
  omega
set_option maxRecDepth 20000 in
set_option maxHeartbeats 2000000 in
theorem repeat_one (v : Int) (g ch : Nat) (w : World) (h1 : 1 ≤ ch) (h2 : ch ≤ 1000) (hg : g < w.heap.size) (hc : w.cell? ⟨g, 0, none⟩ = some (.int .i64 v))
    (hM : ∀ V : World, Calls Tryz.prog 152 #[.int .u64 1, .int .u64 ch] V fun e w' => e = .returned (.tuple #[.int .u64 0, .int .u64 ch]) ∧ w' = V) :
    Calls Tryz.prog 73 #[.slice (some ⟨g, 0, none⟩) 1 1, .int .i64 ch] w fun e w' => ∃ q, e = .returned (.slice (some ⟨q, 0, none⟩) ch ch) ∧ w.heap.size ≤ q ∧ Blk w' q (List.replicate ch (.int .i64 v)) 3 ∧ Below w.heap.size w w' := by
  obtain ⟨i0, hi, hz0, hz1, hz2⟩ := info_parts infoInt
  have hsz : (Tryz.prog.info? 3).map (·.size) = some 1 := by rw [hi]; simp [hz1]
  have hmk := makeInt ch h2
  have HM := hide hM
  obtain ⟨W1, hcp, HB, HR⟩ : ∃ W1, (Builtin.copy_ #[122, 122] 3 #[.slice (some ⟨w.heap.size, 0, none⟩) ch ch, .slice (some ⟨g, 0, none⟩) 1 1]).run Tryz.prog (w.alloc (.cells (Array.replicate ch (Value.int .i64 0)) 3)) = .ok (.int .i64 1) W1 ∧ Hid (Below w.heap.size w W1) ∧ Hid (Blk W1 w.heap.size (repL v ch 1) 3) := by
    have h0 : (w.alloc (.cells (Array.replicate ch (Value.int .i64 0)) 3)).heap[w.heap.size]? = some (.cells (Array.replicate ch (Value.int .i64 0)) 3 (0, 0)) := World.alloc_heap_new w _
    have h := run_copy_row (P := Tryz.prog) (w.alloc (.cells (Array.replicate ch (Value.int .i64 0)) 3)) 122 122 3 3 w.heap.size 0 ch ch ⟨g, 0, none⟩ 1 1 (Array.replicate ch (Value.int .i64 0)) 3 [.int .i64 v] Tryz.underlying122 hsz h0 (by rw [List.length_singleton]; exact (Nat.min_eq_left h1).symm) (by
      intro j u hj
      cases j with
      | zero => simp at hj; subst hj; exact (World.cell?_alloc_past _ _ _ hg).trans hc
      | succ j => simp at hj) (by simpa using h1) (by intro u hu; simp at hu; subst hu; rfl)
    refine ⟨_, h, below_setRow ((Below.refl _ _).alloc (Nat.le_refl _) _) (Nat.le_refl _) _, ?_⟩
    show Blk _ _ _ _
    unfold Blk
    rw [setRow_heap _ _ _ _ _ _ h0]
    congr 3
    simp [repL]
  clear hM hc
  have hc64 : IntKind.u64.wrap (ch : Int) = (ch : Int) := by rw [IntKind.wrap_u64] <;> omega
  have hci64 : IntKind.i64.wrap (ch : Int) = (ch : Int) := by rw [IntKind.wrap_i64] <;> omega
  have hbig : ¬ (9223372036854775807 : Int) < (ch : Int) := by omega
  have h0c : ¬ (ch : Int) < 0 := by omega
  go_enter Tryz.func73, Tryz.ntmps73
  go_wp2_with fail
  refine (HM.out _).mono ?_
  rintro e w1 ⟨rfl, hw1⟩
  obtain rfl := hw1.symm
  go_wp2_with fail
  clear hcp hmk hc64 hci64 hbig h0c HM hg
  go_loopw [8] (fun i wr => ∃ m : Nat, 1 ≤ m ∧ m ≤ ch ∧ i = .int .i64 m ∧ Hid (Blk wr w.heap.size (repL v ch m) 3) ∧ Hid (Below w.heap.size w wr)) (fun i _ => ch - (intOf i).toNat)
  case atStart => exact ⟨1, Nat.le_refl _, h1, rfl, HR.out, HB.out⟩
  case round =>
    obtain ⟨m, hm1, hm, rfl, hbk, hb⟩ := hrel
    by_cases hlt : m < ch
    · obtain ⟨c, hc⟩ : ∃ c, Nat.min m (ch - m) = c := ⟨_, rfl⟩
      have hc1 : 1 ≤ c := by rw [← hc]; exact Nat.le_min.2 ⟨hm1, by omega⟩
      have hc2 : c ≤ m := by rw [← hc]; exact Nat.min_le_left _ _
      have hc3 : m + c ≤ ch := by have : c ≤ ch - m := by rw [← hc]; exact Nat.min_le_right _ _
                                  omega
      have hf := cut_from w.heap.size ch m hlt
      have ht := cut_to w.heap.size ch m hlt
      have HCL := hide (show (List.replicate c (Value.int .i64 v)).length = Nat.min m (ch - m) by rw [List.length_replicate, hc])
      have HCE := hide (show ∀ (j : Nat) u, (List.replicate c (Value.int .i64 v))[j]? = some u → wr.drew.cell? ⟨w.heap.size, j, none⟩ = some u by
        intro j u hj
        rw [List.getElem?_replicate] at hj
        split at hj
        · rename_i hjc
          cases hj
          refine (hbk.out.cell j).trans ?_
          rw [repL, List.getElem?_append_left (by simp; omega), List.getElem?_replicate, if_pos (by omega)]
        · cases hj)
      have HFT := hide (show m + (List.replicate c (Value.int .i64 v)).length ≤ (repL v ch m).length by rw [List.length_replicate, repL_len v ch m hm]; exact hc3)
      have HON := hide (show ∀ u ∈ List.replicate c (Value.int .i64 v), u.oneCell' = true by intro u hu; rw [List.mem_replicate] at hu; rw [hu.2]; rfl)
      have HSP := hide (repL_splice v ch m c hc3)
      obtain ⟨W4, hcp, HB4, HR4⟩ : ∃ W4, (Builtin.copy_ #[122, 122] 3 #[.slice (some ⟨w.heap.size, m, none⟩) (ch - m) (ch - m), .slice (some ⟨w.heap.size, 0, none⟩) m ch]).run Tryz.prog wr.drew = .ok (.int .i64 c) W4 ∧ Hid (Below w.heap.size w W4) ∧ Hid (Blk W4 w.heap.size (repL v ch (m + c)) 3) := by
        have h := run_copy_row (P := Tryz.prog) wr.drew 122 122 3 3 w.heap.size m (ch - m) (ch - m) ⟨w.heap.size, 0, none⟩ m ch (repL v ch m).toArray 3 (List.replicate c (.int .i64 v)) Tryz.underlying122 hsz hbk.out HCL.out (by
          intro j u hj
          rw [show Addr.add ⟨w.heap.size, 0, none⟩ j = ⟨w.heap.size, j, none⟩ by unfold Addr.add; split <;> simp_all]
          exact HCE.out j u hj) (by simpa using HFT.out) HON.out
        refine ⟨_, h.trans (by rw [List.length_replicate]; rfl), below_setRow hb.out.drew (Nat.le_refl _) _, ?_⟩
        show Blk _ _ _ _
        unfold Blk
        rw [← HSP.out, splice, ← List.append_assoc, List.length_replicate]
        exact setRow_heap wr.drew _ _ _ _ _ hbk.out
      clear hc HCL HCE HFT HON HSP hsz hi hz0 hz1 hz2 i0
      go_wp2_with fail
      go_region
      go_wp2
      go_roundw
      case rel =>
        have R : ∃ m' : Nat, 1 ≤ m' ∧ m' ≤ ch ∧ Value.int .i64 ((m : Int) + (c : Int)) = .int .i64 m' ∧ Hid (Blk W4 w.heap.size (repL v ch m') 3) ∧ Hid (Below w.heap.size w W4) := ⟨m + c, by omega, by omega, by go_num, HR4.out, HB4.out⟩
        first | exact R | ((repeat apply Exists.intro); exact ⟨R, rfl⟩)
      case measure => simp [intOf]; omega
    · obtain rfl : m = ch := by omega
      go_wp2
      go_ret
      refine ⟨_, rfl, Nat.le_refl _, ?_, hb.out⟩
      have h := hbk.out
      rw [repL, Nat.sub_self, List.replicate_zero, List.append_nil] at h
      exact h
end Go.Proofs.YtgaoeoijdpdjiaaGreatDoor

namespace Go.Proofs.YtgaoeoijdpdjiaaGreatDoor
open Go.RowKit
theorem values2B (k b x t l : Int) (pub y : ByteArray) (V : World) (B : Nat) (hB : B = V.heap.size) : Calls Tryz.prog 94 #[.agg #[.int .i64 k, .int .i64 b, .int .i64 x, .int .i64 t, .int .i64 l], .slice (some ⟨B, 0, none⟩) 2 2] (V.alloc (.cells #[.string pub, .string y] 9)) fun e w' => e = .returned (.bool ((pub.size : Int) == b && (y.size : Int) == b)) ∧ Below (V.alloc (.cells #[.string pub, .string y] 9)).heap.size (V.alloc (.cells #[.string pub, .string y] 9)) w' := by
  subst hB
  rw [show ((pub.size : Int) == b && (y.size : Int) == b) = allLen b [pub, y] by simp [allLen, Bool.beq_eq_decide_eq]]
  exact valuesRight_some k b x t l V.heap.size 0 2 [pub, y] (V.alloc (.cells #[.string pub, .string y] 9)) (by
    intro j y hj
    match j, hj with
    | 0, hj => simp at hj; subst hj; simp [go_sem]
    | 1, hj => simp at hj; subst hj; simp [go_sem]) (by simp) (by simp)
end Go.Proofs.YtgaoeoijdpdjiaaGreatDoor

namespace Go.Proofs.YtgaoeoijdpdjiaaGreatDoor
open Go.RowKit
theorem blk5 {V : World} {g : Nat} {T : TypeId} {u0 u1 u2 u3 u4 : Value} (h : Blk V g [u0, u1, u2, u3, u4] T) (v0 v1 v2 v3 v4 : Value) : Blk (((((V.setCell ⟨g, 0, none⟩ v0).setCell ⟨g, 1, none⟩ v1).setCell ⟨g, 2, none⟩ v2).setCell ⟨g, 3, none⟩ v3).setCell ⟨g, 4, none⟩ v4) g [v0, v1, v2, v3, v4] T :=
  ((((h.set 0 v0).set 1 v1).set 2 v2).set 3 v3).set 4 v4
theorem blk4 {V : World} {g : Nat} {T : TypeId} {u0 u1 u2 u3 : Value} (h : Blk V g [u0, u1, u2, u3] T) (v0 v1 v2 v3 : Value) : Blk ((((V.setCell ⟨g, 0, none⟩ v0).setCell ⟨g, 1, none⟩ v1).setCell ⟨g, 2, none⟩ v2).setCell ⟨g, 3, none⟩ v3) g [v0, v1, v2, v3] T :=
  (((h.set 0 v0).set 1 v1).set 2 v2).set 3 v3
theorem blk3 {V : World} {g : Nat} {T : TypeId} {u0 u1 u2 : Value} (h : Blk V g [u0, u1, u2] T) (v0 v1 v2 : Value) : Blk (((V.setCell ⟨g, 0, none⟩ v0).setCell ⟨g, 1, none⟩ v1).setCell ⟨g, 2, none⟩ v2) g [v0, v1, v2] T :=
  ((h.set 0 v0).set 1 v1).set 2 v2
/-- The three boxes. -/
structure Box3 (w : World) (B : Nat) (S U P : List Value) : Prop where
  s : Blk w B S 23
  u : Blk w (B + 1) U 25
  p : Blk w (B + 1 + 1) P 27
theorem Box3.on {w V : World} {B : Nat} {S U P : List Value} (h : Box3 w B S U P) (hb : Below w.heap.size w V) : Box3 V B S U P := ⟨h.s.on hb, h.u.on hb, h.p.on hb⟩
end Go.Proofs.YtgaoeoijdpdjiaaGreatDoor

namespace Go.Proofs.YtgaoeoijdpdjiaaGreatDoor
open Go.RowKit
/-- The value of height h over the leaf number F. -/
def climbS (k b : Int) (pub : ByteArray) (p0 p1 : Int) (F : Nat) (path : List ByteArray) (y : ByteArray) : Nat → ByteArray
  | 0 => y
  | h + 1 => if F / 2 ^ h % 2 = 0 then joinS k b pub p0 p1 (h + 1 : Nat) (F / 2 ^ (h + 1) : Nat) (climbS k b pub p0 p1 F path y h) (path.getD h ⟨#[]⟩) else joinS k b pub p0 p1 (h + 1 : Nat) (F / 2 ^ (h + 1) : Nat) (path.getD h ⟨#[]⟩) (climbS k b pub p0 p1 F path y h)
theorem climbS_size (k b : Int) (pub : ByteArray) (p0 p1 : Int) (F : Nat) (path : List ByteArray) (y : ByteArray) (hk : k = 1 ∨ k = 2) (h1 : 1 ≤ b) (h2 : b ≤ 16) (hp : pub.size ≤ 16) (hy : (y.size : Int) = b) (hx : ∀ z ∈ path, (z.size : Int) = b) : ∀ h, h ≤ path.length → ((climbS k b pub p0 p1 F path y h).size : Int) = b := by
  intro h
  induction h with
  | zero => intro _; exact hy
  | succ h ih =>
    intro hl
    have e0 := ih (by omega)
    have e1 : ((path.getD h ⟨#[]⟩).size : Int) = b := by
      rw [List.getD_eq_getElem?_getD, List.getElem?_eq_getElem (by omega)]
      exact hx _ (List.getElem_mem (by omega))
    rw [climbS]
    split
    · exact joinS_size k b pub p0 p1 _ _ _ _ hk h1 h2 hp (by omega) (by omega)
    · exact joinS_size k b pub p0 p1 _ _ _ _ hk h1 h2 hp (by omega) (by omega)
theorem tdiv_two (a : Nat) : Int.tdiv (a : Int) 2 = ((a / 2 : Nat) : Int) := by rw [Int.tdiv_eq_ediv_of_nonneg (by omega)]; omega
theorem tmod_two (a : Nat) : Int.tmod (a : Int) 2 = ((a % 2 : Nat) : Int) := by rw [Int.tmod_eq_emod_of_nonneg (by omega)]; omega
end Go.Proofs.YtgaoeoijdpdjiaaGreatDoor

namespace Go.Proofs.YtgaoeoijdpdjiaaGreatDoor
open Go.RowKit
set_option maxRecDepth 20000 in
theorem keepLeaves_any (k b x l : Int) (t : Nat) (w : World) (h1 : 1 ≤ t) (h2 : t ≤ 4) :
    Calls Tryz.prog 16 #[.agg #[.int .i64 k, .int .i64 b, .int .i64 x, .int .i64 t, .int .i64 l]] w fun e w' => e = .returned (.int .i64 ((2 ^ t : Nat) : Int)) ∧ Below w.heap.size w w' := by
  rcases (show t = 1 ∨ t = 2 ∨ t = 3 ∨ t = 4 by omega) with rfl | rfl | rfl | rfl
  all_goals
    go_enter Tryz.func16, Tryz.ntmps16
    go_wp2
    go_ret
    exact ⟨rfl, (Below.refl _ _).alloc (Nat.le_refl _) _⟩
end Go.Proofs.YtgaoeoijdpdjiaaGreatDoor

namespace Go.Proofs.YtgaoeoijdpdjiaaGreatDoor
open Go.RowKit
set_option maxRecDepth 20000 in
theorem bare_any (p0 p1 p2 p3 : Int) (w : World) :
    Calls Tryz.prog 13 #[.agg #[.int .i64 p0, .int .i64 p1, .int .i64 p2, .int .i64 p3]] w fun e w' => e = .returned (.agg #[.int .i64 p0, .int .i64 p1, .int .i64 0, .int .i64 0]) ∧ Below w.heap.size w w' := by
  go_enter Tryz.func13, Tryz.ntmps13
  go_wp2
  refine bodyPost_ret (v := .agg #[.int .i64 p0, .int .i64 p1, .int .i64 0, .int .i64 0]) (by simp [results, Tryz.results13, go_sem]) rfl ⟨rfl, ?_⟩
  first
    | exact ((Below.refl _ _).alloc (Nat.le_refl _) _).alloc (by simp) _
    | (repeat refine Below.setCell ?_ (by simp) _
       exact ((Below.refl _ _).alloc (Nat.le_refl _) _).alloc (by simp) _)
end Go.Proofs.YtgaoeoijdpdjiaaGreatDoor
