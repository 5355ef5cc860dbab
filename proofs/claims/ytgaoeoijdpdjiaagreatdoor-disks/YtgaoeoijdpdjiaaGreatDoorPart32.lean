/-
  The statement's own lentKeep and wholeKeep: what a crash keeps, with spare room behind it, handed in, and looked at again.
-/
import Derived.Test.YtgaoeoijdpdjiaaGreatDoorPart24
import Derived.Test.YtgaoeoijdpdjiaaGreatDoorPart1
import Derived.Laws.CopyOwn
import Derived.WalkSpells
import Derived.Deep.QuietTactic
import Derived.BigQuiet
namespace Go.Proofs.YtgaoeoijdpdjiaaGreatDoor
open Go.RowKit
/-- A list of truths that came in: nil, empty at some place, or from a place on. -/
def KeepAt (w : World) (sp : Option Addr) (n c : Nat) (K : List Bool) : Prop :=
  (sp = none ∧ n = 0 ∧ c = 0 ∧ K = []) ∨ ∃ a : Addr, sp = some a ∧ n = K.length ∧ (K = [] ∨ ∃ bk o, a = ⟨bk, o, none⟩ ∧ K.length ≤ c ∧ bk < w.heap.size ∧ ∀ (j : Nat) y, K[j]? = some y → w.cell? ⟨bk, o + j, none⟩ = some (.bool y))
def keepV (K : List Bool) (i : Nat) : Bool := if i < K.length then K.getD i false else true
def mixK (n : Nat) (f g : Nat → Bool) (m : Nat) : List Value := (List.range n).map (fun i => Value.bool (if i < m then f i else g i))
theorem mixK_get (n : Nat) (f g : Nat → Bool) (m i : Nat) (h : i < n) : (mixK n f g m)[i]? = some (.bool (if i < m then f i else g i)) := by
  simp [mixK, List.getElem?_range h]
theorem mixK_at (n : Nat) (f g : Nat → Bool) (m : Nat) (h : m < n) : (mixK n f g m)[m]? = some (.bool (g m)) := by
  rw [mixK_get n f g m m h, if_neg (Nat.lt_irrefl _)]
theorem mixK_set (n : Nat) (f g : Nat → Bool) (m : Nat) : (mixK n f g m).set m (.bool (f m)) = mixK n f g (m + 1) := by
  apply List.ext_getElem
  · simp [mixK]
  · intro i h1 h2
    rw [List.getElem_set]
    simp only [mixK, List.getElem_map, List.getElem_range]
    by_cases e : m = i
    · subst e; simp
    · rw [if_neg e]
      by_cases e2 : i < m
      · rw [if_pos e2, if_pos (by omega)]
      · rw [if_neg e2, if_neg (by omega)]
theorem mixK_end (n : Nat) (f g h : Nat → Bool) : mixK n f g n = mixK n h f 0 := by
  apply List.ext_getElem
  · simp [mixK]
  · intro i h1 h2
    have : i < n := by simpa [mixK] using h1
    simp [mixK, this]
theorem splice_keep (K : List Bool) : splice (List.replicate (K.length + 5) (Value.bool false)) 0 (K.map Value.bool) = mixK (K.length + 5) (keepV K) (fun _ => false) K.length := by
  apply List.ext_getElem
  · simp [mixK, splice]
  · intro i h1 h2
    have hi : i < K.length + 5 := by simpa [mixK] using h2
    simp only [splice, mixK, List.getElem_map, List.getElem_range, List.take_zero, List.nil_append]
    by_cases e : i < K.length
    · rw [List.getElem_append_left (by simpa using e), if_pos e]
      simp [keepV, e]
    · rw [List.getElem_append_right (by simpa using e), if_neg e]
      simp only [List.getElem_drop, List.getElem_replicate]
theorem infoBl : (Tryz.prog.info? 4).map (fun i => (i.zero, i.size, i.bytes)) = some (some (.bool false), 1, 1) := by kernel_rfl
theorem madeBl (n : Nat) : madeCells (Value.bool false).cells n = Array.replicate n (Value.bool false) := by
  apply Array.ext
  · simp [size_madeCells]
  · intro i h1 h2
    simp [madeCells, Value.cells, Nat.mod_one]
theorem makeBl5 (n : Nat) (hn : n ≤ 140737488355328) (w : World) : (Instr.makeSlice 75 (.int .i64 ((n : Int) + 5)) (.int .i64 ((n : Int) + 5))).run Tryz.prog w = .ok (.slice (some ⟨w.heap.size, 0, none⟩) (n + 5) (n + 5)) (w.alloc (.cells (Array.replicate (n + 5) (Value.bool false)) 4)) := by
  obtain ⟨i0, hi, hz0, hz1, hz2⟩ := info_parts infoBl
  have h := run_make (P := Tryz.prog) w 75 4 i0 (.bool false) Tryz.underlying75 hi hz0 .i64 .i64 ((n : Int) + 5) ((n : Int) + 5) (by omega) (by omega) (by rw [hz2]; omega) (by omega)
  rw [hz1, Nat.mul_one, show ((n : Int) + 5).toNat = n + 5 by omega, madeBl] at h
  exact h
theorem keepV_in {K : List Bool} {m : Nat} {y : Bool} (h : K[m]? = some y) : keepV K m = y := by
  have hl : m < K.length := (List.getElem?_eq_some_iff.1 h).1
  unfold keepV
  rw [if_pos hl, List.getD_eq_getElem?_getD, h]; rfl
theorem keepV_out {K : List Bool} {m : Nat} (h : K.length ≤ m) : keepV K m = true := by unfold keepV; rw [if_neg (by omega)]
set_option maxRecDepth 20000 in
set_option maxHeartbeats 2000000 in
theorem lentK_some (a : Addr) (c : Nat) (K : List Bool) (w : World) (hX : K = [] ∨ ∃ bk o, a = ⟨bk, o, none⟩ ∧ bk < w.heap.size ∧ ∀ (j : Nat) y, K[j]? = some y → w.cell? ⟨bk, o + j, none⟩ = some (.bool y)) (hN : K.length ≤ 140737488355328) :
    Calls Tryz.prog 128 #[.slice (some a) K.length c] w fun e w' => e = .returned (.slice (some ⟨w.heap.size, 0, none⟩) K.length (K.length + 5)) ∧ Blk w' w.heap.size (mixK (K.length + 5) (fun i => !keepV K i) (keepV K) 0) 4 ∧ Below w.heap.size w w' := by
  obtain ⟨i0, hi, hz0, hz1, hz2⟩ := info_parts infoBl
  have hmk := makeBl5 K.length hN
  have HSP := hide (splice_keep K)
  have hsz : (Tryz.prog.info? 4).map (·.size) = some 1 := by rw [hi]; simp [hz1]
  obtain ⟨W1, hcp, HB, HR⟩ : ∃ W1, (Builtin.copy_ #[75, 75] 3 #[.slice (some ⟨w.heap.size, 0, none⟩) (K.length + 5) (K.length + 5), .slice (some a) K.length c]).run Tryz.prog (w.alloc (.cells (Array.replicate (K.length + 5) (Value.bool false)) 4)) = .ok (.int .i64 K.length) W1 ∧ Hid (Below w.heap.size w W1) ∧ Hid (Blk W1 w.heap.size (mixK (K.length + 5) (keepV K) (fun _ => false) K.length) 4) := by
    have h0 : (w.alloc (.cells (Array.replicate (K.length + 5) (Value.bool false)) 4)).heap[w.heap.size]? = some (.cells (Array.replicate (K.length + 5) (Value.bool false)) 4 (0, 0)) := World.alloc_heap_new w _
    have h := run_copy_row (P := Tryz.prog) (w.alloc (.cells (Array.replicate (K.length + 5) (Value.bool false)) 4)) 75 75 3 4 w.heap.size 0 (K.length + 5) (K.length + 5) a K.length c (Array.replicate (K.length + 5) (Value.bool false)) 4 (K.map Value.bool) Tryz.underlying75 hsz h0 (by simp) (by
      intro j v hj
      rw [List.getElem?_map, Option.map_eq_some_iff] at hj
      obtain ⟨y, hy, rfl⟩ := hj
      rcases hX with rfl | ⟨bk, o, rfl, hbk, hcells⟩
      · simp at hy
      · rw [show Addr.add ⟨bk, o, none⟩ j = ⟨bk, o + j, none⟩ by first | rfl | simp [Addr.add]]
        exact (World.cell?_alloc_past _ _ _ hbk).trans (hcells j y hy)) (by simp) (by intro v hv; rw [List.mem_map] at hv; obtain ⟨y, _, rfl⟩ := hv; rfl)
    refine ⟨_, h.trans (by rw [show goInt (K.map Value.bool).length = .int .i64 K.length by rw [List.length_map]; rfl]), below_setRow ((Below.refl _ _).alloc (Nat.le_refl _) _) (Nat.le_refl _) _, ?_⟩
    show Blk _ _ _ _
    unfold Blk
    rw [← HSP.out, splice, ← Array.toList_replicate, ← List.append_assoc]
    exact setRow_heap _ _ _ _ _ _ h0
  have HE := hide (mixK_end (K.length + 5) (keepV K) (fun _ => false) (fun i => !keepV K i))
  have HSET := hide (fun m => mixK_set (K.length + 5) (keepV K) (fun _ => false) m)
  have HAT := hide (fun m h => mixK_at (K.length + 5) (keepV K) (fun _ => false) m h)
  have HLV := hide (fun m (h : K.length ≤ m) => keepV_out h)
  clear hX hi hz0 hz1 hz2 hsz
  have heq := fun V : World => Lib.run_eql_slice_nil (P := Tryz.prog) V 75 4 (some a) K.length c 0 0 Tryz.underlying75
  go_enter Tryz.func128, Tryz.ntmps128
  go_wp2_with fail
  clear hmk hcp heq
  go_loopw [5] (fun i wr => ∃ m : Nat, K.length ≤ m ∧ m ≤ K.length + 5 ∧ i = .int .i64 m ∧ Hid (Blk wr w.heap.size (mixK (K.length + 5) (keepV K) (fun _ => false) m) 4) ∧ Hid (Below w.heap.size w wr)) (fun i _ => K.length + 5 - (intOf i).toNat)
  case atStart => exact ⟨K.length, Nat.le_refl _, by omega, rfl, HR.out, HB.out⟩
  case round =>
    obtain ⟨m, hm1, hm2, rfl, hr, hb⟩ := hrel
    by_cases hlt : m < K.length + 5
    · have hc := (hr.out.cell m).trans (HAT.out m hlt)
      have hf := hr.out.free m
      have HST := hide (hr.out.set m (.bool (keepV K m)))
      rw [HSET.out m, HLV.out m hm1] at HST
      have hlt' : (m : Int) < (K.length : Int) + 5 := by omega
      go_wp2
      go_roundw
      case rel => exact ⟨m + 1, by omega, by omega, by go_num, HST.out, hb.out.setCell (Nat.le_refl _) _⟩
      case measure => simp [intOf]; omega
    · obtain rfl : m = K.length + 5 := by omega
      have HL := hide (show Blk wr w.heap.size (mixK (K.length + 5) (fun i => !keepV K i) (keepV K) 0) 4 by rw [← HE.out]; exact hr.out)
      go_wp2
      go_ret
      exact ⟨rfl, HL.out, hb.out⟩
set_option maxRecDepth 20000 in
theorem lentK_nil (w : World) : Calls Tryz.prog 128 #[.slice none 0 0] w fun e w' => e = .returned (.slice none 0 0) ∧ w' = w := by
  have heq := fun V : World => Lib.run_eql_slice_nil (P := Tryz.prog) V 75 4 none 0 0 0 0 Tryz.underlying75
  go_enter Tryz.func128, Tryz.ntmps128
  go_wp2
  go_ret
  exact ⟨rfl, rfl⟩
set_option maxRecDepth 20000 in
set_option maxHeartbeats 2000000 in
theorem wholeK_some (g : Nat) (a : Addr) (c : Nat) (K : List Bool) (w : World) (hX : K = [] ∨ ∃ bk o, a = ⟨bk, o, none⟩ ∧ K.length ≤ c ∧ bk < g ∧ ∀ (j : Nat) y, K[j]? = some y → w.cell? ⟨bk, o + j, none⟩ = some (.bool y)) (hN : K.length ≤ 140737488355328) (hr0 : Blk w g (mixK (K.length + 5) (fun i => !keepV K i) (keepV K) 0) 4) :
    Calls Tryz.prog 131 #[.slice (some ⟨g, 0, none⟩) K.length (K.length + 5), .slice (some a) K.length c] w fun e w' => e = .returned (.bool true) ∧ Kept (fun q => q = g) w w' := by
  have HC := hide (fun (V : World) (h : Kept (fun q => q = g) w V) (j : Nat) (y : Bool) (hj : K[j]? = some y) => (by
    rcases hX with rfl | ⟨bk, o, rfl, hcap, hbk, hcells⟩
    · simp at hj
    · exact ⟨bk, o, rfl, hcap, (h.cell (p := ⟨bk, o + j, none⟩) (Nat.lt_trans hbk hr0.lt) (fun e => absurd e (Nat.ne_of_lt hbk))).trans (hcells j y hj)⟩ : ∃ bk o, a = ⟨bk, o, none⟩ ∧ K.length ≤ c ∧ V.cell? ⟨bk, o + j, none⟩ = some (.bool y)))
  have HR0 := hide hr0
  have HSET := hide (fun m => mixK_set (K.length + 5) (fun i => !keepV K i) (keepV K) m)
  have HAT := hide (fun m h => mixK_at (K.length + 5) (fun i => !keepV K i) (keepV K) m h)
  clear hX hr0
  have heq := fun V : World => Lib.run_eql_slice_nil (P := Tryz.prog) V 75 4 (some a) K.length c 0 0 Tryz.underlying75
  go_enter Tryz.func131, Tryz.ntmps131
  go_wp2_with fail
  clear heq
  go_loopw [7, 8] (fun ok i wr => ∃ m : Nat, m ≤ K.length + 5 ∧ ok = .bool true ∧ i = .int .i64 m ∧ Hid (Blk wr g (mixK (K.length + 5) (fun i => !keepV K i) (keepV K) m) 4) ∧ Hid (Kept (fun q => q = g) w wr)) (fun _ i _ => K.length + 5 - (intOf i).toNat)
  case atStart => exact ⟨0, Nat.zero_le _, rfl, rfl, HR0.out, Kept.refl _ _⟩
  case round =>
    obtain ⟨m, hm, rfl, rfl, hr, hb⟩ := hrel
    by_cases hlt : m < K.length + 5
    · have hc0 := (hr.out.cell m).trans (HAT.out m hlt)
      have hf := hr.out.free m
      have HST := hide (hr.out.set m (.bool (!keepV K m)))
      rw [show (mixK (K.length + 5) (fun i => !keepV K i) (keepV K) m).set m (.bool (!keepV K m)) = mixK (K.length + 5) (fun i => !keepV K i) (keepV K) (m + 1) from HSET.out m] at HST
      have hlt' : (m : Int) < (K.length : Int) + 5 := by omega
      by_cases hin : m < K.length
      · obtain ⟨y, hy⟩ : ∃ y, K[m]? = some y := ⟨_, List.getElem?_eq_getElem hin⟩
        obtain ⟨bk, o, hav, hcap, cx⟩ := HC.out wr hb.out m y hy
        subst hav
        have hc : wr.cell? ⟨g, m, none⟩ = some (.bool y) := by rw [hc0, keepV_in hy]
        rw [keepV_in hy] at HST
        have hin2 : decide ((K.length : Int) ≤ (m : Int)) = false := decide_eq_false (by omega)
        have hin3 : (m : Int) < (K.length : Int) := by omega
        have hyy : (y == y) = true := by simp
        clear hy hc0
        go_wp2_with fail
        go_quiet (fail)
        generalize hV : World.drewN wr _ = V
        have hc2 : V.cell? ⟨g, m, none⟩ = some (.bool y) := by rw [← hV]; exact hc
        have hf2 : V.frozen? ⟨g, m, none⟩ = false := by rw [← hV]; exact hf
        have HST2 := hide (show Blk (V.setCell ⟨g, m, none⟩ (.bool !y)) g (mixK (K.length + 5) (fun i => !keepV K i) (keepV K) (m + 1)) 4 by rw [← hV]; exact HST.out)
        have HB2 := hide (show Kept (fun q => q = g) w V by rw [← hV]; exact ⟨hb.out.os, hb.out.tape, hb.out.output, hb.out.size, hb.out.block⟩)
        clear hV hc hf HST hb cx
        go_wp2
        go_roundw
        case rel => exact ⟨m + 1, by omega, by rw [decide_eq_false (by omega : ¬ K.length ≤ m)]; cases y <;> rfl, by go_num, HST2.out, HB2.out.setCell (.inl rfl) _⟩
        case measure => simp [intOf]; omega
      · have hc : wr.cell? ⟨g, m, none⟩ = some (.bool true) := by rw [hc0, keepV_out (by omega)]
        rw [keepV_out (by omega)] at HST
        have hin2 : decide ((K.length : Int) ≤ (m : Int)) = true := decide_eq_true (by omega)
        have hin3 : (K.length : Int) ≤ (m : Int) := by omega
        clear hc0
        go_wp2_with fail
        go_quiet (fail)
        generalize hV : World.drewN wr _ = V
        have hc2 : V.cell? ⟨g, m, none⟩ = some (.bool true) := by rw [← hV]; exact hc
        have hf2 : V.frozen? ⟨g, m, none⟩ = false := by rw [← hV]; exact hf
        have HST2 := hide (show Blk (V.setCell ⟨g, m, none⟩ (.bool !true)) g (mixK (K.length + 5) (fun i => !keepV K i) (keepV K) (m + 1)) 4 by rw [← hV]; exact HST.out)
        have HB2 := hide (show Kept (fun q => q = g) w V by rw [← hV]; exact ⟨hb.out.os, hb.out.tape, hb.out.output, hb.out.size, hb.out.block⟩)
        clear hV hc hf HST hb
        go_wp2
        go_roundw
        case rel => exact ⟨m + 1, by omega, rfl, by go_num, HST2.out, HB2.out.setCell (.inl rfl) _⟩
        case measure => simp [intOf]; omega
    · obtain rfl : m = K.length + 5 := by omega
      go_wp2
      go_ret
      exact ⟨rfl, hb.out⟩
set_option maxRecDepth 20000 in
theorem wholeK_nil (w : World) : Calls Tryz.prog 131 #[.slice none 0 0, .slice none 0 0] w fun e w' => e = .returned (.bool true) ∧ w' = w := by
  have heq := fun V : World => Lib.run_eql_slice_nil (P := Tryz.prog) V 75 4 none 0 0 0 0 Tryz.underlying75
  go_enter Tryz.func131, Tryz.ntmps131
  go_wp2
  go_ret
  exact ⟨rfl, rfl⟩
end Go.Proofs.YtgaoeoijdpdjiaaGreatDoor
