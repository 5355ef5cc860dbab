/-
  signet.Fold, Climb: what the calls below answer. The statement's own lent and whole: a list with spare room behind it, handed in, and looked at again. Fold and Climb: the answer where something is wrong.
-/
import Derived.Test.YtgaoeoijdpdjiaaDoorPart40
import Derived.Test.YtgaoeoijdpdjiaaDoorPart27
import Derived.Test.YtgaoeoijdpdjiaaDoorPart38
import Derived.Laws.CopyOwn
import Derived.WalkSpells
import Derived.Test.YtgaoeoijdpdjiaaDoorPart36
import Derived.Test.YtgaoeoijdpdjiaaDoorPart43
import Derived.Test.YtgaoeoijdpdjiaaDoorPart42
import Derived.Test.YtgaoeoijdpdjiaaDoorPart41
namespace Go.Proofs.YtgaoeoijdpdjiaaDoor
open Go.RowKit

set_option maxRecDepth 20000 in
set_option maxHeartbeats 4000000 in
theorem sFold_on (k b x t l : Int) (pub : ByteArray) (p0 p1 p2 p3 : Int) (sp : Option Addr) (n c : Nat) (cv : ByteArray) (er : Int) (w : World) (hT : Tn w) (hC : ∀ V : World, Below w.heap.size w V → Tn V → Calls Tryd.prog 41 #[.agg #[.int .i64 k, .int .i64 b, .int .i64 x, .int .i64 t, .int .i64 l], .string pub, .agg #[.int .i64 p0, .int .i64 p1, .int .i64 p2, .int .i64 p3], .slice sp n c] V fun e w' => e = .returned (.tuple #[.string cv, .int .i64 er]) ∧ Below V.heap.size V w') :
    Calls Tryd.prog 24 #[.agg #[.int .i64 k, .int .i64 b, .int .i64 x, .int .i64 t, .int .i64 l], .string pub, .agg #[.int .i64 p0, .int .i64 p1, .int .i64 p2, .int .i64 p3], .slice sp n c] w fun e w' => e = .returned (.tuple #[.string cv, .int .i64 er]) ∧ Below w.heap.size w w' := by
  obtain ⟨W0, hW⟩ : ∃ W0, (w.alloc (.cells #[.int .i64 k, .int .i64 b, .int .i64 x, .int .i64 t, .int .i64 l] 25)).alloc (.cells #[.int .i64 p0, .int .i64 p1, .int .i64 p2, .int .i64 p3] 27) = W0 := ⟨_, rfl⟩
  have HF := hide (show FiveC w.heap.size W0 k b x t l by subst hW; refine ⟨?_, ?_, ?_, ?_, ?_⟩ <;> simp [go_sem])
  have HP := hide (show FourC (w.heap.size + 1) W0 p0 p1 p2 p3 by subst hW; refine ⟨?_, ?_, ?_, ?_⟩ <;> simp [go_sem])
  have HB := hide (show Below w.heap.size w W0 by subst hW; exact ((Below.refl _ _).alloc (Nat.le_refl _) _).alloc (by simp) _)
  have hz : W0.heap.size ≤ w.heap.size + 2 := by subst hW; simp
  have hz' : w.heap.size + 2 ≤ W0.heap.size := by subst hW; simp
  have HBU := hide (fun (V : World) (h : Below W0.heap.size W0 V) => HB.out.trans (h.mono (by omega)))
  have HS := hide (fun (V : World) (h : Below W0.heap.size W0 V) => (by
    obtain ⟨c0, c1, c2, c3, c4⟩ := HF.out.below h (by omega)
    obtain ⟨d0, d1, d2, d3⟩ := HP.out.below h (by omega)
    exact ⟨c0, c1, c2, c3, c4, d0, d1, d2, d3⟩ : V.cell? ⟨w.heap.size, 0, none⟩ = some (.int .i64 k) ∧ V.cell? ⟨w.heap.size, 1, none⟩ = some (.int .i64 b) ∧ V.cell? ⟨w.heap.size, 2, none⟩ = some (.int .i64 x) ∧ V.cell? ⟨w.heap.size, 3, none⟩ = some (.int .i64 t) ∧ V.cell? ⟨w.heap.size, 4, none⟩ = some (.int .i64 l) ∧ V.cell? ⟨w.heap.size + 1, 0, none⟩ = some (.int .i64 p0) ∧ V.cell? ⟨w.heap.size + 1, 1, none⟩ = some (.int .i64 p1) ∧ V.cell? ⟨w.heap.size + 1, 2, none⟩ = some (.int .i64 p2) ∧ V.cell? ⟨w.heap.size + 1, 3, none⟩ = some (.int .i64 p3)))
  obtain ⟨c0, c1, c2, c3, c4, d0, d1, d2, d3⟩ := HS.out W0 (Below.refl _ _)
  have HTT := hide (hT.on HB.out)
  have HC := hide (hC W0 HB.out)
  clear hC hT
  go_enter Tryd.func24, Tryd.ntmps24
  go_wp2_with fail
  try rw [hW]
  refine (HC.out HTT.out).mono ?_
  rintro e w1 ⟨rfl, hb1⟩
  have HB1 := hide (HB.out.trans (hb1.mono (by omega)))
  clear hb1 c0 c1 c2 c3 c4 d0 d1 d2 d3
  go_wp2
  go_ret2
  exact ⟨rfl, HB1.out⟩

set_option maxRecDepth 20000 in
set_option maxHeartbeats 4000000 in
theorem sClimb_on (k b x t l : Int) (pub y : ByteArray) (p0 p1 p2 p3 : Int) (sp : Option Addr) (n c : Nat) (cv : ByteArray) (er : Int) (w : World) (hT : Tn w) (hC : ∀ V : World, Below w.heap.size w V → Tn V → Calls Tryd.prog 47 #[.agg #[.int .i64 k, .int .i64 b, .int .i64 x, .int .i64 t, .int .i64 l], .string pub, .agg #[.int .i64 p0, .int .i64 p1, .int .i64 p2, .int .i64 p3], .string y, .slice sp n c] V fun e w' => e = .returned (.tuple #[.string cv, .int .i64 er]) ∧ Below V.heap.size V w') :
    Calls Tryd.prog 27 #[.agg #[.int .i64 k, .int .i64 b, .int .i64 x, .int .i64 t, .int .i64 l], .string pub, .agg #[.int .i64 p0, .int .i64 p1, .int .i64 p2, .int .i64 p3], .string y, .slice sp n c] w fun e w' => e = .returned (.tuple #[.string cv, .int .i64 er]) ∧ Below w.heap.size w w' := by
  obtain ⟨W0, hW⟩ : ∃ W0, (w.alloc (.cells #[.int .i64 k, .int .i64 b, .int .i64 x, .int .i64 t, .int .i64 l] 25)).alloc (.cells #[.int .i64 p0, .int .i64 p1, .int .i64 p2, .int .i64 p3] 27) = W0 := ⟨_, rfl⟩
  have HF := hide (show FiveC w.heap.size W0 k b x t l by subst hW; refine ⟨?_, ?_, ?_, ?_, ?_⟩ <;> simp [go_sem])
  have HP := hide (show FourC (w.heap.size + 1) W0 p0 p1 p2 p3 by subst hW; refine ⟨?_, ?_, ?_, ?_⟩ <;> simp [go_sem])
  have HB := hide (show Below w.heap.size w W0 by subst hW; exact ((Below.refl _ _).alloc (Nat.le_refl _) _).alloc (by simp) _)
  have hz : W0.heap.size ≤ w.heap.size + 2 := by subst hW; simp
  have hz' : w.heap.size + 2 ≤ W0.heap.size := by subst hW; simp
  have HBU := hide (fun (V : World) (h : Below W0.heap.size W0 V) => HB.out.trans (h.mono (by omega)))
  have HS := hide (fun (V : World) (h : Below W0.heap.size W0 V) => (by
    obtain ⟨c0, c1, c2, c3, c4⟩ := HF.out.below h (by omega)
    obtain ⟨d0, d1, d2, d3⟩ := HP.out.below h (by omega)
    exact ⟨c0, c1, c2, c3, c4, d0, d1, d2, d3⟩ : V.cell? ⟨w.heap.size, 0, none⟩ = some (.int .i64 k) ∧ V.cell? ⟨w.heap.size, 1, none⟩ = some (.int .i64 b) ∧ V.cell? ⟨w.heap.size, 2, none⟩ = some (.int .i64 x) ∧ V.cell? ⟨w.heap.size, 3, none⟩ = some (.int .i64 t) ∧ V.cell? ⟨w.heap.size, 4, none⟩ = some (.int .i64 l) ∧ V.cell? ⟨w.heap.size + 1, 0, none⟩ = some (.int .i64 p0) ∧ V.cell? ⟨w.heap.size + 1, 1, none⟩ = some (.int .i64 p1) ∧ V.cell? ⟨w.heap.size + 1, 2, none⟩ = some (.int .i64 p2) ∧ V.cell? ⟨w.heap.size + 1, 3, none⟩ = some (.int .i64 p3)))
  obtain ⟨c0, c1, c2, c3, c4, d0, d1, d2, d3⟩ := HS.out W0 (Below.refl _ _)
  have HTT := hide (hT.on HB.out)
  have HC := hide (hC W0 HB.out)
  clear hC hT
  go_enter Tryd.func27, Tryd.ntmps27
  go_wp2_with fail
  try rw [hW]
  refine (HC.out HTT.out).mono ?_
  rintro e w1 ⟨rfl, hb1⟩
  have HB1 := hide (HB.out.trans (hb1.mono (by omega)))
  clear hb1 c0 c1 c2 c3 c4 d0 d1 d2 d3
  go_wp2
  go_ret2
  exact ⟨rfl, HB1.out⟩
end Go.Proofs.YtgaoeoijdpdjiaaDoor

namespace Go.Proofs.YtgaoeoijdpdjiaaDoor
open Go.RowKit

def beyondS : ByteArray := ⟨#[98, 101, 121, 111, 110, 100]⟩
def spoiltS : ByteArray := ⟨#[115, 112, 111, 105, 108, 116]⟩
/-- What lies in a lent list, its room too. -/
def lentV (xs : List ByteArray) (i : Nat) : ByteArray := if i < xs.length then xs.getD i ⟨#[]⟩ else beyondS
/-- A row of texts of which the first m are f's, the rest g's. -/
def mixL (n : Nat) (f g : Nat → ByteArray) (m : Nat) : List Value := (List.range n).map (fun i => Value.string (if i < m then f i else g i))
theorem mixL_length (n : Nat) (f g : Nat → ByteArray) (m : Nat) : (mixL n f g m).length = n := by simp [mixL]
theorem mixL_get (n : Nat) (f g : Nat → ByteArray) (m i : Nat) (h : i < n) : (mixL n f g m)[i]? = some (.string (if i < m then f i else g i)) := by
  simp [mixL, List.getElem?_range h]
theorem mixL_at (n : Nat) (f g : Nat → ByteArray) (m : Nat) (h : m < n) : (mixL n f g m)[m]? = some (.string (g m)) := by
  rw [mixL_get n f g m m h, if_neg (Nat.lt_irrefl _)]
theorem mixL_set (n : Nat) (f g : Nat → ByteArray) (m : Nat) : (mixL n f g m).set m (.string (f m)) = mixL n f g (m + 1) := by
  apply List.ext_getElem
  · simp [mixL]
  · intro i h1 h2
    rw [List.getElem_set]
    simp only [mixL, List.getElem_map, List.getElem_range]
    by_cases e : m = i
    · subst e; simp
    · rw [if_neg e]
      by_cases e2 : i < m
      · rw [if_pos e2, if_pos (by omega)]
      · rw [if_neg e2, if_neg (by omega)]
theorem mixL_end (n : Nat) (f g h : Nat → ByteArray) : mixL n f g n = mixL n h f 0 := by
  apply List.ext_getElem
  · simp [mixL]
  · intro i h1 h2
    have : i < n := by simpa [mixL] using h1
    simp [mixL, this]
theorem splice_lent (xs : List ByteArray) : splice (List.replicate (xs.length + 5) (Value.string ⟨#[]⟩)) 0 (xs.map Value.string) = mixL (xs.length + 5) (lentV xs) (fun _ => ⟨#[]⟩) xs.length := by
  apply List.ext_getElem
  · simp [mixL, splice]
  · intro i h1 h2
    have hi : i < xs.length + 5 := by simpa [mixL] using h2
    simp only [splice, mixL, List.getElem_map, List.getElem_range, List.take_zero, List.nil_append]
    by_cases e : i < xs.length
    · rw [List.getElem_append_left (by simpa using e), if_pos e]
      simp [lentV, e]
    · rw [List.getElem_append_right (by simpa using e), if_neg e]
      simp only [List.getElem_drop, List.getElem_replicate]
theorem makeStr5 (n : Nat) (hn : n ≤ 8796093022208) (w : World) : (Instr.makeSlice 28 (.int .i64 ((n : Int) + 5)) (.int .i64 ((n : Int) + 5))).run Tryd.prog w = .ok (.slice (some ⟨w.heap.size, 0, none⟩) (n + 5) (n + 5)) (w.alloc (.cells (Array.replicate (n + 5) (Value.string ⟨#[]⟩)) 9)) := by
  obtain ⟨i0, hi, hz0, hz1, hz2⟩ := info_parts infoStr
  have h := run_make (P := Tryd.prog) w 28 9 i0 (.string ⟨#[]⟩) Tryd.underlying28 hi hz0 .i64 .i64 ((n : Int) + 5) ((n : Int) + 5) (by omega) (by omega) (by rw [hz2]; omega) (by omega)
  rw [hz1, Nat.mul_one, show ((n : Int) + 5).toNat = n + 5 by omega, madeStr] at h
  rw [h]
  simp

set_option maxRecDepth 20000 in
set_option maxHeartbeats 2000000 in
theorem lent_some (bk o c : Nat) (xs : List ByteArray) (w : World) (hcells : ∀ (j : Nat) y, xs[j]? = some y → w.cell? ⟨bk, o + j, none⟩ = some (.string y)) (hbk : bk < w.heap.size) (hN : xs.length ≤ 8796093022208) :
    Calls Tryd.prog 23 #[.slice (some ⟨bk, o, none⟩) xs.length c] w fun e w' => e = .returned (.slice (some ⟨w.heap.size, 0, none⟩) xs.length (xs.length + 5)) ∧ Blk w' w.heap.size (mixL (xs.length + 5) (fun _ => spoiltS) (lentV xs) 0) 9 ∧ Below w.heap.size w w' := by
  obtain ⟨i0, hi, hz0, hz1, hz2⟩ := info_parts infoStr
  have hmk := makeStr5 xs.length hN
  have HSP := hide (splice_lent xs)
  have hsz : (Tryd.prog.info? 9).map (·.size) = some 1 := by rw [hi]; simp [hz1]
  obtain ⟨W1, hcp, HB, HR⟩ : ∃ W1, (Builtin.copy_ #[28, 28] 3 #[.slice (some ⟨w.heap.size, 0, none⟩) (xs.length + 5) (xs.length + 5), .slice (some ⟨bk, o, none⟩) xs.length c]).run Tryd.prog (w.alloc (.cells (Array.replicate (xs.length + 5) (Value.string ⟨#[]⟩)) 9)) = .ok (.int .i64 xs.length) W1 ∧ Hid (Below w.heap.size w W1) ∧ Hid (Blk W1 w.heap.size (mixL (xs.length + 5) (lentV xs) (fun _ => ⟨#[]⟩) xs.length) 9) := by
    have h0 : (w.alloc (.cells (Array.replicate (xs.length + 5) (Value.string ⟨#[]⟩)) 9)).heap[w.heap.size]? = some (.cells (Array.replicate (xs.length + 5) (Value.string ⟨#[]⟩)) 9 (0, 0)) := World.alloc_heap_new w _
    have h := run_copy_row (P := Tryd.prog) (w.alloc (.cells (Array.replicate (xs.length + 5) (Value.string ⟨#[]⟩)) 9)) 28 28 3 9 w.heap.size 0 (xs.length + 5) (xs.length + 5) ⟨bk, o, none⟩ xs.length c (Array.replicate (xs.length + 5) (Value.string ⟨#[]⟩)) 9 (xs.map Value.string) Tryd.underlying28 hsz h0 (by simp) (by
      intro j v hj
      rw [List.getElem?_map, Option.map_eq_some_iff] at hj
      obtain ⟨y, hy, rfl⟩ := hj
      rw [show Addr.add ⟨bk, o, none⟩ j = ⟨bk, o + j, none⟩ by first | rfl | simp [Addr.add]]
      exact (World.cell?_alloc_past _ _ _ hbk).trans (hcells j y hy)) (by simp) (by intro v hv; rw [List.mem_map] at hv; obtain ⟨y, _, rfl⟩ := hv; rfl)
    refine ⟨_, h.trans (by rw [show goInt (xs.map Value.string).length = .int .i64 xs.length by rw [List.length_map]; rfl]), below_setRow ((Below.refl _ _).alloc (Nat.le_refl _) _) (Nat.le_refl _) _, ?_⟩
    show Blk _ _ _ _
    unfold Blk
    rw [← HSP.out, splice, ← Array.toList_replicate, ← List.append_assoc]
    exact setRow_heap _ _ _ _ _ _ h0
  have HE := hide (mixL_end (xs.length + 5) (lentV xs) (fun _ => ⟨#[]⟩) (fun _ => spoiltS))
  have HSET := hide (fun m => mixL_set (xs.length + 5) (lentV xs) (fun _ => ⟨#[]⟩) m)
  have HAT := hide (fun m h => mixL_at (xs.length + 5) (lentV xs) (fun _ => ⟨#[]⟩) m h)
  have HLV := hide (fun m (h : xs.length ≤ m) => (show lentV xs m = beyondS by unfold lentV; rw [if_neg (by omega)]))
  clear hcells hi hz0 hz1 hz2 hsz
  have heq := fun V : World => Lib.run_eql_slice_nil (P := Tryd.prog) V 28 9 (some ⟨bk, o, none⟩) xs.length c 0 0 Tryd.underlying28
  go_enter Tryd.func23, Tryd.ntmps23
  go_wp2_with fail
  clear hmk hcp heq
  go_loopw [5] (fun i wr => ∃ m : Nat, xs.length ≤ m ∧ m ≤ xs.length + 5 ∧ i = .int .i64 m ∧ Hid (Blk wr w.heap.size (mixL (xs.length + 5) (lentV xs) (fun _ => ⟨#[]⟩) m) 9) ∧ Hid (Below w.heap.size w wr)) (fun i _ => xs.length + 5 - (intOf i).toNat)
  case atStart => exact ⟨xs.length, Nat.le_refl _, by omega, rfl, HR.out, HB.out⟩
  case round =>
    obtain ⟨m, hm1, hm2, rfl, hr, hb⟩ := hrel
    by_cases hlt : m < xs.length + 5
    · have hc := (hr.out.cell m).trans (HAT.out m hlt)
      have hf := hr.out.free m
      have HST := hide (hr.out.set m (.string (lentV xs m)))
      rw [HSET.out m, HLV.out m hm1] at HST
      have hlt' : (m : Int) < (xs.length : Int) + 5 := by omega
      go_wp2
      go_roundw
      case rel => exact ⟨m + 1, by omega, by omega, by go_num, HST.out, hb.out.setCell (Nat.le_refl _) _⟩
      case measure => simp [intOf]; omega
    · obtain rfl : m = xs.length + 5 := by omega
      have HL := hide (show Blk wr w.heap.size (mixL (xs.length + 5) (fun _ => spoiltS) (lentV xs) 0) 9 by rw [← HE.out]; exact hr.out)
      go_wp2
      go_ret
      exact ⟨rfl, HL.out, hb.out⟩

set_option maxRecDepth 20000 in
set_option maxHeartbeats 2000000 in
theorem lent_emp (a : Addr) (c : Nat) (xs : List ByteArray) (w : World) (hX : xs = []) :
    Calls Tryd.prog 23 #[.slice (some a) xs.length c] w fun e w' => e = .returned (.slice (some ⟨w.heap.size, 0, none⟩) xs.length (xs.length + 5)) ∧ Blk w' w.heap.size (mixL (xs.length + 5) (fun _ => spoiltS) (lentV xs) 0) 9 ∧ Below w.heap.size w w' := by
  obtain ⟨i0, hi, hz0, hz1, hz2⟩ := info_parts infoStr
  have hN : xs.length ≤ 8796093022208 := by rw [hX]; simp
  have hmk := makeStr5 xs.length hN
  have HSP := hide (splice_lent xs)
  have hsz : (Tryd.prog.info? 9).map (·.size) = some 1 := by rw [hi]; simp [hz1]
  obtain ⟨W1, hcp, HB, HR⟩ : ∃ W1, (Builtin.copy_ #[28, 28] 3 #[.slice (some ⟨w.heap.size, 0, none⟩) (xs.length + 5) (xs.length + 5), .slice (some a) xs.length c]).run Tryd.prog (w.alloc (.cells (Array.replicate (xs.length + 5) (Value.string ⟨#[]⟩)) 9)) = .ok (.int .i64 xs.length) W1 ∧ Hid (Below w.heap.size w W1) ∧ Hid (Blk W1 w.heap.size (mixL (xs.length + 5) (lentV xs) (fun _ => ⟨#[]⟩) xs.length) 9) := by
    have h0 : (w.alloc (.cells (Array.replicate (xs.length + 5) (Value.string ⟨#[]⟩)) 9)).heap[w.heap.size]? = some (.cells (Array.replicate (xs.length + 5) (Value.string ⟨#[]⟩)) 9 (0, 0)) := World.alloc_heap_new w _
    have h := run_copy_row (P := Tryd.prog) (w.alloc (.cells (Array.replicate (xs.length + 5) (Value.string ⟨#[]⟩)) 9)) 28 28 3 9 w.heap.size 0 (xs.length + 5) (xs.length + 5) a xs.length c (Array.replicate (xs.length + 5) (Value.string ⟨#[]⟩)) 9 (xs.map Value.string) Tryd.underlying28 hsz h0 (by simp) (by
      intro j v hj
      rw [hX] at hj; simp at hj) (by simp) (by intro v hv; rw [List.mem_map] at hv; obtain ⟨y, _, rfl⟩ := hv; rfl)
    refine ⟨_, h.trans (by rw [show goInt (xs.map Value.string).length = .int .i64 xs.length by rw [List.length_map]; rfl]), below_setRow ((Below.refl _ _).alloc (Nat.le_refl _) _) (Nat.le_refl _) _, ?_⟩
    show Blk _ _ _ _
    unfold Blk
    rw [← HSP.out, splice, ← Array.toList_replicate, ← List.append_assoc]
    exact setRow_heap _ _ _ _ _ _ h0
  have HE := hide (mixL_end (xs.length + 5) (lentV xs) (fun _ => ⟨#[]⟩) (fun _ => spoiltS))
  have HSET := hide (fun m => mixL_set (xs.length + 5) (lentV xs) (fun _ => ⟨#[]⟩) m)
  have HAT := hide (fun m h => mixL_at (xs.length + 5) (lentV xs) (fun _ => ⟨#[]⟩) m h)
  have HLV := hide (fun m (h : xs.length ≤ m) => (show lentV xs m = beyondS by unfold lentV; rw [if_neg (by omega)]))
  clear hX hi hz0 hz1 hz2 hsz
  have heq := fun V : World => Lib.run_eql_slice_nil (P := Tryd.prog) V 28 9 (some a) xs.length c 0 0 Tryd.underlying28
  go_enter Tryd.func23, Tryd.ntmps23
  go_wp2_with fail
  clear hmk hcp heq
  go_loopw [5] (fun i wr => ∃ m : Nat, xs.length ≤ m ∧ m ≤ xs.length + 5 ∧ i = .int .i64 m ∧ Hid (Blk wr w.heap.size (mixL (xs.length + 5) (lentV xs) (fun _ => ⟨#[]⟩) m) 9) ∧ Hid (Below w.heap.size w wr)) (fun i _ => xs.length + 5 - (intOf i).toNat)
  case atStart => exact ⟨xs.length, Nat.le_refl _, by omega, rfl, HR.out, HB.out⟩
  case round =>
    obtain ⟨m, hm1, hm2, rfl, hr, hb⟩ := hrel
    by_cases hlt : m < xs.length + 5
    · have hc := (hr.out.cell m).trans (HAT.out m hlt)
      have hf := hr.out.free m
      have HST := hide (hr.out.set m (.string (lentV xs m)))
      rw [HSET.out m, HLV.out m hm1] at HST
      have hlt' : (m : Int) < (xs.length : Int) + 5 := by omega
      go_wp2
      go_roundw
      case rel => exact ⟨m + 1, by omega, by omega, by go_num, HST.out, hb.out.setCell (Nat.le_refl _) _⟩
      case measure => simp [intOf]; omega
    · obtain rfl : m = xs.length + 5 := by omega
      have HL := hide (show Blk wr w.heap.size (mixL (xs.length + 5) (fun _ => spoiltS) (lentV xs) 0) 9 by rw [← HE.out]; exact hr.out)
      go_wp2
      go_ret
      exact ⟨rfl, HL.out, hb.out⟩

set_option maxRecDepth 20000 in
theorem lent_nil (w : World) : Calls Tryd.prog 23 #[.slice none 0 0] w fun e w' => e = .returned (.slice none 0 0) ∧ w' = w := by
  have heq := fun V : World => Lib.run_eql_slice_nil (P := Tryd.prog) V 28 9 none 0 0 0 0 Tryd.underlying28
  go_enter Tryd.func23, Tryd.ntmps23
  go_wp2
  go_ret
  exact ⟨rfl, rfl⟩
end Go.Proofs.YtgaoeoijdpdjiaaDoor

namespace Go.Proofs.YtgaoeoijdpdjiaaDoor
open Go.RowKit

theorem fT_no (k b x t l a0 a1 ch a3 a4 a5 : Int) (pub : ByteArray) (p0 p1 p2 p3 : Int) (sp : Option Addr) (n c : Nat) (w : World) (v1 il ev : Bool) (hC : ∀ V : World, Calls Tryd.prog 57 #[.agg #[.int .i64 k, .int .i64 b, .int .i64 x, .int .i64 t, .int .i64 l]] V fun e w' => e = .returned (.tuple #[.agg #[.int .i64 a0, .int .i64 a1, .int .i64 ch, .int .i64 a3, .int .i64 a4, .int .i64 a5], .int .i64 0]) ∧ Below V.heap.size V w') (hV : ∀ (V : World) (B : Nat), B = V.heap.size → Calls Tryd.prog 58 #[.agg #[.int .i64 k, .int .i64 b, .int .i64 x, .int .i64 t, .int .i64 l], .slice (some ⟨B, 0, none⟩) 1 1] (V.alloc (.cells #[.string pub] 9)) fun e w' => e = .returned (.bool v1) ∧ Below (V.alloc (.cells #[.string pub] 9)).heap.size (V.alloc (.cells #[.string pub] 9)) w') (hI : ∀ V : World, Calls Tryd.prog 59 #[.agg #[.int .i64 k, .int .i64 b, .int .i64 x, .int .i64 t, .int .i64 l], .agg #[.int .i64 p0, .int .i64 p1, .int .i64 p2, .int .i64 p3]] V fun e w' => e = .returned (.bool il) ∧ Below V.heap.size V w') (hE : ∀ V : World, Below w.heap.size w V → Calls Tryd.prog 58 #[.agg #[.int .i64 k, .int .i64 b, .int .i64 x, .int .i64 t, .int .i64 l], .slice sp n c] V fun e w' => e = .returned (.bool ev) ∧ Below V.heap.size V w') (hne : (v1 && (il && ((n : Int) == ch && ev))) = false) :
    Calls Tryd.prog 41 #[.agg #[.int .i64 k, .int .i64 b, .int .i64 x, .int .i64 t, .int .i64 l], .string pub, .agg #[.int .i64 p0, .int .i64 p1, .int .i64 p2, .int .i64 p3], .slice sp n c] w fun e w' => e = .returned (.tuple #[.string ⟨#[]⟩, .int .i64 2]) ∧ Below w.heap.size w w' := by
  cases v1 with
  | false => exact fT_pub k b x t l a0 a1 ch a3 a4 a5 pub p0 p1 p2 p3 sp n c w hC hV
  | true =>
    cases il with
    | false => exact fT_pla k b x t l a0 a1 ch a3 a4 a5 pub p0 p1 p2 p3 sp n c w hC hV hI
    | true =>
      cases g3 : ((n : Int) == ch) with
      | false => exact fT_len k b x t l a0 a1 ch a3 a4 a5 pub p0 p1 p2 p3 sp n c w hC hV hI g3
      | true =>
        rw [g3] at hne
        simp at hne
        subst hne
        exact fT_val k b x t l a0 a1 ch a3 a4 a5 pub p0 p1 p2 p3 sp n c w hC hV hI g3 hE

theorem cT_no (k b x t l : Int) (pub y : ByteArray) (p0 p1 p2 p3 : Int) (sp : Option Addr) (n c : Nat) (w : World) (v1 il ev : Bool) (hC : ∀ V : World, Calls Tryd.prog 66 #[.agg #[.int .i64 k, .int .i64 b, .int .i64 x, .int .i64 t, .int .i64 l]] V fun e w' => e = .returned (.int .i64 0) ∧ Below V.heap.size V w') (hV : ∀ (V : World) (B : Nat), B = V.heap.size → Calls Tryd.prog 58 #[.agg #[.int .i64 k, .int .i64 b, .int .i64 x, .int .i64 t, .int .i64 l], .slice (some ⟨B, 0, none⟩) 2 2] (V.alloc (.cells #[.string pub, .string y] 9)) fun e w' => e = .returned (.bool v1) ∧ Below (V.alloc (.cells #[.string pub, .string y] 9)).heap.size (V.alloc (.cells #[.string pub, .string y] 9)) w') (hI : ∀ V : World, Calls Tryd.prog 59 #[.agg #[.int .i64 k, .int .i64 b, .int .i64 x, .int .i64 t, .int .i64 l], .agg #[.int .i64 p0, .int .i64 p1, .int .i64 p2, .int .i64 p3]] V fun e w' => e = .returned (.bool il) ∧ Below V.heap.size V w') (hE : ∀ V : World, Below w.heap.size w V → Calls Tryd.prog 58 #[.agg #[.int .i64 k, .int .i64 b, .int .i64 x, .int .i64 t, .int .i64 l], .slice sp n c] V fun e w' => e = .returned (.bool ev) ∧ Below V.heap.size V w') (hne : (v1 && (il && ((n : Int) == t && ev))) = false) :
    Calls Tryd.prog 47 #[.agg #[.int .i64 k, .int .i64 b, .int .i64 x, .int .i64 t, .int .i64 l], .string pub, .agg #[.int .i64 p0, .int .i64 p1, .int .i64 p2, .int .i64 p3], .string y, .slice sp n c] w fun e w' => e = .returned (.tuple #[.string ⟨#[]⟩, .int .i64 2]) ∧ Below w.heap.size w w' := by
  cases v1 with
  | false => exact cT_pub k b x t l pub y p0 p1 p2 p3 sp n c w hC hV
  | true =>
    cases il with
    | false => exact cT_pla k b x t l pub y p0 p1 p2 p3 sp n c w hC hV hI
    | true =>
      cases g3 : ((n : Int) == t) with
      | false => exact cT_len k b x t l pub y p0 p1 p2 p3 sp n c w hC hV hI g3
      | true =>
        rw [g3] at hne
        simp at hne
        subst hne
        exact cT_val k b x t l pub y p0 p1 p2 p3 sp n c w hC hV hI g3 hE

theorem fR_no (k b x t l a0 a1 ch a3 a4 a5 : Int) (pub : ByteArray) (p0 p1 p2 p3 : Int) (sp : Option Addr) (n c : Nat) (w : World) (pl v : Bool) (hC : ∀ V : World, Calls Tryd.prog 42 #[.agg #[.int .i64 k, .int .i64 b, .int .i64 x, .int .i64 t, .int .i64 l]] V fun e w' => e = .returned (.int .i64 0) ∧ Below V.heap.size V w') (hZ : ∀ V : World, Calls Tryd.prog 43 #[.agg #[.int .i64 k, .int .i64 b, .int .i64 x, .int .i64 t, .int .i64 l]] V fun e w' => e = .returned (.agg #[.int .i64 a0, .int .i64 a1, .int .i64 ch, .int .i64 a3, .int .i64 a4, .int .i64 a5]) ∧ Below V.heap.size V w') (hI : ∀ V : World, Calls Tryd.prog 44 #[.agg #[.int .i64 k, .int .i64 b, .int .i64 x, .int .i64 t, .int .i64 l], .agg #[.int .i64 p0, .int .i64 p1, .int .i64 p2, .int .i64 p3]] V fun e w' => e = .returned (.bool pl) ∧ Below V.heap.size V w') (hE : ∀ V : World, Below w.heap.size w V → Calls Tryd.prog 45 #[.agg #[.int .i64 k, .int .i64 b, .int .i64 x, .int .i64 t, .int .i64 l], .slice sp n c, .int .i64 ch] V fun e w' => e = .returned (.bool v) ∧ Below V.heap.size V w') (hne : (pl && (p3 == 0 && ((pub.size : Int) == b && v))) = false) :
    Calls Tryd.prog 25 #[.agg #[.int .i64 k, .int .i64 b, .int .i64 x, .int .i64 t, .int .i64 l], .string pub, .agg #[.int .i64 p0, .int .i64 p1, .int .i64 p2, .int .i64 p3], .slice sp n c] w fun e w' => e = .returned (.tuple #[.string ⟨#[]⟩, .int .i64 2]) ∧ Below w.heap.size w w' := by
  cases pl with
  | false => exact fR_pla k b x t l a0 a1 ch a3 a4 a5 pub p0 p1 p2 p3 sp n c v w hC hZ hI hE
  | true =>
    cases e3 : (p3 == 0) with
    | false => exact fR_chn k b x t l a0 a1 ch a3 a4 a5 pub p0 p1 p2 p3 sp n c v w hC hZ hI hE e3
    | true =>
      cases e4 : ((pub.size : Int) == b) with
      | false => exact fR_pub k b x t l a0 a1 ch a3 a4 a5 pub p0 p1 p2 p3 sp n c v w hC hZ hI hE e3 e4
      | true =>
        rw [e3, e4] at hne
        simp at hne
        subst hne
        exact fR_val k b x t l a0 a1 ch a3 a4 a5 pub p0 p1 p2 p3 sp n c w hC hZ hI hE e3 e4

theorem cR_no (k b x t l : Int) (pub y : ByteArray) (p0 p1 p2 p3 : Int) (sp : Option Addr) (n c : Nat) (w : World) (pl v : Bool) (hC : ∀ V : World, Calls Tryd.prog 42 #[.agg #[.int .i64 k, .int .i64 b, .int .i64 x, .int .i64 t, .int .i64 l]] V fun e w' => e = .returned (.int .i64 0) ∧ Below V.heap.size V w') (hI : ∀ V : World, Calls Tryd.prog 44 #[.agg #[.int .i64 k, .int .i64 b, .int .i64 x, .int .i64 t, .int .i64 l], .agg #[.int .i64 p0, .int .i64 p1, .int .i64 p2, .int .i64 p3]] V fun e w' => e = .returned (.bool pl) ∧ Below V.heap.size V w') (hE : ∀ V : World, Below w.heap.size w V → Calls Tryd.prog 45 #[.agg #[.int .i64 k, .int .i64 b, .int .i64 x, .int .i64 t, .int .i64 l], .slice sp n c, .int .i64 t] V fun e w' => e = .returned (.bool v) ∧ Below V.heap.size V w') (hne : (pl && (p3 == 0 && ((pub.size : Int) == b && ((y.size : Int) == b && v)))) = false) :
    Calls Tryd.prog 28 #[.agg #[.int .i64 k, .int .i64 b, .int .i64 x, .int .i64 t, .int .i64 l], .string pub, .agg #[.int .i64 p0, .int .i64 p1, .int .i64 p2, .int .i64 p3], .string y, .slice sp n c] w fun e w' => e = .returned (.tuple #[.string ⟨#[]⟩, .int .i64 2]) ∧ Below w.heap.size w w' := by
  cases pl with
  | false => exact cR_pla k b x t l pub y p0 p1 p2 p3 sp n c v w hC hI hE
  | true =>
    cases e3 : (p3 == 0) with
    | false => exact cR_chn k b x t l pub y p0 p1 p2 p3 sp n c v w hC hI hE e3
    | true =>
      cases e4 : ((pub.size : Int) == b) with
      | false => exact cR_pub k b x t l pub y p0 p1 p2 p3 sp n c v w hC hI hE e3 e4
      | true =>
        cases e5 : ((y.size : Int) == b) with
        | false => exact cR_txt k b x t l pub y p0 p1 p2 p3 sp n c v w hC hI hE e3 e4 e5
        | true =>
          rw [e3, e4, e5] at hne
          simp at hne
          subst hne
          exact cR_val k b x t l pub y p0 p1 p2 p3 sp n c w hC hI hE e3 e4 e5

end Go.Proofs.YtgaoeoijdpdjiaaDoor
