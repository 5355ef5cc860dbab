/-
  The stirring as a plain function of eight words. math/bits.Mul of 1 and a leaf's number of chains. sets.ValuesRight, SeedsRight: has each text the length of a value? The document's own answer, its small functions: Power, Leaves, Check. Sectors and writes by value: loaded, stored, built. A sector laid into the durable ones; a pending write read.
-/
import Derived.Test.YtgaoeoijdpdjiaaGreatDoorPart2
import Derived.Test.YtgaoeoijdpdjiaaGreatDoorPart3
import Derived.Test.YtgaoeoijdpdjiaaGreatDoorRows
import Derived.Test.YtgaoeoijdpdjiaaGreatDoorPart1
import Derived.WalkSpells
import Derived.WalkLawsBesides
import Derived.Handy
import Derived.Deep.RegionHeld3
import Derived.Laws.MakeOwn
import Derived.Deep.DrawnRows
import Derived.Deep.WholeRow
import Derived.Laws.Tables
import Derived.Lib.ConvBytes
import Derived.Deep.RegionLaw
namespace Go.Proofs.YtgaoeoijdpdjiaaGreatDoor
/-- Behind the columns: the upper words move on, the round's number goes into the first. -/
def roundW (r : Nat) : List Nat → List Nat
  | [a0, a1, a2, a3, a4, a5, a6, a7] => [a0 ^^^ r, a1, a2, a3, a5, a6, a7, a4]
  | L => L
def stirTo (b : Nat) (L : List Nat) : Nat → List Nat
  | 0 => L
  | r + 1 => roundW (r + 1) (mixTo b (stirTo b L r) 4)
theorem eight_of {L : List Nat} (h : L.length = 8) : ∃ a0 a1 a2 a3 a4 a5 a6 a7, L = [a0, a1, a2, a3, a4, a5, a6, a7] := by
  match L, h with
  | [a0, a1, a2, a3, a4, a5, a6, a7], _ => exact ⟨a0, a1, a2, a3, a4, a5, a6, a7, rfl⟩
theorem roundW_length (r : Nat) (L : List Nat) (h : L.length = 8) : (roundW r L).length = 8 := by
  obtain ⟨a0, a1, a2, a3, a4, a5, a6, a7, rfl⟩ := eight_of h
  rfl
theorem stirTo_length (b : Nat) (L : List Nat) (r : Nat) (h : L.length = 8) : (stirTo b L r).length = 8 := by
  induction r with
  | zero => exact h
  | succ r ih => exact roundW_length _ _ (by rw [mixTo_length]; exact ih)
theorem stirTo_words (b : Nat) (L : List Nat) (r : Nat) (hl : L.length = 8) (h : Words b L) (hb : 4 ≤ b := by decide) (hr : r ≤ 8 := by omega) : Words b (stirTo b L r) := by
  induction r with
  | zero => exact h
  | succ r ih =>
    have hm := mixTo_words b (stirTo b L r) 4 (ih (by omega))
    obtain ⟨a0, a1, a2, a3, a4, a5, a6, a7, e⟩ := eight_of (show (mixTo b (stirTo b L r) 4).length = 8 by rw [mixTo_length]; exact stirTo_length b L r hl)
    show Words b (roundW (r + 1) (mixTo b (stirTo b L r) 4))
    rw [e] at hm ⊢
    have h16 : 2 ^ 4 ≤ 2 ^ b := Nat.pow_le_pow_right (by decide) hb
    intro x hx
    simp only [roundW, List.mem_cons, List.not_mem_nil, or_false] at hx
    rcases hx with rfl | rfl | rfl | rfl | rfl | rfl | rfl | rfl
    · exact Nat.xor_lt_two_pow (hm a0 (by simp)) (by omega)
    all_goals exact hm _ (by simp)
end Go.Proofs.YtgaoeoijdpdjiaaGreatDoor

namespace Go.Proofs.YtgaoeoijdpdjiaaGreatDoor
open Go.RowKit
/-- How many chains a leaf may have. -/
def Ch4 (ch : Nat) : Prop := ch = 10 ∨ ch = 18 ∨ ch = 19 ∨ ch = 36
set_option maxRecDepth 20000 in
theorem mul64_one (ch : Nat) (h : Ch4 ch) (w : World) :
    Calls Tryz.prog 231 #[.int .u64 1, .int .u64 ch] w fun e w' => e = .returned (.tuple #[.int .u64 0, .int .u64 ch]) ∧ w' = w := by
  rcases h with rfl | rfl | rfl | rfl
  all_goals
    go_enter Tryz.func231, Tryz.ntmps231
    go_wp2
    go_ret2
    exact ⟨rfl, rfl⟩
set_option maxRecDepth 20000 in
theorem mul_one (ch : Nat) (h : Ch4 ch) (w : World) :
    Calls Tryz.prog 152 #[.int .u64 1, .int .u64 ch] w fun e w' => e = .returned (.tuple #[.int .u64 0, .int .u64 ch]) ∧ w' = w := by
  have H := hide (fun V : World => mul64_one ch h V)
  rcases h with rfl | rfl | rfl | rfl
  all_goals
    go_enter Tryz.func152, Tryz.ntmps152
    go_wp2_with fail
    refine (H.out _).mono ?_
    rintro e w1 ⟨rfl, rfl⟩
    go_wp2
    go_ret2
    exact ⟨rfl, rfl⟩
theorem ch4_of {b x e f : Nat} (h : Pair b x e f) : Ch4 (b * e + f) := by
  unfold Pair at h
  unfold Ch4
  rcases h with ⟨rfl, rfl, rfl, rfl⟩ | ⟨rfl, rfl, rfl, rfl⟩ | ⟨rfl, rfl, rfl, rfl⟩ | ⟨rfl, rfl, rfl, rfl⟩ <;> omega
end Go.Proofs.YtgaoeoijdpdjiaaGreatDoor

namespace Go.Proofs.YtgaoeoijdpdjiaaGreatDoor
open Go.RowKit
/-- Are all texts of this length? -/
def allLen (b : Int) : List ByteArray → Bool
  | [] => true
  | x :: r => decide ((x.size : Int) = b) && allLen b r
theorem allLen_iff (b : Int) (xs : List ByteArray) : allLen b xs = true ↔ ∀ y ∈ xs, (y.size : Int) = b := by
  induction xs with
  | nil => simp [allLen]
  | cons x r ih => simp [allLen, ih]
theorem allLen_take (b : Int) (xs : List ByteArray) (k : Nat) (h : allLen b (xs.take k) = true) (hk : k < xs.length) : allLen b (xs.take (k + 1)) = decide ((xs[k].size : Int) = b) := by
  have e : ∀ l m, allLen b (l ++ m) = (allLen b l && allLen b m) := by
    intro l m
    induction l with
    | nil => simp [allLen]
    | cons x r ih => simp [allLen, ih, Bool.and_assoc]
  rw [List.take_succ_eq_append_getElem hk, e, h]
  simp [allLen]
theorem allLen_no (b : Int) (xs : List ByteArray) (k : Nat) (hk : k < xs.length) (h : (xs[k].size : Int) ≠ b) : allLen b xs = false := by
  rw [Bool.eq_false_iff]
  intro e
  exact h ((allLen_iff b xs).1 e _ (List.getElem_mem hk))
set_option maxHeartbeats 1000000 in
theorem valuesRight_some (k b x t l : Int) (bk o c : Nat) (xs : List ByteArray) (w : World) (hcells : ∀ (j : Nat) y, xs[j]? = some y → w.cell? ⟨bk, o + j, none⟩ = some (.string y)) (hbk : bk < w.heap.size) (hN : xs.length ≤ 9223372036854775807) :
    Calls Tryz.prog 94 #[.agg #[.int .i64 k, .int .i64 b, .int .i64 x, .int .i64 t, .int .i64 l], .slice (some ⟨bk, o, none⟩) xs.length c] w fun e w' => e = .returned (.bool (allLen b xs)) ∧ Below w.heap.size w w' := by
  have HC := hide hcells
  clear hcells
  have HB := hide hbk
  go_enter Tryz.func94, Tryz.ntmps94
  go_wp2
  go_loop [9] (fun i => ∃ j : Nat, j ≤ xs.length ∧ i = .int .i64 j ∧ Hid (allLen b (xs.take j) = true)) (fun i => xs.length - (intOf i).toNat)
  case atStart => exact ⟨0, Nat.zero_le _, rfl, rfl⟩
  case round =>
    obtain ⟨j, hj, rfl, ha⟩ := hrel
    by_cases hlt : j < xs.length
    · have c0 : ∀ o, (w.alloc o).cell? ⟨bk, _, none⟩ = _ := fun o => (World.cell?_alloc_past _ _ _ HB.out).trans (HC.out j xs[j] (List.getElem?_eq_getElem hlt))
      have HT := hide (allLen_take b xs j ha.out hlt)
      have HNO := hide (allLen_no b xs j hlt)
      generalize xs[j] = y at c0 HT HNO
      by_cases hy : (y.size : Int) = b
      · have hys : ((y.size : Int) == b) = true := by simpa using hy
        go_wp2
        go_round
        case rel => exact ⟨j + 1, by omega, by go_num, show allLen b (xs.take (j + 1)) = true by rw [HT.out]; simpa using hy⟩
        case measure => simp [intOf]; omega
      · have hys : ((y.size : Int) == b) = false := by simpa using hy
        have HF := hide (HNO.out hy)
        clear hy HNO
        go_wp2
        go_ret
        exact ⟨congrArg (fun z => Ending.returned (Value.bool z)) HF.out.symm, (Below.refl _ _).alloc (Nat.le_refl _) _⟩
    · obtain rfl : j = xs.length := by omega
      go_wp2
      go_ret
      have hz := ha.out
      rw [List.take_of_length_le (Nat.le_refl _)] at hz
      exact ⟨congrArg (fun z => Ending.returned (Value.bool z)) hz.symm, (Below.refl _ _).alloc (Nat.le_refl _) _⟩
end Go.Proofs.YtgaoeoijdpdjiaaGreatDoor

namespace Go.Proofs.YtgaoeoijdpdjiaaGreatDoor
open Go.RowKit
set_option maxHeartbeats 400000 in
theorem power_any (a n : Nat) (w : World) (ha : a ≤ 16) (hn : n ≤ 12) (hp : a ^ n ≤ 65536) (ha1 : 1 ≤ a) :
    Calls Tryz.prog 55 #[.int .i64 a, .int .i64 n] w fun e w' => e = .returned (.int .i64 ((a ^ n : Nat) : Int)) ∧ w' = w := by
  have HP := hideM hp
  clear hp
  go_enter Tryz.func55, Tryz.ntmps55
  go_wp2
  go_loop [5, 6] (fun p i => ∃ j : Nat, j ≤ n ∧ i = .int .i64 j ∧ p = .int .i64 ((a ^ j : Nat) : Int)) (fun _ i => n - (intOf i).toNat)
  case atStart => exact ⟨0, by omega, rfl, rfl⟩
  case round =>
    obtain ⟨j, hj, rfl, rfl⟩ := hrel
    by_cases hlt : j < n
    · have hb : a ^ (j + 1) ≤ 65536 := Nat.le_trans (Nat.pow_le_pow_right ha1 (by omega)) HP.out
      have HS : Hid (a ^ (j + 1) = a ^ j * a) := Nat.pow_succ a j
      have hb2 : ((a ^ j : Nat) : Int) * (a : Int) ≤ 65536 := by have h := HS.out; have e : ((a ^ j * a : Nat) : Int) = ((a ^ j : Nat) : Int) * (a : Int) := Int.natCast_mul _ _; omega
      have hb0 : 0 ≤ ((a ^ j : Nat) : Int) * (a : Int) := Int.mul_nonneg (by omega) (by omega)
      clear hb
      generalize hq : a ^ j = q at HS hb2 hb0 ⊢
      have HQ := hideM hq
      clear hq
      go_wp2
      go_round
      case rel => exact ⟨j + 1, by omega, by go_num, by rw [HS.out, Int.natCast_mul]⟩
      case measure => simp [intOf]; omega
    · obtain rfl : j = n := by omega
      go_wp2
      go_ret
      exact ⟨rfl, rfl⟩
set_option maxHeartbeats 400000 in
theorem leaves_any (t : Nat) (k b x l : Int) (w : World) (ht : t ≤ 4) :
    Calls Tryz.prog 90 #[.agg #[.int .i64 k, .int .i64 b, .int .i64 x, .int .i64 t, .int .i64 l]] w fun e w' => e = .returned (.int .i64 ((2 ^ t : Nat) : Int)) ∧ Below w.heap.size w w' := by
  have hp : 2 ^ t ≤ 65536 := Nat.le_trans (Nat.pow_le_pow_right (by decide) ht) (by decide)
  have HC := hideM (fun w' : World => power_any 2 t w' (by decide) (by omega) hp (by decide))
  clear hp
  go_enter Tryz.func90, Tryz.ntmps90
  go_wp2_with fail
  refine (HC.out _).mono ?_
  rintro e w1 ⟨rfl, rfl⟩
  go_wp2
  go_ret
  exact ⟨rfl, (Below.refl _ _).alloc (Nat.le_refl _) _⟩
end Go.Proofs.YtgaoeoijdpdjiaaGreatDoor

namespace Go.Proofs.YtgaoeoijdpdjiaaGreatDoor
open Go.RowKit
/-- So many cells from a place on, if they are all there. -/
def cellsAt (w : World) (b o : Nat) : Nat → Option (List Value)
  | 0 => some []
  | n + 1 => (w.cell? ⟨b, o, none⟩).bind (fun v => (cellsAt w b (o + 1) n).map (fun l => v :: l))
theorem cellsAt_range : ∀ (n : Nat) (cs : List Value) (w : World) (b o : Nat), cellsAt w b o n = some cs → cs.length = n ∧ w.rangeAt b o cs
  | 0, cs, w, b, o, h => by
    simp only [cellsAt, Option.some.injEq] at h
    subst h
    exact ⟨rfl, fun j v hv => by simp at hv⟩
  | n + 1, cs, w, b, o, h => by
    simp only [cellsAt] at h
    cases hc : w.cell? ⟨b, o, none⟩ with
    | none => simp [hc] at h
    | some v =>
      cases hr : cellsAt w b (o + 1) n with
      | none => simp [hc, hr] at h
      | some l =>
        simp only [hc, hr, Option.bind_some, Option.map_some, Option.some.injEq] at h
        subst h
        obtain ⟨h1, h2⟩ := cellsAt_range n l w b (o + 1) hr
        refine ⟨by simp [h1], ?_⟩
        intro j u hu
        cases j with
        | zero => simp at hu; subst hu; exact hc
        | succ j => rw [show o + (j + 1) = o + 1 + j by omega]; exact h2 j u (by simpa using hu)
theorem range_cellsAt : ∀ (cs : List Value) (n : Nat) (w : World) (b o : Nat), cs.length = n → w.rangeAt b o cs → cellsAt w b o n = some cs
  | [], n, w, b, o, hn, h => by subst hn; rfl
  | v :: l, n, w, b, o, hn, h => by
    subst hn
    have h0 : w.cell? ⟨b, o, none⟩ = some v := h 0 v rfl
    have hr := range_cellsAt l l.length w b (o + 1) rfl (fun j u hu => by rw [show o + 1 + j = o + (j + 1) by omega]; exact h (j + 1) u (by simpa using hu))
    simp [cellsAt, h0, hr]
def ptrCells (w : World) (n : Nat) : Value → Option (List Value)
  | .pointer (some ⟨b, o, none⟩) => cellsAt w b o n
  | _ => none
theorem ptrCells_at (w : World) (n b o : Nat) : ptrCells w n (.pointer (some ⟨b, o, none⟩)) = cellsAt w b o n := rfl
theorem ptrCells_range {w : World} {n : Nat} {v : Value} (h : (ptrCells w n v).isSome = true) : ∃ b o cs, v = .pointer (some ⟨b, o, none⟩) ∧ ptrCells w n v = some cs ∧ cs.length = n ∧ w.rangeAt b o cs := by
  obtain ⟨cs, hcs⟩ := Option.isSome_iff_exists.1 h
  match v, hcs with
  | .pointer (some ⟨b, o, none⟩), hcs =>
    obtain ⟨h1, h2⟩ := cellsAt_range n cs w b o hcs
    exact ⟨b, o, cs, rfl, hcs, h1, h2⟩
end Go.Proofs.YtgaoeoijdpdjiaaGreatDoor

namespace Go.Proofs.YtgaoeoijdpdjiaaGreatDoor
open Go.RowKit
/-- A value of n cells may be stored there. -/
def StoreOk (w : World) (n : Nat) (v u : Value) : Prop := ∃ b o l, v = .pointer (some ⟨b, o, none⟩) ∧ u = .agg (List.toArray l) ∧ l.length = n ∧ (∀ c ∈ l, c.oneCell' = true) ∧ w.there b o n
def storeW (w : World) : Value → Value → World
  | .pointer (some ⟨b, o, none⟩), .agg cs => w.setCells b o cs.toList
  | _, _ => w
theorem storeW_at (w : World) (b o : Nat) (l : List Value) : storeW w (.pointer (some ⟨b, o, none⟩)) (.agg l.toArray) = w.setCells b o l := rfl
theorem there_new (w : World) (c : Array Value) (t : TypeId) (n : Nat) (hn : c.size = n) : (w.alloc (.cells c t)).there w.heap.size 0 n := by
  subst hn
  intro j hj
  have hb : (w.alloc (.cells c t)).heap[w.heap.size]? = some (.cells c t) := heap_alloc_new w _
  refine ⟨?_, ?_⟩
  · rw [Nat.zero_add, cell_of_row _ _ j c t _ hb, Array.getElem?_eq_getElem hj]; rfl
  · unfold World.frozen?
    rw [show (w.alloc (.cells c t)).heap[(⟨w.heap.size, 0 + j, none⟩ : Addr).block]? = some (.cells c t) from hb]
    simp
end Go.Proofs.YtgaoeoijdpdjiaaGreatDoor
