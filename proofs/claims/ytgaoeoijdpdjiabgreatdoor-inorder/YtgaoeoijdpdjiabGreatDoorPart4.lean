/-
  A region that draws its order, inside a round of a loop over an iterator: by the law of what is held. sets.ValuesRight, SeedsRight: has each text the length of a value? What stays of a world's cells over a call. A number of 64 bits.
-/
import Derived.RangeFuncNested
import Derived.OwnWalkIn
import Derived.Deep.RegionHeld3
import Derived.Test.YtgaoeoijdpdjiabGreatDoorPartHide
import Derived.Test.YtgaoeoijdpdjiabGreatDoorRows
import Derived.WalkSpells
import Derived.WalkLawsBesides
import Derived.Handy
import Derived.Test.YtgaoeoijdpdjiabGreatDoorPart1
namespace Go.Proofs.YtgaoeoijdpdjiabGreatDoor
open Go.RowKit

theorem opIn_of_op {l n : Nat} {P : Program} {ops : Array Oper} {Q : Exit → Act → World → Prop} {i : Nat} {K K' : Act → World → Prop} {a : Act} {w : World}
    (hd : ∀ o, ops[i]? = some o → ∀ c, o.op ≠ .defer c) (hQ : ¬ LetsOut Q) (hK : ∀ a w, K a w → K' a w) (h : wpOp P ops Q i K a w) : wpOpIn (Fence.wide.inRound l) n P ops Q i K' a w := by
  unfold wpOp at h
  unfold wpOpIn
  cases ho : ops[i]? with
  | none => rw [ho] at h; exact hK _ _ h
  | some o =>
    rw [ho] at h
    dsimp only at h ⊢
    by_cases hw : Region.wanted o (yielded ops a.tmps) = true
    · rw [if_pos hw] at h ⊢
      rcases h with h | ⟨_, h⟩
      · refine ⟨fun _ _ => trivial, ?_⟩
        rw [Oper.semAt_plain _ _ _ (hd o ho)]
        unfold Oper.wp at h
        generalize (execOp a.eval o).run P w = r at h ⊢
        cases r with
        | ok nx w' =>
          cases nx with
          | value v => exact hK _ _ h
          | skip => exact hK _ _ h
          | defer d => exact hK _ _ h
          | enter f args =>
            refine ⟨fun hh => by simp [Fence.wide] at hh, ?_⟩
            refine CallsIn.inRound l (callsIn_wide.2 ?_)
            refine Calls.mono h ?_
            intro e w'' he
            cases e with
            | returned v => exact hK _ _ he
            | panicked c => exact he
            | outgrown => exact he
          | row rw' args =>
            refine ⟨fun hh => by simp [Fence.wide] at hh, ?_⟩
            intro c cs _
            obtain ⟨v, w'', r, s⟩ := h c cs
            exact ⟨v, w'', hK _ _ r, stepsIn_wide.2 s⟩
          | round _ _ _ _ _ => exact h.elim
          | _ => exact h.elim
        | halt st w' =>
          cases st with
          | panic v => exact h
          | _ => exact h.elim
      · exact absurd h hQ
    · rw [if_neg hw] at h ⊢
      exact ⟨fun _ _ => trivial, hK _ _ h⟩

theorem anyIn_of_any {l n : Nat} {P : Program} {md : Region.Mode} {ops : Array Oper} {Q : Exit → Act → World → Prop} (hd : ∀ (i : Nat) o, ops[i]? = some o → ∀ c, o.op ≠ .defer c) (hQ : ¬ LetsOut Q) :
    ∀ (fuel : Nat) (listed : Array Bool) (a : Act) (w : World), wpAny P md ops Q fuel listed a w → wpAnyIn (Fence.wide.inRound l) n P md ops Q fuel listed a w
  | 0, _, _, _, h => h
  | fuel + 1, _, _, _, h => ⟨h.1, fun i hi => opIn_of_op (hd i) hQ (fun a w hk => anyIn_of_any hd hQ fuel _ a w hk) (h.2 i hi)⟩

theorem regionIn_held {l n id : Nat} {P : Program} {ops : Array Oper} {Q : Exit → Act → World → Prop} {S : World → Prop} {a : Act} {w : World} (hm : P.follows .mixedOrders = true) (hd : ∀ o ∈ ops.toList, ∀ c, o.op ≠ .defer c) (hQ : ¬ LetsOut Q) (hS : S w.drew)
    (h : S w.drew → wpAnyH P .any ops Q S ops.size (Array.replicate ops.size false) a w.drew) : (Code.region id ops true).wpIn (Fence.wide.inRound l) n P Q a w :=
  wpIn_region_any hm (anyIn_of_any (fun i o ho => hd o (by rw [Array.mem_toList_iff]; exact Array.mem_of_getElem? ho)) hQ _ _ _ _ (wpAny_of_held _ _ _ _ (h hS)))
end Go.Proofs.YtgaoeoijdpdjiabGreatDoor

namespace Go.Proofs.YtgaoeoijdpdjiabGreatDoor
open Go.RowKit

/-- Are all texts of this length? -/
def allLen (b : Int) : List ByteArray → Bool
  | [] => true
  | x :: r => decide ((x.size : Int) = b) && allLen b r
theorem allLen_iff (b : Int) (xs : List ByteArray) : allLen b xs = true ↔ ∀ y ∈ xs, (y.size : Int) = b := by
  induction xs with
  | nil => simp [allLen]
  | cons x r ih => simp [allLen, ih]
theorem allLen_take (b : Int) (xs : List ByteArray) (k : Nat) (h : allLen b (xs.take k) = true) (hk : k < xs.length) : allLen b (xs.take (k + 1)) = decide ((xs[k].size : Int) = b) := by
  have e : ∀ l m, allLen b (l ++ m) = (allLen b l && allLen b m) := by
    intro l m
    induction l with
    | nil => simp [allLen]
    | cons x r ih => simp [allLen, ih, Bool.and_assoc]
  rw [List.take_succ_eq_append_getElem hk, e, h]
  simp [allLen]
theorem allLen_no (b : Int) (xs : List ByteArray) (k : Nat) (hk : k < xs.length) (h : (xs[k].size : Int) ≠ b) : allLen b xs = false := by
  rw [Bool.eq_false_iff]
  intro e
  exact h ((allLen_iff b xs).1 e _ (List.getElem_mem hk))

set_option maxHeartbeats 1000000 in
theorem valuesRight_some (k b x t l : Int) (bk o c : Nat) (xs : List ByteArray) (w : World) (hcells : ∀ (j : Nat) y, xs[j]? = some y → w.cell? ⟨bk, o + j, none⟩ = some (.string y)) (hbk : bk < w.heap.size) (hN : xs.length ≤ 9223372036854775807) :
    Calls Tryz.prog 159 #[.agg #[.int .i64 k, .int .i64 b, .int .i64 x, .int .i64 t, .int .i64 l], .slice (some ⟨bk, o, none⟩) xs.length c] w fun e w' => e = .returned (.bool (allLen b xs)) ∧ Below w.heap.size w w' := by
  have HC := hide hcells
  clear hcells
  have HB := hide hbk
  go_enter Tryz.func159, Tryz.ntmps159
  go_wp2
  go_loop [9] (fun i => ∃ j : Nat, j ≤ xs.length ∧ i = .int .i64 j ∧ Hid (allLen b (xs.take j) = true)) (fun i => xs.length - (intOf i).toNat)
  case atStart => exact ⟨0, Nat.zero_le _, rfl, rfl⟩
  case round =>
    obtain ⟨j, hj, rfl, ha⟩ := hrel
    by_cases hlt : j < xs.length
    · have c0 : ∀ o, (w.alloc o).cell? ⟨bk, _, none⟩ = _ := fun o => (World.cell?_alloc_past _ _ _ HB.out).trans (HC.out j xs[j] (List.getElem?_eq_getElem hlt))
      have HT := hide (allLen_take b xs j ha.out hlt)
      have HNO := hide (allLen_no b xs j hlt)
      generalize xs[j] = y at c0 HT HNO
      by_cases hy : (y.size : Int) = b
      · have hys : ((y.size : Int) == b) = true := by simpa using hy
        go_wp2
        go_round
        case rel => exact ⟨j + 1, by omega, by go_num, show allLen b (xs.take (j + 1)) = true by rw [HT.out]; simpa using hy⟩
        case measure => simp [intOf]; omega
      · have hys : ((y.size : Int) == b) = false := by simpa using hy
        have HF := hide (HNO.out hy)
        clear hy HNO
        go_wp2
        go_ret
        exact ⟨congrArg (fun z => Ending.returned (Value.bool z)) HF.out.symm, (Below.refl _ _).alloc (Nat.le_refl _) _⟩
    · obtain rfl : j = xs.length := by omega
      go_wp2
      go_ret
      have hz := ha.out
      rw [List.take_of_length_le (Nat.le_refl _)] at hz
      exact ⟨congrArg (fun z => Ending.returned (Value.bool z)) hz.symm, (Below.refl _ _).alloc (Nat.le_refl _) _⟩

set_option maxHeartbeats 1000000 in
theorem valuesRight_nil (k b x t l : Int) (w : World) :
    Calls Tryz.prog 159 #[.agg #[.int .i64 k, .int .i64 b, .int .i64 x, .int .i64 t, .int .i64 l], .slice none 0 0] w fun e w' => e = .returned (.bool true) ∧ Below w.heap.size w w' := by
  go_enter Tryz.func159, Tryz.ntmps159
  go_wp2
  go_rounds 1
  go_ret
  exact ⟨rfl, (Below.refl _ _).alloc (Nat.le_refl _) _⟩
end Go.Proofs.YtgaoeoijdpdjiabGreatDoor

namespace Go.Proofs.YtgaoeoijdpdjiabGreatDoor
open Go.RowKit

theorem heldB {n : Nat} {w W V : World} (h : Below n w W) (hb : Below W.heap.size W V) (hn : n ≤ w.heap.size) : Below n w V := h.trans (hb.mono (by have := h.size; omega))
theorem heldC {n : Nat} {w W V : World} {a : Addr} {v : Value} (h : Below n w W) (hb : Below W.heap.size W V) (hn : n ≤ w.heap.size) (ha : a.block < n) (hc : W.cell? a = some v) : V.cell? a = some v :=
  (hb.cell (p := a) (by have := h.size; omega)).trans hc
theorem held1 {n : Nat} {w W V : World} {a0 : Addr} {v0 : Value} (h : W.cell? a0 = some v0 ∧ Below n w W) (hb : Below W.heap.size W V) (hn : n ≤ w.heap.size) (h0 : a0.block < n) : V.cell? a0 = some v0 ∧ Below n w V :=
  ⟨heldC h.2 hb hn h0 h.1, heldB h.2 hb hn⟩
theorem held2 {n : Nat} {w W V : World} {a0 a1 : Addr} {v0 v1 : Value} (h : W.cell? a0 = some v0 ∧ W.cell? a1 = some v1 ∧ Below n w W) (hb : Below W.heap.size W V) (hn : n ≤ w.heap.size) (h0 : a0.block < n) (h1 : a1.block < n) : V.cell? a0 = some v0 ∧ V.cell? a1 = some v1 ∧ Below n w V :=
  ⟨heldC h.2.2 hb hn h0 h.1, held1 h.2 hb hn h1⟩
theorem held3 {n : Nat} {w W V : World} {a0 a1 a2 : Addr} {v0 v1 v2 : Value} (h : W.cell? a0 = some v0 ∧ W.cell? a1 = some v1 ∧ W.cell? a2 = some v2 ∧ Below n w W) (hb : Below W.heap.size W V) (hn : n ≤ w.heap.size) (h0 : a0.block < n) (h1 : a1.block < n) (h2 : a2.block < n) : V.cell? a0 = some v0 ∧ V.cell? a1 = some v1 ∧ V.cell? a2 = some v2 ∧ Below n w V :=
  ⟨heldC h.2.2.2 hb hn h0 h.1, held2 h.2 hb hn h1 h2⟩
theorem held0 {n : Nat} {w W V : World} (h : Below n w W) (hb : Below W.heap.size W V) (hn : n ≤ w.heap.size) : Below n w V := heldB h hb hn

/-- Ten cells one behind the other: a struct that holds a set, a text and a place. -/
def TenC (B : Nat) (w : World) (k b x t l : Int) (s : ByteArray) (p0 p1 p2 p3 : Int) : Prop :=
  w.cell? ⟨B, 0, none⟩ = some (.int .i64 k) ∧ w.cell? ⟨B, 1, none⟩ = some (.int .i64 b) ∧ w.cell? ⟨B, 2, none⟩ = some (.int .i64 x) ∧ w.cell? ⟨B, 3, none⟩ = some (.int .i64 t) ∧ w.cell? ⟨B, 4, none⟩ = some (.int .i64 l) ∧ w.cell? ⟨B, 5, none⟩ = some (.string s) ∧ w.cell? ⟨B, 6, none⟩ = some (.int .i64 p0) ∧ w.cell? ⟨B, 7, none⟩ = some (.int .i64 p1) ∧ w.cell? ⟨B, 8, none⟩ = some (.int .i64 p2) ∧ w.cell? ⟨B, 9, none⟩ = some (.int .i64 p3)
theorem TenC.below {B n : Nat} {w w' : World} {k b x t l p0 p1 p2 p3 : Int} {s : ByteArray} (h : TenC B w k b x t l s p0 p1 p2 p3) (hb : Below n w w') (hB : B < n) : TenC B w' k b x t l s p0 p1 p2 p3 := by
  obtain ⟨c0, c1, c2, c3, c4, c5, c6, c7, c8, c9⟩ := h
  exact ⟨(hb.cell (p := ⟨B, 0, none⟩) hB).trans c0, (hb.cell (p := ⟨B, 1, none⟩) hB).trans c1, (hb.cell (p := ⟨B, 2, none⟩) hB).trans c2, (hb.cell (p := ⟨B, 3, none⟩) hB).trans c3, (hb.cell (p := ⟨B, 4, none⟩) hB).trans c4, (hb.cell (p := ⟨B, 5, none⟩) hB).trans c5, (hb.cell (p := ⟨B, 6, none⟩) hB).trans c6, (hb.cell (p := ⟨B, 7, none⟩) hB).trans c7, (hb.cell (p := ⟨B, 8, none⟩) hB).trans c8, (hb.cell (p := ⟨B, 9, none⟩) hB).trans c9⟩
end Go.Proofs.YtgaoeoijdpdjiabGreatDoor

namespace Go.Proofs.YtgaoeoijdpdjiabGreatDoor
/-- A number that an int holds. -/
def Int64 (c : Int) : Prop := -9223372036854775808 ≤ c ∧ c ≤ 9223372036854775807
end Go.Proofs.YtgaoeoijdpdjiabGreatDoor
