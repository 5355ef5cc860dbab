/-
  The contract of strings.Join over this program, laid by the shelf of the library. What stays of a world's cells over a call. A region that draws its order, inside a round of a loop over an iterator: by the law of what is held. Worlds that part in some blocks alone; rows of things of one size. What a right set is. The right pairs of Bytes and Wide. The small functions of package sets and of the statements' own package, each by its contract: pick, count, perByte, right, chains. Package sets by contracts: perByte, right, Check; and the statements' own chains. Rows of integers in memory: what a block holds, behind a store too; worlds that part in one block alone.
-/
import Derived.Shelf.Strings.OnBuilder
import Derived.Test.YtgaoeoijdpdjiaaGreatDoorProg
import Derived.Test.YtgaoeoijdpdjiaaGreatDoorPart1
import Derived.RangeFuncNested
import Derived.OwnWalkIn
import Derived.Deep.RegionHeld3
import Derived.Test.YtgaoeoijdpdjiaaGreatDoorRows
import Derived.WalkKit
import Derived.Deep.MidRow
import Derived.Deep.AppendLies
import Derived.WalkSpells
import Derived.WalkLawsBesides
import Derived.BigQuiet
import Derived.Deep.QuietTactic
namespace Go.Proofs.YtgaoeoijdpdjiaaGreatDoor
open Go.Shelf Go.Proofs
def lays156_ren : Go.Shelf.Ren := ⟨fun | 156 => 235 | 165 => 276 | 166 => 277 | 169 => 278 | 240 => 310 | 241 => 311 | 276 => 316 | 277 => 317 | n => n, fun | 31 => 50 | 9 => 9 | 3 => 3 | 4 => 4 | 0 => 0 | 20 => 20 | 72 => 330 | 76 => 334 | 70 => 328 | 37 => 125 | 75 => 333 | 127 => 362 | 164 => 367 | 5 => 5 | 80 => 148 | n => n, fun | n => n⟩
theorem lays156 : Go.Proofs.Lays.n156 Tryz.prog lays156_ren := {
  mixed := by kernel_rfl
  f156 := Tryz.func235.trans (congrArg some (by kernel_rfl))
  f165 := Tryz.func276.trans (congrArg some (by kernel_rfl))
  f166 := Tryz.func277.trans (congrArg some (by kernel_rfl))
  f169 := Tryz.func278.trans (congrArg some (by kernel_rfl))
  f240 := Tryz.func310.trans (congrArg some (by kernel_rfl))
  f241 := Tryz.func311.trans (congrArg some (by kernel_rfl))
  f276 := Tryz.func316.trans (congrArg some (by kernel_rfl))
  f277 := Tryz.func317.trans (congrArg some (by kernel_rfl))
  t0 := Tryz.underlying0
  a0 := Tryz.isAgg0
  z0 := Tryz.sizeOf0
  v0 := Tryz.zeroValue0
  t3 := Tryz.underlying3
  a3 := Tryz.isAgg3
  z3 := Tryz.sizeOf3
  v3 := Tryz.zeroValue3
  t4 := Tryz.underlying4
  a4 := Tryz.isAgg4
  z4 := Tryz.sizeOf4
  v4 := Tryz.zeroValue4
  t9 := Tryz.underlying9
  a9 := Tryz.isAgg9
  z9 := Tryz.sizeOf9
  v9 := Tryz.zeroValue9
  t20 := Tryz.underlying20
  a20 := Tryz.isAgg20
  z20 := Tryz.sizeOf20
  v20 := Tryz.zeroValue20
  t31 := Tryz.underlying50
  a31 := Tryz.isAgg50
  z31 := Tryz.sizeOf50
  v31 := Tryz.zeroValue50
  t37 := Tryz.underlying125
  a37 := Tryz.isAgg125
  z37 := Tryz.sizeOf125
  v37 := Tryz.zeroValue125
  t70 := Tryz.underlying328
  a70 := Tryz.isAgg328
  z70 := Tryz.sizeOf328
  v70 := Tryz.zeroValue328
  t72 := Tryz.underlying330
  a72 := Tryz.isAgg330
  z72 := Tryz.sizeOf330
  v72 := Tryz.zeroValue330
  t75 := Tryz.underlying333
  a75 := Tryz.isAgg333
  z75 := Tryz.sizeOf333
  v75 := Tryz.zeroValue333
  t76 := Tryz.underlying334
  a76 := Tryz.isAgg334
  z76 := Tryz.sizeOf334
  v76 := Tryz.zeroValue334
  t127 := Tryz.underlying362
  a127 := Tryz.isAgg362
  z127 := Tryz.sizeOf362
  v127 := Tryz.zeroValue362
  t164 := Tryz.underlying367
  a164 := Tryz.isAgg367
  z164 := Tryz.sizeOf367
  v164 := Tryz.zeroValue367 }
theorem Builder_Extra_156 : Builder.Extra Tryz.prog lays156_ren := {
  sizeBuilder := by kernel_rfl
  liesBuilder := by kernel_rfl
  t5 := Tryz.underlying5
  a5 := Tryz.isAgg5
  z5 := Tryz.sizeOf5
  v5 := Tryz.zeroValue5
  infoByte := by kernel_rfl
  cellsByte := by kernel_rfl
  sizeByte := by kernel_rfl
  neB5 := by decide }
open Go.RowKit in
theorem strings_Join (bk o c : Nat) (xs : List ByteArray) (sep : ByteArray) (w : World) (hcells : ∀ (j : Nat) x, xs[j]? = some x → w.cell? ⟨bk, o + j, none⟩ = some (.string x)) (hbk : bk < w.heap.size) (hN : xs.length ≤ 140737488355328) (hcap : xs.length ≤ c) (hlen : (Lib.join (xs.map (·.data.toList)) sep.data.toList).length ≤ 140737488355328) :
    Calls Tryz.prog 235 #[.slice (some ⟨bk, o, none⟩) xs.length c, .string sep] w fun e w' => e = .returned (.string ⟨(Lib.join (xs.map (·.data.toList)) sep.data.toList).toArray⟩) ∧ Below w.heap.size w w' := Any.strings_Join lays156 Builder_Extra_156 bk o c xs sep w hcells hbk hN hcap hlen
end Go.Proofs.YtgaoeoijdpdjiaaGreatDoor

namespace Go.Proofs.YtgaoeoijdpdjiaaGreatDoor
open Go.RowKit
theorem heldB {n : Nat} {w W V : World} (h : Below n w W) (hb : Below W.heap.size W V) (hn : n ≤ w.heap.size) : Below n w V := h.trans (hb.mono (by have := h.size; omega))
theorem heldC {n : Nat} {w W V : World} {a : Addr} {v : Value} (h : Below n w W) (hb : Below W.heap.size W V) (hn : n ≤ w.heap.size) (ha : a.block < n) (hc : W.cell? a = some v) : V.cell? a = some v :=
  (hb.cell (p := a) (by have := h.size; omega)).trans hc
theorem held1 {n : Nat} {w W V : World} {a0 : Addr} {v0 : Value} (h : W.cell? a0 = some v0 ∧ Below n w W) (hb : Below W.heap.size W V) (hn : n ≤ w.heap.size) (h0 : a0.block < n) : V.cell? a0 = some v0 ∧ Below n w V :=
  ⟨heldC h.2 hb hn h0 h.1, heldB h.2 hb hn⟩
theorem held2 {n : Nat} {w W V : World} {a0 a1 : Addr} {v0 v1 : Value} (h : W.cell? a0 = some v0 ∧ W.cell? a1 = some v1 ∧ Below n w W) (hb : Below W.heap.size W V) (hn : n ≤ w.heap.size) (h0 : a0.block < n) (h1 : a1.block < n) : V.cell? a0 = some v0 ∧ V.cell? a1 = some v1 ∧ Below n w V :=
  ⟨heldC h.2.2 hb hn h0 h.1, held1 h.2 hb hn h1⟩
/-- Ten cells one behind the other: a struct that holds a set, a text and a place. -/
def TenC (B : Nat) (w : World) (k b x t l : Int) (s : ByteArray) (p0 p1 p2 p3 : Int) : Prop :=
  w.cell? ⟨B, 0, none⟩ = some (.int .i64 k) ∧ w.cell? ⟨B, 1, none⟩ = some (.int .i64 b) ∧ w.cell? ⟨B, 2, none⟩ = some (.int .i64 x) ∧ w.cell? ⟨B, 3, none⟩ = some (.int .i64 t) ∧ w.cell? ⟨B, 4, none⟩ = some (.int .i64 l) ∧ w.cell? ⟨B, 5, none⟩ = some (.string s) ∧ w.cell? ⟨B, 6, none⟩ = some (.int .i64 p0) ∧ w.cell? ⟨B, 7, none⟩ = some (.int .i64 p1) ∧ w.cell? ⟨B, 8, none⟩ = some (.int .i64 p2) ∧ w.cell? ⟨B, 9, none⟩ = some (.int .i64 p3)
theorem TenC.below {B n : Nat} {w w' : World} {k b x t l p0 p1 p2 p3 : Int} {s : ByteArray} (h : TenC B w k b x t l s p0 p1 p2 p3) (hb : Below n w w') (hB : B < n) : TenC B w' k b x t l s p0 p1 p2 p3 := by
  obtain ⟨c0, c1, c2, c3, c4, c5, c6, c7, c8, c9⟩ := h
  exact ⟨(hb.cell (p := ⟨B, 0, none⟩) hB).trans c0, (hb.cell (p := ⟨B, 1, none⟩) hB).trans c1, (hb.cell (p := ⟨B, 2, none⟩) hB).trans c2, (hb.cell (p := ⟨B, 3, none⟩) hB).trans c3, (hb.cell (p := ⟨B, 4, none⟩) hB).trans c4, (hb.cell (p := ⟨B, 5, none⟩) hB).trans c5, (hb.cell (p := ⟨B, 6, none⟩) hB).trans c6, (hb.cell (p := ⟨B, 7, none⟩) hB).trans c7, (hb.cell (p := ⟨B, 8, none⟩) hB).trans c8, (hb.cell (p := ⟨B, 9, none⟩) hB).trans c9⟩
end Go.Proofs.YtgaoeoijdpdjiaaGreatDoor

namespace Go.Proofs.YtgaoeoijdpdjiaaGreatDoor
open Go.RowKit
theorem opIn_of_op {l n : Nat} {P : Program} {ops : Array Oper} {Q : Exit → Act → World → Prop} {i : Nat} {K K' : Act → World → Prop} {a : Act} {w : World}
    (hd : ∀ o, ops[i]? = some o → ∀ c, o.op ≠ .defer c) (hQ : ¬ LetsOut Q) (hK : ∀ a w, K a w → K' a w) (h : wpOp P ops Q i K a w) : wpOpIn (Fence.wide.inRound l) n P ops Q i K' a w := by
  unfold wpOp at h
  unfold wpOpIn
  cases ho : ops[i]? with
  | none => rw [ho] at h; exact hK _ _ h
  | some o =>
    rw [ho] at h
    dsimp only at h ⊢
    by_cases hw : Region.wanted o (yielded ops a.tmps) = true
    · rw [if_pos hw] at h ⊢
      rcases h with h | ⟨_, h⟩
      · refine ⟨fun _ _ => trivial, ?_⟩
        rw [Oper.semAt_plain _ _ _ (hd o ho)]
        unfold Oper.wp at h
        generalize (execOp a.eval o).run P w = r at h ⊢
        cases r with
        | ok nx w' =>
          cases nx with
          | value v => exact hK _ _ h
          | skip => exact hK _ _ h
          | defer d => exact hK _ _ h
          | enter f args =>
            refine ⟨fun hh => by simp [Fence.wide] at hh, ?_⟩
            refine CallsIn.inRound l (callsIn_wide.2 ?_)
            refine Calls.mono h ?_
            intro e w'' he
            cases e with
            | returned v => exact hK _ _ he
            | panicked c => exact he
            | outgrown => exact he
          | row rw' args =>
            refine ⟨fun hh => by simp [Fence.wide] at hh, ?_⟩
            intro c cs _
            obtain ⟨v, w'', r, s⟩ := h c cs
            exact ⟨v, w'', hK _ _ r, stepsIn_wide.2 s⟩
          | round _ _ _ _ _ => exact h.elim
          | _ => exact h.elim
        | halt st w' =>
          cases st with
          | panic v => exact h
          | _ => exact h.elim
      · exact absurd h hQ
    · rw [if_neg hw] at h ⊢
      exact ⟨fun _ _ => trivial, hK _ _ h⟩
theorem anyIn_of_any {l n : Nat} {P : Program} {md : Region.Mode} {ops : Array Oper} {Q : Exit → Act → World → Prop} (hd : ∀ (i : Nat) o, ops[i]? = some o → ∀ c, o.op ≠ .defer c) (hQ : ¬ LetsOut Q) :
    ∀ (fuel : Nat) (listed : Array Bool) (a : Act) (w : World), wpAny P md ops Q fuel listed a w → wpAnyIn (Fence.wide.inRound l) n P md ops Q fuel listed a w
  | 0, _, _, _, h => h
  | fuel + 1, _, _, _, h => ⟨h.1, fun i hi => opIn_of_op (hd i) hQ (fun a w hk => anyIn_of_any hd hQ fuel _ a w hk) (h.2 i hi)⟩
theorem regionIn_held {l n id : Nat} {P : Program} {ops : Array Oper} {Q : Exit → Act → World → Prop} {S : World → Prop} {a : Act} {w : World} (hm : P.follows .mixedOrders = true) (hd : ∀ o ∈ ops.toList, ∀ c, o.op ≠ .defer c) (hQ : ¬ LetsOut Q) (hS : S w.drew)
    (h : S w.drew → wpAnyH P .any ops Q S ops.size (Array.replicate ops.size false) a w.drew) : (Code.region id ops true).wpIn (Fence.wide.inRound l) n P Q a w :=
  wpIn_region_any hm (anyIn_of_any (fun i o ho => hd o (by rw [Array.mem_toList_iff]; exact Array.mem_of_getElem? ho)) hQ _ _ _ _ (wpAny_of_held _ _ _ _ (h hS)))
end Go.Proofs.YtgaoeoijdpdjiaaGreatDoor

namespace Go.Proofs.YtgaoeoijdpdjiaaGreatDoor
open Go.RowKit
/-- All but the blocks of F, and new ones, is as it was. -/
structure Kept (F : Nat → Prop) (w w' : World) : Prop where
  os : w'.os = w.os
  tape : w'.tape = w.tape
  output : w'.output = w.output
  size : w.heap.size ≤ w'.heap.size
  block : ∀ k, k < w.heap.size → ¬ F k → w'.heap[k]? = w.heap[k]?
theorem Kept.refl (F : Nat → Prop) (w : World) : Kept F w w := ⟨rfl, rfl, rfl, Nat.le_refl _, fun _ _ _ => rfl⟩
theorem Kept.mono {F G : Nat → Prop} {w w' : World} (h : Kept F w w') (hg : ∀ k, k < w.heap.size → F k → G k) : Kept G w w' :=
  ⟨h.os, h.tape, h.output, h.size, fun k hk hn => h.block k hk (fun hf => hn (hg k hk hf))⟩
theorem Kept.trans {F G : Nat → Prop} {a b c : World} (h : Kept F a b) (k : Kept G b c) (hg : ∀ i, G i → F i ∨ a.heap.size ≤ i) : Kept F a c :=
  ⟨k.os.trans h.os, k.tape.trans h.tape, k.output.trans h.output, Nat.le_trans h.size k.size, fun i hi hn => (k.block i (Nat.lt_of_lt_of_le hi h.size) (fun hf => by rcases hg i hf with h1 | h1 <;> first | exact hn h1 | omega)).trans (h.block i hi hn)⟩
theorem Kept.of_below {F : Nat → Prop} {w w' : World} (h : Below w.heap.size w w') : Kept F w w' := ⟨h.os, h.tape, h.output, h.size, fun k hk _ => h.block k hk⟩
theorem Kept.below {F : Nat → Prop} {w w' : World} {B : Nat} (h : Kept F w w') (hF : ∀ k, F k → B ≤ k) (hB : B ≤ w.heap.size) : Below B w w' :=
  ⟨h.os, h.tape, h.output, h.size, fun k hk => h.block k (by omega) (fun hf => by have := hF k hf; omega)⟩
theorem Kept.after {F : Nat → Prop} {a w w' : World} (h : Kept F a w) (hb : Below w.heap.size w w') : Kept F a w' := h.trans (Kept.of_below (F := fun _ => False) hb) (fun _ hf => hf.elim)
theorem Kept.alloc {F : Nat → Prop} {a w : World} (h : Kept F a w) (o : Obj) : Kept F a (w.alloc o) := h.after ((Below.refl _ _).alloc (Nat.le_refl _) _)
theorem kept_set (w : World) (p : Addr) (u : Value) : Kept (fun k => k = p.block) w (w.setCell p u) :=
  ⟨rfl, rfl, rfl, by simp [World.setCell], fun k _ hn => Below.heap_setCell _ _ _ _ hn⟩
theorem Kept.setCell {F : Nat → Prop} {a w : World} (h : Kept F a w) {p : Addr} (hp : F p.block ∨ a.heap.size ≤ p.block) (u : Value) : Kept F a (w.setCell p u) :=
  h.trans (kept_set w p u) (fun i hi => by rw [hi]; exact hp)
theorem kept_sets (b : Nat) : ∀ (vs : List Value) (o : Nat) (w : World), Kept (fun k => k = b) w (w.setCells b o vs)
  | [], _, w => Kept.refl _ w
  | v :: r, o, w => by
    rw [World.setCells]
    exact (kept_set w ⟨b, o, none⟩ v).trans (kept_sets b r (o + 1) _) (fun i hi => .inl hi)
theorem Kept.setCells {F : Nat → Prop} {a w : World} (h : Kept F a w) {b : Nat} (hp : F b ∨ a.heap.size ≤ b) (o : Nat) (vs : List Value) : Kept F a (w.setCells b o vs) :=
  h.trans (kept_sets b vs o w) (fun i hi => by rw [hi]; exact hp)
theorem kept_grown {w w' : World} {row : Option Nat} (hg : w.grownBy w' row) : Kept (fun k => row = some k) w w' :=
  ⟨hg.os, hg.tape, hg.output, hg.size, fun k hk hn => hg.block k hk (fun e => hn e.symm)⟩
theorem Kept.grown {F : Nat → Prop} {a w w' : World} {row : Option Nat} (h : Kept F a w) (hg : w.grownBy w' row) (hr : ∀ k, row = some k → F k ∨ a.heap.size ≤ k) : Kept F a w' :=
  h.trans (kept_grown hg) hr
theorem Kept.cell {F : Nat → Prop} {w w' : World} (h : Kept F w w') {p : Addr} (hp : p.block < w.heap.size) (hn : ¬ F p.block) : w'.cell? p = w.cell? p := World.cell?_of_block (w := w) (h.block p.block hp hn)
theorem owns_kept {F : Nat → Prop} {w w' : World} {base : Nat} {e : TypeId} {size : Nat} {v : Value} {n : Nat} {xs : List Value} (h : w.ownsRow base e size v n xs) (hk : Kept F w w') (hn : ∀ k, v.ownBlock = some k → ¬ F k) : w'.ownsRow base e size v n xs := by
  refine ⟨h.1, ?_⟩
  rcases h.2 with hn0 | ⟨g, cap, cur, rfl, hb, hgg, rest⟩
  · exact .inl hn0
  · refine .inr ⟨g, cap, cur, rfl, hb, ?_, rest⟩
    rw [hk.block g (Array.getElem?_eq_some_iff.1 hgg).1 (hn g rfl)]
    exact hgg
/-! Rows of things of one size -/
theorem flat_length {α : Type} (f : α → List Value) (m : Nat) : ∀ l : List α, (∀ x ∈ l, (f x).length = m) → (l.flatMap f).length = l.length * m
  | [], _ => by simp
  | x :: l, h => by
    rw [List.flatMap_cons, List.length_append, h x (by simp), flat_length f m l (fun y hy => h y (by simp [hy])), List.length_cons, Nat.succ_mul, Nat.add_comm]
theorem flat_get {α : Type} (f : α → List Value) (m : Nat) : ∀ (l : List α) (i : Nat) (x : α) (j : Nat), (∀ x ∈ l, (f x).length = m) → l[i]? = some x → j < m → (l.flatMap f)[i * m + j]? = (f x)[j]?
  | [], i, x, j, _, h, _ => by simp at h
  | y :: l, 0, x, j, hl, h, hj => by
    simp at h
    subst h
    rw [List.flatMap_cons, Nat.zero_mul, Nat.zero_add, List.getElem?_append_left (by rw [hl y (by simp)]; exact hj)]
  | y :: l, i + 1, x, j, hl, h, hj => by
    have hy := hl y (by simp)
    rw [List.flatMap_cons, List.getElem?_append_right (by rw [hy, Nat.succ_mul]; omega), hy, show (i + 1) * m + j - m = i * m + j by rw [Nat.succ_mul]; omega]
    exact flat_get f m l i x j (fun z hz => hl z (by simp [hz])) (by simpa using h) hj
/-- What is laid into a row from a place on. -/
def overlay (L : List Value) : Nat → List Value → List Value
  | _, [] => L
  | o, v :: r => overlay (L.set o v) (o + 1) r
theorem overlay_get : ∀ (vs : List Value) (o : Nat) (L : List Value) (k : Nat), o + vs.length ≤ L.length → (overlay L o vs)[k]? = if o ≤ k ∧ k < o + vs.length then vs[k - o]? else L[k]?
  | [], o, L, k, _ => by
    rw [overlay, if_neg (by simp only [List.length_nil]; omega)]
  | v :: r, o, L, k, h => by
    simp only [List.length_cons] at h
    rw [overlay, overlay_get r (o + 1) (L.set o v) k (by rw [List.length_set]; omega)]
    by_cases h1 : o + 1 ≤ k ∧ k < o + 1 + r.length
    · rw [if_pos h1, if_pos (by simp only [List.length_cons]; omega), show k - o = (k - (o + 1)) + 1 by omega, List.getElem?_cons_succ]
    · rw [if_neg h1]
      by_cases h2 : o = k
      · subst h2
        rw [if_pos (by simp only [List.length_cons]; omega), Nat.sub_self, List.getElem?_cons_zero, List.getElem?_set_self (by omega)]
      · rw [if_neg (by simp only [List.length_cons]; omega), List.getElem?_set_ne h2]
end Go.Proofs.YtgaoeoijdpdjiaaGreatDoor

namespace Go.Proofs.YtgaoeoijdpdjiaaGreatDoor
/-- Is the set right? -/
def rightB (k b x t l : Int) : Bool := decide ((k = 1 ∨ k = 2) ∧ (b = 4 ∨ b = 8) ∧ (x = 4 ∨ x = 16) ∧ (1 ≤ t ∧ t ≤ 4) ∧ (1 ≤ l ∧ l ≤ 3))
end Go.Proofs.YtgaoeoijdpdjiaaGreatDoor

namespace Go.Proofs.YtgaoeoijdpdjiaaGreatDoor
/-- The pairs of Bytes and Wide, with the digits of a byte and of what they lack. -/
def Pair (b x e f : Nat) : Prop := (b = 4 ∧ x = 4 ∧ e = 4 ∧ f = 3) ∨ (b = 8 ∧ x = 4 ∧ e = 4 ∧ f = 4) ∨ (b = 4 ∧ x = 16 ∧ e = 2 ∧ f = 2) ∨ (b = 8 ∧ x = 16 ∧ e = 2 ∧ f = 2)
theorem pair_of_right {k b x t l : Int} (h : rightB k b x t l = true) : ∃ b' x' e f t' l' : Nat, Pair b' x' e f ∧ (k = 1 ∨ k = 2) ∧ b = (b' : Int) ∧ x = (x' : Int) ∧ t = (t' : Int) ∧ l = (l' : Int) ∧ 1 ≤ t' ∧ t' ≤ 4 ∧ 1 ≤ l' ∧ l' ≤ 3 := by
  simp only [rightB, decide_eq_true_eq] at h
  obtain ⟨hk, hb, hx, ⟨h1, h2⟩, h3, h4⟩ := h
  have et : t = ((t.toNat : Nat) : Int) := by omega
  have el : l = ((l.toNat : Nat) : Int) := by omega
  rcases hb with rfl | rfl <;> rcases hx with rfl | rfl
  · exact ⟨4, 4, 4, 3, t.toNat, l.toNat, by unfold Pair; omega, hk, rfl, rfl, et, el, by omega, by omega, by omega, by omega⟩
  · exact ⟨4, 16, 2, 2, t.toNat, l.toNat, by unfold Pair; omega, hk, rfl, rfl, et, el, by omega, by omega, by omega, by omega⟩
  · exact ⟨8, 4, 4, 4, t.toNat, l.toNat, by unfold Pair; omega, hk, rfl, rfl, et, el, by omega, by omega, by omega, by omega⟩
  · exact ⟨8, 16, 2, 2, t.toNat, l.toNat, by unfold Pair; omega, hk, rfl, rfl, et, el, by omega, by omega, by omega, by omega⟩
end Go.Proofs.YtgaoeoijdpdjiaaGreatDoor

namespace Go.Proofs.YtgaoeoijdpdjiaaGreatDoor
open Go.RowKit
/-- What 'pick' answers. -/
def pickZ (c n : Int) : Int := if c < 0 then (-(c + 1)) % n else c % n
theorem pickZ_bd (c n : Int) (h : 1 ≤ n) : 0 ≤ pickZ c n ∧ pickZ c n < n := by
  unfold pickZ
  split
  · exact ⟨Int.emod_nonneg _ (by omega), Int.emod_lt_of_pos _ (by omega)⟩
  · exact ⟨Int.emod_nonneg _ (by omega), Int.emod_lt_of_pos _ (by omega)⟩
theorem ret_int {k : IntKind} {a b : Int} (h : a = b) : Ending.returned (.int k a) = .returned (.int k b) := by rw [h]
/-- How many digits v has to the base b, with as many rounds as are allowed. -/
def cnt : Nat → Nat → Nat → Nat
  | 0, _, _ => 0
  | f + 1, v, b => if v = 0 then 0 else cnt f (v / b) b + 1
theorem cnt_zero (f b : Nat) : cnt f 0 b = 0 := by cases f <;> simp [cnt]
theorem cnt_step (f v b : Nat) (h : 0 < v) : cnt (f + 1) v b = cnt f (v / b) b + 1 := by simp [cnt]; omega
set_option maxHeartbeats 400000 in
theorem count_any (v b f : Nat) (w : World) (hb : 2 ≤ b) (hb2 : b ≤ 16) (hv : v < 2 ^ f) (hf : f ≤ 32) :
    Calls Tryz.prog 149 #[.int .i64 v, .int .i64 b] w fun e w' => e = .returned (.int .i64 (cnt f v b)) ∧ w' = w := by
  have H : Hid (v < 2 ^ f) := hv
  have hv2 : v < 4294967296 := Nat.lt_of_lt_of_le hv (by have := Nat.pow_le_pow_right (n := 2) (by omega) hf; simpa using this)
  clear hv
  go_enter Tryz.func149, Tryz.ntmps149
  go_wp2
  go_loop [0, 5] (fun t n => ∃ (u k g : Nat), u ≤ v ∧ k ≤ 32 ∧ k + g = f ∧ Hid (u < 2 ^ g ∧ cnt f v b = k + cnt g u b) ∧ t = .int .i64 u ∧ n = .int .i64 k) (fun t _ => (intOf t).toNat)
  case atStart => exact ⟨v, 0, f, Nat.le_refl _, by omega, by omega, ⟨H, by simp⟩, rfl, rfl⟩
  case round =>
    obtain ⟨u, k, g, hu, hk, hg, hh, rfl, rfl⟩ := hrel
    by_cases h0 : 0 < u
    · have hg0 : 0 < g := by
        rcases Nat.eq_zero_or_pos g with h | h
        · have := hh.out.1; subst h; simp at this; omega
        · exact h
      have hdv : u / b < u := Nat.div_lt_self h0 (by omega)
      have hkk : k < 32 := by omega
      have d0 : (0 : Int) ≤ (u : Int) / (b : Int) := Int.ediv_nonneg (by omega) (by omega)
      have d1 : (u : Int) / (b : Int) < (u : Int) := by exact_mod_cast hdv
      go_wp2
      go_round
      case rel =>
        obtain ⟨g, rfl⟩ : ∃ g', g = g' + 1 := ⟨g - 1, by omega⟩
        refine ⟨u / b, k + 1, g, by omega, by omega, by omega, ⟨?_, ?_⟩, by go_num, by go_num⟩
        · have := hh.out.1
          refine Nat.div_lt_of_lt_mul ?_
          refine Nat.lt_of_lt_of_le this ?_
          rw [Nat.pow_succ, Nat.mul_comm]; exact Nat.mul_le_mul_right _ hb
        · rw [hh.out.2, cnt_step _ _ _ h0]; omega
      case measure => simp [intOf]; omega
    · go_wp2
      go_ret
      have hz : u = 0 := by omega
      refine ⟨ret_int ?_, rfl⟩
      rw [hh.out.2, hz, cnt_zero]; rfl
end Go.Proofs.YtgaoeoijdpdjiaaGreatDoor

namespace Go.Proofs.YtgaoeoijdpdjiaaGreatDoor
open Go.RowKit
/-- How many digits of base x a byte has. -/
def each (x : Int) : Int := if x = 4 then 4 else 2
set_option maxHeartbeats 400000 in
theorem perByte_any (x : Int) (w : World) (hx : x = 4 ∨ x = 16) :
    Calls Tryz.prog 148 #[.int .i64 x] w fun e w' => e = .returned (.int .i64 (each x)) ∧ w' = w := by
  rcases hx with rfl | rfl
  · go_enter Tryz.func148, Tryz.ntmps148
    go_wp2_with (go_at_call 149; refine (count_any 255 4 8 _ (by decide) (by decide) (by decide) (by decide)).mono ?_; rintro e w' ⟨rfl, rfl⟩)
    go_ret
    exact ⟨rfl, rfl⟩
  · go_enter Tryz.func148, Tryz.ntmps148
    go_wp2_with (go_at_call 149; refine (count_any 255 16 8 _ (by decide) (by decide) (by decide) (by decide)).mono ?_; rintro e w' ⟨rfl, rfl⟩)
    go_ret
    exact ⟨rfl, rfl⟩
theorem perByte_4 (w : World) : Calls Tryz.prog 148 #[.int .i64 4] w fun e w' => e = .returned (.int .i64 4) ∧ w' = w := perByte_any 4 w (Or.inl rfl)
theorem perByte_16 (w : World) : Calls Tryz.prog 148 #[.int .i64 16] w fun e w' => e = .returned (.int .i64 2) ∧ w' = w := perByte_any 16 w (Or.inr rfl)
theorem count_48 (w : World) : Calls Tryz.prog 149 #[.int .i64 48, .int .i64 4] w fun e w' => e = .returned (.int .i64 3) ∧ w' = w := count_any 48 4 6 w (by decide) (by decide) (by decide) (by decide)
theorem count_96 (w : World) : Calls Tryz.prog 149 #[.int .i64 96, .int .i64 4] w fun e w' => e = .returned (.int .i64 4) ∧ w' = w := count_any 96 4 7 w (by decide) (by decide) (by decide) (by decide)
theorem count_120 (w : World) : Calls Tryz.prog 149 #[.int .i64 120, .int .i64 16] w fun e w' => e = .returned (.int .i64 2) ∧ w' = w := count_any 120 16 7 w (by decide) (by decide) (by decide) (by decide)
theorem count_240 (w : World) : Calls Tryz.prog 149 #[.int .i64 240, .int .i64 16] w fun e w' => e = .returned (.int .i64 2) ∧ w' = w := count_any 240 16 8 w (by decide) (by decide) (by decide) (by decide)
end Go.Proofs.YtgaoeoijdpdjiaaGreatDoor

namespace Go.Proofs.YtgaoeoijdpdjiaaGreatDoor
open Go.RowKit
theorem hideM {p : Prop} (h : p) : Hid p := h
/-- The worlds part in block g alone. -/
structure OnlyM (g : Nat) (w w' : World) : Prop where
  os : w'.os = w.os
  tape : w'.tape = w.tape
  output : w'.output = w.output
  size : w'.heap.size = w.heap.size
  block : ∀ k, k ≠ g → w'.heap[k]? = w.heap[k]?
/-- The variable of a set, in block B; the variable of the sizes. -/
def Five (w : World) (B : Nat) (k b x t l : Int) : Prop := w.cell? ⟨B, 0, none⟩ = some (.int .i64 k) ∧ w.cell? ⟨B, 1, none⟩ = some (.int .i64 b) ∧ w.cell? ⟨B, 2, none⟩ = some (.int .i64 x) ∧ w.cell? ⟨B, 3, none⟩ = some (.int .i64 t) ∧ w.cell? ⟨B, 4, none⟩ = some (.int .i64 l)
def Six (w : World) (B : Nat) (a b c d e f : Int) : Prop := w.cell? ⟨B, 0, none⟩ = some (.int .i64 a) ∧ w.cell? ⟨B, 1, none⟩ = some (.int .i64 b) ∧ w.cell? ⟨B, 2, none⟩ = some (.int .i64 c) ∧ w.cell? ⟨B, 3, none⟩ = some (.int .i64 d) ∧ w.cell? ⟨B, 4, none⟩ = some (.int .i64 e) ∧ w.cell? ⟨B, 5, none⟩ = some (.int .i64 f)
theorem five_below {w w' : World} {B C : Nat} {k b x t l : Int} (h : Five w B k b x t l) (hb : Below C w w') (hB : B < C) : Five w' B k b x t l :=
  ⟨(hb.cell hB).trans h.1, (hb.cell hB).trans h.2.1, (hb.cell hB).trans h.2.2.1, (hb.cell hB).trans h.2.2.2.1, (hb.cell hB).trans h.2.2.2.2⟩
theorem six_below {w w' : World} {B C : Nat} {k b x t l m : Int} (h : Six w B k b x t l m) (hb : Below C w w') (hB : B < C) : Six w' B k b x t l m :=
  ⟨(hb.cell hB).trans h.1, (hb.cell hB).trans h.2.1, (hb.cell hB).trans h.2.2.1, (hb.cell hB).trans h.2.2.2.1, (hb.cell hB).trans h.2.2.2.2.1, (hb.cell hB).trans h.2.2.2.2.2⟩
end Go.Proofs.YtgaoeoijdpdjiaaGreatDoor
