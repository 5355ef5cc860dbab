/-
  slices.Chunk at pairs of texts: what the loop over it is handed. A region that draws its order, inside a round of a loop over an iterator: by the law of what is held. Rows of numbers of one kind in memory; worlds that part in one block alone; the plain functions of the digest.
-/
import Derived.RangeFuncNested
import Derived.RangeFuncBound
import Derived.RangeFuncCalls
import Derived.RangeFuncLeaves
import Derived.RangeFuncBox
import Derived.Shelf.Abstract
import Derived.Shelf.RegionOpen
import Derived.WalkKit
import Derived.OwnWalkIn
import Derived.TacticsInMore
import Derived.LoopNIn
import Derived.LoopIn
import Derived.Maps.AppendAt
import Derived.Sort.QuietIn
import Derived.Test.YtcaojimmdcdpiaaDoorPart1
import Derived.Deep.RegionHeld3
import Derived.Deep.DrawnRows
import Derived.BigQuiet
import Derived.Deep.QuietTactic
namespace Go.Proofs.YtcaojimmdcdpiaaDoor
open Go.RowKit Go.Shelf

attribute [local go_sem] Oper.semAt_some

theorem grown_drewN (V : World) (m : Nat) : V.grownBy (World.drewN V m) none := ⟨rfl, rfl, rfl, Nat.le_refl _, fun _ _ _ => rfl⟩
theorem belowN {n : Nat} {w V : World} (h : Below n w V) (m : Nat) : Below n w (World.drewN V m) := ⟨h.os, h.tape, h.output, h.size, h.block⟩

/-- What a round keeps: the two boxes that the iterator reads. -/
def KpC (Bs Bn : Nat) (A B : World) : Prop := (∀ i, B.cell? ⟨Bs, i, none⟩ = A.cell? ⟨Bs, i, none⟩) ∧ (∀ i, B.cell? ⟨Bn, i, none⟩ = A.cell? ⟨Bn, i, none⟩)
theorem KpC.refl (Bs Bn : Nat) (A : World) : KpC Bs Bn A A := ⟨fun _ => rfl, fun _ => rfl⟩
theorem KpC.trans {Bs Bn : Nat} {A B C : World} (h : KpC Bs Bn A B) (k : KpC Bs Bn B C) : KpC Bs Bn A C := ⟨fun i => (k.1 i).trans (h.1 i), fun i => (k.2 i).trans (h.2 i)⟩
theorem KpC.drewN {Bs Bn : Nat} {A B : World} (h : KpC Bs Bn A B) (m : Nat) : KpC Bs Bn A (World.drewN B m) := ⟨h.1, h.2⟩
theorem KpC.of_below {Bs Bn n : Nat} {A B : World} (h : Below n A B) (hs : Bs < n) (hn : Bn < n) : KpC Bs Bn A B := ⟨fun i => h.cell (p := ⟨Bs, i, none⟩) hs, fun i => h.cell (p := ⟨Bn, i, none⟩) hn⟩

/-- How long the q-th pair is. -/
def pl (N q : Nat) : Nat := min 2 (N - 2 * q)
/-- The numbers of the pairs. -/
abbrev Pr (N : Nat) := { q : Nat // 2 * q < N }
/-- A pair, as the loop is handed it. -/
def pairV (bk o N : Nat) (q : Nat) : Value := .slice (some ⟨bk, o + 2 * q, none⟩) (pl N q) (pl N q)

theorem slice_from (bk o N c q : Nat) (hq : 2 * q < N) (hc : N ≤ c) (wx : World) : (Instr.slice 34 (.slice (some ⟨bk, o, none⟩) N c) (some (.int .i64 (2 * (q : Int)))) none none).run Tryd.prog wx = .ok (.slice (some ⟨bk, o + 2 * q, none⟩) (N - 2 * q) (c - 2 * q)) wx := by
  have a1 : (0 : Int) ≤ 2 * (q : Int) := by omega
  have a2 : 2 * (q : Int) ≤ (N : Int) := by omega
  have t1 : (2 * (q : Int)).toNat = 2 * q := by omega
  have n2 : ¬ (c = 2 * q) := by omega
  simp [go_sem, Tryd.underlying34, a1, a2, t1, n2] <;> omega
theorem slice_pair (bk o N c q e : Nat) (hq : 2 * q + e ≤ N) (he : 1 ≤ e) (hc : N ≤ c) (wx : World) : (Instr.slice 34 (.slice (some ⟨bk, o, none⟩) N c) (some (.int .i64 (2 * (q : Int)))) (some (.int .i64 (2 * (q : Int) + (e : Int)))) (some (.int .i64 (2 * (q : Int) + (e : Int))))).run Tryd.prog wx = .ok (.slice (some ⟨bk, o + 2 * q, none⟩) e e) wx := by
  have a1 : (0 : Int) ≤ 2 * (q : Int) := by omega
  have a2 : 2 * (q : Int) ≤ 2 * (q : Int) + (e : Int) := by omega
  have a3 : 2 * (q : Int) + (e : Int) ≤ (c : Int) := by omega
  have t1 : (2 * (q : Int)).toNat = 2 * q := by omega
  have t2 : (2 * (q : Int) + (e : Int)).toNat = 2 * q + e := by omega
  have n1 : ¬ (e = 0) := by omega
  simp [go_sem, Tryd.underlying34, a1, a2, a3, t1, t2, n1] <;> omega

set_option maxRecDepth 100000 in
set_option maxHeartbeats 2000000 in
theorem chunk1_in (n : Nat) (hn : 1 ≤ n) (lp Bs Bn bk o N c : Nat) (hN : N ≤ 1000) (hc : N ≤ c) (J Jx : List (Pr N) → World → Prop) (hJ : ∀ s V m, J s V → J s (World.drewN V m))
    (hY : ∀ pre x W, J pre W → pre.length < (N + 1) / 2 → YieldAt Fence.wide (n - 1) Tryd.prog lp #[pairV bk o N x.1] W fun e W' =>
      (e = .returned (.bool true) ∧ J (pre ++ [x]) W' ∧ KpC Bs Bn W W') ∨ (e = .returned (.bool false) ∧ Jx (pre ++ [x]) W'))
    (W : World) (hBs : W.cell? ⟨Bs, 0, none⟩ = some (.slice (some ⟨bk, o, none⟩) N c)) (hBn : W.cell? ⟨Bn, 0, none⟩ = some (.int .i64 2)) (h0 : J [] W) :
    CallsIn Fence.wide n Tryd.prog 152 #[.func (.yield lp) #[] #[], .pointer (some ⟨Bs, 0, none⟩), .pointer (some ⟨Bn, 0, none⟩)] W fun e W' => (∃ v, e = .returned v) ∧
      ((∃ ys : List (Pr N), ys.map (·.1) = List.range ((N + 1) / 2) ∧ J ys W') ∨ (∃ pre, True ∧ Jx pre W')) := by
  refine callsIn_of_wp Tryd.func152 rfl trivial ?_ rfl
  simp only [Tryd.ntmps152, List.size_toArray, List.length_cons, List.length_nil, Nat.reduceAdd, Nat.reduceSub, Array.replicate_succ, Array.replicate_zero, List.push_toArray, List.append_toArray, List.nil_append, List.cons_append]
  gi_wp2
  gi_loopw [4] (fun i wr => ∃ (q : Nat) (pre : List (Pr N)), 2 * q ≤ N + 1 ∧ i = .int .i64 (2 * q : Nat) ∧ pre.map (·.1) = List.range q ∧ J pre wr ∧ KpC Bs Bn W wr)
    (fun i _ => N + 1 - (intOf i).toNat)
  case atStart => exact ⟨0, [], Nat.zero_le _, rfl, rfl, h0, KpC.refl _ _ _⟩
  case round =>
    obtain ⟨q, pre, hq, rfl, hpre, hJs, hnx⟩ := hrel
    have cs : wr.cell? ⟨Bs, 0, none⟩ = some (.slice (some ⟨bk, o, none⟩) N c) := (hnx.1 0).trans hBs
    have cn : wr.cell? ⟨Bn, 0, none⟩ = some (.int .i64 2) := (hnx.2 0).trans hBn
    by_cases hlt : 2 * q < N
    · have i0 : (0 : Int) ≤ 2 * (q : Int) := by omega
      have i1 : 2 * (q : Int) ≤ (N : Int) := by omega
      have i2 : 2 * (q : Int) < (N : Int) := by omega
      have hplen : pre.length < (N + 1) / 2 := by
        have h := congrArg List.length hpre
        simp at h
        omega
      by_cases h2 : 2 * q + 2 ≤ N
      · have hpv : pairV bk o N q = .slice (some ⟨bk, o + 2 * q, none⟩) 2 2 := by
          have : pl N q = 2 := by unfold pl; omega
          unfold pairV; rw [this]
        have hsf := slice_from bk o N c q hlt hc
        obtain ⟨M, hM⟩ : ∃ M, N - 2 * q = M := ⟨_, rfl⟩
        rw [hM] at hsf
        have m1 : min (2 : Int) (M : Int) = 2 := by omega
        have m2 : (2 : Int) ≤ (M : Int) := by omega
        have m3 : ¬ ((M : Int) < 2) := by omega
        have hsp := slice_pair bk o N c q 2 (by omega) (by omega) hc
        simp only [Int.cast_ofNat_Int] at hsp
        have HYq := hide (fun V hV => hY pre ⟨q, hlt⟩ V hV hplen)
        dsimp only at HYq
        rw [hpv] at HYq
        clear hY hpv
        gi_wp2
        gi_quiet (fail)
        have hJV := hJ _ _ nq hJs
        have cs' : (wr.drewN nq).cell? ⟨Bs, 0, none⟩ = some (.slice (some ⟨bk, o, none⟩) N c) := cs
        have cn' : (wr.drewN nq).cell? ⟨Bn, 0, none⟩ = some (.int .i64 2) := cn
        have hnx' := hnx.drewN nq
        generalize wr.drewN nq = V at hJV cs' cn' hnx' ⊢
        obtain ⟨fn, tmps, assign, body, hy, hR⟩ := HYq.out V hJV
        gi_wp2
        refine hR.mono ?_
        rintro e W3 (⟨rfl, hJ3, hk3⟩ | ⟨rfl, hJx3⟩)
        · have cn3 : W3.cell? ⟨Bn, 0, none⟩ = some (.int .i64 2) := (hk3.2 0).trans cn'
          gi_wp2
          go_roundw
          case rel => exact ⟨q + 1, pre ++ [⟨q, hlt⟩], by omega, by go_num, by rw [List.map_append, hpre, List.range_succ]; rfl, hJ3, hnx'.trans hk3⟩
          case measure => simp [intOf]; omega
        · gi_wp2
          refine bodyPost_ret (results_none rfl _ _ _) rfl ?_
          exact ⟨⟨_, rfl⟩, .inr ⟨_, trivial, hJx3⟩⟩
      · have hpv : pairV bk o N q = .slice (some ⟨bk, o + 2 * q, none⟩) 1 1 := by
          have : pl N q = 1 := by unfold pl; omega
          unfold pairV; rw [this]
        have hsf := slice_from bk o N c q hlt hc
        rw [show N - 2 * q = 1 by omega] at hsf
        have hsp := slice_pair bk o N c q 1 (by omega) (by omega) hc
        simp only [Int.natCast_one] at hsp
        have HYq := hide (fun V hV => hY pre ⟨q, hlt⟩ V hV hplen)
        dsimp only at HYq
        rw [hpv] at HYq
        clear hY hpv
        gi_wp2
        gi_quiet (fail)
        have hJV := hJ _ _ nq hJs
        have cs' : (wr.drewN nq).cell? ⟨Bs, 0, none⟩ = some (.slice (some ⟨bk, o, none⟩) N c) := cs
        have cn' : (wr.drewN nq).cell? ⟨Bn, 0, none⟩ = some (.int .i64 2) := cn
        have hnx' := hnx.drewN nq
        generalize wr.drewN nq = V at hJV cs' cn' hnx' ⊢
        obtain ⟨fn, tmps, assign, body, hy, hR⟩ := HYq.out V hJV
        gi_wp2
        refine hR.mono ?_
        rintro e W3 (⟨rfl, hJ3, hk3⟩ | ⟨rfl, hJx3⟩)
        · have cn3 : W3.cell? ⟨Bn, 0, none⟩ = some (.int .i64 2) := (hk3.2 0).trans cn'
          gi_wp2
          go_roundw
          case rel => exact ⟨q + 1, pre ++ [⟨q, hlt⟩], by omega, by go_num, by rw [List.map_append, hpre, List.range_succ]; rfl, hJ3, hnx'.trans hk3⟩
          case measure => simp [intOf]; omega
        · gi_wp2
          refine bodyPost_ret (results_none rfl _ _ _) rfl ?_
          exact ⟨⟨_, rfl⟩, .inr ⟨_, trivial, hJx3⟩⟩
    · gi_wp2
      go_end0
      have hq2 : q = (N + 1) / 2 := by omega
      exact ⟨⟨_, rfl⟩, .inl ⟨pre, by rw [hpre, hq2], hJs⟩⟩

set_option maxHeartbeats 1000000 in
theorem chunk_any (a : Option Addr) (len cap : Nat) (w : World) :
    Calls Tryd.prog 141 #[.slice a len cap, .int .i64 2] w fun e w' => e = .returned (.func (.func 152) #[] #[.pointer (some ⟨w.heap.size, 0, none⟩), .pointer (some ⟨w.heap.size + 1, 0, none⟩)]) ∧ w' = (w.alloc (.cells #[.slice a len cap] 34)).alloc (.cells #[.int .i64 2] 3) := by
  go_enter Tryd.func141, Tryd.ntmps141
  go_wp2
  go_ret
  exact ⟨rfl, rfl⟩

theorem chunk_stops (n : Nat) (hn : 1 ≤ n) (Bs Bn bk o N c : Nat) (hN : N ≤ 1000) (hc : N ≤ c) (w : World) (hs : Bs < w.heap.size) (hb : Bn < w.heap.size) (hBs : w.cell? ⟨Bs, 0, none⟩ = some (.slice (some ⟨bk, o, none⟩) N c)) (hBn : w.cell? ⟨Bn, 0, none⟩ = some (.int .i64 2)) :
    SeqStopsK Fence.wide n Tryd.prog 152 #[.pointer (some ⟨Bs, 0, none⟩), .pointer (some ⟨Bn, 0, none⟩)] (fun q : Pr N => #[pairV bk o N q.1]) (KpC Bs Bn) (fun ys => ys.map (·.1) = List.range ((N + 1) / 2)) (fun _ => True) ((N + 1) / 2) w := fun l J Jx W hW hJ _ hY h0 =>
  chunk1_in n hn l Bs Bn bk o N c hN hc J Jx (fun s V m h => hJ s V (World.drewN V m) none h (grown_drewN V m) (fun r e => by cases e)) hY W ((hW.cell (p := ⟨Bs, 0, none⟩) hs).trans hBs) ((hW.cell (p := ⟨Bn, 0, none⟩) hb).trans hBn) h0
end Go.Proofs.YtcaojimmdcdpiaaDoor

namespace Go.Proofs.YtcaojimmdcdpiaaDoor
open Go.RowKit

theorem opIn_of_op {l n : Nat} {P : Program} {ops : Array Oper} {Q : Exit → Act → World → Prop} {i : Nat} {K K' : Act → World → Prop} {a : Act} {w : World}
    (hd : ∀ o, ops[i]? = some o → ∀ c, o.op ≠ .defer c) (hQ : ¬ LetsOut Q) (hK : ∀ a w, K a w → K' a w) (h : wpOp P ops Q i K a w) : wpOpIn (Fence.wide.inRound l) n P ops Q i K' a w := by
  unfold wpOp at h
  unfold wpOpIn
  cases ho : ops[i]? with
  | none => rw [ho] at h; exact hK _ _ h
  | some o =>
    rw [ho] at h
    dsimp only at h ⊢
    by_cases hw : Region.wanted o (yielded ops a.tmps) = true
    · rw [if_pos hw] at h ⊢
      rcases h with h | ⟨_, h⟩
      · refine ⟨fun _ _ => trivial, ?_⟩
        rw [Oper.semAt_plain _ _ _ (hd o ho)]
        unfold Oper.wp at h
        generalize (execOp a.eval o).run P w = r at h ⊢
        cases r with
        | ok nx w' =>
          cases nx with
          | value v => exact hK _ _ h
          | skip => exact hK _ _ h
          | defer d => exact hK _ _ h
          | enter f args =>
            refine ⟨fun hh => by simp [Fence.wide] at hh, ?_⟩
            refine CallsIn.inRound l (callsIn_wide.2 ?_)
            refine Calls.mono h ?_
            intro e w'' he
            cases e with
            | returned v => exact hK _ _ he
            | panicked c => exact he
            | outgrown => exact he
          | row rw' args =>
            refine ⟨fun hh => by simp [Fence.wide] at hh, ?_⟩
            intro c cs _
            obtain ⟨v, w'', r, s⟩ := h c cs
            exact ⟨v, w'', hK _ _ r, stepsIn_wide.2 s⟩
          | round _ _ _ _ _ => exact h.elim
          | _ => exact h.elim
        | halt st w' =>
          cases st with
          | panic v => exact h
          | _ => exact h.elim
      · exact absurd h hQ
    · rw [if_neg hw] at h ⊢
      exact ⟨fun _ _ => trivial, hK _ _ h⟩

theorem anyIn_of_any {l n : Nat} {P : Program} {md : Region.Mode} {ops : Array Oper} {Q : Exit → Act → World → Prop} (hd : ∀ (i : Nat) o, ops[i]? = some o → ∀ c, o.op ≠ .defer c) (hQ : ¬ LetsOut Q) :
    ∀ (fuel : Nat) (listed : Array Bool) (a : Act) (w : World), wpAny P md ops Q fuel listed a w → wpAnyIn (Fence.wide.inRound l) n P md ops Q fuel listed a w
  | 0, _, _, _, h => h
  | fuel + 1, _, _, _, h => ⟨h.1, fun i hi => opIn_of_op (hd i) hQ (fun a w hk => anyIn_of_any hd hQ fuel _ a w hk) (h.2 i hi)⟩

theorem regionIn_held {l n id : Nat} {P : Program} {ops : Array Oper} {Q : Exit → Act → World → Prop} {S : World → Prop} {a : Act} {w : World} (hm : P.follows .mixedOrders = true) (hd : ∀ o ∈ ops.toList, ∀ c, o.op ≠ .defer c) (hQ : ¬ LetsOut Q) (hS : S w.drew)
    (h : S w.drew → wpAnyH P .any ops Q S ops.size (Array.replicate ops.size false) a w.drew) : (Code.region id ops true).wpIn (Fence.wide.inRound l) n P Q a w :=
  wpIn_region_any hm (anyIn_of_any (fun i o ho => hd o (by rw [Array.mem_toList_iff]; exact Array.mem_of_getElem? ho)) hQ _ _ _ _ (wpAny_of_held _ _ _ _ (h hS)))
end Go.Proofs.YtcaojimmdcdpiaaDoor

namespace Go.Proofs.YtcaojimmdcdpiaaDoor
open Go.RowKit

/-- The i-th entry, 0 where there is none. -/
def at0 (l : List Nat) (i : Nat) : Nat := l.getD i 0

theorem at0_set_same (l : List Nat) (i z : Nat) (h : i < l.length) : at0 (l.set i z) i = z := by simp [at0, h]
theorem at0_set_other (l : List Nat) (i j z : Nat) (h : i ≠ j) : at0 (l.set i z) j = at0 l j := by simp [at0, List.getElem?_set_ne h]

/-- Block g is a row of the numbers L of kind k, and may be written. -/
def RowK (w : World) (g : Nat) (k : IntKind) (T : TypeId) (L : List Nat) : Prop := w.heap[g]? = some (.cells (L.map (fun n => Value.int k ((n : Nat) : Int))).toArray T (0, 0))

theorem RowK.cell {w : World} {g : Nat} {k : IntKind} {T : TypeId} {L : List Nat} (h : RowK w g k T L) {i : Nat} (hi : i < L.length) : w.cell? ⟨g, i, none⟩ = some (.int k ((at0 L i : Nat) : Int)) := by
  unfold RowK at h
  simp [World.cell?, h, hi, at0]
theorem RowK.free {w : World} {g : Nat} {k : IntKind} {T : TypeId} {L : List Nat} (h : RowK w g k T L) (i : Nat) : w.frozen? ⟨g, i, none⟩ = false := by
  unfold RowK at h
  simp [World.frozen?, h]
theorem RowK.lt {w : World} {g : Nat} {k : IntKind} {T : TypeId} {L : List Nat} (h : RowK w g k T L) : g < w.heap.size := lt_of_block h
theorem RowK.set {w : World} {g : Nat} {k : IntKind} {T : TypeId} {L : List Nat} (h : RowK w g k T L) (i z : Nat) : RowK (w.setCell ⟨g, i, none⟩ (.int k ((z : Nat) : Int))) g k T (L.set i z) := by
  have hlt := h.lt
  unfold RowK at h ⊢
  have h' : w.heap[g] = .cells (L.map (fun n => Value.int k ((n : Nat) : Int))).toArray T (0, 0) := by simpa [Array.getElem?_eq_getElem hlt] using h
  show (w.heap.modify g _)[g]? = _
  rw [Array.getElem?_eq_getElem (by simpa using hlt), Array.getElem_modify_self, h']
  simp
theorem RowK.below {w w' : World} {g B : Nat} {k : IntKind} {T : TypeId} {L : List Nat} (h : RowK w g k T L) (hb : Below B w w') (hg : g < B) : RowK w' g k T L := by
  unfold RowK at h ⊢
  rw [hb.block g hg]; exact h
theorem RowK.drew {w : World} {g : Nat} {k : IntKind} {T : TypeId} {L : List Nat} (h : RowK w g k T L) : RowK w.drew g k T L := h
theorem RowK.drewN {w : World} {g : Nat} {k : IntKind} {T : TypeId} {L : List Nat} (h : RowK w g k T L) (n : Nat) : RowK (w.drewN n) g k T L := h

/-- The worlds part in block g alone. -/
structure Only (g : Nat) (w w' : World) : Prop where
  os : w'.os = w.os
  tape : w'.tape = w.tape
  output : w'.output = w.output
  size : w'.heap.size = w.heap.size
  block : ∀ k, k ≠ g → w'.heap[k]? = w.heap[k]?

theorem Only.refl (g : Nat) (w : World) : Only g w w := ⟨rfl, rfl, rfl, rfl, fun _ _ => rfl⟩
theorem Only.trans {g : Nat} {a b c : World} (h : Only g a b) (k : Only g b c) : Only g a c :=
  ⟨k.os.trans h.os, k.tape.trans h.tape, k.output.trans h.output, k.size.trans h.size, fun i hi => (k.block i hi).trans (h.block i hi)⟩
theorem Only.setCell {g : Nat} {a w : World} (h : Only g a w) (i : Nat) (u : Value) : Only g a (w.setCell ⟨g, i, none⟩ u) :=
  h.trans ⟨rfl, rfl, rfl, by simp [World.setCell], fun _ hk => Below.heap_setCell _ _ _ _ hk⟩
theorem Only.drew {g : Nat} {a w : World} (h : Only g a w) : Only g a w.drew := ⟨h.os, h.tape, h.output, h.size, h.block⟩
theorem Only.drewN {g : Nat} {a w : World} (h : Only g a w) (n : Nat) : Only g a (w.drewN n) := ⟨h.os, h.tape, h.output, h.size, h.block⟩
theorem Only.below {g B : Nat} {a w w' : World} (h : Below B a w) (k : Only g w w') (hg : B ≤ g) : Below B a w' :=
  h.trans ⟨k.os, k.tape, k.output, by rw [k.size]; exact Nat.le_refl _, fun i hi => k.block i (by omega)⟩
theorem Only.cell {g : Nat} {w w' : World} (h : Only g w w') {p : Addr} (hp : p.block ≠ g) : w'.cell? p = w.cell? p := World.cell?_of_block (w := w) (h.block p.block hp)
theorem Only.row {g q : Nat} {w w' : World} {k : IntKind} {T : TypeId} {L : List Nat} (h : Only g w w') (r : RowK w q k T L) (hk : q ≠ g) : RowK w' q k T L := by
  unfold RowK at r ⊢
  rw [h.block q hk]; exact r

/-- The plain words of b bits: a sum, a word rotated. -/
def addW (b x y : Nat) : Nat := (x + y) % 2 ^ b
def rotW (b x k : Nat) : Nat := (x * 2 ^ k % 2 ^ b) ||| (x / 2 ^ (b - k))
/-- The numbers of bits of the columns. -/
def turnN (i : Nat) : Nat := if i = 0 then 5 else if i = 1 then 11 else if i = 2 then 19 else 26

theorem addW_lt (b x y : Nat) : addW b x y < 2 ^ b := Nat.mod_lt _ (Nat.two_pow_pos b)
theorem rotW_lt (b x k : Nat) (hx : x < 2 ^ b) : rotW b x k < 2 ^ b :=
  Nat.or_lt_two_pow (Nat.mod_lt _ (Nat.two_pow_pos b)) (Nat.lt_of_le_of_lt (Nat.div_le_self _ _) hx)

/-- A list of eight words, one behind the other, as the column i leaves it. -/
def colW (b i j : Nat) (L : List Nat) : List Nat :=
  (L.set i (addW b (at0 L i) (at0 L j))).set j (rotW b (at0 L j) (turnN i) ^^^ addW b (at0 L i) (at0 L j))

theorem colW_length (b i j : Nat) (L : List Nat) : (colW b i j L).length = L.length := by simp [colW]

/-- Every entry is a word. -/
def Words (b : Nat) (L : List Nat) : Prop := ∀ x ∈ L, x < 2 ^ b

theorem Words.at {b : Nat} {L : List Nat} (h : Words b L) (i : Nat) : at0 L i < 2 ^ b := by
  by_cases hi : i < L.length
  · simp only [at0, List.getD_eq_getElem?_getD, List.getElem?_eq_getElem hi, Option.getD_some]
    exact h _ (List.getElem_mem hi)
  · simp only [at0, List.getD_eq_getElem?_getD, List.getElem?_eq_none (by omega : L.length ≤ i), Option.getD_none]
    exact Nat.two_pow_pos b
theorem Words.set {b : Nat} {L : List Nat} (h : Words b L) (i z : Nat) (hz : z < 2 ^ b) : Words b (L.set i z) := by
  intro x hx
  rcases List.mem_or_eq_of_mem_set hx with hx | rfl
  · exact h x hx
  · exact hz
theorem Words.col {b : Nat} {L : List Nat} (h : Words b L) (i j : Nat) : Words b (colW b i j L) :=
  (h.set i _ (addW_lt _ _ _)).set j _ (Nat.xor_lt_two_pow (rotW_lt _ _ _ (h.at j)) (addW_lt _ _ _))

/-- The columns 0 to k - 1, each with the word four places on. -/
def mixTo (b : Nat) (L : List Nat) : Nat → List Nat
  | 0 => L
  | k + 1 => colW b k (k + 4) (mixTo b L k)
theorem mixTo_length (b : Nat) (L : List Nat) (k : Nat) : (mixTo b L k).length = L.length := by
  induction k with
  | zero => rfl
  | succ k ih => simp only [mixTo, colW_length, ih]
theorem mixTo_words (b : Nat) (L : List Nat) (k : Nat) (h : Words b L) : Words b (mixTo b L k) := by
  induction k with
  | zero => exact h
  | succ k ih => exact ih.col _ _
end Go.Proofs.YtcaojimmdcdpiaaDoor
