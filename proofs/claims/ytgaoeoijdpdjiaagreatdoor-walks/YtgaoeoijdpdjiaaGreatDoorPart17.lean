/-
  slices.Chunk at pairs of texts: what the loop over it is handed.
-/
import Derived.RangeFuncNested
import Derived.RangeFuncBound
import Derived.RangeFuncCalls
import Derived.RangeFuncLeaves
import Derived.RangeFuncBox
import Derived.Shelf.Abstract
import Derived.Shelf.RegionOpen
import Derived.WalkKit
import Derived.OwnWalkIn
import Derived.TacticsInMore
import Derived.LoopNIn
import Derived.LoopIn
import Derived.Maps.AppendAt
import Derived.Sort.QuietIn
import Derived.Test.YtgaoeoijdpdjiaaGreatDoorPart1
namespace Go.Proofs.YtgaoeoijdpdjiaaGreatDoor
open Go.RowKit Go.Shelf
attribute [local go_sem] Oper.semAt_some
theorem grown_drewN (V : World) (m : Nat) : V.grownBy (World.drewN V m) none := ⟨rfl, rfl, rfl, Nat.le_refl _, fun _ _ _ => rfl⟩
/-- What a round keeps: the two boxes that the iterator reads. -/
def KpC (Bs Bn : Nat) (A B : World) : Prop := (∀ i, B.cell? ⟨Bs, i, none⟩ = A.cell? ⟨Bs, i, none⟩) ∧ (∀ i, B.cell? ⟨Bn, i, none⟩ = A.cell? ⟨Bn, i, none⟩)
theorem KpC.refl (Bs Bn : Nat) (A : World) : KpC Bs Bn A A := ⟨fun _ => rfl, fun _ => rfl⟩
theorem KpC.trans {Bs Bn : Nat} {A B C : World} (h : KpC Bs Bn A B) (k : KpC Bs Bn B C) : KpC Bs Bn A C := ⟨fun i => (k.1 i).trans (h.1 i), fun i => (k.2 i).trans (h.2 i)⟩
theorem KpC.drewN {Bs Bn : Nat} {A B : World} (h : KpC Bs Bn A B) (m : Nat) : KpC Bs Bn A (World.drewN B m) := ⟨h.1, h.2⟩
theorem KpC.of_below {Bs Bn n : Nat} {A B : World} (h : Below n A B) (hs : Bs < n) (hn : Bn < n) : KpC Bs Bn A B := ⟨fun i => h.cell (p := ⟨Bs, i, none⟩) hs, fun i => h.cell (p := ⟨Bn, i, none⟩) hn⟩
/-- How long the q-th pair is. -/
def pl (N q : Nat) : Nat := min 2 (N - 2 * q)
/-- The numbers of the pairs. -/
abbrev Pr (N : Nat) := { q : Nat // 2 * q < N }
/-- A pair, as the loop is handed it. -/
def pairV (bk o N : Nat) (q : Nat) : Value := .slice (some ⟨bk, o + 2 * q, none⟩) (pl N q) (pl N q)
theorem slice_from (bk o N c q : Nat) (hq : 2 * q < N) (hc : N ≤ c) (wx : World) : (Instr.slice 50 (.slice (some ⟨bk, o, none⟩) N c) (some (.int .i64 (2 * (q : Int)))) none none).run Tryz.prog wx = .ok (.slice (some ⟨bk, o + 2 * q, none⟩) (N - 2 * q) (c - 2 * q)) wx := by
  have a1 : (0 : Int) ≤ 2 * (q : Int) := by omega
  have a2 : 2 * (q : Int) ≤ (N : Int) := by omega
  have t1 : (2 * (q : Int)).toNat = 2 * q := by omega
  have n2 : ¬ (c = 2 * q) := by omega
  simp [go_sem, Tryz.underlying50, a1, a2, t1, n2] <;> omega
theorem slice_pair (bk o N c q e : Nat) (hq : 2 * q + e ≤ N) (he : 1 ≤ e) (hc : N ≤ c) (wx : World) : (Instr.slice 50 (.slice (some ⟨bk, o, none⟩) N c) (some (.int .i64 (2 * (q : Int)))) (some (.int .i64 (2 * (q : Int) + (e : Int)))) (some (.int .i64 (2 * (q : Int) + (e : Int))))).run Tryz.prog wx = .ok (.slice (some ⟨bk, o + 2 * q, none⟩) e e) wx := by
  have a1 : (0 : Int) ≤ 2 * (q : Int) := by omega
  have a2 : 2 * (q : Int) ≤ 2 * (q : Int) + (e : Int) := by omega
  have a3 : 2 * (q : Int) + (e : Int) ≤ (c : Int) := by omega
  have t1 : (2 * (q : Int)).toNat = 2 * q := by omega
  have t2 : (2 * (q : Int) + (e : Int)).toNat = 2 * q + e := by omega
  have n1 : ¬ (e = 0) := by omega
  simp [go_sem, Tryz.underlying50, a1, a2, a3, t1, t2, n1] <;> omega
set_option maxRecDepth 100000 in
set_option maxHeartbeats 2000000 in
theorem chunk1_in (n : Nat) (hn : 1 ≤ n) (lp Bs Bn bk o N c : Nat) (hN : N ≤ 1000) (hc : N ≤ c) (J Jx : List (Pr N) → World → Prop) (hJ : ∀ s V m, J s V → J s (World.drewN V m))
    (hY : ∀ pre x W, J pre W → pre.length < (N + 1) / 2 → YieldAt Fence.wide (n - 1) Tryz.prog lp #[pairV bk o N x.1] W fun e W' =>
      (e = .returned (.bool true) ∧ J (pre ++ [x]) W' ∧ KpC Bs Bn W W') ∨ (e = .returned (.bool false) ∧ Jx (pre ++ [x]) W'))
    (W : World) (hBs : W.cell? ⟨Bs, 0, none⟩ = some (.slice (some ⟨bk, o, none⟩) N c)) (hBn : W.cell? ⟨Bn, 0, none⟩ = some (.int .i64 2)) (h0 : J [] W) :
    CallsIn Fence.wide n Tryz.prog 275 #[.func (.yield lp) #[] #[], .pointer (some ⟨Bs, 0, none⟩), .pointer (some ⟨Bn, 0, none⟩)] W fun e W' => (∃ v, e = .returned v) ∧
      ((∃ ys : List (Pr N), ys.map (·.1) = List.range ((N + 1) / 2) ∧ J ys W') ∨ (∃ pre, True ∧ Jx pre W')) := by
  refine callsIn_of_wp Tryz.func275 rfl trivial ?_ rfl
  simp only [Tryz.ntmps275, List.size_toArray, List.length_cons, List.length_nil, Nat.reduceAdd, Nat.reduceSub, Array.replicate_succ, Array.replicate_zero, List.push_toArray, List.append_toArray, List.nil_append, List.cons_append]
  gi_wp2
  gi_loopw [4] (fun i wr => ∃ (q : Nat) (pre : List (Pr N)), 2 * q ≤ N + 1 ∧ i = .int .i64 (2 * q : Nat) ∧ pre.map (·.1) = List.range q ∧ J pre wr ∧ KpC Bs Bn W wr)
    (fun i _ => N + 1 - (intOf i).toNat)
  case atStart => exact ⟨0, [], Nat.zero_le _, rfl, rfl, h0, KpC.refl _ _ _⟩
  case round =>
    obtain ⟨q, pre, hq, rfl, hpre, hJs, hnx⟩ := hrel
    have cs : wr.cell? ⟨Bs, 0, none⟩ = some (.slice (some ⟨bk, o, none⟩) N c) := (hnx.1 0).trans hBs
    have cn : wr.cell? ⟨Bn, 0, none⟩ = some (.int .i64 2) := (hnx.2 0).trans hBn
    by_cases hlt : 2 * q < N
    · have i0 : (0 : Int) ≤ 2 * (q : Int) := by omega
      have i1 : 2 * (q : Int) ≤ (N : Int) := by omega
      have i2 : 2 * (q : Int) < (N : Int) := by omega
      have hplen : pre.length < (N + 1) / 2 := by
        have h := congrArg List.length hpre
        simp at h
        omega
      by_cases h2 : 2 * q + 2 ≤ N
      · have hpv : pairV bk o N q = .slice (some ⟨bk, o + 2 * q, none⟩) 2 2 := by
          have : pl N q = 2 := by unfold pl; omega
          unfold pairV; rw [this]
        have hsf := slice_from bk o N c q hlt hc
        obtain ⟨M, hM⟩ : ∃ M, N - 2 * q = M := ⟨_, rfl⟩
        rw [hM] at hsf
        have m1 : min (2 : Int) (M : Int) = 2 := by omega
        have m2 : (2 : Int) ≤ (M : Int) := by omega
        have m3 : ¬ ((M : Int) < 2) := by omega
        have hsp := slice_pair bk o N c q 2 (by omega) (by omega) hc
        simp only [Int.cast_ofNat_Int] at hsp
        have HYq := hide (fun V hV => hY pre ⟨q, hlt⟩ V hV hplen)
        dsimp only at HYq
        rw [hpv] at HYq
        clear hY hpv
        gi_wp2
        gi_quiet (fail)
        have hJV := hJ _ _ nq hJs
        have cs' : (wr.drewN nq).cell? ⟨Bs, 0, none⟩ = some (.slice (some ⟨bk, o, none⟩) N c) := cs
        have cn' : (wr.drewN nq).cell? ⟨Bn, 0, none⟩ = some (.int .i64 2) := cn
        have hnx' := hnx.drewN nq
        generalize wr.drewN nq = V at hJV cs' cn' hnx' ⊢
        obtain ⟨fn, tmps, assign, body, hy, hR⟩ := HYq.out V hJV
        gi_wp2
        refine hR.mono ?_
        rintro e W3 (⟨rfl, hJ3, hk3⟩ | ⟨rfl, hJx3⟩)
        · have cn3 : W3.cell? ⟨Bn, 0, none⟩ = some (.int .i64 2) := (hk3.2 0).trans cn'
          gi_wp2
          go_roundw
          case rel => exact ⟨q + 1, pre ++ [⟨q, hlt⟩], by omega, by go_num, by rw [List.map_append, hpre, List.range_succ]; rfl, hJ3, hnx'.trans hk3⟩
          case measure => simp [intOf]; omega
        · gi_wp2
          refine bodyPost_ret (results_none rfl _ _ _) rfl ?_
          exact ⟨⟨_, rfl⟩, .inr ⟨_, trivial, hJx3⟩⟩
      · have hpv : pairV bk o N q = .slice (some ⟨bk, o + 2 * q, none⟩) 1 1 := by
          have : pl N q = 1 := by unfold pl; omega
          unfold pairV; rw [this]
        have hsf := slice_from bk o N c q hlt hc
        rw [show N - 2 * q = 1 by omega] at hsf
        have hsp := slice_pair bk o N c q 1 (by omega) (by omega) hc
        simp only [Int.natCast_one] at hsp
        have HYq := hide (fun V hV => hY pre ⟨q, hlt⟩ V hV hplen)
        dsimp only at HYq
        rw [hpv] at HYq
        clear hY hpv
        gi_wp2
        gi_quiet (fail)
        have hJV := hJ _ _ nq hJs
        have cs' : (wr.drewN nq).cell? ⟨Bs, 0, none⟩ = some (.slice (some ⟨bk, o, none⟩) N c) := cs
        have cn' : (wr.drewN nq).cell? ⟨Bn, 0, none⟩ = some (.int .i64 2) := cn
        have hnx' := hnx.drewN nq
        generalize wr.drewN nq = V at hJV cs' cn' hnx' ⊢
        obtain ⟨fn, tmps, assign, body, hy, hR⟩ := HYq.out V hJV
        gi_wp2
        refine hR.mono ?_
        rintro e W3 (⟨rfl, hJ3, hk3⟩ | ⟨rfl, hJx3⟩)
        · have cn3 : W3.cell? ⟨Bn, 0, none⟩ = some (.int .i64 2) := (hk3.2 0).trans cn'
          gi_wp2
          go_roundw
          case rel => exact ⟨q + 1, pre ++ [⟨q, hlt⟩], by omega, by go_num, by rw [List.map_append, hpre, List.range_succ]; rfl, hJ3, hnx'.trans hk3⟩
          case measure => simp [intOf]; omega
        · gi_wp2
          refine bodyPost_ret (results_none rfl _ _ _) rfl ?_
          exact ⟨⟨_, rfl⟩, .inr ⟨_, trivial, hJx3⟩⟩
    · gi_wp2
      go_end0
      have hq2 : q = (N + 1) / 2 := by omega
      exact ⟨⟨_, rfl⟩, .inl ⟨pre, by rw [hpre, hq2], hJs⟩⟩
set_option maxHeartbeats 1000000 in
theorem chunk_any (a : Option Addr) (len cap : Nat) (w : World) :
    Calls Tryz.prog 232 #[.slice a len cap, .int .i64 2] w fun e w' => e = .returned (.func (.func 275) #[] #[.pointer (some ⟨w.heap.size, 0, none⟩), .pointer (some ⟨w.heap.size + 1, 0, none⟩)]) ∧ w' = (w.alloc (.cells #[.slice a len cap] 50)).alloc (.cells #[.int .i64 2] 3) := by
  go_enter Tryz.func232, Tryz.ntmps232
  go_wp2
  go_ret
  exact ⟨rfl, rfl⟩
theorem chunk_stops (n : Nat) (hn : 1 ≤ n) (Bs Bn bk o N c : Nat) (hN : N ≤ 1000) (hc : N ≤ c) (w : World) (hs : Bs < w.heap.size) (hb : Bn < w.heap.size) (hBs : w.cell? ⟨Bs, 0, none⟩ = some (.slice (some ⟨bk, o, none⟩) N c)) (hBn : w.cell? ⟨Bn, 0, none⟩ = some (.int .i64 2)) :
    SeqStopsK Fence.wide n Tryz.prog 275 #[.pointer (some ⟨Bs, 0, none⟩), .pointer (some ⟨Bn, 0, none⟩)] (fun q : Pr N => #[pairV bk o N q.1]) (KpC Bs Bn) (fun ys => ys.map (·.1) = List.range ((N + 1) / 2)) (fun _ => True) ((N + 1) / 2) w := fun l J Jx W hW hJ _ hY h0 =>
  chunk1_in n hn l Bs Bn bk o N c hN hc J Jx (fun s V m h => hJ s V (World.drewN V m) none h (grown_drewN V m) (fun r e => by cases e)) hY W ((hW.cell (p := ⟨Bs, 0, none⟩) hs).trans hBs) ((hW.cell (p := ⟨Bn, 0, none⟩) hb).trans hBn) h0
end Go.Proofs.YtgaoeoijdpdjiaaGreatDoor
