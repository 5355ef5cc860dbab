/-
  slices.Backward over the pending writes: what the loop over it is handed.
-/
import Derived.Test.YtgaoeoijdpdjiaaGreatDoorPart21
import Derived.RangeFuncNested
import Derived.RangeFuncBound
import Derived.RangeFuncCalls
import Derived.RangeFuncLeaves
import Derived.RangeFuncBox
import Derived.RangeFuncWrites
import Derived.OwnWalkIn
import Derived.TacticsInMore
import Derived.LoopNIn
import Derived.LoopIn
namespace Go.Proofs.YtgaoeoijdpdjiaaGreatDoor
open Go.RowKit
theorem wpIn_pre_sec {F : Fence} {m : Nat} {x : Operand} {d : Option Nat} {ty : TypeId} {ps : String} {af : Array Edge} {g : Option (Nat × Bool)} {a : Act} {w : World} {K : Act → World → Prop} {Q : Exit → Act → World → Prop} (h : (ptrCells w 32 (a.eval x)).isSome = true) :
    Oper.wpIn F m Tryz.prog { dst := d, op := .load 308 x, type := ty, pos := ps, after := af, guard := g } a w K Q = K (a.put d (.agg ((ptrCells w 32 (a.eval x)).getD []).toArray)) w := by
  obtain ⟨b, o, cs, hx, hcs, hl, hr⟩ := ptrCells_range h
  have hv := run_loadVar_mid (P := Tryz.prog) w b o 308 cs _ hr Tryz.underlying308 rfl (by rw [hl]; exact sizeSec)
  rw [hcs]
  unfold Oper.wpIn
  rw [Oper.semAt_plain _ _ _ (fun c => by simp)]
  unfold execOp
  simp only [hx, Instr.loadAt, Instr.sureAddr, Sem.run_bind, Sem.run_pure, Result.andThen_ok, hv]
  exact propext ⟨fun h => h.2, fun h => ⟨fun f hf => by simp [Oper.about] at hf, h⟩⟩
theorem wpIn_pre_wri {F : Fence} {m : Nat} {x : Operand} {d : Option Nat} {ty : TypeId} {ps : String} {af : Array Edge} {g : Option (Nat × Bool)} {a : Act} {w : World} {K : Act → World → Prop} {Q : Exit → Act → World → Prop} (h : (ptrCells w 33 (a.eval x)).isSome = true) :
    Oper.wpIn F m Tryz.prog { dst := d, op := .load 311 x, type := ty, pos := ps, after := af, guard := g } a w K Q = K (a.put d (.agg ((ptrCells w 33 (a.eval x)).getD []).toArray)) w := by
  obtain ⟨b, o, cs, hx, hcs, hl, hr⟩ := ptrCells_range h
  have hv := run_loadVar_mid (P := Tryz.prog) w b o 311 cs _ hr Tryz.underlying311 rfl (by rw [hl]; exact sizeWri)
  rw [hcs]
  unfold Oper.wpIn
  rw [Oper.semAt_plain _ _ _ (fun c => by simp)]
  unfold execOp
  simp only [hx, Instr.loadAt, Instr.sureAddr, Sem.run_bind, Sem.run_pure, Result.andThen_ok, hv]
  exact propext ⟨fun h => h.2, fun h => ⟨fun f hf => by simp [Oper.about] at hf, h⟩⟩
theorem wpIn_pre_store_sec {F : Fence} {m : Nat} {x y : Operand} {d : Option Nat} {ty : TypeId} {ps : String} {af : Array Edge} {g : Option (Nat × Bool)} {a : Act} {w : World} {K : Act → World → Prop} {Q : Exit → Act → World → Prop} (h : StoreOk w 32 (a.eval x) (a.eval y)) :
    Oper.wpIn F m Tryz.prog { dst := d, op := .store 308 x y, type := ty, pos := ps, after := af, guard := g } a w K Q = K (a.put d undef) (storeW w (a.eval x) (a.eval y)) := by
  obtain ⟨b, o, l, hx, hy, hl, h1, ht⟩ := h
  have hv := run_storeVar_mid (P := Tryz.prog) w b o 308 l.toArray (by rw [List.size_toArray, hl]; exact ht) (by rw [List.size_toArray, hl]; exact sizeSec) (all_oneCell_toArray h1)
  rw [hx, hy, storeW_at]
  unfold Oper.wpIn
  rw [Oper.semAt_plain _ _ _ (fun c => by simp)]
  unfold execOp
  simp only [hx, hy, Instr.storeAt, Instr.sureAddr, Sem.run_bind, Sem.run_pure, Result.andThen_ok, hv]
  exact propext ⟨fun h => h.2, fun h => ⟨fun f hf => by simp [Oper.about] at hf, h⟩⟩
theorem wpIn_pre_store_wri {F : Fence} {m : Nat} {x y : Operand} {d : Option Nat} {ty : TypeId} {ps : String} {af : Array Edge} {g : Option (Nat × Bool)} {a : Act} {w : World} {K : Act → World → Prop} {Q : Exit → Act → World → Prop} (h : StoreOk w 33 (a.eval x) (a.eval y)) :
    Oper.wpIn F m Tryz.prog { dst := d, op := .store 311 x y, type := ty, pos := ps, after := af, guard := g } a w K Q = K (a.put d undef) (storeW w (a.eval x) (a.eval y)) := by
  obtain ⟨b, o, l, hx, hy, hl, h1, ht⟩ := h
  have hv := run_storeVar_mid (P := Tryz.prog) w b o 311 l.toArray (by rw [List.size_toArray, hl]; exact ht) (by rw [List.size_toArray, hl]; exact sizeWri) (all_oneCell_toArray h1)
  rw [hx, hy, storeW_at]
  unfold Oper.wpIn
  rw [Oper.semAt_plain _ _ _ (fun c => by simp)]
  unfold execOp
  simp only [hx, hy, Instr.storeAt, Instr.sureAddr, Sem.run_bind, Sem.run_pure, Result.andThen_ok, hv]
  exact propext ⟨fun h => h.2, fun h => ⟨fun f hf => by simp [Oper.about] at hf, h⟩⟩
attribute [local go_sem] Oper.semAt_some ptrCells_at storeW_at
attribute [local go_sem ↓] wpIn_pre_sec wpIn_pre_wri wpIn_pre_store_sec wpIn_pre_store_wri
/-- The numbers of the entries, from the last on: the first m of them. -/
def revs (N m : Nat) : List Nat := (List.range m).map (fun j => N - 1 - j)
theorem revs_succ (N m : Nat) : revs N (m + 1) = revs N m ++ [N - 1 - m] := by simp [revs, List.range_succ]
abbrev Ent (N : Nat) := { q : Nat // q < N }
def entV (l : List (Nat × ByteArray)) (q : Nat) : Value := .agg (penC (l.getD q (0, ⟨#[]⟩))).toArray
/-- What a round keeps: the box that the iterator reads, and the row. -/
def KpB (Bs P : Nat) (A B : World) : Prop := (∀ i, B.cell? ⟨Bs, i, none⟩ = A.cell? ⟨Bs, i, none⟩) ∧ (∀ i, B.cell? ⟨P, i, none⟩ = A.cell? ⟨P, i, none⟩)
theorem KpB.refl (Bs P : Nat) (A : World) : KpB Bs P A A := ⟨fun _ => rfl, fun _ => rfl⟩
theorem KpB.trans {Bs P : Nat} {A B C : World} (h : KpB Bs P A B) (k : KpB Bs P B C) : KpB Bs P A C := ⟨fun i => (k.1 i).trans (h.1 i), fun i => (k.2 i).trans (h.2 i)⟩
theorem KpB.of_below {Bs P n : Nat} {A B : World} (h : Below n A B) (hs : Bs < n) (hn : P < n) : KpB Bs P A B := ⟨fun i => h.cell (p := ⟨Bs, i, none⟩) hs, fun i => h.cell (p := ⟨P, i, none⟩) hn⟩
theorem KpB.range {Bs P : Nat} {A B : World} (h : KpB Bs P A B) {o : Nat} {cs : List Value} (hr : A.rangeAt P o cs) : B.rangeAt P o cs := fun j v hv => (h.2 (o + j)).trans (hr j v hv)
theorem backward_any (a : Option Addr) (n c : Nat) (w : World) :
    Calls Tryz.prog 292 #[.slice a n c] w fun e w' => e = .returned (.func (.func 313) #[] #[.pointer (some ⟨w.heap.size, 0, none⟩)]) ∧ w' = w.alloc (.cells #[.slice a n c] 304) := by
  go_enter Tryz.func292, Tryz.ntmps292
  go_wp2
  go_ret
  exact ⟨rfl, rfl⟩
set_option maxRecDepth 100000 in
set_option maxHeartbeats 2000000 in
theorem backward1_in (n : Nat) (hn : 1 ≤ n) (lp Bs P N c : Nat) (a : Option Addr) (ha : 0 < N → a = some ⟨P, 0, none⟩) (l : List (Nat × ByteArray)) (hN : l.length = N) (hN2 : N ≤ 1000) (hc : N ≤ c) (hl : ∀ p ∈ l, (penC p).length = 33) (J Jx : List (Ent N) → World → Prop)
    (hY : ∀ pre x W, J pre W → pre.length < N → YieldAt Fence.wide (n - 1) Tryz.prog lp #[.int .i64 (x.1 : Nat), entV l x.1] W fun e W' =>
      (e = .returned (.bool true) ∧ J (pre ++ [x]) W' ∧ KpB Bs P W W') ∨ (e = .returned (.bool false) ∧ Jx (pre ++ [x]) W'))
    (W : World) (hBs : W.cell? ⟨Bs, 0, none⟩ = some (.slice a N c)) (hrow : ∀ (j : Nat) p, l[j]? = some p → W.rangeAt P (j * 33) (penC p)) (h0 : J [] W) :
    CallsIn Fence.wide n Tryz.prog 313 #[.func (.yield lp) #[] #[], .pointer (some ⟨Bs, 0, none⟩)] W fun e W' => (∃ v, e = .returned v) ∧
      ((∃ ys : List (Ent N), ys.map (·.1) = revs N N ∧ J ys W') ∨ (∃ pre : List (Ent N), (∃ m, m ≤ N ∧ pre.map (·.1) = revs N m) ∧ Jx pre W')) := by
  refine callsIn_of_wp Tryz.func313 rfl trivial ?_ rfl
  simp only [Tryz.ntmps313, List.size_toArray, List.length_cons, List.length_nil, Nat.reduceAdd, Nat.reduceSub, Array.replicate_succ, Array.replicate_zero, List.push_toArray, List.append_toArray, List.nil_append, List.cons_append]
  gi_wp2
  gi_loopw [3] (fun i wr => ∃ (m : Nat) (pre : List (Ent N)), m ≤ N ∧ i = .int .i64 ((N : Int) - 1 - m) ∧ pre.map (·.1) = revs N m ∧ J pre wr ∧ KpB Bs P W wr)
    (fun i _ => (intOf i + 1).toNat)
  case atStart => exact ⟨0, [], Nat.zero_le _, by simp, rfl, h0, KpB.refl _ _ _⟩
  case round =>
    obtain ⟨m, pre, hm, rfl, hpre, hJs, hnx⟩ := hrel
    have cs : wr.cell? ⟨Bs, 0, none⟩ = some (.slice a N c) := (hnx.1 0).trans hBs
    by_cases hlt : m < N
    · obtain rfl := ha (by omega)
      obtain ⟨q, hq⟩ : ∃ q : Nat, q + m + 1 = N := ⟨N - 1 - m, by omega⟩
      have hqi : ((N : Int) - 1 - m) = (q : Int) := by omega
      have hqn : N - 1 - m = q := by omega
      have hql : q < N := by omega
      obtain ⟨p, hp⟩ : ∃ p, l[q]? = some p := ⟨_, List.getElem?_eq_getElem (by omega)⟩
      have l1 := range_cellsAt (penC p) 33 wr P (q * 33) (hl p (List.mem_of_getElem? hp)) (hnx.range (hrow q p hp))
      have hen : entV l q = .agg (penC p).toArray := by rw [entV, List.getD_eq_getElem?_getD, hp]; rfl
      have hplen : pre.length < N := by
        have h := congrArg List.length hpre
        simp [revs] at h
        omega
      have HYq := hideK (fun V hV => hY pre ⟨q, hql⟩ V hV hplen)
      dsimp only at HYq
      rw [hen] at HYq
      have HPRE := hideK hpre
      have HQN := hideK hqn
      have i0 : (0 : Int) ≤ (q : Int) := by omega
      have i1 : (q : Int) < (N : Int) := by omega
      rw [hqi]
      clear hY hen hpre hqn hqi
      obtain ⟨fn, tmps, assign, body, hy, hR⟩ := HYq.out wr hJs
      gi_wp2
      refine hR.mono ?_
      rintro e W3 (⟨rfl, hJ3, hk3⟩ | ⟨rfl, hJx3⟩)
      · gi_wp2
        go_roundw
        case rel => exact ⟨m + 1, pre ++ [⟨q, hql⟩], by omega, by congr 1; omega, by rw [List.map_append, HPRE.out, revs_succ, HQN.out]; rfl, hJ3, hnx.trans hk3⟩
        case measure => simp [intOf]
      · gi_wp2
        refine bodyPost_ret (results_none rfl _ _ _) rfl ?_
        exact ⟨⟨_, rfl⟩, .inr ⟨_, ⟨m + 1, by omega, by rw [List.map_append, HPRE.out, revs_succ, HQN.out]; rfl⟩, hJx3⟩⟩
    · obtain rfl : m = N := by omega
      have hneg : ((m : Int) - 1 - m) = -1 := by omega
      rw [hneg]
      clear hneg
      gi_wp2
      go_end0
      exact ⟨⟨_, rfl⟩, .inl ⟨pre, hpre, hJs⟩⟩
theorem backward_stops (n : Nat) (hn : 1 ≤ n) (Bs P N c : Nat) (a : Option Addr) (ha : 0 < N → a = some ⟨P, 0, none⟩) (l : List (Nat × ByteArray)) (hN : l.length = N) (hN2 : N ≤ 1000) (hc : N ≤ c) (hl : ∀ p ∈ l, (penC p).length = 33) (w : World) (hs : Bs < w.heap.size) (hP : P < w.heap.size) (hBs : w.cell? ⟨Bs, 0, none⟩ = some (.slice a N c)) (hrow : ∀ (j : Nat) p, l[j]? = some p → w.rangeAt P (j * 33) (penC p)) :
    SeqStopsK Fence.wide n Tryz.prog 313 #[.pointer (some ⟨Bs, 0, none⟩)] (fun q : Ent N => #[.int .i64 (q.1 : Nat), entV l q.1]) (KpB Bs P) (fun ys => ys.map (·.1) = revs N N) (fun ys => ∃ m, m ≤ N ∧ ys.map (·.1) = revs N m) N w := fun lp J Jx W hW _ _ hY h0 =>
  backward1_in n hn lp Bs P N c a ha l hN hN2 hc hl J Jx hY W ((hW.cell (p := ⟨Bs, 0, none⟩) hs).trans hBs) (fun j p hp => (KpB.of_below hW hs hP).range (hrow j p hp)) h0
end Go.Proofs.YtgaoeoijdpdjiaaGreatDoor
