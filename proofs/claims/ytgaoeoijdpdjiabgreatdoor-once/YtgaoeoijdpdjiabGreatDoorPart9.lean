/-
  What goes into a digest at a place of a tree, of a leaf: ofTree, ofLeaf. slices.Backward over the pending writes: what the loop over it is handed. A script of steps that comes in, opened. The statement's own knows: two digests, reckoned.
-/
import Derived.Test.YtgaoeoijdpdjiabGreatDoorPart8
import Derived.RangeFuncNested
import Derived.RangeFuncBound
import Derived.RangeFuncCalls
import Derived.RangeFuncLeaves
import Derived.RangeFuncBox
import Derived.RangeFuncWrites
import Derived.OwnWalkIn
import Derived.TacticsInMore
import Derived.LoopNIn
import Derived.LoopIn
import Derived.Test.YtgaoeoijdpdjiabGreatDoorPart1
import Derived.OpenShut
import Derived.ShutString
import Derived.ChangeOld
import Derived.Deep.Grids
namespace Go.Proofs.YtgaoeoijdpdjiabGreatDoor
open Go.RowKit

set_option maxHeartbeats 4000000 in
theorem ofTree_any (k b x t l tag : Int) (seed : ByteArray) (p0 p1 p2 p3 : Int) (bk o c : Nat) (xs : List ByteArray) (w : World) (hcells : ∀ (j : Nat) y, xs[j]? = some y → w.cell? ⟨bk, o + j, none⟩ = some (.string y)) (hbk : bk < w.heap.size) (hcap : xs.length ≤ c) (hN : xs.length ≤ 1000)
    (hk : k = 1 ∨ k = 2) (h1 : 1 ≤ b) (h2 : b ≤ 16) (hs : seed.size + (cat xs).size ≤ 300) (hT : Tn w) :
    Calls Tryz.prog 311 #[.agg #[.int .i64 k, .int .i64 b, .int .i64 x, .int .i64 t, .int .i64 l, .string seed, .int .i64 p0, .int .i64 p1, .int .i64 p2, .int .i64 p3], .int .i64 tag, .slice (some ⟨bk, o, none⟩) xs.length c] w fun e w' => e = .returned (.string (hv k b (numB 1 tag ++ (seed ++ (numB 1 p0 ++ (numB 4 p1 ++ cat xs)))))) ∧ Below w.heap.size w w' := by
  obtain ⟨W0, hW⟩ : ∃ W0, w.alloc (.cells #[.int .i64 k, .int .i64 b, .int .i64 x, .int .i64 t, .int .i64 l, .string seed, .int .i64 p0, .int .i64 p1, .int .i64 p2, .int .i64 p3] 344) = W0 := ⟨_, rfl⟩
  have HF := hide (show TenC w.heap.size W0 k b x t l seed p0 p1 p2 p3 by subst hW; refine ⟨?_, ?_, ?_, ?_, ?_, ?_, ?_, ?_, ?_, ?_⟩ <;> simp [go_sem])
  have HB := hide (show Below w.heap.size w W0 by subst hW; exact (Below.refl _ _).alloc (Nat.le_refl _) _)
  have hz : W0.heap.size = w.heap.size + 1 := by subst hW; simp
  have HT := hide (hT.on HB.out)
  have HS := hide (fun (V : World) (h : Below W0.heap.size W0 V) => (by
    obtain ⟨c0, c1, c2, c3, c4, c5, c6, c7, c8, c9⟩ := HF.out.below h (by omega)
    exact ⟨c0, c1, c2, c3, c4, c5, c6, c7, h⟩ : V.cell? ⟨w.heap.size, 0, none⟩ = some (.int .i64 k) ∧ V.cell? ⟨w.heap.size, 1, none⟩ = some (.int .i64 b) ∧ V.cell? ⟨w.heap.size, 2, none⟩ = some (.int .i64 x) ∧ V.cell? ⟨w.heap.size, 3, none⟩ = some (.int .i64 t) ∧ V.cell? ⟨w.heap.size, 4, none⟩ = some (.int .i64 l) ∧ V.cell? ⟨w.heap.size, 5, none⟩ = some (.string seed) ∧ V.cell? ⟨w.heap.size, 6, none⟩ = some (.int .i64 p0) ∧ V.cell? ⟨w.heap.size, 7, none⟩ = some (.int .i64 p1) ∧ Below W0.heap.size W0 V))
  have HO1 := hide (fun V : World => one_any p0 V)
  have HN4 := hide (fun V : World => number_any 4 p1 V (by decide))
  have HJ := hide (fun (V : World) (h : Below W0.heap.size W0 V) => join_any bk o c xs V (fun j y hj => (h.cell (p := ⟨bk, o + j, none⟩) (by show bk < W0.heap.size; omega)).trans ((HB.out.cell (p := ⟨bk, o + j, none⟩) hbk).trans (hcells j y hj))) (by have := h.size; omega) hN hcap (by omega))
  have HV := hide (fun (V : World) (h : Below W0.heap.size W0 V) => value_any k b x t l tag V.heap.size 0 4 [seed, numB 1 p0, numB 4 p1, cat xs] (V.alloc (.cells #[.string seed, .string (numB 1 p0), .string (numB 4 p1), .string (cat xs)] 9)) (by
    intro j y hj
    match j, hj with
    | 0, hj => simp at hj; subst hj; simp [go_sem]
    | 1, hj => simp at hj; subst hj; simp [go_sem]
    | 2, hj => simp at hj; subst hj; simp [go_sem]
    | 3, hj => simp at hj; subst hj; simp [go_sem]) (by simp) (by simp) (by simp) hk h1 h2 (by rw [cat_size]; simp [numB_size]; omega) ((HT.out.on h).alloc _))
  simp only [cat, append_empty, List.length_cons, List.length_nil, Nat.reduceAdd] at HV
  clear hcells hT
  go_enter Tryz.func311, Tryz.ntmps311
  go_wp2_with fail
  try rw [hW]
  go_region_held3 (fun V => V.cell? ⟨w.heap.size, 0, none⟩ = some (.int .i64 k) ∧ V.cell? ⟨w.heap.size, 1, none⟩ = some (.int .i64 b) ∧ V.cell? ⟨w.heap.size, 2, none⟩ = some (.int .i64 x) ∧ V.cell? ⟨w.heap.size, 3, none⟩ = some (.int .i64 t) ∧ V.cell? ⟨w.heap.size, 4, none⟩ = some (.int .i64 l) ∧ V.cell? ⟨w.heap.size, 5, none⟩ = some (.string seed) ∧ V.cell? ⟨w.heap.size, 6, none⟩ = some (.int .i64 p0) ∧ V.cell? ⟨w.heap.size, 7, none⟩ = some (.int .i64 p1) ∧ Below W0.heap.size W0 V) (first | exact HS.out _ hS4 | exact HS.out _ (hS3.alloc hS3.size _) | exact HS.out _ hS3 | exact HS.out _ hS2 | exact HS.out _ hS1 | exact HS.out _ (Below.refl _ _).drew) (first | (go_at_call 312; refine (HO1.out _).mono ?_; rintro e w1 ⟨rfl, hb1⟩; have hS1 := heldB (Below.refl W0.heap.size W0).drew hb1 (Nat.le_refl _)) | (go_at_call 160; refine (HN4.out _).mono ?_; rintro e w2 ⟨rfl, hb2⟩; have hS2 := heldB hS1 hb2 (Nat.le_refl _)) | (go_at_call 161; refine (HJ.out _ hS2).mono ?_; rintro e w3 ⟨rfl, hb3⟩; have hS3 := heldB hS2 hb3 (Nat.le_refl _)) | (go_at_call 248; refine (HV.out _ hS3).mono ?_; rintro e w4 ⟨rfl, hb4⟩; have hS4 := heldB (hS3.alloc hS3.size _) hb4 (Nat.le_refl _)))
  go_wp2
  go_ret
  exact ⟨rfl, HB.out.trans (hS4.mono (by omega))⟩

set_option maxHeartbeats 4000000 in
theorem ofLeaf_any (k b x t l tag : Int) (seed : ByteArray) (p0 p1 p2 p3 : Int) (bk o c : Nat) (xs : List ByteArray) (w : World) (hcells : ∀ (j : Nat) y, xs[j]? = some y → w.cell? ⟨bk, o + j, none⟩ = some (.string y)) (hbk : bk < w.heap.size) (hcap : xs.length ≤ c) (hN : xs.length ≤ 1000)
    (hk : k = 1 ∨ k = 2) (h1 : 1 ≤ b) (h2 : b ≤ 16) (hs : seed.size + (cat xs).size ≤ 200) (hT : Tn w) :
    Calls Tryz.prog 317 #[.agg #[.int .i64 k, .int .i64 b, .int .i64 x, .int .i64 t, .int .i64 l, .string seed, .int .i64 p0, .int .i64 p1, .int .i64 p2, .int .i64 p3], .int .i64 tag, .slice (some ⟨bk, o, none⟩) xs.length c] w fun e w' => e = .returned (.string (hv k b (numB 1 tag ++ (seed ++ (numB 1 p0 ++ (numB 4 p1 ++ (numB 1 p2 ++ cat xs))))))) ∧ Below w.heap.size w w' := by
  obtain ⟨W0, hW⟩ : ∃ W0, w.alloc (.cells #[.int .i64 k, .int .i64 b, .int .i64 x, .int .i64 t, .int .i64 l, .string seed, .int .i64 p0, .int .i64 p1, .int .i64 p2, .int .i64 p3] 344) = W0 := ⟨_, rfl⟩
  have HF := hide (show TenC w.heap.size W0 k b x t l seed p0 p1 p2 p3 by subst hW; refine ⟨?_, ?_, ?_, ?_, ?_, ?_, ?_, ?_, ?_, ?_⟩ <;> simp [go_sem])
  have HB := hide (show Below w.heap.size w W0 by subst hW; exact (Below.refl _ _).alloc (Nat.le_refl _) _)
  have hz : W0.heap.size = w.heap.size + 1 := by subst hW; simp
  have HT := hide (hT.on HB.out)
  have HS := hide (fun (V : World) (h : Below W0.heap.size W0 V) => (by
    obtain ⟨c0, c1, c2, c3, c4, c5, c6, c7, c8, c9⟩ := HF.out.below h (by omega)
    exact ⟨c0, c1, c2, c3, c4, c5, c6, c7, c8, c9, h⟩ : V.cell? ⟨w.heap.size, 0, none⟩ = some (.int .i64 k) ∧ V.cell? ⟨w.heap.size, 1, none⟩ = some (.int .i64 b) ∧ V.cell? ⟨w.heap.size, 2, none⟩ = some (.int .i64 x) ∧ V.cell? ⟨w.heap.size, 3, none⟩ = some (.int .i64 t) ∧ V.cell? ⟨w.heap.size, 4, none⟩ = some (.int .i64 l) ∧ V.cell? ⟨w.heap.size, 5, none⟩ = some (.string seed) ∧ V.cell? ⟨w.heap.size, 6, none⟩ = some (.int .i64 p0) ∧ V.cell? ⟨w.heap.size, 7, none⟩ = some (.int .i64 p1) ∧ V.cell? ⟨w.heap.size, 8, none⟩ = some (.int .i64 p2) ∧ V.cell? ⟨w.heap.size, 9, none⟩ = some (.int .i64 p3) ∧ Below W0.heap.size W0 V))
  have HO1 := hide (fun V : World => one_any p2 V)
  have HJ := hide (fun (V : World) (h : Below W0.heap.size W0 V) => join_any bk o c xs V (fun j y hj => (h.cell (p := ⟨bk, o + j, none⟩) (by show bk < W0.heap.size; omega)).trans ((HB.out.cell (p := ⟨bk, o + j, none⟩) hbk).trans (hcells j y hj))) (by have := h.size; omega) hN hcap (by omega))
  have HV := hide (fun (V : World) (h : Below W0.heap.size W0 V) => ofTree_any k b x t l tag seed p0 p1 p2 p3 V.heap.size 0 2 [numB 1 p2, cat xs] (V.alloc (.cells #[.string (numB 1 p2), .string (cat xs)] 9)) (by
    intro j y hj
    match j, hj with
    | 0, hj => simp at hj; subst hj; simp [go_sem]
    | 1, hj => simp at hj; subst hj; simp [go_sem]) (by simp) (by simp) (by simp) hk h1 h2 (by rw [cat_size]; simp [numB_size]; omega) ((HT.out.on h).alloc _))
  simp only [cat, append_empty, List.length_cons, List.length_nil, Nat.reduceAdd] at HV
  clear hcells hT
  go_enter Tryz.func317, Tryz.ntmps317
  go_wp2_with fail
  try rw [hW]
  go_region_held3 (fun V => V.cell? ⟨w.heap.size, 0, none⟩ = some (.int .i64 k) ∧ V.cell? ⟨w.heap.size, 1, none⟩ = some (.int .i64 b) ∧ V.cell? ⟨w.heap.size, 2, none⟩ = some (.int .i64 x) ∧ V.cell? ⟨w.heap.size, 3, none⟩ = some (.int .i64 t) ∧ V.cell? ⟨w.heap.size, 4, none⟩ = some (.int .i64 l) ∧ V.cell? ⟨w.heap.size, 5, none⟩ = some (.string seed) ∧ V.cell? ⟨w.heap.size, 6, none⟩ = some (.int .i64 p0) ∧ V.cell? ⟨w.heap.size, 7, none⟩ = some (.int .i64 p1) ∧ V.cell? ⟨w.heap.size, 8, none⟩ = some (.int .i64 p2) ∧ V.cell? ⟨w.heap.size, 9, none⟩ = some (.int .i64 p3) ∧ Below W0.heap.size W0 V) (first | exact HS.out _ hS4 | exact HS.out _ (hS3.alloc hS3.size _) | exact HS.out _ hS3 | exact HS.out _ hS1 | exact HS.out _ (Below.refl _ _).drew) (first | (go_at_call 312; refine (HO1.out _).mono ?_; rintro e w1 ⟨rfl, hb1⟩; have hS1 := heldB (Below.refl W0.heap.size W0).drew hb1 (Nat.le_refl _)) | (go_at_call 161; refine (HJ.out _ hS1).mono ?_; rintro e w3 ⟨rfl, hb3⟩; have hS3 := heldB hS1 hb3 (Nat.le_refl _)) | (go_at_call 311; refine (HV.out _ hS3).mono ?_; rintro e w4 ⟨rfl, hb4⟩; have hS4 := heldB (hS3.alloc hS3.size _) hb4 (Nat.le_refl _)))
  go_wp2
  go_ret
  exact ⟨rfl, HB.out.trans (hS4.mono (by omega))⟩
end Go.Proofs.YtgaoeoijdpdjiabGreatDoor

namespace Go.Proofs.YtgaoeoijdpdjiabGreatDoor
open Go.RowKit

theorem wpIn_pre_sec {F : Fence} {m : Nat} {x : Operand} {d : Option Nat} {ty : TypeId} {ps : String} {af : Array Edge} {g : Option (Nat × Bool)} {a : Act} {w : World} {K : Act → World → Prop} {Q : Exit → Act → World → Prop} (h : (ptrCells w 32 (a.eval x)).isSome = true) :
    Oper.wpIn F m Tryz.prog { dst := d, op := .load 239 x, type := ty, pos := ps, after := af, guard := g } a w K Q = K (a.put d (.agg ((ptrCells w 32 (a.eval x)).getD []).toArray)) w := by
  obtain ⟨b, o, cs, hx, hcs, hl, hr⟩ := ptrCells_range h
  have hv := run_loadVar_mid (P := Tryz.prog) w b o 239 cs _ hr Tryz.underlying239 rfl (by rw [hl]; exact sizeSec)
  rw [hcs]
  unfold Oper.wpIn
  rw [Oper.semAt_plain _ _ _ (fun c => by simp)]
  unfold execOp
  simp only [hx, Instr.loadAt, Instr.sureAddr, Sem.run_bind, Sem.run_pure, Result.andThen_ok, hv]
  exact propext ⟨fun h => h.2, fun h => ⟨fun f hf => by simp [Oper.about] at hf, h⟩⟩
theorem wpIn_pre_wri {F : Fence} {m : Nat} {x : Operand} {d : Option Nat} {ty : TypeId} {ps : String} {af : Array Edge} {g : Option (Nat × Bool)} {a : Act} {w : World} {K : Act → World → Prop} {Q : Exit → Act → World → Prop} (h : (ptrCells w 33 (a.eval x)).isSome = true) :
    Oper.wpIn F m Tryz.prog { dst := d, op := .load 241 x, type := ty, pos := ps, after := af, guard := g } a w K Q = K (a.put d (.agg ((ptrCells w 33 (a.eval x)).getD []).toArray)) w := by
  obtain ⟨b, o, cs, hx, hcs, hl, hr⟩ := ptrCells_range h
  have hv := run_loadVar_mid (P := Tryz.prog) w b o 241 cs _ hr Tryz.underlying241 rfl (by rw [hl]; exact sizeWri)
  rw [hcs]
  unfold Oper.wpIn
  rw [Oper.semAt_plain _ _ _ (fun c => by simp)]
  unfold execOp
  simp only [hx, Instr.loadAt, Instr.sureAddr, Sem.run_bind, Sem.run_pure, Result.andThen_ok, hv]
  exact propext ⟨fun h => h.2, fun h => ⟨fun f hf => by simp [Oper.about] at hf, h⟩⟩
theorem wpIn_pre_store_sec {F : Fence} {m : Nat} {x y : Operand} {d : Option Nat} {ty : TypeId} {ps : String} {af : Array Edge} {g : Option (Nat × Bool)} {a : Act} {w : World} {K : Act → World → Prop} {Q : Exit → Act → World → Prop} (h : StoreOk w 32 (a.eval x) (a.eval y)) :
    Oper.wpIn F m Tryz.prog { dst := d, op := .store 239 x y, type := ty, pos := ps, after := af, guard := g } a w K Q = K (a.put d undef) (storeW w (a.eval x) (a.eval y)) := by
  obtain ⟨b, o, l, hx, hy, hl, h1, ht⟩ := h
  have hv := run_storeVar_mid (P := Tryz.prog) w b o 239 l.toArray (by rw [List.size_toArray, hl]; exact ht) (by rw [List.size_toArray, hl]; exact sizeSec) (all_oneCell_toArray h1)
  rw [hx, hy, storeW_at]
  unfold Oper.wpIn
  rw [Oper.semAt_plain _ _ _ (fun c => by simp)]
  unfold execOp
  simp only [hx, hy, Instr.storeAt, Instr.sureAddr, Sem.run_bind, Sem.run_pure, Result.andThen_ok, hv]
  exact propext ⟨fun h => h.2, fun h => ⟨fun f hf => by simp [Oper.about] at hf, h⟩⟩
theorem wpIn_pre_store_wri {F : Fence} {m : Nat} {x y : Operand} {d : Option Nat} {ty : TypeId} {ps : String} {af : Array Edge} {g : Option (Nat × Bool)} {a : Act} {w : World} {K : Act → World → Prop} {Q : Exit → Act → World → Prop} (h : StoreOk w 33 (a.eval x) (a.eval y)) :
    Oper.wpIn F m Tryz.prog { dst := d, op := .store 241 x y, type := ty, pos := ps, after := af, guard := g } a w K Q = K (a.put d undef) (storeW w (a.eval x) (a.eval y)) := by
  obtain ⟨b, o, l, hx, hy, hl, h1, ht⟩ := h
  have hv := run_storeVar_mid (P := Tryz.prog) w b o 241 l.toArray (by rw [List.size_toArray, hl]; exact ht) (by rw [List.size_toArray, hl]; exact sizeWri) (all_oneCell_toArray h1)
  rw [hx, hy, storeW_at]
  unfold Oper.wpIn
  rw [Oper.semAt_plain _ _ _ (fun c => by simp)]
  unfold execOp
  simp only [hx, hy, Instr.storeAt, Instr.sureAddr, Sem.run_bind, Sem.run_pure, Result.andThen_ok, hv]
  exact propext ⟨fun h => h.2, fun h => ⟨fun f hf => by simp [Oper.about] at hf, h⟩⟩

attribute [local go_sem] Oper.semAt_some ptrCells_at storeW_at
attribute [local go_sem ↓] wpIn_pre_sec wpIn_pre_wri wpIn_pre_store_sec wpIn_pre_store_wri

/-- The numbers of the entries, from the last on: the first m of them. -/
def revs (N m : Nat) : List Nat := (List.range m).map (fun j => N - 1 - j)
theorem revs_succ (N m : Nat) : revs N (m + 1) = revs N m ++ [N - 1 - m] := by simp [revs, List.range_succ]
abbrev Ent (N : Nat) := { q : Nat // q < N }
def entV (l : List (Nat × ByteArray)) (q : Nat) : Value := .agg (penC (l.getD q (0, ⟨#[]⟩))).toArray
/-- What a round keeps: the box that the iterator reads, and the row. -/
def KpB (Bs P : Nat) (A B : World) : Prop := (∀ i, B.cell? ⟨Bs, i, none⟩ = A.cell? ⟨Bs, i, none⟩) ∧ (∀ i, B.cell? ⟨P, i, none⟩ = A.cell? ⟨P, i, none⟩)
theorem KpB.refl (Bs P : Nat) (A : World) : KpB Bs P A A := ⟨fun _ => rfl, fun _ => rfl⟩
theorem KpB.trans {Bs P : Nat} {A B C : World} (h : KpB Bs P A B) (k : KpB Bs P B C) : KpB Bs P A C := ⟨fun i => (k.1 i).trans (h.1 i), fun i => (k.2 i).trans (h.2 i)⟩
theorem KpB.of_below {Bs P n : Nat} {A B : World} (h : Below n A B) (hs : Bs < n) (hn : P < n) : KpB Bs P A B := ⟨fun i => h.cell (p := ⟨Bs, i, none⟩) hs, fun i => h.cell (p := ⟨P, i, none⟩) hn⟩
theorem KpB.range {Bs P : Nat} {A B : World} (h : KpB Bs P A B) {o : Nat} {cs : List Value} (hr : A.rangeAt P o cs) : B.rangeAt P o cs := fun j v hv => (h.2 (o + j)).trans (hr j v hv)

theorem backward_any (a : Option Addr) (n c : Nat) (w : World) :
    Calls Tryz.prog 253 #[.slice a n c] w fun e w' => e = .returned (.func (.func 302) #[] #[.pointer (some ⟨w.heap.size, 0, none⟩)]) ∧ w' = w.alloc (.cells #[.slice a n c] 180) := by
  go_enter Tryz.func253, Tryz.ntmps253
  go_wp2
  go_ret
  exact ⟨rfl, rfl⟩

set_option maxRecDepth 100000 in
set_option maxHeartbeats 2000000 in
theorem backward1_in (n : Nat) (hn : 1 ≤ n) (lp Bs P N c : Nat) (a : Option Addr) (ha : 0 < N → a = some ⟨P, 0, none⟩) (l : List (Nat × ByteArray)) (hN : l.length = N) (hN2 : N ≤ 1000) (hc : N ≤ c) (hl : ∀ p ∈ l, (penC p).length = 33) (J Jx : List (Ent N) → World → Prop)
    (hY : ∀ pre x W, J pre W → pre.length < N → YieldAt Fence.wide (n - 1) Tryz.prog lp #[.int .i64 (x.1 : Nat), entV l x.1] W fun e W' =>
      (e = .returned (.bool true) ∧ J (pre ++ [x]) W' ∧ KpB Bs P W W') ∨ (e = .returned (.bool false) ∧ Jx (pre ++ [x]) W'))
    (W : World) (hBs : W.cell? ⟨Bs, 0, none⟩ = some (.slice a N c)) (hrow : ∀ (j : Nat) p, l[j]? = some p → W.rangeAt P (j * 33) (penC p)) (h0 : J [] W) :
    CallsIn Fence.wide n Tryz.prog 302 #[.func (.yield lp) #[] #[], .pointer (some ⟨Bs, 0, none⟩)] W fun e W' => (∃ v, e = .returned v) ∧
      ((∃ ys : List (Ent N), ys.map (·.1) = revs N N ∧ J ys W') ∨ (∃ pre : List (Ent N), (∃ m, m ≤ N ∧ pre.map (·.1) = revs N m) ∧ Jx pre W')) := by
  refine callsIn_of_wp Tryz.func302 rfl trivial ?_ rfl
  simp only [Tryz.ntmps302, List.size_toArray, List.length_cons, List.length_nil, Nat.reduceAdd, Nat.reduceSub, Array.replicate_succ, Array.replicate_zero, List.push_toArray, List.append_toArray, List.nil_append, List.cons_append]
  gi_wp2
  gi_loopw [3] (fun i wr => ∃ (m : Nat) (pre : List (Ent N)), m ≤ N ∧ i = .int .i64 ((N : Int) - 1 - m) ∧ pre.map (·.1) = revs N m ∧ J pre wr ∧ KpB Bs P W wr)
    (fun i _ => (intOf i + 1).toNat)
  case atStart => exact ⟨0, [], Nat.zero_le _, by simp, rfl, h0, KpB.refl _ _ _⟩
  case round =>
    obtain ⟨m, pre, hm, rfl, hpre, hJs, hnx⟩ := hrel
    have cs : wr.cell? ⟨Bs, 0, none⟩ = some (.slice a N c) := (hnx.1 0).trans hBs
    by_cases hlt : m < N
    · obtain rfl := ha (by omega)
      obtain ⟨q, hq⟩ : ∃ q : Nat, q + m + 1 = N := ⟨N - 1 - m, by omega⟩
      have hqi : ((N : Int) - 1 - m) = (q : Int) := by omega
      have hqn : N - 1 - m = q := by omega
      have hql : q < N := by omega
      obtain ⟨p, hp⟩ : ∃ p, l[q]? = some p := ⟨_, List.getElem?_eq_getElem (by omega)⟩
      have l1 := range_cellsAt (penC p) 33 wr P (q * 33) (hl p (List.mem_of_getElem? hp)) (hnx.range (hrow q p hp))
      have hen : entV l q = .agg (penC p).toArray := by rw [entV, List.getD_eq_getElem?_getD, hp]; rfl
      have hplen : pre.length < N := by
        have h := congrArg List.length hpre
        simp [revs] at h
        omega
      have HYq := hideK (fun V hV => hY pre ⟨q, hql⟩ V hV hplen)
      dsimp only at HYq
      rw [hen] at HYq
      have HPRE := hideK hpre
      have HQN := hideK hqn
      have i0 : (0 : Int) ≤ (q : Int) := by omega
      have i1 : (q : Int) < (N : Int) := by omega
      rw [hqi]
      clear hY hen hpre hqn hqi
      obtain ⟨fn, tmps, assign, body, hy, hR⟩ := HYq.out wr hJs
      gi_wp2
      refine hR.mono ?_
      rintro e W3 (⟨rfl, hJ3, hk3⟩ | ⟨rfl, hJx3⟩)
      · gi_wp2
        go_roundw
        case rel => exact ⟨m + 1, pre ++ [⟨q, hql⟩], by omega, by congr 1; omega, by rw [List.map_append, HPRE.out, revs_succ, HQN.out]; rfl, hJ3, hnx.trans hk3⟩
        case measure => simp [intOf]
      · gi_wp2
        refine bodyPost_ret (results_none rfl _ _ _) rfl ?_
        exact ⟨⟨_, rfl⟩, .inr ⟨_, ⟨m + 1, by omega, by rw [List.map_append, HPRE.out, revs_succ, HQN.out]; rfl⟩, hJx3⟩⟩
    · obtain rfl : m = N := by omega
      have hneg : ((m : Int) - 1 - m) = -1 := by omega
      rw [hneg]
      clear hneg
      gi_wp2
      go_end0
      exact ⟨⟨_, rfl⟩, .inl ⟨pre, hpre, hJs⟩⟩

theorem backward_stops (n : Nat) (hn : 1 ≤ n) (Bs P N c : Nat) (a : Option Addr) (ha : 0 < N → a = some ⟨P, 0, none⟩) (l : List (Nat × ByteArray)) (hN : l.length = N) (hN2 : N ≤ 1000) (hc : N ≤ c) (hl : ∀ p ∈ l, (penC p).length = 33) (w : World) (hs : Bs < w.heap.size) (hP : P < w.heap.size) (hBs : w.cell? ⟨Bs, 0, none⟩ = some (.slice a N c)) (hrow : ∀ (j : Nat) p, l[j]? = some p → w.rangeAt P (j * 33) (penC p)) :
    SeqStopsK Fence.wide n Tryz.prog 302 #[.pointer (some ⟨Bs, 0, none⟩)] (fun q : Ent N => #[.int .i64 (q.1 : Nat), entV l q.1]) (KpB Bs P) (fun ys => ys.map (·.1) = revs N N) (fun ys => ∃ m, m ≤ N ∧ ys.map (·.1) = revs N m) N w := fun lp J Jx W hW _ _ hY h0 =>
  backward1_in n hn lp Bs P N c a ha l hN hN2 hc hl J Jx hY W ((hW.cell (p := ⟨Bs, 0, none⟩) hs).trans hBs) (fun j p hp => (KpB.of_below hW hs hP).range (hrow j p hp)) h0
end Go.Proofs.YtgaoeoijdpdjiabGreatDoor

namespace Go.Proofs.YtgaoeoijdpdjiabGreatDoor
open Go.ChangeShapes Go.WideShapes Go.ChangeAt Go.RowKit Go.Deep
open Go.ChangeMaps (open_string shut_string)

/-- A step of a script. -/
structure StepDJ where
  kd : Int
  a : Int
  b : Int
  t : ByteArray
  kv : Value
  K : List Bool
structure StepOkJ (w : World) (d : StepDJ) : Prop where
  kd1 : -9223372036854775808 ≤ d.kd
  kd2 : d.kd ≤ 9223372036854775807
  a1 : -9223372036854775808 ≤ d.a
  a2 : d.a ≤ 9223372036854775807
  b1 : -9223372036854775808 ≤ d.b
  b2 : d.b ≤ 9223372036854775807
  ts : d.t.size ≤ maxLen
  kb : BoolsAt w d.kv d.K
  kl : d.K.length ≤ maxLen
  ko : ∀ b o l c, d.kv = .slice (some ⟨b, o, none⟩) l c → 0 < l → b < w.heap.size
/-- A script lies in memory. -/
def ScriptAtJ (w : World) (v : Value) (l : List StepDJ) : Prop := ((∃ a c, v = .slice a 0 c) ∧ l = []) ∨ ∃ b o cap, v = .slice (some ⟨b, o, none⟩) l.length cap ∧ l.length ≤ cap ∧ b < w.heap.size ∧ ∀ j d, l[j]? = some d → StepOkJ w d ∧ w.cell? ⟨b, o + j * 5, none⟩ = some (.int .i64 d.kd) ∧ w.cell? ⟨b, o + j * 5 + 1, none⟩ = some (.int .i64 d.a) ∧ w.cell? ⟨b, o + j * 5 + 2, none⟩ = some (.int .i64 d.b) ∧ w.cell? ⟨b, o + j * 5 + 3, none⟩ = some (.string d.t) ∧ w.cell? ⟨b, o + j * 5 + 4, none⟩ = some d.kv
theorem ScriptAtJ.len {w : World} {v : Value} {l : List StepDJ} (h : ScriptAtJ w v l) : ∃ a c, v = .slice a l.length c := by
  rcases h with ⟨⟨a, c, rfl⟩, rfl⟩ | ⟨b, o, cap, rfl, _⟩
  · exact ⟨a, c, rfl⟩
  · exact ⟨_, _, rfl⟩
theorem cellsStepJ : Tryz.prog.cellsOf 53 = 5 := by kernel_rfl
theorem cellsBoolsJ : Tryz.prog.cellsOf 51 = 1 := by kernel_rfl
theorem cellsBoolJ : Tryz.prog.cellsOf 4 = 1 := by kernel_rfl

theorem open_keepJ {H : Type} {enc : TypeId × Value → H} {W : World} {base fuel : Nat} {held : Bool} {c : Value} {x : DataW H × List MemPlace}
    (h : DataW.trod enc Tryz.prog W base (fun _ => true) held fuel 51 [c] = some x) :
    ∃ K, BoolsAt W c K ∧ K.length ≤ maxLen ∧ ∀ b o l cp, c = .slice (some ⟨b, o, none⟩) l cp → 0 < l → b < W.heap.size := by
  rcases open_bools Tryz.underlying51 Tryz.underlying4 cellsBoolJ h with ⟨h0, _⟩ | ⟨a, len, cap, B, hc, _, hl, hm, _, hcell⟩
  · simp at h0
    subst h0
    exact ⟨[], .inl ⟨⟨_, _, rfl⟩, rfl⟩, by simp, fun b o l cp e h0 => by simp at e⟩
  · simp at hc
    subst hc
    by_cases h0 : len = 0
    · subst h0
      exact ⟨[], .inl ⟨⟨_, _, rfl⟩, rfl⟩, by simp, fun b o l cp e h0 => by simp at e; omega⟩
    · have hs : a.spot = none := by
        have := World.cell?_spot (hcell 0 (by omega))
        simpa [Addr.add] using this
      obtain ⟨ab, ao, asp⟩ := a
      simp only at hs
      subst hs
      have hcell' : ∀ i, i < cap → W.cell? ⟨ab, ao + i, none⟩ = some (.bool (B i)) := fun i hi => by
        have := hcell i hi
        rwa [Addr.add_mid] at this
      refine ⟨(List.range len).map B, .inr ⟨ab, ao, cap, by simp, by simpa using hl, fun j y hy => ?_⟩, by simpa using Nat.le_trans hl hm, fun b o l cp e _ => ?_⟩
      · obtain ⟨hj, e⟩ := List.getElem?_eq_some_iff.1 hy
        simp at hj e
        subst e
        exact hcell' j (by omega)
      · simp at e
        obtain ⟨⟨rfl, _⟩, _⟩ := e
        exact World.block_lt_of_cell? W _ (hcell' 0 (by omega))

set_option maxRecDepth 100000 in
theorem open_stepJ {H : Type} {enc : TypeId × Value → H} {W : World} {base fuel : Nat} {held : Bool} {cs : List Value} {x : DataW H × List MemPlace} (hl : cs.length = 5)
    (h : DataW.trod enc Tryz.prog W base (fun _ => true) held fuel 53 cs = some x) :
    ∃ d : StepDJ, StepOkJ W d ∧ cs = [.int .i64 d.kd, .int .i64 d.a, .int .i64 d.b, .string d.t, d.kv] := by
  match cs, hl with
  | [c0, c1, c2, c3, c4], _ =>
    obtain ⟨xs, n, _, _, _, hlen, hfs⟩ := DataW.trod_struct Tryz.underlying53 h
    simp at hlen
    have g0 : DataW.trod enc Tryz.prog W base (fun _ => true) held n 3 [c0] = xs[0]? := by simpa [cellsIntR] using hfs 0 _ rfl
    have g1 : DataW.trod enc Tryz.prog W base (fun _ => true) held n 3 [c1] = xs[1]? := by simpa [cellsIntR] using hfs 1 _ rfl
    have g2 : DataW.trod enc Tryz.prog W base (fun _ => true) held n 3 [c2] = xs[2]? := by simpa [cellsIntR] using hfs 2 _ rfl
    have g3 : DataW.trod enc Tryz.prog W base (fun _ => true) held n 9 [c3] = xs[3]? := by simpa [cellsStrR] using hfs 3 _ rfl
    have g4 : DataW.trod enc Tryz.prog W base (fun _ => true) held n 51 [c4] = xs[4]? := by simpa [cellsBoolsJ] using hfs 4 _ rfl
    rw [List.getElem?_eq_getElem (by omega)] at g0 g1 g2 g3 g4
    obtain ⟨k, e0, _, w0⟩ := DataW.trod_int Tryz.underlying3 g0
    obtain ⟨a, e1, _, w1⟩ := DataW.trod_int Tryz.underlying3 g1
    obtain ⟨b, e2, _, w2⟩ := DataW.trod_int Tryz.underlying3 g2
    obtain ⟨t, e3, ht⟩ := DataW.trod_string Tryz.underlying9 g3
    obtain ⟨K, hK, hKl, hKo⟩ := open_keepJ g4
    simp at e0 e1 e2 e3
    subst e0 e1 e2 e3
    exact ⟨⟨k, a, b, t, c4, K⟩, ⟨(wf_int64 w0).1, (wf_int64 w0).2, (wf_int64 w1).1, (wf_int64 w1).2, (wf_int64 w2).1, (wf_int64 w2).2, ht.2, hK, hKl, hKo⟩, rfl⟩

set_option maxRecDepth 100000 in
theorem open_scriptJ {H : Type} {enc : TypeId × Value → H} {W : World} {base b0 : Nat} {held : Bool} {r : Reach} {v : Value} {d : DataW H} {p : List MemPlace}
    (hv : Value.okWide Tryz.prog W r b0 43 v) (h : DataW.Trod enc Tryz.prog W base (fun _ => true) held 43 v d p) :
    ∃ l, ScriptAtJ W v l ∧ l.length ≤ maxLen := by
  obtain ⟨va, vl, vc, rfl⟩ := okWide_slice Tryz.underlying43 hv
  obtain ⟨fuel, hf⟩ := h
  rcases open_slice Tryz.underlying43 hf with ⟨h0, _⟩ | ⟨a, len, cap, m, n, D, Pl, hc, hb, hl, hm, hmm, _, hx⟩
  · simp [Value.cells] at h0
    obtain ⟨rfl, rfl, rfl⟩ := h0
    exact ⟨[], .inl ⟨⟨_, _, rfl⟩, rfl⟩, by simp⟩
  · simp [Value.cells] at hc
    obtain ⟨rfl, rfl, rfl⟩ := hc
    simp only [if_true] at hmm
    subst hmm
    by_cases h0 : vl = 0
    · subst h0
      exact ⟨[], .inl ⟨⟨_, _, rfl⟩, rfl⟩, by simp⟩
    · have each : ∀ i, i < vl → ∃ d : StepDJ, StepOkJ W d ∧ W.cell? (a.add (i * 5)) = some (.int .i64 d.kd) ∧ W.cell? (a.add (i * 5 + 1)) = some (.int .i64 d.a) ∧ W.cell? (a.add (i * 5 + 2)) = some (.int .i64 d.b) ∧ W.cell? (a.add (i * 5 + 3)) = some (.string d.t) ∧ W.cell? (a.add (i * 5 + 4)) = some d.kv := by
        intro i hi
        obtain ⟨cs', h1, h2⟩ := hx i (by omega)
        rw [cellsStepJ] at h1
        obtain ⟨_, hlen, hcell⟩ := World.cells?_some h1
        obtain ⟨d, hd, rfl⟩ := open_stepJ hlen h2
        have e0 := hcell 0 (by simp)
        have e1 := hcell 1 (by simp)
        have e2 := hcell 2 (by simp)
        have e3 := hcell 3 (by simp)
        have e4 := hcell 4 (by simp)
        rw [add_add] at e0 e1 e2 e3 e4
        exact ⟨d, hd, by simpa using e0, by simpa using e1, by simpa using e2, by simpa using e3, by simpa using e4⟩
      have : Inhabited StepDJ := ⟨⟨0, 0, 0, ⟨#[]⟩, .slice none 0 0, []⟩⟩
      obtain ⟨q, hq⟩ := choose_lt each
      have hs : a.spot = none := by
        have := World.cell?_spot (hq 0 (by omega)).2.1
        simpa [Addr.add] using this
      obtain ⟨ab, ao, asp⟩ := a
      simp only at hs
      subst hs
      simp only [Addr.add_mid] at hq
      refine ⟨(List.range vl).map q, .inr ⟨ab, ao, _, by simp; rfl, by simpa using hl, World.block_lt_of_cell? W _ (hq 0 (by omega)).2.1, fun j d hj => ?_⟩, by simpa using Nat.le_trans hl hm⟩
      obtain ⟨hj1, e⟩ := List.getElem?_eq_some_iff.1 hj
      simp at hj1 e
      subst e
      exact hq j hj1
end Go.Proofs.YtgaoeoijdpdjiabGreatDoor

namespace Go.Proofs.YtgaoeoijdpdjiabGreatDoor
open Go.RowKit

theorem know32 : (whole32 ⟨#[]⟩).extract 0 8 = ⟨#[227, 66, 157, 14, 142, 228, 223, 0]⟩ := by kernel_rfl
theorem know64 : (whole64 ⟨#[97, 98, 99]⟩).extract 0 8 = ⟨#[140, 49, 7, 11, 145, 250, 171, 128]⟩ := by kernel_rfl
theorem know1 : digAns 1 8 ⟨#[]⟩ = (⟨#[227, 66, 157, 14, 142, 228, 223, 0]⟩, 0) := by
  unfold digAns
  rw [if_pos (by decide), if_pos (by decide), if_pos rfl, ← know32]; rfl
theorem know2 : digAns 2 8 ⟨#[97, 98, 99]⟩ = (⟨#[140, 49, 7, 11, 145, 250, 171, 128]⟩, 0) := by
  unfold digAns
  rw [if_pos (by decide), if_pos (by decide), if_neg (by decide), ← know64]; rfl

set_option maxRecDepth 20000 in
set_option maxHeartbeats 1000000 in
theorem knows_any (w : World) (hT : Tn w) : Calls Tryz.prog 50 #[] w fun e w' => e = .returned (.bool true) ∧ Below w.heap.size w w' := by
  have H1 := hide (fun (V : World) (h : Tn V) => (by have := digest_ans 1 8 ⟨#[]⟩ V h.1 h.2.1 h.2.2; rw [know1] at this; exact this : Calls Tryz.prog 97 #[.int .i64 1, .int .i64 8, .string ⟨#[]⟩] V fun e w' => e = .returned (.tuple #[.string ⟨#[227, 66, 157, 14, 142, 228, 223, 0]⟩, .int .i64 0]) ∧ Below V.heap.size V w'))
  have H2 := hide (fun (V : World) (h : Tn V) => (by have := digest_ans 2 8 ⟨#[97, 98, 99]⟩ V h.1 h.2.1 h.2.2; rw [know2] at this; exact this : Calls Tryz.prog 97 #[.int .i64 2, .int .i64 8, .string ⟨#[97, 98, 99]⟩] V fun e w' => e = .returned (.tuple #[.string ⟨#[140, 49, 7, 11, 145, 250, 171, 128]⟩, .int .i64 0]) ∧ Below V.heap.size V w'))
  have HT := hide hT
  clear hT
  go_enter Tryz.func50, Tryz.ntmps50
  go_wp2_with fail
  refine (H1.out _ HT.out).mono ?_
  rintro e w1 ⟨rfl, hb1⟩
  have HB1 := hide hb1
  clear hb1
  go_wp2_with fail
  refine (H2.out _ (HT.out.on HB1.out)).mono ?_
  rintro e w2 ⟨rfl, hb2⟩
  have HB2 := hide (heldB HB1.out hb2 (Nat.le_refl _))
  clear hb2
  go_wp2
  go_ret
  exact ⟨rfl, HB2.out⟩
end Go.Proofs.YtgaoeoijdpdjiabGreatDoor
