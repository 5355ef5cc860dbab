/-
  The program's IsLeaf, IsTree, IsChain. Small facts about sets, seeds, places. The place of a tree. The document's own Placed, at every place. A script of the statement in memory; the statement's plays, over whatever holds from step to step. A script of calls that comes in, opened.
-/
import Derived.Test.YtgaoeoijdpdjiaaGreatDoorPart29
import Derived.Test.YtgaoeoijdpdjiaaGreatDoorPart39
import Derived.Test.YtgaoeoijdpdjiaaGreatDoorPart3
import Derived.Test.YtgaoeoijdpdjiaaGreatDoorPart27
import Derived.Test.YtgaoeoijdpdjiaaGreatDoorPart40
import Derived.Test.YtgaoeoijdpdjiaaGreatDoorPart19
import Derived.Test.YtgaoeoijdpdjiaaGreatDoorPart28
import Derived.Test.YtgaoeoijdpdjiaaGreatDoorPart32
import Derived.Test.YtgaoeoijdpdjiaaGreatDoorPart41
import Derived.Test.YtgaoeoijdpdjiaaGreatDoorPart18
import Derived.Test.YtgaoeoijdpdjiaaGreatDoorPart5
import Derived.WalkKit
import Derived.ProofKit
import Derived.OpenShut
import Derived.ShutString
import Derived.ChangeOld
import Derived.Deep.Grids
import Derived.Deep.Strs
import Derived.SizedLaws
namespace Go.Proofs.YtgaoeoijdpdjiaaGreatDoor
open Go.RowKit
set_option maxRecDepth 20000 in
set_option maxHeartbeats 2000000 in
theorem isLeaf_any (k b x : Int) (t l : Nat) (p0 p1 p2 p3 : Int) (w : World) (h1 : 1 ≤ t) (h2 : t ≤ 4) (h4 : l ≤ 3) :
    Calls Tryz.prog 150 #[.agg #[.int .i64 k, .int .i64 b, .int .i64 x, .int .i64 t, .int .i64 l], .agg #[.int .i64 p0, .int .i64 p1, .int .i64 p2, .int .i64 p3]] w fun e w' => e = .returned (.bool (leafB t l p0 p1 p2 && p3 == 0)) ∧ Below w.heap.size w w' := by
  have HL := hide (isLeafOf_any k b x t l p0 p1 p2 p3 ((w.alloc (.cells #[.int .i64 k, .int .i64 b, .int .i64 x, .int .i64 t, .int .i64 l] 23)).alloc (.cells #[.int .i64 p0, .int .i64 p1, .int .i64 p2, .int .i64 p3] 27)) h1 h2 h4)
  generalize leafB t l p0 p1 p2 = r at HL ⊢
  cases r with
  | false =>
    go_enter Tryz.func150, Tryz.ntmps150
    go_wp2_with fail
    refine HL.out.mono ?_
    rintro e w1 ⟨rfl, hb1⟩
    have HB1 := hide ((((Below.refl w.heap.size w).alloc (Nat.le_refl _) _).alloc (by simp) _).trans (hb1.mono (by simp; omega)))
    clear hb1
    go_wp2
    go_ret
    exact ⟨rfl, HB1.out⟩
  | true =>
    generalize hr : (p3 == 0) = r
    go_enter Tryz.func150, Tryz.ntmps150
    go_wp2_with fail
    refine HL.out.mono ?_
    rintro e w1 ⟨rfl, hb1⟩
    have d3 : w1.cell? ⟨w.heap.size + 1, 3, none⟩ = some (.int .i64 p3) := (hb1.cell (p := ⟨w.heap.size + 1, 3, none⟩) (by simp)).trans (by simp [go_sem])
    have HB1 := hide ((((Below.refl w.heap.size w).alloc (Nat.le_refl _) _).alloc (by simp) _).trans (hb1.mono (by simp; omega)))
    clear hb1
    go_wp2
    go_ret
    exact ⟨by simp, HB1.out⟩
/-- Is it the place of a chain? -/
def chainB (t l ch : Nat) (p0 p1 p2 p3 : Int) : Bool := leafB t l p0 p1 p2 && decide (0 ≤ p3 ∧ p3 < (ch : Int))
end Go.Proofs.YtgaoeoijdpdjiaaGreatDoor

namespace Go.Proofs.YtgaoeoijdpdjiaaGreatDoor
open Go.RowKit
theorem chainB_bounds {t l ch : Nat} {p0 p1 p2 p3 : Int} (h : chainB t l ch p0 p1 p2 p3 = true) (h2 : t ≤ 4) (h4 : l ≤ 3) (hc : ch ≤ 64) : (0 ≤ p0 ∧ p0 ≤ 100000) ∧ (0 ≤ p1 ∧ p1 ≤ 100000) ∧ (0 ≤ p2 ∧ p2 ≤ 100000) ∧ (0 ≤ p3 ∧ p3 ≤ 100000) := by
  unfold chainB leafB at h
  simp only [Bool.and_eq_true, decide_eq_true_eq] at h
  obtain ⟨⟨⟨a0, a1⟩, ⟨b0, b1⟩, ⟨c0, c1⟩⟩, d0, d1⟩ := h
  have e1 : 2 ^ (t * (l - 1 - p0.toNat)) ≤ 2 ^ 8 := Nat.pow_le_pow_right (by decide) (Nat.le_trans (Nat.mul_le_mul h2 (show l - 1 - p0.toNat ≤ 2 by omega)) (by decide))
  have e2 : 2 ^ t ≤ 2 ^ 4 := Nat.pow_le_pow_right (by decide) h2
  have e3 : (2 : Nat) ^ 8 = 256 := by decide
  have e4 : (2 : Nat) ^ 4 = 16 := by decide
  rw [e3] at e1
  rw [e4] at e2
  generalize 2 ^ (t * (l - 1 - p0.toNat)) = u at e1 b1
  generalize 2 ^ t = v at e2 c1
  omega
theorem pair_small {b x e f : Nat} (h : Pair b x e f) : 1 ≤ b ∧ b ≤ 16 ∧ 1 ≤ b * e + f ∧ b * e + f ≤ 64 ∧ 1 ≤ x ∧ x ≤ 16 := by
  rcases h with ⟨rfl, rfl, rfl, rfl⟩ | ⟨rfl, rfl, rfl, rfl⟩ | ⟨rfl, rfl, rfl, rfl⟩ | ⟨rfl, rfl, rfl, rfl⟩ <;> decide
end Go.Proofs.YtgaoeoijdpdjiaaGreatDoor

namespace Go.Proofs.YtgaoeoijdpdjiaaGreatDoor
open Go.RowKit
set_option maxRecDepth 20000 in
set_option maxHeartbeats 2000000 in
theorem isTree_any (k b x : Int) (t l : Nat) (p0 p1 p2 p3 : Int) (w : World) (h1 : 1 ≤ t) (h2 : t ≤ 4) (h4 : l ≤ 3) :
    Calls Tryz.prog 71 #[.agg #[.int .i64 k, .int .i64 b, .int .i64 x, .int .i64 t, .int .i64 l], .agg #[.int .i64 p0, .int .i64 p1, .int .i64 p2, .int .i64 p3]] w fun e w' => e = .returned (.bool ((leafB t l p0 p1 p2 && p3 == 0) && p2 == 0)) ∧ Below w.heap.size w w' := by
  have HL := hide (isLeaf_any k b x t l p0 p1 p2 p3 ((w.alloc (.cells #[.int .i64 k, .int .i64 b, .int .i64 x, .int .i64 t, .int .i64 l] 23)).alloc (.cells #[.int .i64 p0, .int .i64 p1, .int .i64 p2, .int .i64 p3] 27)) h1 h2 h4)
  generalize (leafB t l p0 p1 p2 && p3 == 0) = r at HL ⊢
  cases r with
  | false =>
    go_enter Tryz.func71, Tryz.ntmps71
    go_wp2_with fail
    refine HL.out.mono ?_
    rintro e w1 ⟨rfl, hb1⟩
    have HB1 := hide ((((Below.refl w.heap.size w).alloc (Nat.le_refl _) _).alloc (by simp) _).trans (hb1.mono (by simp; omega)))
    clear hb1
    go_wp2
    go_ret
    exact ⟨rfl, HB1.out⟩
  | true =>
    generalize hr : (p2 == 0) = r
    go_enter Tryz.func71, Tryz.ntmps71
    go_wp2_with fail
    refine HL.out.mono ?_
    rintro e w1 ⟨rfl, hb1⟩
    have d2 : w1.cell? ⟨w.heap.size + 1, 2, none⟩ = some (.int .i64 p2) := (hb1.cell (p := ⟨w.heap.size + 1, 2, none⟩) (by simp)).trans (by simp [go_sem])
    have HB1 := hide ((((Below.refl w.heap.size w).alloc (Nat.le_refl _) _).alloc (by simp) _).trans (hb1.mono (by simp; omega)))
    clear hb1
    go_wp2
    go_ret
    exact ⟨by simp, HB1.out⟩
end Go.Proofs.YtgaoeoijdpdjiaaGreatDoor

namespace Go.Proofs.YtgaoeoijdpdjiaaGreatDoor
open Go.RowKit
set_option maxRecDepth 20000 in
set_option maxHeartbeats 2000000 in
theorem placed_out (k b x t l p0 p1 p2 p3 : Int) (w : World) (h : p0 < 0 ∨ l ≤ p0) :
    Calls Tryz.prog 51 #[.agg #[.int .i64 k, .int .i64 b, .int .i64 x, .int .i64 t, .int .i64 l], .agg #[.int .i64 p0, .int .i64 p1, .int .i64 p2, .int .i64 p3]] w fun e w' => e = .returned (.bool false) ∧ Below w.heap.size w w' := by
  by_cases h0 : p0 < 0
  · go_enter Tryz.func51, Tryz.ntmps51
    go_wp2
    go_ret
    exact ⟨rfl, ((Below.refl _ _).alloc (Nat.le_refl _) _).alloc (by simp) _⟩
  · have h1 : l ≤ p0 := by omega
    go_enter Tryz.func51, Tryz.ntmps51
    go_wp2
    go_ret
    exact ⟨rfl, ((Below.refl _ _).alloc (Nat.le_refl _) _).alloc (by simp) _⟩
theorem placed_any (k x a0 a1 a3 a4 a5 : Int) (b t l ch : Nat) (p0 p1 p2 p3 : Int) (w : World) (h2 : t ≤ 4) (h4 : l ≤ 3)
    (hsz : ∀ V : World, Calls Tryz.prog 89 #[.agg #[.int .i64 k, .int .i64 b, .int .i64 x, .int .i64 t, .int .i64 l]] V fun r w' => r = .returned (.agg #[.int .i64 a0, .int .i64 a1, .int .i64 ch, .int .i64 a3, .int .i64 a4, .int .i64 a5]) ∧ Below V.heap.size V w') :
    Calls Tryz.prog 51 #[.agg #[.int .i64 k, .int .i64 b, .int .i64 x, .int .i64 t, .int .i64 l], .agg #[.int .i64 p0, .int .i64 p1, .int .i64 p2, .int .i64 p3]] w fun e w' => e = .returned (.bool (chainB t l ch p0 p1 p2 p3)) ∧ Below w.heap.size w w' := by
  by_cases h0 : p0 < 0 ∨ (l : Int) ≤ p0
  · refine (placed_out k b x t l p0 p1 p2 p3 w h0).mono ?_
    rintro e w' ⟨rfl, hb⟩
    refine ⟨?_, hb⟩
    have : decide (0 ≤ p0 ∧ p0 < (l : Int)) = false := by simp; omega
    unfold chainB leafB
    rw [this]
    rfl
  · obtain ⟨q, rfl⟩ : ∃ q : Nat, p0 = (q : Int) := ⟨p0.toNat, by omega⟩
    have hq : q < l := by omega
    have d0 : decide (0 ≤ (q : Int) ∧ (q : Int) < (l : Int)) = true := by simp; omega
    unfold chainB leafB
    rw [d0, Int.toNat_natCast, Nat.pow_mul, Bool.true_and]
    by_cases e1 : 0 ≤ p1
    · by_cases e2 : p1 < ((((2 ^ t) ^ (l - 1 - q) : Nat)) : Int)
      · rw [show decide (0 ≤ p1 ∧ p1 < ((((2 ^ t) ^ (l - 1 - q) : Nat)) : Int)) = true from decide_eq_true ⟨e1, e2⟩, Bool.true_and]
        by_cases e3 : 0 ≤ p2
        · by_cases e4 : p2 < (((2 ^ t : Nat)) : Int)
          · rw [show decide (0 ≤ p2 ∧ p2 < (((2 ^ t : Nat)) : Int)) = true from decide_eq_true ⟨e3, e4⟩, Bool.true_and]
            by_cases e5 : 0 ≤ p3
            · by_cases e6 : p3 < (ch : Int)
              · rw [show decide (0 ≤ p3 ∧ p3 < (ch : Int)) = true from decide_eq_true ⟨e5, e6⟩]
                exact placed_7 k x a0 a1 a3 a4 a5 b t l q ch p1 p2 p3 w h2 h4 hq hsz e1 e2 e3 e4 e5 e6
              · rw [show decide (0 ≤ p3 ∧ p3 < (ch : Int)) = false from decide_eq_false (fun h => e6 h.2)]
                exact placed_6 k x a0 a1 a3 a4 a5 b t l q ch p1 p2 p3 w h2 h4 hq hsz e1 e2 e3 e4 e5 (by omega)
            · rw [show decide (0 ≤ p3 ∧ p3 < (ch : Int)) = false from decide_eq_false (fun h => e5 h.1)]
              exact placed_5 k x a0 a1 a3 a4 a5 b t l q ch p1 p2 p3 w h2 h4 hq hsz e1 e2 e3 e4 (by omega)
          · rw [show decide (0 ≤ p2 ∧ p2 < (((2 ^ t : Nat)) : Int)) = false from decide_eq_false (fun h => e4 h.2), Bool.false_and]
            exact placed_4 k x a0 a1 a3 a4 a5 b t l q ch p1 p2 p3 w h2 h4 hq hsz e1 e2 e3 (Int.not_lt.1 e4)
        · rw [show decide (0 ≤ p2 ∧ p2 < (((2 ^ t : Nat)) : Int)) = false from decide_eq_false (fun h => e3 h.1), Bool.false_and]
          exact placed_3 k x a0 a1 a3 a4 a5 b t l q ch p1 p2 p3 w h2 h4 hq hsz e1 e2 (by omega)
      · rw [show decide (0 ≤ p1 ∧ p1 < ((((2 ^ t) ^ (l - 1 - q) : Nat)) : Int)) = false from decide_eq_false (fun h => e2 h.2), Bool.false_and, Bool.false_and]
        exact placed_2 k x a0 a1 a3 a4 a5 b t l q ch p1 p2 p3 w h2 h4 hq hsz e1 (Int.not_lt.1 e2)
    · rw [show decide (0 ≤ p1 ∧ p1 < ((((2 ^ t) ^ (l - 1 - q) : Nat)) : Int)) = false from decide_eq_false (fun h => e1 h.1), Bool.false_and, Bool.false_and]
      exact placed_1 k x a0 a1 a3 a4 a5 b t l q ch p1 p2 p3 w h2 h4 hq hsz (by omega)
end Go.Proofs.YtgaoeoijdpdjiaaGreatDoor

namespace Go.Proofs.YtgaoeoijdpdjiaaGreatDoor
open Go.RowKit
/-- One step of a script. -/
structure OpD where
  kd : Int
  on : Int
  a : Int
  b : Int
  s : ByteArray
  t : ByteArray
  u : ByteArray
  l1 : Option Addr
  l2 : Nat
  l3 : Nat
  X : List ByteArray
  k1 : Option Addr
  k2 : Nat
  k3 : Nat
  K : List Bool
  c0 : Int
  c1 : Int
  c2 : Int
  c3 : Int
  c4 : Int
  d0 : ByteArray
  d1 : ByteArray
  d2 : ByteArray
  p0 : Int
  p1 : Int
  p2 : Int
  p3 : Int
def opC (d : OpD) : List Value := [.int .i64 d.kd, .int .i64 d.on, .int .i64 d.a, .int .i64 d.b, .string d.s, .string d.t, .string d.u, .slice d.l1 d.l2 d.l3, .slice d.k1 d.k2 d.k3, .int .i64 d.c0, .int .i64 d.c1, .int .i64 d.c2, .int .i64 d.c3, .int .i64 d.c4, .string d.d0, .string d.d1, .string d.d2, .int .i64 d.p0, .int .i64 d.p1, .int .i64 d.p2, .int .i64 d.p3]
def opV (d : OpD) : Value := .agg (opC d).toArray
theorem opC_one (d : OpD) : ∀ v ∈ opC d, v.oneCell' = true := by
  intro v hv
  simp only [opC, List.mem_cons, List.not_mem_nil, or_false] at hv
  rcases hv with rfl | rfl | rfl | rfl | rfl | rfl | rfl | rfl | rfl | rfl | rfl | rfl | rfl | rfl | rfl | rfl | rfl | rfl | rfl | rfl | rfl <;> rfl
def I64 (x : Int) : Prop := -9223372036854775808 ≤ x ∧ x ≤ 9223372036854775807
def StrsQ (w : World) (sp : Option Addr) (n c : Nat) (xs : List ByteArray) : Prop :=
  (sp = none ∧ n = 0 ∧ c = 0 ∧ xs = []) ∨ (∃ a : Addr, sp = some a ∧ n = 0 ∧ xs = []) ∨ ∃ bk o, sp = some ⟨bk, o, none⟩ ∧ n = xs.length ∧ xs.length ≤ c ∧ bk < w.heap.size ∧ ∀ (j : Nat) y, xs[j]? = some y → w.cell? ⟨bk, o + j, none⟩ = some (.string y)
/-- What is known of a step that came in. -/
structure OpOk (w : World) (d : OpD) : Prop where
  kd : I64 d.kd
  on : I64 d.on
  a : I64 d.a
  b : I64 d.b
  s : d.s.size ≤ maxLen
  t : d.t.size ≤ maxLen
  u : d.u.size ≤ maxLen
  l : StrsQ w d.l1 d.l2 d.l3 d.X
  ln : d.X.length ≤ 8796093022208
  lx : ∀ y ∈ d.X, y.size ≤ maxLen
  k : KeepAt w d.k1 d.k2 d.k3 d.K
  kn : d.K.length ≤ 140737488355328
  c0 : I64 d.c0
  c1 : I64 d.c1
  c2 : I64 d.c2
  c3 : I64 d.c3
  c4 : I64 d.c4
  d0 : d.d0.size ≤ maxLen
  d1 : d.d1.size ≤ maxLen
  d2 : d.d2.size ≤ maxLen
  p0 : I64 d.p0
  p1 : I64 d.p1
  p2 : I64 d.p2
  p3 : I64 d.p3
def ScriptQ (w : World) (v : Value) (L : List OpD) : Prop :=
  ((∃ a c, v = .slice a 0 c) ∧ L = []) ∨ ∃ sb so cap, v = .slice (some ⟨sb, so, none⟩) L.length cap ∧ L.length ≤ cap ∧ sb < w.heap.size ∧ ∀ (j : Nat) (d : OpD), L[j]? = some d → OpOk w d ∧ ∀ (i : Nat) u, (opC d)[i]? = some u → w.cell? ⟨sb, so + j * 21 + i, none⟩ = some u
theorem ScriptQ.len {w : World} {v : Value} {L : List OpD} (h : ScriptQ w v L) : ∃ a c, v = .slice a L.length c := by
  rcases h with ⟨⟨a, c, rfl⟩, rfl⟩ | ⟨sb, so, cap, rfl, _⟩
  · exact ⟨a, c, rfl⟩
  · exact ⟨_, _, rfl⟩
def wldC : List Value := [.slice none 0 0, .slice none 0 0, .slice none 0 0, .slice none 0 0, .slice none 0 0, .slice none 0 0]
theorem sizeOp : (Tryz.prog.info? 77).map (·.size) = some 21 := by kernel_rfl
theorem wp_pre_op {x : Operand} {d : Option Nat} {ty : TypeId} {ps : String} {af : Array Edge} {g : Option (Nat × Bool)} {a : Act} {w : World} {K : Act → World → Prop} {Q : Exit → Act → World → Prop} (h : (ptrCells w 21 (a.eval x)).isSome = true) :
    Oper.wp Tryz.prog { dst := d, op := .load 77 x, type := ty, pos := ps, after := af, guard := g } a w K Q = K (a.put d (.agg ((ptrCells w 21 (a.eval x)).getD []).toArray)) w := by
  obtain ⟨b, o, cs, hx, hcs, hl, hr⟩ := ptrCells_range h
  have hv := run_loadVar_mid (P := Tryz.prog) w b o 77 cs _ hr Tryz.underlying77 rfl (by rw [hl]; exact sizeOp)
  rw [hcs]
  unfold Oper.wp execOp
  simp only [hx, Instr.loadAt, Instr.sureAddr, Sem.run_bind, Sem.run_pure, Result.andThen_ok, hv]
  rfl
theorem wp_pre_store_op {x y : Operand} {d : Option Nat} {ty : TypeId} {ps : String} {af : Array Edge} {g : Option (Nat × Bool)} {a : Act} {w : World} {K : Act → World → Prop} {Q : Exit → Act → World → Prop} (h : StoreOk w 21 (a.eval x) (a.eval y)) :
    Oper.wp Tryz.prog { dst := d, op := .store 77 x y, type := ty, pos := ps, after := af, guard := g } a w K Q = K (a.put d undef) (storeW w (a.eval x) (a.eval y)) := by
  obtain ⟨b, o, l, hx, hy, hl, h1, ht⟩ := h
  have hv := run_storeVar_mid (P := Tryz.prog) w b o 77 l.toArray (by rw [List.size_toArray, hl]; exact ht) (by rw [List.size_toArray, hl]; exact sizeOp) (all_oneCell_toArray h1)
  rw [hx, hy, storeW_at]
  unfold Oper.wp execOp
  simp only [hx, hy, Instr.storeAt, Instr.sureAddr, Sem.run_bind, Sem.run_pure, Result.andThen_ok, hv]
  rfl
theorem set_all (w : World) (c : Array Value) (T : TypeId) (C : List Value) (h : c.size = C.length) : Blk ((w.alloc (.cells c T)).setCells w.heap.size 0 C) w.heap.size C T := by
  have hb : Blk (w.alloc (.cells c T)) w.heap.size c.toList T := by
    have := Blk.new w c.toList T
    simpa using this
  have key : ∀ (C P R : List Value) (V : World), Blk V w.heap.size (P ++ R) T → R.length = C.length → Blk (V.setCells w.heap.size P.length C) w.heap.size (P ++ C) T := by
    intro C
    induction C with
    | nil => intro P R V h hl; cases R with
      | nil => exact h
      | cons _ _ => simp at hl
    | cons v C ih =>
      intro P R V h hl
      cases R with
      | nil => simp at hl
      | cons r R =>
        rw [World.setCells]
        have h2 := h.set P.length v
        rw [List.set_append_right _ _ (Nat.le_refl _), Nat.sub_self, List.set_cons_zero] at h2
        have := ih (P ++ [v]) R (V.setCell ⟨w.heap.size, P.length, none⟩ v) (by rw [List.append_assoc]; exact h2) (by simpa using hl)
        rw [List.length_append, List.length_singleton, List.append_assoc] at this
        exact this
  have := key C [] c.toList _ hb (by rw [Array.length_toList, h])
  exact this
attribute [local go_sem] ptrCells_at storeW_at
attribute [local go_sem ↓] wp_pre_op wp_pre_store_op
set_option maxRecDepth 20000 in
set_option maxHeartbeats 8000000 in
theorem plays_on (v : Value) (L : List OpD) (lo hi : Int) (INV : Nat → Nat → World → Prop) (w : World) (hv : ScriptQ w v L) (hl : L.length ≤ 1099511627776)
    (hB : Calls Tryz.prog 31 #[.int .i64 lo, .int .i64 hi] w fun e w' => e = .returned (.bool true) ∧ Below w.heap.size w w')
    (hNw : ∀ V Wb V', Below w.heap.size w V → Wb = V.heap.size → Blk V' Wb wldC 74 → Below V.heap.size V V' → INV 0 Wb V')
    (hS : ∀ (j : Nat) (d : OpD) (Wb : Nat) (V : World), j < L.length → L[j]? = some d → OpOk w d → lo ≤ d.kd → d.kd ≤ hi → INV j Wb V → Calls Tryz.prog 32 #[.pointer (some ⟨Wb, 0, none⟩), opV d] V fun e w' => e = .returned (.bool true) ∧ INV (j + 1) Wb w')
    (hK : ∀ (j Wb : Nat) (V : World), INV j Wb V → Calls Tryz.prog 33 #[.pointer (some ⟨Wb, 0, none⟩)] V fun e w' => e = .returned (.bool true) ∧ Below V.heap.size V w')
    (hU : ∀ (j Wb : Nat) (V V' : World), INV j Wb V → Below V.heap.size V V' → INV j Wb V') (hI : ∀ (j Wb : Nat) (V : World), INV j Wb V → INV (j + 1) Wb V) (hLw : ∀ (j Wb : Nat) (V : World), INV j Wb V → Below w.heap.size w V) :
    Calls Tryz.prog 10 #[v, .int .i64 lo, .int .i64 hi] w fun e w' => e = .returned (.bool true) ∧ Below w.heap.size w w' := by
  obtain ⟨va, vc, hvv⟩ := hv.len
  subst hvv
  have HV := hide hv
  have HB := hide hB
  have HNW := hide hNw
  have HS := hide hS
  have HK := hide hK
  have HU := hide hU
  have HII := hide hI
  have HLW := hide hLw
  obtain ⟨N, hN⟩ : ∃ N, L.length = N := ⟨_, rfl⟩
  rw [hN] at hl
  simp only [hN]
  rw [hN] at HS
  have HN := hide hN
  have HNB := hide hl
  clear hv hB hS hK hU hI hLw hN hl hNw
  go_enter Tryz.func10, Tryz.ntmps10
  go_wp2_with fail
  refine HB.out.mono ?_
  rintro e1 w1 ⟨rfl, hb1⟩
  obtain ⟨W1, hW1⟩ : ∃ W1, w1.alloc (.cells #[.slice none 0 0, .slice none 0 0, .slice none 0 0, .slice none 0 0, .slice none 0 0, .slice none 0 0] 74) = W1 := ⟨_, rfl⟩
  obtain ⟨Wb, hWb⟩ : ∃ Wb, w1.heap.size = Wb := ⟨_, rfl⟩
  have HI0 := hide (HNW.out w1 Wb W1 hb1 hWb.symm (by rw [← hW1, ← hWb]; exact Blk.new w1 wldC _) (by rw [← hW1]; exact (Below.refl _ _).alloc (Nat.le_refl _) _))
  have HWE := hide hW1
  have HWB := hide hWb
  clear hb1 hW1 hWb
  go_wp2_with fail
  rw [HWE.out, HWB.out]
  go_loopw [9] (fun i wr => ∃ j : Nat, j ≤ N ∧ i = .int .i64 j ∧ Hid (INV j Wb wr)) (fun i _ => N - (intOf i).toNat)
  case atStart => exact ⟨0, Nat.zero_le _, rfl, HI0.out⟩
  case round =>
    obtain ⟨j, hj, rfl, hinv⟩ := hrel
    by_cases hlt : j < N
    · have HBW := hide (HLW.out j Wb wr hinv.out)
      obtain ⟨xkd, C, sb, so, hvav, hcap, hA, HC0, HCL, HC1, HSP⟩ : ∃ (xkd : Int) (C : List Value) (sb so : Nat), va = some ⟨sb, so, none⟩ ∧ N ≤ vc ∧ cellsAt wr sb (so + j * 21) 21 = some C ∧ Hid (C[0]? = some (.int .i64 xkd)) ∧ Hid (C.length = 21) ∧ Hid (∀ v ∈ C, v.oneCell' = true) ∧ Hid (lo ≤ xkd → xkd ≤ hi → ∀ V, Below wr.heap.size wr V → Calls Tryz.prog 32 #[.pointer (some ⟨Wb, 0, none⟩), .agg C.toArray] V fun e w' => e = .returned (.bool true) ∧ INV (j + 1) Wb w') := by
        rcases HV.out with ⟨_, e0⟩ | ⟨sb, so, cap, e0, hcp, hsb, hall⟩
        · have := HN.out
          rw [e0] at this
          simp at this
          omega
        · obtain ⟨d, hd⟩ : ∃ d, L[j]? = some d := ⟨_, List.getElem?_eq_getElem (by rw [HN.out]; exact hlt)⟩
          obtain ⟨ok, hcell⟩ := hall j d hd
          simp only [Value.slice.injEq] at e0
          exact ⟨d.kd, opC d, sb, so, e0.1, by rw [← HN.out, e0.2.2]; exact hcp, range_cellsAt _ _ _ _ _ rfl (fun i u h => (HBW.out.cell (p := ⟨sb, so + j * 21 + i, none⟩) hsb).trans (hcell i u h)), rfl, rfl, opC_one d, fun h1 h2 V hb => HS.out j d Wb V hlt hd ok h1 h2 (HU.out j Wb wr V hinv.out hb)⟩
      subst hvav
      have hms : (j : Int) < (N : Int) := by omega
      have hjb : (j : Int) < 1152921504606846976 := by have := HNB.out; omega
      have hjb2 : decide ((j : Int) < 1152921504606846976) = true := decide_eq_true hjb
      have HNX := hide (fun V (hb : Below wr.heap.size wr V) => HII.out j Wb V (HU.out j Wb wr V hinv.out hb))
      have hSO : StoreOk (wr.alloc (.cells #[.int .i64 0, .int .i64 0, .int .i64 0, .int .i64 0, .string ⟨#[]⟩, .string ⟨#[]⟩, .string ⟨#[]⟩, .slice none 0 0, .slice none 0 0, .int .i64 0, .int .i64 0, .int .i64 0, .int .i64 0, .int .i64 0, .string ⟨#[]⟩, .string ⟨#[]⟩, .string ⟨#[]⟩, .int .i64 0, .int .i64 0, .int .i64 0, .int .i64 0] 77)) 21 (.pointer (some ⟨wr.heap.size, 0, none⟩)) (.agg C.toArray) := ⟨wr.heap.size, 0, C, rfl, rfl, HCL.out, HC1.out, there_new wr _ _ 21 rfl⟩
      obtain ⟨W2, hW2⟩ : ∃ W2, (wr.alloc (.cells #[.int .i64 0, .int .i64 0, .int .i64 0, .int .i64 0, .string ⟨#[]⟩, .string ⟨#[]⟩, .string ⟨#[]⟩, .slice none 0 0, .slice none 0 0, .int .i64 0, .int .i64 0, .int .i64 0, .int .i64 0, .int .i64 0, .string ⟨#[]⟩, .string ⟨#[]⟩, .string ⟨#[]⟩, .int .i64 0, .int .i64 0, .int .i64 0, .int .i64 0] 77)).setCells wr.heap.size 0 C = W2 := ⟨_, rfl⟩
      have HB2 := hide (show Below wr.heap.size wr W2 by
        rw [← hW2]
        exact (((Kept.refl (fun _ => False) wr).alloc _).setCells (.inr (Nat.le_refl _)) 0 C).below (fun _ e => e.elim) (Nat.le_refl _))
      have hBk : Blk W2 wr.heap.size C 77 := by
        rw [← hW2]
        exact set_all wr _ _ C (by rw [HCL.out]; rfl)
      have k0 : W2.cell? ⟨wr.heap.size, 0, none⟩ = some (.int .i64 xkd) := (hBk.cell 0).trans HC0.out
      have kA : cellsAt W2 wr.heap.size 0 21 = some C := range_cellsAt C 21 W2 wr.heap.size 0 HCL.out (fun i u h => by rw [Nat.zero_add]; exact (hBk.cell i).trans h)
      have hW2' := hW2
      clear hinv hBk
      by_cases h1 : xkd < lo
      · go_wp2
        go_roundw
        case rel => exact ⟨j + 1, by omega, by go_num, HNX.out _ HB2.out⟩
        case measure => simp [intOf]; omega
      · by_cases h2 : hi < xkd
        · go_wp2
          go_roundw
          case rel => exact ⟨j + 1, by omega, by go_num, HNX.out _ HB2.out⟩
          case measure => simp [intOf]; omega
        · have HSX := hide (HSP.out (by omega) (by omega) W2 HB2.out)
          have h1' : decide (xkd < lo) = false := decide_eq_false h1
          have h2' : decide (hi < xkd) = false := decide_eq_false h2
          go_wp2_with fail
          refine HSX.out.mono ?_
          rintro e1 w7 ⟨rfl, hq7⟩
          have HKX := hide (HK.out _ _ _ hq7)
          have HQ7 := hide hq7
          clear hq7 hA k0 kA hSO hW2 hW2'
          go_wp2_with fail
          refine HKX.out.mono ?_
          rintro e1 w8 ⟨rfl, hb8⟩
          have HQ8 := hide (HU.out _ _ _ _ HQ7.out hb8)
          clear hb8
          go_wp2
          go_roundw
          case rel => exact ⟨j + 1, by omega, by go_num, HQ8.out⟩
          case measure => simp [intOf]; omega
    · have hms : ¬ (j : Int) < (N : Int) := by omega
      have HBW := hide (HLW.out j Wb wr hinv.out)
      clear hinv
      go_wp2
      go_ret
      exact ⟨rfl, HBW.out⟩
end Go.Proofs.YtgaoeoijdpdjiaaGreatDoor

namespace Go.Proofs.YtgaoeoijdpdjiaaGreatDoor
open Go.ChangeShapes Go.WideShapes Go.ChangeAt Go.RowKit Go.Deep
open Go.ChangeMaps (open_string shut_string)
theorem cellsOpQ : Tryz.prog.cellsOf 77 = 21 := by kernel_rfl
theorem cellsIntQ : Tryz.prog.cellsOf 3 = 1 := by kernel_rfl
theorem cellsStrQ : Tryz.prog.cellsOf 9 = 1 := by kernel_rfl
theorem cellsBoolQ : Tryz.prog.cellsOf 4 = 1 := by kernel_rfl
theorem cellsBoolsQ : Tryz.prog.cellsOf 75 = 1 := by kernel_rfl
theorem cellsStrsQ : Tryz.prog.cellsOf 50 = 1 := by kernel_rfl
theorem cellsSetQ : Tryz.prog.cellsOf 23 = 5 := by kernel_rfl
theorem cellsSeedsQ : Tryz.prog.cellsOf 25 = 3 := by kernel_rfl
theorem cellsPlaceQ : Tryz.prog.cellsOf 27 = 4 := by kernel_rfl
theorem bytesBoolQ : Tryz.prog.bytesOf 4 = 1 := by kernel_rfl
theorem bytesStrQ : Tryz.prog.bytesOf 9 = 16 := by kernel_rfl
theorem i64_wf {x : Int} (h : (Lit.int .i64 x).wf = true) : I64 x := by
  simp [Lit.wf, IntKind.min, IntKind.max, IntKind.signed, IntKind.bits] at h
  exact ⟨by omega, by omega⟩
theorem reach47 : reachBytes ≤ 140737488355328 := by decide
/-- The weights of a thing, each within reach. -/
def Fits {H : Type} (t : TypeId) (d : DataW H) : Prop := ∀ n ∈ d.weights Tryz.prog t, n ≤ reachBytes
section
variable {H : Type} {enc : TypeId × Value → H} {W : World} {base : Nat} {held : Bool}
theorem open_keepQ {fuel : Nat} {c : Value} {x : DataW H × List MemPlace} (h : DataW.trod enc Tryz.prog W base (fun _ => true) held fuel 75 [c] = some x) (hz : Fits 75 x.1) :
    ∃ sp n cp K, c = .slice sp n cp ∧ KeepAt W sp n cp K ∧ K.length ≤ 140737488355328 := by
  have hr := reach47
  rcases open_bools Tryz.underlying75 Tryz.underlying4 cellsBoolQ h with ⟨h0, _⟩ | ⟨a, len, cap, B, hc, _, hl, hm, hx, hcell⟩
  · simp at h0
    exact ⟨none, 0, 0, [], h0, .inl ⟨rfl, rfl, rfl, rfl⟩, by simp⟩
  · simp at hc
    have hw : (len + (cap - len)) * 1 ≤ reachBytes := by
      refine hz _ ?_
      rw [hx]
      simp [boolRow, DataW.weights, Tryz.underlying75, bytesBoolQ]
    by_cases h0 : len = 0
    · subst h0
      exact ⟨some a, 0, cap, [], hc, .inr ⟨a, rfl, rfl, .inl rfl⟩, by simp⟩
    · have hs : a.spot = none := by
        have := World.cell?_spot (hcell 0 (by omega))
        simpa [Addr.add] using this
      obtain ⟨ab, ao, asp⟩ := a
      simp only at hs
      subst hs
      have hcell' : ∀ i, i < cap → W.cell? ⟨ab, ao + i, none⟩ = some (.bool (B i)) := fun i hi => by
        have := hcell i hi
        rwa [Addr.add_mid] at this
      refine ⟨some ⟨ab, ao, none⟩, len, cap, (List.range len).map B, hc, .inr ⟨_, rfl, by simp, .inr ⟨ab, ao, rfl, by simpa using hl, World.block_lt_of_cell? W _ (hcell' 0 (by omega)), fun j y hy => ?_⟩⟩, by simp; omega⟩
      obtain ⟨hj, e⟩ := List.getElem?_eq_some_iff.1 hy
      simp at hj e
      subst e
      exact hcell' j (by omega)
theorem open_textsQ {fuel : Nat} {c : Value} {x : DataW H × List MemPlace} (h : DataW.trod enc Tryz.prog W base (fun _ => true) held fuel 50 [c] = some x) (hz : Fits 50 x.1) :
    ∃ sp n cp xs, c = .slice sp n cp ∧ StrsQ W sp n cp xs ∧ xs.length ≤ 8796093022208 ∧ ∀ y ∈ xs, y.size ≤ maxLen := by
  have hr := reach47
  rcases open_strs Tryz.underlying50 Tryz.underlying9 cellsStrQ h with ⟨h0, _⟩ | ⟨a, len, cap, m, Sx, hc, _, hl, _, hmm, hx, hcell⟩
  · simp at h0
    exact ⟨none, 0, 0, [], h0, .inl ⟨rfl, rfl, rfl, rfl⟩, by simp, by simp⟩
  · simp at hc
    simp only [if_true] at hmm
    subst hmm
    have hw : (len + (m - len)) * 16 ≤ reachBytes := by
      refine hz _ ?_
      rw [hx]
      simp [DataW.weights, Tryz.underlying50, bytesStrQ]
    by_cases h0 : len = 0
    · subst h0
      exact ⟨some a, 0, m, [], hc, .inr (.inl ⟨a, rfl, rfl, rfl⟩), by simp, by simp⟩
    · have hs : a.spot = none := by
        have := World.cell?_spot (hcell 0 (by omega)).1
        simpa [Addr.add] using this
      obtain ⟨ab, ao, asp⟩ := a
      simp only at hs
      subst hs
      have hcell' : ∀ i, i < m → W.cell? ⟨ab, ao + i, none⟩ = some (.string (Sx i)) := fun i hi => by
        have := (hcell i hi).1
        rwa [Addr.add_mid] at this
      refine ⟨some ⟨ab, ao, none⟩, len, m, (List.range len).map Sx, hc, .inr (.inr ⟨ab, ao, rfl, by simp, by simpa using hl, World.block_lt_of_cell? W _ (hcell' 0 (by omega)), fun j y hy => ?_⟩), by simp; omega, fun y hy => ?_⟩
      · obtain ⟨hj, e⟩ := List.getElem?_eq_some_iff.1 hy
        simp at hj e
        subst e
        exact hcell' j (by omega)
      · obtain ⟨i, hi, rfl⟩ := List.mem_map.1 hy
        exact (hcell i (by have := List.mem_range.1 hi; omega)).2
theorem open_intQ {fuel : Nat} {c : Value} {x : DataW H × List MemPlace} (h : DataW.trod enc Tryz.prog W base (fun _ => true) held fuel 3 [c] = some x) : ∃ k, c = .int .i64 k ∧ I64 k := by
  obtain ⟨k, e0, _, w0⟩ := DataW.trod_int Tryz.underlying3 h
  simp at e0
  exact ⟨k, e0, i64_wf w0⟩
theorem open_strQ {fuel : Nat} {c : Value} {x : DataW H × List MemPlace} (h : DataW.trod enc Tryz.prog W base (fun _ => true) held fuel 9 [c] = some x) : ∃ s, c = .string s ∧ s.size ≤ maxLen := by
  obtain ⟨t, e3, ht⟩ := DataW.trod_string Tryz.underlying9 h
  simp at e3
  exact ⟨t, e3, ht.2⟩
set_option maxRecDepth 100000 in
theorem open_setQ {fuel : Nat} {c0 c1 c2 c3 c4 : Value} {x : DataW H × List MemPlace} (h : DataW.trod enc Tryz.prog W base (fun _ => true) held fuel 23 [c0, c1, c2, c3, c4] = some x) : ∃ k0 k1 k2 k3 k4, c0 = .int .i64 k0 ∧ I64 k0 ∧ c1 = .int .i64 k1 ∧ I64 k1 ∧ c2 = .int .i64 k2 ∧ I64 k2 ∧ c3 = .int .i64 k3 ∧ I64 k3 ∧ c4 = .int .i64 k4 ∧ I64 k4 := by
  obtain ⟨xs, n, _, _, _, hlen, hfs⟩ := DataW.trod_struct Tryz.underlying23 h
  simp at hlen
  have g0 : DataW.trod enc Tryz.prog W base (fun _ => true) held n 3 [c0] = xs[0]? := by simpa [cellsIntQ] using hfs 0 _ rfl
  have g1 : DataW.trod enc Tryz.prog W base (fun _ => true) held n 3 [c1] = xs[1]? := by simpa [cellsIntQ] using hfs 1 _ rfl
  have g2 : DataW.trod enc Tryz.prog W base (fun _ => true) held n 3 [c2] = xs[2]? := by simpa [cellsIntQ] using hfs 2 _ rfl
  have g3 : DataW.trod enc Tryz.prog W base (fun _ => true) held n 3 [c3] = xs[3]? := by simpa [cellsIntQ] using hfs 3 _ rfl
  have g4 : DataW.trod enc Tryz.prog W base (fun _ => true) held n 3 [c4] = xs[4]? := by simpa [cellsIntQ] using hfs 4 _ rfl
  rw [List.getElem?_eq_getElem (by omega)] at g0 g1 g2 g3 g4
  obtain ⟨k0, e0, w0⟩ := open_intQ g0
  obtain ⟨k1, e1, w1⟩ := open_intQ g1
  obtain ⟨k2, e2, w2⟩ := open_intQ g2
  obtain ⟨k3, e3, w3⟩ := open_intQ g3
  obtain ⟨k4, e4, w4⟩ := open_intQ g4
  exact ⟨k0, k1, k2, k3, k4, e0, w0, e1, w1, e2, w2, e3, w3, e4, w4⟩
set_option maxRecDepth 100000 in
theorem open_seedsQ {fuel : Nat} {c0 c1 c2 : Value} {x : DataW H × List MemPlace} (h : DataW.trod enc Tryz.prog W base (fun _ => true) held fuel 25 [c0, c1, c2] = some x) : ∃ k0 k1 k2, c0 = .string k0 ∧ k0.size ≤ maxLen ∧ c1 = .string k1 ∧ k1.size ≤ maxLen ∧ c2 = .string k2 ∧ k2.size ≤ maxLen := by
  obtain ⟨xs, n, _, _, _, hlen, hfs⟩ := DataW.trod_struct Tryz.underlying25 h
  simp at hlen
  have g0 : DataW.trod enc Tryz.prog W base (fun _ => true) held n 9 [c0] = xs[0]? := by simpa [cellsStrQ] using hfs 0 _ rfl
  have g1 : DataW.trod enc Tryz.prog W base (fun _ => true) held n 9 [c1] = xs[1]? := by simpa [cellsStrQ] using hfs 1 _ rfl
  have g2 : DataW.trod enc Tryz.prog W base (fun _ => true) held n 9 [c2] = xs[2]? := by simpa [cellsStrQ] using hfs 2 _ rfl
  rw [List.getElem?_eq_getElem (by omega)] at g0 g1 g2
  obtain ⟨k0, e0, w0⟩ := open_strQ g0
  obtain ⟨k1, e1, w1⟩ := open_strQ g1
  obtain ⟨k2, e2, w2⟩ := open_strQ g2
  exact ⟨k0, k1, k2, e0, w0, e1, w1, e2, w2⟩
set_option maxRecDepth 100000 in
theorem open_placeQ {fuel : Nat} {c0 c1 c2 c3 : Value} {x : DataW H × List MemPlace} (h : DataW.trod enc Tryz.prog W base (fun _ => true) held fuel 27 [c0, c1, c2, c3] = some x) : ∃ k0 k1 k2 k3, c0 = .int .i64 k0 ∧ I64 k0 ∧ c1 = .int .i64 k1 ∧ I64 k1 ∧ c2 = .int .i64 k2 ∧ I64 k2 ∧ c3 = .int .i64 k3 ∧ I64 k3 := by
  obtain ⟨xs, n, _, _, _, hlen, hfs⟩ := DataW.trod_struct Tryz.underlying27 h
  simp at hlen
  have g0 : DataW.trod enc Tryz.prog W base (fun _ => true) held n 3 [c0] = xs[0]? := by simpa [cellsIntQ] using hfs 0 _ rfl
  have g1 : DataW.trod enc Tryz.prog W base (fun _ => true) held n 3 [c1] = xs[1]? := by simpa [cellsIntQ] using hfs 1 _ rfl
  have g2 : DataW.trod enc Tryz.prog W base (fun _ => true) held n 3 [c2] = xs[2]? := by simpa [cellsIntQ] using hfs 2 _ rfl
  have g3 : DataW.trod enc Tryz.prog W base (fun _ => true) held n 3 [c3] = xs[3]? := by simpa [cellsIntQ] using hfs 3 _ rfl
  rw [List.getElem?_eq_getElem (by omega)] at g0 g1 g2 g3
  obtain ⟨k0, e0, w0⟩ := open_intQ g0
  obtain ⟨k1, e1, w1⟩ := open_intQ g1
  obtain ⟨k2, e2, w2⟩ := open_intQ g2
  obtain ⟨k3, e3, w3⟩ := open_intQ g3
  exact ⟨k0, k1, k2, k3, e0, w0, e1, w1, e2, w2, e3, w3⟩
theorem list21 {l : List Value} (h : l.length = 21) : ∃ v0 v1 v2 v3 v4 v5 v6 v7 v8 v9 v10 v11 v12 v13 v14 v15 v16 v17 v18 v19 v20, l = [v0, v1, v2, v3, v4, v5, v6, v7, v8, v9, v10, v11, v12, v13, v14, v15, v16, v17, v18, v19, v20] := by
  match l, h with
  | [v0, v1, v2, v3, v4, v5, v6, v7, v8, v9, v10, v11, v12, v13, v14, v15, v16, v17, v18, v19, v20], _ => exact ⟨v0, v1, v2, v3, v4, v5, v6, v7, v8, v9, v10, v11, v12, v13, v14, v15, v16, v17, v18, v19, v20, rfl⟩
set_option maxRecDepth 100000 in
theorem open_opQ {fuel : Nat} {cs : List Value} {x : DataW H × List MemPlace} (hl : cs.length = 21) (h : DataW.trod enc Tryz.prog W base (fun _ => true) held fuel 77 cs = some x) (hz : Fits 77 x.1) : ∃ d : OpD, OpOk W d ∧ cs = opC d := by
  obtain ⟨v0, v1, v2, v3, v4, v5, v6, v7, v8, v9, v10, v11, v12, v13, v14, v15, v16, v17, v18, v19, v20, rfl⟩ := list21 hl
  obtain ⟨xs, n, _, hx, _, hlen, hfs⟩ := DataW.trod_struct Tryz.underlying77 h
  simp at hlen
  have g0 : DataW.trod enc Tryz.prog W base (fun _ => true) held n 3 [v0] = xs[0]? := by simpa [cellsIntQ, cellsStrQ, cellsBoolsQ, cellsStrsQ, cellsSetQ, cellsSeedsQ, cellsPlaceQ] using hfs 0 _ rfl
  have g1 : DataW.trod enc Tryz.prog W base (fun _ => true) held n 3 [v1] = xs[1]? := by simpa [cellsIntQ, cellsStrQ, cellsBoolsQ, cellsStrsQ, cellsSetQ, cellsSeedsQ, cellsPlaceQ] using hfs 1 _ rfl
  have g2 : DataW.trod enc Tryz.prog W base (fun _ => true) held n 3 [v2] = xs[2]? := by simpa [cellsIntQ, cellsStrQ, cellsBoolsQ, cellsStrsQ, cellsSetQ, cellsSeedsQ, cellsPlaceQ] using hfs 2 _ rfl
  have g3 : DataW.trod enc Tryz.prog W base (fun _ => true) held n 3 [v3] = xs[3]? := by simpa [cellsIntQ, cellsStrQ, cellsBoolsQ, cellsStrsQ, cellsSetQ, cellsSeedsQ, cellsPlaceQ] using hfs 3 _ rfl
  have g4 : DataW.trod enc Tryz.prog W base (fun _ => true) held n 9 [v4] = xs[4]? := by simpa [cellsIntQ, cellsStrQ, cellsBoolsQ, cellsStrsQ, cellsSetQ, cellsSeedsQ, cellsPlaceQ] using hfs 4 _ rfl
  have g5 : DataW.trod enc Tryz.prog W base (fun _ => true) held n 9 [v5] = xs[5]? := by simpa [cellsIntQ, cellsStrQ, cellsBoolsQ, cellsStrsQ, cellsSetQ, cellsSeedsQ, cellsPlaceQ] using hfs 5 _ rfl
  have g6 : DataW.trod enc Tryz.prog W base (fun _ => true) held n 9 [v6] = xs[6]? := by simpa [cellsIntQ, cellsStrQ, cellsBoolsQ, cellsStrsQ, cellsSetQ, cellsSeedsQ, cellsPlaceQ] using hfs 6 _ rfl
  have g7 : DataW.trod enc Tryz.prog W base (fun _ => true) held n 50 [v7] = xs[7]? := by simpa [cellsIntQ, cellsStrQ, cellsBoolsQ, cellsStrsQ, cellsSetQ, cellsSeedsQ, cellsPlaceQ] using hfs 7 _ rfl
  have g8 : DataW.trod enc Tryz.prog W base (fun _ => true) held n 75 [v8] = xs[8]? := by simpa [cellsIntQ, cellsStrQ, cellsBoolsQ, cellsStrsQ, cellsSetQ, cellsSeedsQ, cellsPlaceQ] using hfs 8 _ rfl
  have g9 : DataW.trod enc Tryz.prog W base (fun _ => true) held n 23 [v9, v10, v11, v12, v13] = xs[9]? := by simpa [cellsIntQ, cellsStrQ, cellsBoolsQ, cellsStrsQ, cellsSetQ, cellsSeedsQ, cellsPlaceQ] using hfs 9 _ rfl
  have g10 : DataW.trod enc Tryz.prog W base (fun _ => true) held n 25 [v14, v15, v16] = xs[10]? := by simpa [cellsIntQ, cellsStrQ, cellsBoolsQ, cellsStrsQ, cellsSetQ, cellsSeedsQ, cellsPlaceQ] using hfs 10 _ rfl
  have g11 : DataW.trod enc Tryz.prog W base (fun _ => true) held n 27 [v17, v18, v19, v20] = xs[11]? := by simpa [cellsIntQ, cellsStrQ, cellsBoolsQ, cellsStrsQ, cellsSetQ, cellsSeedsQ, cellsPlaceQ] using hfs 11 _ rfl
  have hzz : ∀ (i : Nat) (t : TypeId) (y : DataW H × List MemPlace), ([3, 3, 3, 3, 9, 9, 9, 50, 75, 23, 25, 27] : List TypeId)[i]? = some t → xs[i]? = some y → Fits t y.1 := fun i t y ht hy m hm => by
    refine hz m ?_
    rw [hx]
    have := DataW.weights_mem_each (P := Tryz.prog) (ts := [3, 3, 3, 3, 9, 9, 9, 50, 75, 23, 25, 27]) (ds := xs.map (·.1)) ht (by rw [List.getElem?_map, hy]; rfl) m hm
    simpa [DataW.weights, Tryz.underlying77] using this
  have f7 := hzz 7 50 (xs[7]'(by omega)) rfl (List.getElem?_eq_getElem (by omega))
  have f8 := hzz 8 75 (xs[8]'(by omega)) rfl (List.getElem?_eq_getElem (by omega))
  rw [List.getElem?_eq_getElem (by omega)] at g0 g1 g2 g3 g4 g5 g6 g7 g8 g9 g10 g11
  obtain ⟨k0, e0, w0⟩ := open_intQ g0
  obtain ⟨k1, e1, w1⟩ := open_intQ g1
  obtain ⟨k2, e2, w2⟩ := open_intQ g2
  obtain ⟨k3, e3, w3⟩ := open_intQ g3
  obtain ⟨k4, e4, w4⟩ := open_strQ g4
  obtain ⟨k5, e5, w5⟩ := open_strQ g5
  obtain ⟨k6, e6, w6⟩ := open_strQ g6
  obtain ⟨l1, l2, l3, X, e7, hX, hXl, hXs⟩ := open_textsQ g7 f7
  obtain ⟨s1, s2, s3, K, e8, hK, hKl⟩ := open_keepQ g8 f8
  obtain ⟨q0, q1, q2, q3, q4, a0, b0, a1, b1, a2, b2, a3, b3, a4, b4⟩ := open_setQ g9
  obtain ⟨r0, r1, r2, c0, d0, c1, d1, c2, d2⟩ := open_seedsQ g10
  obtain ⟨p0, p1, p2, p3, x0, y0, x1, y1, x2, y2, x3, y3⟩ := open_placeQ g11
  subst e0 e1 e2 e3 e4 e5 e6 e7 e8 a0 a1 a2 a3 a4 c0 c1 c2 x0 x1 x2 x3
  exact ⟨⟨k0, k1, k2, k3, k4, k5, k6, l1, l2, l3, X, s1, s2, s3, K, q0, q1, q2, q3, q4, r0, r1, r2, p0, p1, p2, p3⟩, ⟨w0, w1, w2, w3, w4, w5, w6, hX, hXl, hXs, hK, hKl, b0, b1, b2, b3, b4, d0, d1, d2, y0, y1, y2, y3⟩, rfl⟩
theorem weights_all {P : Program} {e : TypeId} {n : Nat} : ∀ {l : List (DataW H)} {d : DataW H}, d ∈ l → n ∈ d.weights P e → n ∈ DataW.weightsAll P e l
  | d0 :: l, d, hd, hn => by
    rw [DataW.weightsAll, List.mem_append]
    rcases List.mem_cons.1 hd with rfl | hd
    · exact .inl hn
    · exact .inr (weights_all hd hn)
set_option maxRecDepth 100000 in
theorem open_scriptQ {b0 : Nat} {r : Reach} {v : Value} {d : DataW H} {p : List MemPlace} (hv : Value.okWide Tryz.prog W r b0 32 v) (h : DataW.Trod enc Tryz.prog W base (fun _ => true) held 32 v d p) (hz : Fits 32 d) :
    ∃ l, ScriptQ W v l ∧ l.length ≤ 1099511627776 := by
  have hr := reach47
  have hbo : Tryz.prog.bytesOf 77 = 248 := by kernel_rfl
  obtain ⟨va, vl, vc, rfl⟩ := okWide_slice Tryz.underlying32 hv
  obtain ⟨fuel, hf⟩ := h
  rcases open_slice Tryz.underlying32 hf with ⟨h0, _⟩ | ⟨a, len, cap, m, n, D, Pl, hc, hb, hl, hm, hmm, hxx, hx⟩
  · simp [Value.cells] at h0
    obtain ⟨rfl, rfl, rfl⟩ := h0
    exact ⟨[], .inl ⟨⟨_, _, rfl⟩, rfl⟩, by simp⟩
  · simp [Value.cells] at hc
    obtain ⟨rfl, rfl, rfl⟩ := hc
    simp only [if_true] at hmm
    subst hmm
    have hd : d = .slice ((List.range vl).map D) ((List.range (m - vl)).map fun j => D (vl + j)) := congrArg Prod.fst hxx
    have hw : (vl + (m - vl)) * 248 ≤ reachBytes := by
      refine hz _ ?_
      rw [hd]
      simp [DataW.weights, Tryz.underlying32, hbo]
    by_cases h0 : vl = 0
    · subst h0
      exact ⟨[], .inl ⟨⟨_, _, rfl⟩, rfl⟩, by simp⟩
    · have each : ∀ i, i < vl → ∃ d : OpD, OpOk W d ∧ ∀ (k : Nat) u, (opC d)[k]? = some u → W.cell? (a.add (i * 21 + k)) = some u := by
        intro i hi
        obtain ⟨cs', h1, h2⟩ := hx i (by omega)
        rw [cellsOpQ] at h1
        obtain ⟨_, hlen, hcell⟩ := World.cells?_some h1
        obtain ⟨d, hd2, rfl⟩ := open_opQ hlen h2 (fun q hq => hz q (by
          rw [hd]
          simp only [DataW.weights, Tryz.underlying32, List.mem_cons, List.mem_append]
          exact .inr (.inl (weights_all (List.mem_map.2 ⟨i, List.mem_range.2 hi, rfl⟩) hq))))
        refine ⟨d, hd2, fun k u hu => ?_⟩
        have hk := (List.getElem?_eq_some_iff.1 hu)
        have := hcell k (by rw [← hlen]; exact hk.1)
        rw [add_add] at this
        rw [this, hu]
      have : Inhabited OpD := ⟨⟨0, 0, 0, 0, ⟨#[]⟩, ⟨#[]⟩, ⟨#[]⟩, none, 0, 0, [], none, 0, 0, [], 0, 0, 0, 0, 0, ⟨#[]⟩, ⟨#[]⟩, ⟨#[]⟩, 0, 0, 0, 0⟩⟩
      obtain ⟨q, hq⟩ := choose_lt each
      have hs : a.spot = none := by
        have := World.cell?_spot ((hq 0 (by omega)).2 0 _ rfl)
        simpa [Addr.add] using this
      obtain ⟨ab, ao, asp⟩ := a
      simp only at hs
      subst hs
      simp only [Addr.add_mid] at hq
      refine ⟨(List.range vl).map q, .inr ⟨ab, ao, _, by simp; rfl, by simpa using hl, World.block_lt_of_cell? W _ ((hq 0 (by omega)).2 0 _ rfl), fun j d hj => ?_⟩, by simp; omega⟩
      obtain ⟨hj1, e⟩ := List.getElem?_eq_some_iff.1 hj
      simp at hj1 e
      subst e
      obtain ⟨a1, a2⟩ := hq j hj1
      exact ⟨a1, fun i u h => by rw [Nat.add_assoc]; exact a2 i u h⟩
end
end Go.Proofs.YtgaoeoijdpdjiaaGreatDoor
