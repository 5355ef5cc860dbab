/-
  A script of the statement in memory; the statement's plays, over whatever holds from step to step.
-/
import Derived.Test.YtgaoeoijdpdjiaaGreatDoorPart1
import Derived.Test.YtgaoeoijdpdjiaaGreatDoorPart24
import Derived.Test.YtgaoeoijdpdjiaaGreatDoorPart32
import Derived.Test.YtgaoeoijdpdjiaaGreatDoorPart15
namespace Go.Proofs.YtgaoeoijdpdjiaaGreatDoor
open Go.RowKit
/-- One step of a script. -/
structure OpD where
  kd : Int
  on : Int
  a : Int
  b : Int
  s : ByteArray
  t : ByteArray
  u : ByteArray
  l1 : Option Addr
  l2 : Nat
  l3 : Nat
  X : List ByteArray
  k1 : Option Addr
  k2 : Nat
  k3 : Nat
  K : List Bool
  c0 : Int
  c1 : Int
  c2 : Int
  c3 : Int
  c4 : Int
  d0 : ByteArray
  d1 : ByteArray
  d2 : ByteArray
  p0 : Int
  p1 : Int
  p2 : Int
  p3 : Int
def opC (d : OpD) : List Value := [.int .i64 d.kd, .int .i64 d.on, .int .i64 d.a, .int .i64 d.b, .string d.s, .string d.t, .string d.u, .slice d.l1 d.l2 d.l3, .slice d.k1 d.k2 d.k3, .int .i64 d.c0, .int .i64 d.c1, .int .i64 d.c2, .int .i64 d.c3, .int .i64 d.c4, .string d.d0, .string d.d1, .string d.d2, .int .i64 d.p0, .int .i64 d.p1, .int .i64 d.p2, .int .i64 d.p3]
def opV (d : OpD) : Value := .agg (opC d).toArray
theorem opC_one (d : OpD) : ∀ v ∈ opC d, v.oneCell' = true := by
  intro v hv
  simp only [opC, List.mem_cons, List.not_mem_nil, or_false] at hv
  rcases hv with rfl | rfl | rfl | rfl | rfl | rfl | rfl | rfl | rfl | rfl | rfl | rfl | rfl | rfl | rfl | rfl | rfl | rfl | rfl | rfl | rfl <;> rfl
def I64 (x : Int) : Prop := -9223372036854775808 ≤ x ∧ x ≤ 9223372036854775807
def StrsQ (w : World) (sp : Option Addr) (n c : Nat) (xs : List ByteArray) : Prop :=
  (sp = none ∧ n = 0 ∧ c = 0 ∧ xs = []) ∨ (∃ a : Addr, sp = some a ∧ n = 0 ∧ xs = []) ∨ ∃ bk o, sp = some ⟨bk, o, none⟩ ∧ n = xs.length ∧ xs.length ≤ c ∧ bk < w.heap.size ∧ ∀ (j : Nat) y, xs[j]? = some y → w.cell? ⟨bk, o + j, none⟩ = some (.string y)
/-- What is known of a step that came in. -/
structure OpOk (w : World) (d : OpD) : Prop where
  kd : I64 d.kd
  on : I64 d.on
  a : I64 d.a
  b : I64 d.b
  s : d.s.size ≤ maxLen
  t : d.t.size ≤ maxLen
  u : d.u.size ≤ maxLen
  l : StrsQ w d.l1 d.l2 d.l3 d.X
  ln : d.X.length ≤ 8796093022208
  lx : ∀ y ∈ d.X, y.size ≤ maxLen
  k : KeepAt w d.k1 d.k2 d.k3 d.K
  kn : d.K.length ≤ 140737488355328
  c0 : I64 d.c0
  c1 : I64 d.c1
  c2 : I64 d.c2
  c3 : I64 d.c3
  c4 : I64 d.c4
  d0 : d.d0.size ≤ maxLen
  d1 : d.d1.size ≤ maxLen
  d2 : d.d2.size ≤ maxLen
  p0 : I64 d.p0
  p1 : I64 d.p1
  p2 : I64 d.p2
  p3 : I64 d.p3
def ScriptQ (w : World) (v : Value) (L : List OpD) : Prop :=
  ((∃ a c, v = .slice a 0 c) ∧ L = []) ∨ ∃ sb so cap, v = .slice (some ⟨sb, so, none⟩) L.length cap ∧ L.length ≤ cap ∧ sb < w.heap.size ∧ ∀ (j : Nat) (d : OpD), L[j]? = some d → OpOk w d ∧ ∀ (i : Nat) u, (opC d)[i]? = some u → w.cell? ⟨sb, so + j * 21 + i, none⟩ = some u
theorem ScriptQ.len {w : World} {v : Value} {L : List OpD} (h : ScriptQ w v L) : ∃ a c, v = .slice a L.length c := by
  rcases h with ⟨⟨a, c, rfl⟩, rfl⟩ | ⟨sb, so, cap, rfl, _⟩
  · exact ⟨a, c, rfl⟩
  · exact ⟨_, _, rfl⟩
def wldC : List Value := [.slice none 0 0, .slice none 0 0, .slice none 0 0, .slice none 0 0, .slice none 0 0, .slice none 0 0]
theorem sizeOp : (Tryz.prog.info? 77).map (·.size) = some 21 := by kernel_rfl
theorem wp_pre_op {x : Operand} {d : Option Nat} {ty : TypeId} {ps : String} {af : Array Edge} {g : Option (Nat × Bool)} {a : Act} {w : World} {K : Act → World → Prop} {Q : Exit → Act → World → Prop} (h : (ptrCells w 21 (a.eval x)).isSome = true) :
    Oper.wp Tryz.prog { dst := d, op := .load 77 x, type := ty, pos := ps, after := af, guard := g } a w K Q = K (a.put d (.agg ((ptrCells w 21 (a.eval x)).getD []).toArray)) w := by
  obtain ⟨b, o, cs, hx, hcs, hl, hr⟩ := ptrCells_range h
  have hv := run_loadVar_mid (P := Tryz.prog) w b o 77 cs _ hr Tryz.underlying77 rfl (by rw [hl]; exact sizeOp)
  rw [hcs]
  unfold Oper.wp execOp
  simp only [hx, Instr.loadAt, Instr.sureAddr, Sem.run_bind, Sem.run_pure, Result.andThen_ok, hv]
  rfl
theorem wp_pre_store_op {x y : Operand} {d : Option Nat} {ty : TypeId} {ps : String} {af : Array Edge} {g : Option (Nat × Bool)} {a : Act} {w : World} {K : Act → World → Prop} {Q : Exit → Act → World → Prop} (h : StoreOk w 21 (a.eval x) (a.eval y)) :
    Oper.wp Tryz.prog { dst := d, op := .store 77 x y, type := ty, pos := ps, after := af, guard := g } a w K Q = K (a.put d undef) (storeW w (a.eval x) (a.eval y)) := by
  obtain ⟨b, o, l, hx, hy, hl, h1, ht⟩ := h
  have hv := run_storeVar_mid (P := Tryz.prog) w b o 77 l.toArray (by rw [List.size_toArray, hl]; exact ht) (by rw [List.size_toArray, hl]; exact sizeOp) (all_oneCell_toArray h1)
  rw [hx, hy, storeW_at]
  unfold Oper.wp execOp
  simp only [hx, hy, Instr.storeAt, Instr.sureAddr, Sem.run_bind, Sem.run_pure, Result.andThen_ok, hv]
  rfl
theorem set_all (w : World) (c : Array Value) (T : TypeId) (C : List Value) (h : c.size = C.length) : Blk ((w.alloc (.cells c T)).setCells w.heap.size 0 C) w.heap.size C T := by
  have hb : Blk (w.alloc (.cells c T)) w.heap.size c.toList T := by
    have := Blk.new w c.toList T
    simpa using this
  have key : ∀ (C P R : List Value) (V : World), Blk V w.heap.size (P ++ R) T → R.length = C.length → Blk (V.setCells w.heap.size P.length C) w.heap.size (P ++ C) T := by
    intro C
    induction C with
    | nil => intro P R V h hl; cases R with
      | nil => exact h
      | cons _ _ => simp at hl
    | cons v C ih =>
      intro P R V h hl
      cases R with
      | nil => simp at hl
      | cons r R =>
        rw [World.setCells]
        have h2 := h.set P.length v
        rw [List.set_append_right _ _ (Nat.le_refl _), Nat.sub_self, List.set_cons_zero] at h2
        have := ih (P ++ [v]) R (V.setCell ⟨w.heap.size, P.length, none⟩ v) (by rw [List.append_assoc]; exact h2) (by simpa using hl)
        rw [List.length_append, List.length_singleton, List.append_assoc] at this
        exact this
  have := key C [] c.toList _ hb (by rw [Array.length_toList, h])
  exact this
attribute [local go_sem] ptrCells_at storeW_at
attribute [local go_sem ↓] wp_pre_op wp_pre_store_op
set_option maxRecDepth 20000 in
set_option maxHeartbeats 8000000 in
theorem plays_on (v : Value) (L : List OpD) (lo hi : Int) (INV : Nat → Nat → World → Prop) (w : World) (hv : ScriptQ w v L) (hl : L.length ≤ 1099511627776)
    (hB : Calls Tryz.prog 31 #[.int .i64 lo, .int .i64 hi] w fun e w' => e = .returned (.bool true) ∧ Below w.heap.size w w')
    (hNw : ∀ V Wb V', Below w.heap.size w V → Wb = V.heap.size → Blk V' Wb wldC 74 → Below V.heap.size V V' → INV 0 Wb V')
    (hS : ∀ (j : Nat) (d : OpD) (Wb : Nat) (V : World), j < L.length → L[j]? = some d → OpOk w d → lo ≤ d.kd → d.kd ≤ hi → INV j Wb V → Calls Tryz.prog 32 #[.pointer (some ⟨Wb, 0, none⟩), opV d] V fun e w' => e = .returned (.bool true) ∧ INV (j + 1) Wb w')
    (hK : ∀ (j Wb : Nat) (V : World), INV j Wb V → Calls Tryz.prog 33 #[.pointer (some ⟨Wb, 0, none⟩)] V fun e w' => e = .returned (.bool true) ∧ Below V.heap.size V w')
    (hU : ∀ (j Wb : Nat) (V V' : World), INV j Wb V → Below V.heap.size V V' → INV j Wb V') (hI : ∀ (j Wb : Nat) (V : World), INV j Wb V → INV (j + 1) Wb V) (hLw : ∀ (j Wb : Nat) (V : World), INV j Wb V → Below w.heap.size w V) :
    Calls Tryz.prog 10 #[v, .int .i64 lo, .int .i64 hi] w fun e w' => e = .returned (.bool true) ∧ Below w.heap.size w w' := by
  obtain ⟨va, vc, hvv⟩ := hv.len
  subst hvv
  have HV := hide hv
  have HB := hide hB
  have HNW := hide hNw
  have HS := hide hS
  have HK := hide hK
  have HU := hide hU
  have HII := hide hI
  have HLW := hide hLw
  obtain ⟨N, hN⟩ : ∃ N, L.length = N := ⟨_, rfl⟩
  rw [hN] at hl
  simp only [hN]
  rw [hN] at HS
  have HN := hide hN
  have HNB := hide hl
  clear hv hB hS hK hU hI hLw hN hl hNw
  go_enter Tryz.func10, Tryz.ntmps10
  go_wp2_with fail
  refine HB.out.mono ?_
  rintro e1 w1 ⟨rfl, hb1⟩
  obtain ⟨W1, hW1⟩ : ∃ W1, w1.alloc (.cells #[.slice none 0 0, .slice none 0 0, .slice none 0 0, .slice none 0 0, .slice none 0 0, .slice none 0 0] 74) = W1 := ⟨_, rfl⟩
  obtain ⟨Wb, hWb⟩ : ∃ Wb, w1.heap.size = Wb := ⟨_, rfl⟩
  have HI0 := hide (HNW.out w1 Wb W1 hb1 hWb.symm (by rw [← hW1, ← hWb]; exact Blk.new w1 wldC _) (by rw [← hW1]; exact (Below.refl _ _).alloc (Nat.le_refl _) _))
  have HWE := hide hW1
  have HWB := hide hWb
  clear hb1 hW1 hWb
  go_wp2_with fail
  rw [HWE.out, HWB.out]
  go_loopw [9] (fun i wr => ∃ j : Nat, j ≤ N ∧ i = .int .i64 j ∧ Hid (INV j Wb wr)) (fun i _ => N - (intOf i).toNat)
  case atStart => exact ⟨0, Nat.zero_le _, rfl, HI0.out⟩
  case round =>
    obtain ⟨j, hj, rfl, hinv⟩ := hrel
    by_cases hlt : j < N
    · have HBW := hide (HLW.out j Wb wr hinv.out)
      obtain ⟨xkd, C, sb, so, hvav, hcap, hA, HC0, HCL, HC1, HSP⟩ : ∃ (xkd : Int) (C : List Value) (sb so : Nat), va = some ⟨sb, so, none⟩ ∧ N ≤ vc ∧ cellsAt wr sb (so + j * 21) 21 = some C ∧ Hid (C[0]? = some (.int .i64 xkd)) ∧ Hid (C.length = 21) ∧ Hid (∀ v ∈ C, v.oneCell' = true) ∧ Hid (lo ≤ xkd → xkd ≤ hi → ∀ V, Below wr.heap.size wr V → Calls Tryz.prog 32 #[.pointer (some ⟨Wb, 0, none⟩), .agg C.toArray] V fun e w' => e = .returned (.bool true) ∧ INV (j + 1) Wb w') := by
        rcases HV.out with ⟨_, e0⟩ | ⟨sb, so, cap, e0, hcp, hsb, hall⟩
        · have := HN.out
          rw [e0] at this
          simp at this
          omega
        · obtain ⟨d, hd⟩ : ∃ d, L[j]? = some d := ⟨_, List.getElem?_eq_getElem (by rw [HN.out]; exact hlt)⟩
          obtain ⟨ok, hcell⟩ := hall j d hd
          simp only [Value.slice.injEq] at e0
          exact ⟨d.kd, opC d, sb, so, e0.1, by rw [← HN.out, e0.2.2]; exact hcp, range_cellsAt _ _ _ _ _ rfl (fun i u h => (HBW.out.cell (p := ⟨sb, so + j * 21 + i, none⟩) hsb).trans (hcell i u h)), rfl, rfl, opC_one d, fun h1 h2 V hb => HS.out j d Wb V hlt hd ok h1 h2 (HU.out j Wb wr V hinv.out hb)⟩
      subst hvav
      have hms : (j : Int) < (N : Int) := by omega
      have hjb : (j : Int) < 1152921504606846976 := by have := HNB.out; omega
      have hjb2 : decide ((j : Int) < 1152921504606846976) = true := decide_eq_true hjb
      have HNX := hide (fun V (hb : Below wr.heap.size wr V) => HII.out j Wb V (HU.out j Wb wr V hinv.out hb))
      have hSO : StoreOk (wr.alloc (.cells #[.int .i64 0, .int .i64 0, .int .i64 0, .int .i64 0, .string ⟨#[]⟩, .string ⟨#[]⟩, .string ⟨#[]⟩, .slice none 0 0, .slice none 0 0, .int .i64 0, .int .i64 0, .int .i64 0, .int .i64 0, .int .i64 0, .string ⟨#[]⟩, .string ⟨#[]⟩, .string ⟨#[]⟩, .int .i64 0, .int .i64 0, .int .i64 0, .int .i64 0] 77)) 21 (.pointer (some ⟨wr.heap.size, 0, none⟩)) (.agg C.toArray) := ⟨wr.heap.size, 0, C, rfl, rfl, HCL.out, HC1.out, there_new wr _ _ 21 rfl⟩
      obtain ⟨W2, hW2⟩ : ∃ W2, (wr.alloc (.cells #[.int .i64 0, .int .i64 0, .int .i64 0, .int .i64 0, .string ⟨#[]⟩, .string ⟨#[]⟩, .string ⟨#[]⟩, .slice none 0 0, .slice none 0 0, .int .i64 0, .int .i64 0, .int .i64 0, .int .i64 0, .int .i64 0, .string ⟨#[]⟩, .string ⟨#[]⟩, .string ⟨#[]⟩, .int .i64 0, .int .i64 0, .int .i64 0, .int .i64 0] 77)).setCells wr.heap.size 0 C = W2 := ⟨_, rfl⟩
      have HB2 := hide (show Below wr.heap.size wr W2 by
        rw [← hW2]
        exact (((Kept.refl (fun _ => False) wr).alloc _).setCells (.inr (Nat.le_refl _)) 0 C).below (fun _ e => e.elim) (Nat.le_refl _))
      have hBk : Blk W2 wr.heap.size C 77 := by
        rw [← hW2]
        exact set_all wr _ _ C (by rw [HCL.out]; rfl)
      have k0 : W2.cell? ⟨wr.heap.size, 0, none⟩ = some (.int .i64 xkd) := (hBk.cell 0).trans HC0.out
      have kA : cellsAt W2 wr.heap.size 0 21 = some C := range_cellsAt C 21 W2 wr.heap.size 0 HCL.out (fun i u h => by rw [Nat.zero_add]; exact (hBk.cell i).trans h)
      have hW2' := hW2
      clear hinv hBk
      by_cases h1 : xkd < lo
      · go_wp2
        go_roundw
        case rel => exact ⟨j + 1, by omega, by go_num, HNX.out _ HB2.out⟩
        case measure => simp [intOf]; omega
      · by_cases h2 : hi < xkd
        · go_wp2
          go_roundw
          case rel => exact ⟨j + 1, by omega, by go_num, HNX.out _ HB2.out⟩
          case measure => simp [intOf]; omega
        · have HSX := hide (HSP.out (by omega) (by omega) W2 HB2.out)
          have h1' : decide (xkd < lo) = false := decide_eq_false h1
          have h2' : decide (hi < xkd) = false := decide_eq_false h2
          go_wp2_with fail
          refine HSX.out.mono ?_
          rintro e1 w7 ⟨rfl, hq7⟩
          have HKX := hide (HK.out _ _ _ hq7)
          have HQ7 := hide hq7
          clear hq7 hA k0 kA hSO hW2 hW2'
          go_wp2_with fail
          refine HKX.out.mono ?_
          rintro e1 w8 ⟨rfl, hb8⟩
          have HQ8 := hide (HU.out _ _ _ _ HQ7.out hb8)
          clear hb8
          go_wp2
          go_roundw
          case rel => exact ⟨j + 1, by omega, by go_num, HQ8.out⟩
          case measure => simp [intOf]; omega
    · have hms : ¬ (j : Int) < (N : Int) := by omega
      have HBW := hide (HLW.out j Wb wr hinv.out)
      clear hinv
      go_wp2
      go_ret
      exact ⟨rfl, HBW.out⟩
end Go.Proofs.YtgaoeoijdpdjiaaGreatDoor
