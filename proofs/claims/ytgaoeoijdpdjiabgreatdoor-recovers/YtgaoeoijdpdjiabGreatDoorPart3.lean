/-
  The contract of strings.Join over this program, laid by the shelf of the library. What a right set is. Rows of integers in memory: what a block holds, behind a store too; worlds that part in one block alone. Plain mathematics of digits: no program is named here. For two different values of one length each has a digit that is greater than the other's. The small functions of package sets and of the statements' own package, each by its contract: pick, count, perByte, right, chains.
-/
import Derived.Shelf.Strings.OnBuilder
import Derived.Test.YtgaoeoijdpdjiabGreatDoorProg
import Derived.WalkKit
import Derived.Test.YtgaoeoijdpdjiabGreatDoorRows
import Derived.WalkSpells
import Derived.WalkLawsBesides
namespace Go.Proofs.YtgaoeoijdpdjiabGreatDoor
open Go.Shelf Go.Proofs
def lays156_ren : Go.Shelf.Ren := ⟨fun | 156 => 161 | 165 => 235 | 166 => 236 | 169 => 237 | 240 => 280 | 241 => 281 | 276 => 315 | 277 => 316 | n => n, fun | 31 => 27 | 9 => 9 | 3 => 3 | 4 => 4 | 0 => 0 | 20 => 20 | 72 => 307 | 76 => 311 | 70 => 305 | 37 => 170 | 75 => 310 | 127 => 351 | 164 => 372 | 5 => 5 | 80 => 115 | n => n, fun | n => n⟩
theorem lays156 : Go.Proofs.Lays.n156 Tryz.prog lays156_ren := {
  mixed := by kernel_rfl
  f156 := Tryz.func161.trans (congrArg some (by kernel_rfl))
  f165 := Tryz.func235.trans (congrArg some (by kernel_rfl))
  f166 := Tryz.func236.trans (congrArg some (by kernel_rfl))
  f169 := Tryz.func237.trans (congrArg some (by kernel_rfl))
  f240 := Tryz.func280.trans (congrArg some (by kernel_rfl))
  f241 := Tryz.func281.trans (congrArg some (by kernel_rfl))
  f276 := Tryz.func315.trans (congrArg some (by kernel_rfl))
  f277 := Tryz.func316.trans (congrArg some (by kernel_rfl))
  t0 := Tryz.underlying0
  a0 := Tryz.isAgg0
  z0 := Tryz.sizeOf0
  v0 := Tryz.zeroValue0
  t3 := Tryz.underlying3
  a3 := Tryz.isAgg3
  z3 := Tryz.sizeOf3
  v3 := Tryz.zeroValue3
  t4 := Tryz.underlying4
  a4 := Tryz.isAgg4
  z4 := Tryz.sizeOf4
  v4 := Tryz.zeroValue4
  t9 := Tryz.underlying9
  a9 := Tryz.isAgg9
  z9 := Tryz.sizeOf9
  v9 := Tryz.zeroValue9
  t20 := Tryz.underlying20
  a20 := Tryz.isAgg20
  z20 := Tryz.sizeOf20
  v20 := Tryz.zeroValue20
  t31 := Tryz.underlying27
  a31 := Tryz.isAgg27
  z31 := Tryz.sizeOf27
  v31 := Tryz.zeroValue27
  t37 := Tryz.underlying170
  a37 := Tryz.isAgg170
  z37 := Tryz.sizeOf170
  v37 := Tryz.zeroValue170
  t70 := Tryz.underlying305
  a70 := Tryz.isAgg305
  z70 := Tryz.sizeOf305
  v70 := Tryz.zeroValue305
  t72 := Tryz.underlying307
  a72 := Tryz.isAgg307
  z72 := Tryz.sizeOf307
  v72 := Tryz.zeroValue307
  t75 := Tryz.underlying310
  a75 := Tryz.isAgg310
  z75 := Tryz.sizeOf310
  v75 := Tryz.zeroValue310
  t76 := Tryz.underlying311
  a76 := Tryz.isAgg311
  z76 := Tryz.sizeOf311
  v76 := Tryz.zeroValue311
  t127 := Tryz.underlying351
  a127 := Tryz.isAgg351
  z127 := Tryz.sizeOf351
  v127 := Tryz.zeroValue351
  t164 := Tryz.underlying372
  a164 := Tryz.isAgg372
  z164 := Tryz.sizeOf372
  v164 := Tryz.zeroValue372 }
theorem Builder_Extra_156 : Builder.Extra Tryz.prog lays156_ren := {
  sizeBuilder := by kernel_rfl
  liesBuilder := by kernel_rfl
  t5 := Tryz.underlying5
  a5 := Tryz.isAgg5
  z5 := Tryz.sizeOf5
  v5 := Tryz.zeroValue5
  infoByte := by kernel_rfl
  cellsByte := by kernel_rfl
  sizeByte := by kernel_rfl
  neB5 := by decide }
open Go.RowKit in
theorem strings_Join (bk o c : Nat) (xs : List ByteArray) (sep : ByteArray) (w : World) (hcells : ∀ (j : Nat) x, xs[j]? = some x → w.cell? ⟨bk, o + j, none⟩ = some (.string x)) (hbk : bk < w.heap.size) (hN : xs.length ≤ 140737488355328) (hcap : xs.length ≤ c) (hlen : (Lib.join (xs.map (·.data.toList)) sep.data.toList).length ≤ 140737488355328) :
    Calls Tryz.prog 161 #[.slice (some ⟨bk, o, none⟩) xs.length c, .string sep] w fun e w' => e = .returned (.string ⟨(Lib.join (xs.map (·.data.toList)) sep.data.toList).toArray⟩) ∧ Below w.heap.size w w' := Any.strings_Join lays156 Builder_Extra_156 bk o c xs sep w hcells hbk hN hcap hlen
end Go.Proofs.YtgaoeoijdpdjiabGreatDoor

namespace Go.Proofs.YtgaoeoijdpdjiabGreatDoor
/-- Is the set right? -/
def rightB (k b x t l : Int) : Bool := decide ((k = 1 ∨ k = 2) ∧ (b = 4 ∨ b = 8) ∧ (x = 4 ∨ x = 16) ∧ (1 ≤ t ∧ t ≤ 4) ∧ (1 ≤ l ∧ l ≤ 3))
end Go.Proofs.YtgaoeoijdpdjiabGreatDoor

namespace Go.Proofs.YtgaoeoijdpdjiabGreatDoor
open Go.RowKit
theorem hideM {p : Prop} (h : p) : Hid p := h
/-- Block g is a row of the integers L, and may be written. -/
def RowZ (w : World) (g : Nat) (L : List Int) : Prop := w.heap[g]? = some (.cells (L.map (Value.int .i64)).toArray 3 (0, 0))
theorem RowZ.cell {w : World} {g : Nat} {L : List Int} (h : RowZ w g L) {i : Nat} (hi : i < L.length) : w.cell? ⟨g, i, none⟩ = some (.int .i64 (L[i]?.getD 0)) := by
  unfold RowZ at h
  simp [World.cell?, h, hi]
theorem RowZ.free {w : World} {g : Nat} {L : List Int} (h : RowZ w g L) (i : Nat) : w.frozen? ⟨g, i, none⟩ = false := by
  unfold RowZ at h
  simp [World.frozen?, h]
theorem RowZ.lt {w : World} {g : Nat} {L : List Int} (h : RowZ w g L) : g < w.heap.size := lt_of_block h
theorem RowZ.set {w : World} {g : Nat} {L : List Int} (h : RowZ w g L) (i : Nat) (z : Int) : RowZ (w.setCell ⟨g, i, none⟩ (.int .i64 z)) g (L.set i z) := by
  have hlt := h.lt
  unfold RowZ at h ⊢
  have h' : w.heap[g] = .cells (L.map (Value.int .i64)).toArray 3 (0, 0) := by simpa [Array.getElem?_eq_getElem hlt] using h
  show (w.heap.modify g _)[g]? = _
  rw [Array.getElem?_eq_getElem (by simpa using hlt), Array.getElem_modify_self, h']
  simp
theorem RowZ.below {w w' : World} {g B : Nat} {L : List Int} (h : RowZ w g L) (hb : Below B w w') (hg : g < B) : RowZ w' g L := by
  unfold RowZ at h ⊢
  rw [hb.block g hg]; exact h
theorem RowZ.drew {w : World} {g : Nat} {L : List Int} (h : RowZ w g L) : RowZ w.drew g L := h
theorem RowZ.other {w : World} {g : Nat} {L : List Int} (h : RowZ w g L) {a : Addr} (u : Value) (hne : g ≠ a.block) : RowZ (w.setCell a u) g L := by
  unfold RowZ at h ⊢
  rw [Below.heap_setCell _ _ _ _ hne]; exact h
/-- The worlds part in block g alone. -/
structure OnlyM (g : Nat) (w w' : World) : Prop where
  os : w'.os = w.os
  tape : w'.tape = w.tape
  output : w'.output = w.output
  size : w'.heap.size = w.heap.size
  block : ∀ k, k ≠ g → w'.heap[k]? = w.heap[k]?
theorem OnlyM.refl (g : Nat) (w : World) : OnlyM g w w := ⟨rfl, rfl, rfl, rfl, fun _ _ => rfl⟩
theorem OnlyM.trans {g : Nat} {a b c : World} (h : OnlyM g a b) (k : OnlyM g b c) : OnlyM g a c :=
  ⟨k.os.trans h.os, k.tape.trans h.tape, k.output.trans h.output, k.size.trans h.size, fun i hi => (k.block i hi).trans (h.block i hi)⟩
theorem OnlyM.setCell {g : Nat} {a w : World} (h : OnlyM g a w) (i : Nat) (u : Value) : OnlyM g a (w.setCell ⟨g, i, none⟩ u) :=
  h.trans ⟨rfl, rfl, rfl, by simp [World.setCell], fun _ hk => Below.heap_setCell _ _ _ _ hk⟩
theorem OnlyM.below {g B : Nat} {a w w' : World} (h : Below B a w) (k : OnlyM g w w') (hg : B ≤ g) : Below B a w' :=
  h.trans ⟨k.os, k.tape, k.output, by rw [k.size]; exact Nat.le_refl _, fun i hi => k.block i (by omega)⟩
theorem OnlyM.cell {g : Nat} {w w' : World} (h : OnlyM g w w') {p : Addr} (hp : p.block ≠ g) : w'.cell? p = w.cell? p := World.cell?_of_block (w := w) (h.block p.block hp)
/-- L, with the digits D from its place off + k on. -/
def laidTo (L : List Int) (off n : Nat) (D : List Nat) (k : Nat) : List Int := L.take (off + k) ++ ((D.drop k).map Int.ofNat) ++ L.drop (off + n)
theorem laidTo_start (L : List Int) (off n : Nat) (D : List Nat) (hD : D.length = n) : laidTo L off n D n = L := by
  simp [laidTo, List.drop_of_length_le (Nat.le_of_eq hD)]
theorem laidTo_length (L : List Int) (off n : Nat) (D : List Nat) (k : Nat) (hD : D.length = n) (hL : off + n ≤ L.length) (hk : k ≤ n) : (laidTo L off n D k).length = L.length := by
  simp [laidTo]; omega
theorem laidTo_step (L : List Int) (off n : Nat) (D : List Nat) (k : Nat) (hD : D.length = n) (hL : off + n ≤ L.length) (hk : k < n) :
    (laidTo L off n D (k + 1)).set (off + k) ((D[k]?.getD 0 : Nat) : Int) = laidTo L off n D k := by
  have hk' : k < D.length := by omega
  have e1 : L.take (off + (k + 1)) = L.take (off + k) ++ [L[off + k]'(by omega)] := by
    rw [show off + (k + 1) = (off + k) + 1 by omega, List.take_succ_eq_append_getElem (by omega)]
  have e2 : D.drop k = D[k] :: D.drop (k + 1) := List.drop_eq_getElem_cons hk'
  unfold laidTo
  rw [e1, e2, List.append_assoc, List.append_assoc, List.set_append_right _ _ (by simp; omega)]
  have e3 : off + k - (L.take (off + k)).length = 0 := by simp; omega
  rw [e3]
  simp only [List.cons_append, List.nil_append, List.set_cons_zero, List.map_cons, List.getElem?_eq_getElem hk', Option.getD_some, List.append_assoc]
  rfl
end Go.Proofs.YtgaoeoijdpdjiabGreatDoor

namespace Go.Proofs.YtgaoeoijdpdjiabGreatDoor
/-- The n lowest digits of v to the base x, the highest first. -/
def digs (x : Nat) : Nat → Nat → List Nat
  | 0, _ => []
  | n + 1, v => digs x n (v / x) ++ [v % x]
theorem digs_length (x n v : Nat) : (digs x n v).length = n := by
  induction n generalizing v with
  | zero => rfl
  | succ n ih => simp [digs, ih]
theorem digs_lt (x n v : Nat) (hx : 0 < x) : ∀ d ∈ digs x n v, d < x := by
  induction n generalizing v with
  | zero => simp [digs]
  | succ n ih =>
    intro d hd
    simp only [digs, List.mem_append, List.mem_singleton] at hd
    rcases hd with hd | rfl
    · exact ih _ d hd
    · exact Nat.mod_lt _ hx
/-- The i-th entry, 0 where there is none. -/
def at0M (l : List Nat) (i : Nat) : Nat := l.getD i 0
theorem at0_past (a : List Nat) (i : Nat) (h : a.length ≤ i) : at0M a i = 0 := by
  simp [at0M, List.getElem?_eq_none h]
theorem at0_lt (l : List Nat) (x i : Nat) (hx : 0 < x) (h : ∀ d ∈ l, d < x) : at0M l i < x := by
  by_cases hi : i < l.length
  · simp only [at0M, List.getD_eq_getElem?_getD, List.getElem?_eq_getElem hi, Option.getD_some]
    exact h _ (List.getElem_mem hi)
  · rw [at0_past _ _ (by omega)]; exact hx
/-- What the digits lack. -/
def lackN (x : Nat) : List Nat → Nat
  | [] => 0
  | d :: r => (x - 1 - d) + lackN x r
theorem lackN_append (x : Nat) (a b : List Nat) : lackN x (a ++ b) = lackN x a + lackN x b := by
  induction a with
  | nil => simp [lackN]
  | cons d r ih => simp only [List.cons_append, lackN, ih]; omega
theorem lackN_le (x : Nat) (l : List Nat) : lackN x l ≤ l.length * (x - 1) := by
  induction l with
  | nil => simp [lackN]
  | cons d r ih =>
    simp only [lackN, List.length_cons, Nat.succ_mul]
    omega
/-- The digits of all bytes, e of each. -/
def firsts (x e : Nat) : List Nat → List Nat
  | [] => []
  | c :: r => digs x e c ++ firsts x e r
theorem firsts_length (x e : Nat) (l : List Nat) : (firsts x e l).length = l.length * e := by
  induction l with
  | nil => simp [firsts]
  | cons c r ih => simp only [firsts, List.length_append, digs_length, ih, List.length_cons, Nat.succ_mul]; omega
theorem firsts_lt (x e : Nat) (l : List Nat) (hx : 0 < x) : ∀ d ∈ firsts x e l, d < x := by
  induction l with
  | nil => simp [firsts]
  | cons c r ih =>
    intro d hd
    simp only [firsts, List.mem_append] at hd
    rcases hd with hd | hd
    · exact digs_lt _ _ _ hx _ hd
    · exact ih _ hd
/-- All digits of a value: those of its bytes, then f digits of what they lack. -/
def digitsN (x e f : Nat) (a : List Nat) : List Nat := firsts x e a ++ digs x f (lackN x (firsts x e a))
theorem digitsN_length (x e f : Nat) (a : List Nat) : (digitsN x e f a).length = a.length * e + f := by
  simp [digitsN, firsts_length, digs_length]
theorem digitsN_lt (x e f : Nat) (a : List Nat) (hx : 0 < x) : ∀ d ∈ digitsN x e f a, d < x := by
  intro d hd
  simp only [digitsN, List.mem_append] at hd
  rcases hd with hd | hd
  · exact firsts_lt _ _ _ hx _ hd
  · exact digs_lt _ _ _ hx _ hd
end Go.Proofs.YtgaoeoijdpdjiabGreatDoor

namespace Go.Proofs.YtgaoeoijdpdjiabGreatDoor
open Go.RowKit
/-- What 'pick' answers. -/
def pickZ (c n : Int) : Int := if c < 0 then (-(c + 1)) % n else c % n
theorem pickZ_bd (c n : Int) (h : 1 ≤ n) : 0 ≤ pickZ c n ∧ pickZ c n < n := by
  unfold pickZ
  split
  · exact ⟨Int.emod_nonneg _ (by omega), Int.emod_lt_of_pos _ (by omega)⟩
  · exact ⟨Int.emod_nonneg _ (by omega), Int.emod_lt_of_pos _ (by omega)⟩
theorem ret_int {k : IntKind} {a b : Int} (h : a = b) : Ending.returned (.int k a) = .returned (.int k b) := by rw [h]
set_option maxHeartbeats 400000 in
theorem pick_any (c n : Int) (w : World) (h1 : 1 ≤ n) (h2 : n ≤ 4096) (hc : -9223372036854775808 ≤ c) (hc2 : c ≤ 9223372036854775807) :
    Calls Tryz.prog 17 #[.int .i64 c, .int .i64 n] w fun e w' => e = .returned (.int .i64 (pickZ c n)) ∧ w' = w := by
  by_cases h : c < 0
  · go_enter Tryz.func17, Tryz.ntmps17
    go_wp2
    go_ret
    refine ⟨ret_int ?_, rfl⟩
    unfold pickZ
    rw [if_pos h, ← Int.neg_tmod, Int.tmod_eq_emod_of_nonneg (by omega)]
  · go_enter Tryz.func17, Tryz.ntmps17
    go_wp2
    go_ret
    refine ⟨ret_int ?_, rfl⟩
    unfold pickZ
    rw [if_neg (by omega)]
/-- How many digits v has to the base b, with as many rounds as are allowed. -/
def cnt : Nat → Nat → Nat → Nat
  | 0, _, _ => 0
  | f + 1, v, b => if v = 0 then 0 else cnt f (v / b) b + 1
theorem cnt_zero (f b : Nat) : cnt f 0 b = 0 := by cases f <;> simp [cnt]
theorem cnt_step (f v b : Nat) (h : 0 < v) : cnt (f + 1) v b = cnt f (v / b) b + 1 := by simp [cnt]; omega
set_option maxHeartbeats 400000 in
theorem count_any (v b f : Nat) (w : World) (hb : 2 ≤ b) (hb2 : b ≤ 16) (hv : v < 2 ^ f) (hf : f ≤ 32) :
    Calls Tryz.prog 233 #[.int .i64 v, .int .i64 b] w fun e w' => e = .returned (.int .i64 (cnt f v b)) ∧ w' = w := by
  have H : Hid (v < 2 ^ f) := hv
  have hv2 : v < 4294967296 := Nat.lt_of_lt_of_le hv (by have := Nat.pow_le_pow_right (n := 2) (by omega) hf; simpa using this)
  clear hv
  go_enter Tryz.func233, Tryz.ntmps233
  go_wp2
  go_loop [0, 5] (fun t n => ∃ (u k g : Nat), u ≤ v ∧ k ≤ 32 ∧ k + g = f ∧ Hid (u < 2 ^ g ∧ cnt f v b = k + cnt g u b) ∧ t = .int .i64 u ∧ n = .int .i64 k) (fun t _ => (intOf t).toNat)
  case atStart => exact ⟨v, 0, f, Nat.le_refl _, by omega, by omega, ⟨H, by simp⟩, rfl, rfl⟩
  case round =>
    obtain ⟨u, k, g, hu, hk, hg, hh, rfl, rfl⟩ := hrel
    by_cases h0 : 0 < u
    · have hg0 : 0 < g := by
        rcases Nat.eq_zero_or_pos g with h | h
        · have := hh.out.1; subst h; simp at this; omega
        · exact h
      have hdv : u / b < u := Nat.div_lt_self h0 (by omega)
      have hkk : k < 32 := by omega
      have d0 : (0 : Int) ≤ (u : Int) / (b : Int) := Int.ediv_nonneg (by omega) (by omega)
      have d1 : (u : Int) / (b : Int) < (u : Int) := by exact_mod_cast hdv
      go_wp2
      go_round
      case rel =>
        obtain ⟨g, rfl⟩ : ∃ g', g = g' + 1 := ⟨g - 1, by omega⟩
        refine ⟨u / b, k + 1, g, by omega, by omega, by omega, ⟨?_, ?_⟩, by go_num, by go_num⟩
        · have := hh.out.1
          refine Nat.div_lt_of_lt_mul ?_
          refine Nat.lt_of_lt_of_le this ?_
          rw [Nat.pow_succ, Nat.mul_comm]; exact Nat.mul_le_mul_right _ hb
        · rw [hh.out.2, cnt_step _ _ _ h0]; omega
      case measure => simp [intOf]; omega
    · go_wp2
      go_ret
      have hz : u = 0 := by omega
      refine ⟨ret_int ?_, rfl⟩
      rw [hh.out.2, hz, cnt_zero]; rfl
end Go.Proofs.YtgaoeoijdpdjiabGreatDoor
