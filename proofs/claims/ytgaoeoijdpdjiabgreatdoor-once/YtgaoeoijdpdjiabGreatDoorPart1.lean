/-
  The contract of strings.Join over this program, laid by the shelf of the library. The small functions of package sets and of the statements' own package, each by its contract: pick, count, perByte, right, chains. Worlds that part in some blocks alone; rows of things of one size. Rows of integers in memory: what a block holds, behind a store too; worlds that part in one block alone. Plain mathematics of digits: no program is named here. For two different values of one length each has a digit that is greater than the other's. A record that comes in by value, opened. What a right set is.
-/
import Derived.Shelf.Strings.OnBuilder
import Derived.Test.YtgaoeoijdpdjiabGreatDoorProg
import Derived.Test.YtgaoeoijdpdjiabGreatDoorRows
import Derived.WalkKit
import Derived.WalkSpells
import Derived.WalkLawsBesides
import Derived.Deep.MidRow
import Derived.Deep.AppendLies
import Derived.ProofKit
import Derived.ShutString
namespace Go.Proofs.YtgaoeoijdpdjiabGreatDoor
open Go.Shelf Go.Proofs
def lays156_ren : Go.Shelf.Ren := ⟨fun | 156 => 161 | 165 => 235 | 166 => 236 | 169 => 237 | 240 => 280 | 241 => 281 | 276 => 315 | 277 => 316 | n => n, fun | 31 => 27 | 9 => 9 | 3 => 3 | 4 => 4 | 0 => 0 | 20 => 20 | 72 => 307 | 76 => 311 | 70 => 305 | 37 => 170 | 75 => 310 | 127 => 351 | 164 => 372 | 5 => 5 | 80 => 115 | n => n, fun | n => n⟩
theorem lays156 : Go.Proofs.Lays.n156 Tryz.prog lays156_ren := {
  mixed := by kernel_rfl
  f156 := Tryz.func161.trans (congrArg some (by kernel_rfl))
  f165 := Tryz.func235.trans (congrArg some (by kernel_rfl))
  f166 := Tryz.func236.trans (congrArg some (by kernel_rfl))
  f169 := Tryz.func237.trans (congrArg some (by kernel_rfl))
  f240 := Tryz.func280.trans (congrArg some (by kernel_rfl))
  f241 := Tryz.func281.trans (congrArg some (by kernel_rfl))
  f276 := Tryz.func315.trans (congrArg some (by kernel_rfl))
  f277 := Tryz.func316.trans (congrArg some (by kernel_rfl))
  t0 := Tryz.underlying0
  a0 := Tryz.isAgg0
  z0 := Tryz.sizeOf0
  v0 := Tryz.zeroValue0
  t3 := Tryz.underlying3
  a3 := Tryz.isAgg3
  z3 := Tryz.sizeOf3
  v3 := Tryz.zeroValue3
  t4 := Tryz.underlying4
  a4 := Tryz.isAgg4
  z4 := Tryz.sizeOf4
  v4 := Tryz.zeroValue4
  t9 := Tryz.underlying9
  a9 := Tryz.isAgg9
  z9 := Tryz.sizeOf9
  v9 := Tryz.zeroValue9
  t20 := Tryz.underlying20
  a20 := Tryz.isAgg20
  z20 := Tryz.sizeOf20
  v20 := Tryz.zeroValue20
  t31 := Tryz.underlying27
  a31 := Tryz.isAgg27
  z31 := Tryz.sizeOf27
  v31 := Tryz.zeroValue27
  t37 := Tryz.underlying170
  a37 := Tryz.isAgg170
  z37 := Tryz.sizeOf170
  v37 := Tryz.zeroValue170
  t70 := Tryz.underlying305
  a70 := Tryz.isAgg305
  z70 := Tryz.sizeOf305
  v70 := Tryz.zeroValue305
  t72 := Tryz.underlying307
  a72 := Tryz.isAgg307
  z72 := Tryz.sizeOf307
  v72 := Tryz.zeroValue307
  t75 := Tryz.underlying310
  a75 := Tryz.isAgg310
  z75 := Tryz.sizeOf310
  v75 := Tryz.zeroValue310
  t76 := Tryz.underlying311
  a76 := Tryz.isAgg311
  z76 := Tryz.sizeOf311
  v76 := Tryz.zeroValue311
  t127 := Tryz.underlying351
  a127 := Tryz.isAgg351
  z127 := Tryz.sizeOf351
  v127 := Tryz.zeroValue351
  t164 := Tryz.underlying372
  a164 := Tryz.isAgg372
  z164 := Tryz.sizeOf372
  v164 := Tryz.zeroValue372 }
theorem Builder_Extra_156 : Builder.Extra Tryz.prog lays156_ren := {
  sizeBuilder := by kernel_rfl
  liesBuilder := by kernel_rfl
  t5 := Tryz.underlying5
  a5 := Tryz.isAgg5
  z5 := Tryz.sizeOf5
  v5 := Tryz.zeroValue5
  infoByte := by kernel_rfl
  cellsByte := by kernel_rfl
  sizeByte := by kernel_rfl
  neB5 := by decide }
open Go.RowKit in
theorem strings_Join_none (a : Option Addr) (c : Nat) (sep : ByteArray) (w : World) :
    Calls Tryz.prog 161 #[.slice a 0 c, .string sep] w fun e w' => e = .returned (.string ⟨#[]⟩) ∧ w' = w := Any.strings_Join_none lays156 Builder_Extra_156 a c sep w
open Go.RowKit in
theorem strings_Join (bk o c : Nat) (xs : List ByteArray) (sep : ByteArray) (w : World) (hcells : ∀ (j : Nat) x, xs[j]? = some x → w.cell? ⟨bk, o + j, none⟩ = some (.string x)) (hbk : bk < w.heap.size) (hN : xs.length ≤ 140737488355328) (hcap : xs.length ≤ c) (hlen : (Lib.join (xs.map (·.data.toList)) sep.data.toList).length ≤ 140737488355328) :
    Calls Tryz.prog 161 #[.slice (some ⟨bk, o, none⟩) xs.length c, .string sep] w fun e w' => e = .returned (.string ⟨(Lib.join (xs.map (·.data.toList)) sep.data.toList).toArray⟩) ∧ Below w.heap.size w w' := Any.strings_Join lays156 Builder_Extra_156 bk o c xs sep w hcells hbk hN hcap hlen
end Go.Proofs.YtgaoeoijdpdjiabGreatDoor

namespace Go.Proofs.YtgaoeoijdpdjiabGreatDoor
open Go.RowKit

/-- What 'pick' answers. -/
def pickZ (c n : Int) : Int := if c < 0 then (-(c + 1)) % n else c % n

theorem pickZ_bd (c n : Int) (h : 1 ≤ n) : 0 ≤ pickZ c n ∧ pickZ c n < n := by
  unfold pickZ
  split
  · exact ⟨Int.emod_nonneg _ (by omega), Int.emod_lt_of_pos _ (by omega)⟩
  · exact ⟨Int.emod_nonneg _ (by omega), Int.emod_lt_of_pos _ (by omega)⟩

theorem ret_int {k : IntKind} {a b : Int} (h : a = b) : Ending.returned (.int k a) = .returned (.int k b) := by rw [h]

set_option maxHeartbeats 400000 in
theorem pick_any (c n : Int) (w : World) (h1 : 1 ≤ n) (h2 : n ≤ 4096) (hc : -9223372036854775808 ≤ c) (hc2 : c ≤ 9223372036854775807) :
    Calls Tryz.prog 17 #[.int .i64 c, .int .i64 n] w fun e w' => e = .returned (.int .i64 (pickZ c n)) ∧ w' = w := by
  by_cases h : c < 0
  · go_enter Tryz.func17, Tryz.ntmps17
    go_wp2
    go_ret
    refine ⟨ret_int ?_, rfl⟩
    unfold pickZ
    rw [if_pos h, ← Int.neg_tmod, Int.tmod_eq_emod_of_nonneg (by omega)]
  · go_enter Tryz.func17, Tryz.ntmps17
    go_wp2
    go_ret
    refine ⟨ret_int ?_, rfl⟩
    unfold pickZ
    rw [if_neg (by omega)]

/-- How many digits v has to the base b, with as many rounds as are allowed. -/
def cnt : Nat → Nat → Nat → Nat
  | 0, _, _ => 0
  | f + 1, v, b => if v = 0 then 0 else cnt f (v / b) b + 1

theorem cnt_zero (f b : Nat) : cnt f 0 b = 0 := by cases f <;> simp [cnt]
theorem cnt_step (f v b : Nat) (h : 0 < v) : cnt (f + 1) v b = cnt f (v / b) b + 1 := by simp [cnt]; omega

set_option maxHeartbeats 400000 in
theorem count_any (v b f : Nat) (w : World) (hb : 2 ≤ b) (hb2 : b ≤ 16) (hv : v < 2 ^ f) (hf : f ≤ 32) :
    Calls Tryz.prog 233 #[.int .i64 v, .int .i64 b] w fun e w' => e = .returned (.int .i64 (cnt f v b)) ∧ w' = w := by
  have H : Hid (v < 2 ^ f) := hv
  have hv2 : v < 4294967296 := Nat.lt_of_lt_of_le hv (by have := Nat.pow_le_pow_right (n := 2) (by omega) hf; simpa using this)
  clear hv
  go_enter Tryz.func233, Tryz.ntmps233
  go_wp2
  go_loop [0, 5] (fun t n => ∃ (u k g : Nat), u ≤ v ∧ k ≤ 32 ∧ k + g = f ∧ Hid (u < 2 ^ g ∧ cnt f v b = k + cnt g u b) ∧ t = .int .i64 u ∧ n = .int .i64 k) (fun t _ => (intOf t).toNat)
  case atStart => exact ⟨v, 0, f, Nat.le_refl _, by omega, by omega, ⟨H, by simp⟩, rfl, rfl⟩
  case round =>
    obtain ⟨u, k, g, hu, hk, hg, hh, rfl, rfl⟩ := hrel
    by_cases h0 : 0 < u
    · have hg0 : 0 < g := by
        rcases Nat.eq_zero_or_pos g with h | h
        · have := hh.out.1; subst h; simp at this; omega
        · exact h
      have hdv : u / b < u := Nat.div_lt_self h0 (by omega)
      have hkk : k < 32 := by omega
      have d0 : (0 : Int) ≤ (u : Int) / (b : Int) := Int.ediv_nonneg (by omega) (by omega)
      have d1 : (u : Int) / (b : Int) < (u : Int) := by exact_mod_cast hdv
      go_wp2
      go_round
      case rel =>
        obtain ⟨g, rfl⟩ : ∃ g', g = g' + 1 := ⟨g - 1, by omega⟩
        refine ⟨u / b, k + 1, g, by omega, by omega, by omega, ⟨?_, ?_⟩, by go_num, by go_num⟩
        · have := hh.out.1
          refine Nat.div_lt_of_lt_mul ?_
          refine Nat.lt_of_lt_of_le this ?_
          rw [Nat.pow_succ, Nat.mul_comm]; exact Nat.mul_le_mul_right _ hb
        · rw [hh.out.2, cnt_step _ _ _ h0]; omega
      case measure => simp [intOf]; omega
    · go_wp2
      go_ret
      have hz : u = 0 := by omega
      refine ⟨ret_int ?_, rfl⟩
      rw [hh.out.2, hz, cnt_zero]; rfl
end Go.Proofs.YtgaoeoijdpdjiabGreatDoor

namespace Go.Proofs.YtgaoeoijdpdjiabGreatDoor
open Go.RowKit

/-- All but the blocks of F, and new ones, is as it was. -/
structure Kept (F : Nat → Prop) (w w' : World) : Prop where
  os : w'.os = w.os
  tape : w'.tape = w.tape
  output : w'.output = w.output
  size : w.heap.size ≤ w'.heap.size
  block : ∀ k, k < w.heap.size → ¬ F k → w'.heap[k]? = w.heap[k]?

theorem Kept.refl (F : Nat → Prop) (w : World) : Kept F w w := ⟨rfl, rfl, rfl, Nat.le_refl _, fun _ _ _ => rfl⟩
theorem Kept.mono {F G : Nat → Prop} {w w' : World} (h : Kept F w w') (hg : ∀ k, k < w.heap.size → F k → G k) : Kept G w w' :=
  ⟨h.os, h.tape, h.output, h.size, fun k hk hn => h.block k hk (fun hf => hn (hg k hk hf))⟩
theorem Kept.trans {F G : Nat → Prop} {a b c : World} (h : Kept F a b) (k : Kept G b c) (hg : ∀ i, G i → F i ∨ a.heap.size ≤ i) : Kept F a c :=
  ⟨k.os.trans h.os, k.tape.trans h.tape, k.output.trans h.output, Nat.le_trans h.size k.size, fun i hi hn => (k.block i (Nat.lt_of_lt_of_le hi h.size) (fun hf => by rcases hg i hf with h1 | h1 <;> first | exact hn h1 | omega)).trans (h.block i hi hn)⟩
theorem Kept.of_below {F : Nat → Prop} {w w' : World} (h : Below w.heap.size w w') : Kept F w w' := ⟨h.os, h.tape, h.output, h.size, fun k hk _ => h.block k hk⟩
theorem Kept.below {F : Nat → Prop} {w w' : World} {B : Nat} (h : Kept F w w') (hF : ∀ k, F k → B ≤ k) (hB : B ≤ w.heap.size) : Below B w w' :=
  ⟨h.os, h.tape, h.output, h.size, fun k hk => h.block k (by omega) (fun hf => by have := hF k hf; omega)⟩
theorem Kept.after {F : Nat → Prop} {a w w' : World} (h : Kept F a w) (hb : Below w.heap.size w w') : Kept F a w' := h.trans (Kept.of_below (F := fun _ => False) hb) (fun _ hf => hf.elim)
theorem Kept.drew {F : Nat → Prop} {a w : World} (h : Kept F a w) : Kept F a w.drew := ⟨h.os, h.tape, h.output, h.size, h.block⟩
theorem Kept.alloc {F : Nat → Prop} {a w : World} (h : Kept F a w) (o : Obj) : Kept F a (w.alloc o) := h.after ((Below.refl _ _).alloc (Nat.le_refl _) _)
theorem kept_set (w : World) (p : Addr) (u : Value) : Kept (fun k => k = p.block) w (w.setCell p u) :=
  ⟨rfl, rfl, rfl, by simp [World.setCell], fun k _ hn => Below.heap_setCell _ _ _ _ hn⟩
theorem Kept.setCell {F : Nat → Prop} {a w : World} (h : Kept F a w) {p : Addr} (hp : F p.block ∨ a.heap.size ≤ p.block) (u : Value) : Kept F a (w.setCell p u) :=
  h.trans (kept_set w p u) (fun i hi => by rw [hi]; exact hp)
theorem kept_sets (b : Nat) : ∀ (vs : List Value) (o : Nat) (w : World), Kept (fun k => k = b) w (w.setCells b o vs)
  | [], _, w => Kept.refl _ w
  | v :: r, o, w => by
    rw [World.setCells]
    exact (kept_set w ⟨b, o, none⟩ v).trans (kept_sets b r (o + 1) _) (fun i hi => .inl hi)
theorem Kept.setCells {F : Nat → Prop} {a w : World} (h : Kept F a w) {b : Nat} (hp : F b ∨ a.heap.size ≤ b) (o : Nat) (vs : List Value) : Kept F a (w.setCells b o vs) :=
  h.trans (kept_sets b vs o w) (fun i hi => by rw [hi]; exact hp)
theorem kept_grown {w w' : World} {row : Option Nat} (hg : w.grownBy w' row) : Kept (fun k => row = some k) w w' :=
  ⟨hg.os, hg.tape, hg.output, hg.size, fun k hk hn => hg.block k hk (fun e => hn e.symm)⟩
theorem Kept.grown {F : Nat → Prop} {a w w' : World} {row : Option Nat} (h : Kept F a w) (hg : w.grownBy w' row) (hr : ∀ k, row = some k → F k ∨ a.heap.size ≤ k) : Kept F a w' :=
  h.trans (kept_grown hg) hr
theorem Kept.cell {F : Nat → Prop} {w w' : World} (h : Kept F w w') {p : Addr} (hp : p.block < w.heap.size) (hn : ¬ F p.block) : w'.cell? p = w.cell? p := World.cell?_of_block (w := w) (h.block p.block hp hn)
theorem Kept.frozen {F : Nat → Prop} {w w' : World} (h : Kept F w w') {p : Addr} (hp : p.block < w.heap.size) (hn : ¬ F p.block) : w'.frozen? p = w.frozen? p := World.frozen?_of_block (w := w) (h.block p.block hp hn)
theorem owns_kept {F : Nat → Prop} {w w' : World} {base : Nat} {e : TypeId} {size : Nat} {v : Value} {n : Nat} {xs : List Value} (h : w.ownsRow base e size v n xs) (hk : Kept F w w') (hn : ∀ k, v.ownBlock = some k → ¬ F k) : w'.ownsRow base e size v n xs := by
  refine ⟨h.1, ?_⟩
  rcases h.2 with hn0 | ⟨g, cap, cur, rfl, hb, hgg, rest⟩
  · exact .inl hn0
  · refine .inr ⟨g, cap, cur, rfl, hb, ?_, rest⟩
    rw [hk.block g (Array.getElem?_eq_some_iff.1 hgg).1 (hn g rfl)]
    exact hgg

/-! Rows of things of one size -/
theorem flat_length {α : Type} (f : α → List Value) (m : Nat) : ∀ l : List α, (∀ x ∈ l, (f x).length = m) → (l.flatMap f).length = l.length * m
  | [], _ => by simp
  | x :: l, h => by
    rw [List.flatMap_cons, List.length_append, h x (by simp), flat_length f m l (fun y hy => h y (by simp [hy])), List.length_cons, Nat.succ_mul, Nat.add_comm]
theorem flat_get {α : Type} (f : α → List Value) (m : Nat) : ∀ (l : List α) (i : Nat) (x : α) (j : Nat), (∀ x ∈ l, (f x).length = m) → l[i]? = some x → j < m → (l.flatMap f)[i * m + j]? = (f x)[j]?
  | [], i, x, j, _, h, _ => by simp at h
  | y :: l, 0, x, j, hl, h, hj => by
    simp at h
    subst h
    rw [List.flatMap_cons, Nat.zero_mul, Nat.zero_add, List.getElem?_append_left (by rw [hl y (by simp)]; exact hj)]
  | y :: l, i + 1, x, j, hl, h, hj => by
    have hy := hl y (by simp)
    rw [List.flatMap_cons, List.getElem?_append_right (by rw [hy, Nat.succ_mul]; omega), hy, show (i + 1) * m + j - m = i * m + j by rw [Nat.succ_mul]; omega]
    exact flat_get f m l i x j (fun z hz => hl z (by simp [hz])) (by simpa using h) hj
/-- What is laid into a row from a place on. -/
def overlay (L : List Value) : Nat → List Value → List Value
  | _, [] => L
  | o, v :: r => overlay (L.set o v) (o + 1) r
theorem overlay_length : ∀ (vs : List Value) (o : Nat) (L : List Value), (overlay L o vs).length = L.length
  | [], _, _ => rfl
  | v :: r, o, L => by rw [overlay, overlay_length r, List.length_set]
theorem overlay_get : ∀ (vs : List Value) (o : Nat) (L : List Value) (k : Nat), o + vs.length ≤ L.length → (overlay L o vs)[k]? = if o ≤ k ∧ k < o + vs.length then vs[k - o]? else L[k]?
  | [], o, L, k, _ => by
    rw [overlay, if_neg (by simp only [List.length_nil]; omega)]
  | v :: r, o, L, k, h => by
    simp only [List.length_cons] at h
    rw [overlay, overlay_get r (o + 1) (L.set o v) k (by rw [List.length_set]; omega)]
    by_cases h1 : o + 1 ≤ k ∧ k < o + 1 + r.length
    · rw [if_pos h1, if_pos (by simp only [List.length_cons]; omega), show k - o = (k - (o + 1)) + 1 by omega, List.getElem?_cons_succ]
    · rw [if_neg h1]
      by_cases h2 : o = k
      · subst h2
        rw [if_pos (by simp only [List.length_cons]; omega), Nat.sub_self, List.getElem?_cons_zero, List.getElem?_set_self (by omega)]
      · rw [if_neg (by simp only [List.length_cons]; omega), List.getElem?_set_ne h2]
theorem block_setCell {w : World} {b o : Nat} {L : List Value} {t : TypeId} {fr : Nat × Nat} (h : w.heap[b]? = some (.cells L.toArray t fr)) (v : Value) : (w.setCell ⟨b, o, none⟩ v).heap[b]? = some (.cells (L.set o v).toArray t fr) := by
  have hlt : b < w.heap.size := (Array.getElem?_eq_some_iff.1 h).1
  have h' : w.heap[b] = .cells L.toArray t fr := by simpa [Array.getElem?_eq_getElem hlt] using h
  show (w.heap.modify b _)[b]? = _
  rw [Array.getElem?_eq_getElem (by simpa using hlt), Array.getElem_modify_self, h']
  simp
theorem block_setCells (b : Nat) {t : TypeId} {fr : Nat × Nat} : ∀ (vs : List Value) (o : Nat) (L : List Value) (w : World), w.heap[b]? = some (.cells L.toArray t fr) → (w.setCells b o vs).heap[b]? = some (.cells (overlay L o vs).toArray t fr)
  | [], _, _, _, h => h
  | v :: r, o, L, w, h => by
    rw [World.setCells, overlay]
    exact block_setCells b r (o + 1) (L.set o v) _ (block_setCell h v)
/-- One thing of a row, laid anew. -/
theorem overlay_flat {α : Type} (f : α → List Value) (m : Nat) (l : List α) (i : Nat) (x : α) (hl : ∀ x ∈ l, (f x).length = m) (hx : (f x).length = m) (hi : i < l.length) : overlay (l.flatMap f) (i * m) (f x) = (l.set i x).flatMap f := by
  have hl2 : ∀ y ∈ l.set i x, (f y).length = m := fun y hy => by
    rcases List.mem_or_eq_of_mem_set hy with h | h
    · exact hl y h
    · rw [h]; exact hx
  have hlen := flat_length f m l hl
  have hlen2 := flat_length f m (l.set i x) hl2
  rw [List.length_set] at hlen2
  have hbound : i * m + m ≤ l.length * m := by rw [← Nat.succ_mul]; exact Nat.mul_le_mul_right m hi
  apply List.ext_getElem?
  intro k
  rw [overlay_get _ _ _ _ (by rw [hx, hlen]; exact hbound), hx]
  by_cases hk : k < l.length * m
  · have hm : 0 < m := Nat.pos_of_ne_zero (fun e => by subst e; simp at hk)
    have hq : k / m < l.length := Nat.div_lt_of_lt_mul (by rw [Nat.mul_comm]; exact hk)
    have hr : k % m < m := Nat.mod_lt _ hm
    have hkq : k / m * m + k % m = k := by rw [Nat.mul_comm]; exact Nat.div_add_mod k m
    by_cases h : k / m = i
    · have h1 : i * m ≤ k ∧ k < i * m + m := by subst h; omega
      rw [if_pos h1]
      have := flat_get f m (l.set i x) i x (k - i * m) hl2 (by rw [List.getElem?_set_self hi]) (by omega)
      rw [show i * m + (k - i * m) = k by omega] at this
      exact this.symm
    · have h1 : ¬ (i * m ≤ k ∧ k < i * m + m) := by
        rintro ⟨a, b⟩
        apply h
        rw [← Nat.succ_mul] at b
        exact Nat.le_antisymm (Nat.le_of_lt_succ (Nat.div_lt_of_lt_mul (by rw [Nat.mul_comm]; exact b))) ((Nat.le_div_iff_mul_le hm).2 a)
      rw [if_neg h1]
      have e1 := flat_get f m l (k / m) l[k / m] (k % m) hl (List.getElem?_eq_getElem hq) hr
      have e2 := flat_get f m (l.set i x) (k / m) l[k / m] (k % m) hl2 (by rw [List.getElem?_set_ne (fun e => h e.symm), List.getElem?_eq_getElem hq]) hr
      rw [hkq] at e1 e2
      rw [e1, e2]
  · rw [if_neg (by omega), List.getElem?_eq_none (by rw [hlen]; omega), List.getElem?_eq_none (by rw [hlen2]; omega)]
theorem flat_range {α : Type} (f : α → List Value) (m : Nat) (l : List α) (i : Nat) (x : α) (hl : ∀ x ∈ l, (f x).length = m) (h : l[i]? = some x) {w : World} {b : Nat} {C : List Value} {t : TypeId} {fr : Nat × Nat} (hb : w.heap[b]? = some (.cells C.toArray t fr)) (hC : C.take (l.length * m) = l.flatMap f) : w.rangeAt b (i * m) (f x) := by
  intro j v hv
  have hx : (f x).length = m := hl x (List.mem_of_getElem? h)
  have hj : j < m := by rw [← hx]; exact (List.getElem?_eq_some_iff.1 hv).1
  have hi : i < l.length := (List.getElem?_eq_some_iff.1 h).1
  have hbound : i * m + m ≤ l.length * m := by rw [← Nat.succ_mul]; exact Nat.mul_le_mul_right m hi
  rw [cell_of_row w b (i * m + j) C.toArray t fr hb]
  have e := flat_get f m l i x j hl h hj
  rw [← hC, List.getElem?_take_of_lt (by omega)] at e
  rw [List.getElem?_toArray, e, hv]
end Go.Proofs.YtgaoeoijdpdjiabGreatDoor

namespace Go.Proofs.YtgaoeoijdpdjiabGreatDoor
open Go.RowKit

theorem hideM {p : Prop} (h : p) : Hid p := h

/-- Block g is a row of the integers L, and may be written. -/
def RowZ (w : World) (g : Nat) (L : List Int) : Prop := w.heap[g]? = some (.cells (L.map (Value.int .i64)).toArray 3 (0, 0))

theorem RowZ.cell {w : World} {g : Nat} {L : List Int} (h : RowZ w g L) {i : Nat} (hi : i < L.length) : w.cell? ⟨g, i, none⟩ = some (.int .i64 (L[i]?.getD 0)) := by
  unfold RowZ at h
  simp [World.cell?, h, hi]
theorem RowZ.free {w : World} {g : Nat} {L : List Int} (h : RowZ w g L) (i : Nat) : w.frozen? ⟨g, i, none⟩ = false := by
  unfold RowZ at h
  simp [World.frozen?, h]
theorem RowZ.lt {w : World} {g : Nat} {L : List Int} (h : RowZ w g L) : g < w.heap.size := lt_of_block h
theorem RowZ.set {w : World} {g : Nat} {L : List Int} (h : RowZ w g L) (i : Nat) (z : Int) : RowZ (w.setCell ⟨g, i, none⟩ (.int .i64 z)) g (L.set i z) := by
  have hlt := h.lt
  unfold RowZ at h ⊢
  have h' : w.heap[g] = .cells (L.map (Value.int .i64)).toArray 3 (0, 0) := by simpa [Array.getElem?_eq_getElem hlt] using h
  show (w.heap.modify g _)[g]? = _
  rw [Array.getElem?_eq_getElem (by simpa using hlt), Array.getElem_modify_self, h']
  simp
theorem RowZ.below {w w' : World} {g B : Nat} {L : List Int} (h : RowZ w g L) (hb : Below B w w') (hg : g < B) : RowZ w' g L := by
  unfold RowZ at h ⊢
  rw [hb.block g hg]; exact h
theorem RowZ.alloc {w : World} {g : Nat} {L : List Int} (h : RowZ w g L) (o : Obj) : RowZ (w.alloc o) g L := h.below ((Below.refl w.heap.size w).alloc (Nat.le_refl _) o) h.lt
theorem RowZ.drew {w : World} {g : Nat} {L : List Int} (h : RowZ w g L) : RowZ w.drew g L := h
theorem RowZ.drewN {w : World} {g : Nat} {L : List Int} (h : RowZ w g L) (n : Nat) : RowZ (w.drewN n) g L := h
theorem RowZ.other {w : World} {g : Nat} {L : List Int} (h : RowZ w g L) {a : Addr} (u : Value) (hne : g ≠ a.block) : RowZ (w.setCell a u) g L := by
  unfold RowZ at h ⊢
  rw [Below.heap_setCell _ _ _ _ hne]; exact h

/-- The worlds part in block g alone. -/
structure OnlyM (g : Nat) (w w' : World) : Prop where
  os : w'.os = w.os
  tape : w'.tape = w.tape
  output : w'.output = w.output
  size : w'.heap.size = w.heap.size
  block : ∀ k, k ≠ g → w'.heap[k]? = w.heap[k]?

theorem OnlyM.refl (g : Nat) (w : World) : OnlyM g w w := ⟨rfl, rfl, rfl, rfl, fun _ _ => rfl⟩
theorem OnlyM.trans {g : Nat} {a b c : World} (h : OnlyM g a b) (k : OnlyM g b c) : OnlyM g a c :=
  ⟨k.os.trans h.os, k.tape.trans h.tape, k.output.trans h.output, k.size.trans h.size, fun i hi => (k.block i hi).trans (h.block i hi)⟩
theorem OnlyM.setCell {g : Nat} {a w : World} (h : OnlyM g a w) (i : Nat) (u : Value) : OnlyM g a (w.setCell ⟨g, i, none⟩ u) :=
  h.trans ⟨rfl, rfl, rfl, by simp [World.setCell], fun _ hk => Below.heap_setCell _ _ _ _ hk⟩
theorem OnlyM.drew {g : Nat} {a w : World} (h : OnlyM g a w) : OnlyM g a w.drew := ⟨h.os, h.tape, h.output, h.size, h.block⟩
theorem OnlyM.drewN {g : Nat} {a w : World} (h : OnlyM g a w) (n : Nat) : OnlyM g a (w.drewN n) := ⟨h.os, h.tape, h.output, h.size, h.block⟩
theorem OnlyM.below {g B : Nat} {a w w' : World} (h : Below B a w) (k : OnlyM g w w') (hg : B ≤ g) : Below B a w' :=
  h.trans ⟨k.os, k.tape, k.output, by rw [k.size]; exact Nat.le_refl _, fun i hi => k.block i (by omega)⟩
theorem OnlyM.cell {g : Nat} {w w' : World} (h : OnlyM g w w') {p : Addr} (hp : p.block ≠ g) : w'.cell? p = w.cell? p := World.cell?_of_block (w := w) (h.block p.block hp)
theorem OnlyM.frozen {g : Nat} {w w' : World} (h : OnlyM g w w') {p : Addr} (hp : p.block ≠ g) : w'.frozen? p = w.frozen? p := World.frozen?_of_block (w := w) (h.block p.block hp)
theorem OnlyM.row {g k : Nat} {w w' : World} {L : List Int} (h : OnlyM g w w') (r : RowZ w k L) (hk : k ≠ g) : RowZ w' k L := by
  unfold RowZ at r ⊢
  rw [h.block k hk]; exact r

/-- The variable of a set, in block B; the variable of the sizes. -/
def Five (w : World) (B : Nat) (k b x t l : Int) : Prop := w.cell? ⟨B, 0, none⟩ = some (.int .i64 k) ∧ w.cell? ⟨B, 1, none⟩ = some (.int .i64 b) ∧ w.cell? ⟨B, 2, none⟩ = some (.int .i64 x) ∧ w.cell? ⟨B, 3, none⟩ = some (.int .i64 t) ∧ w.cell? ⟨B, 4, none⟩ = some (.int .i64 l)
def Six (w : World) (B : Nat) (a b c d e f : Int) : Prop := w.cell? ⟨B, 0, none⟩ = some (.int .i64 a) ∧ w.cell? ⟨B, 1, none⟩ = some (.int .i64 b) ∧ w.cell? ⟨B, 2, none⟩ = some (.int .i64 c) ∧ w.cell? ⟨B, 3, none⟩ = some (.int .i64 d) ∧ w.cell? ⟨B, 4, none⟩ = some (.int .i64 e) ∧ w.cell? ⟨B, 5, none⟩ = some (.int .i64 f)

theorem five_below {w w' : World} {B C : Nat} {k b x t l : Int} (h : Five w B k b x t l) (hb : Below C w w') (hB : B < C) : Five w' B k b x t l :=
  ⟨(hb.cell hB).trans h.1, (hb.cell hB).trans h.2.1, (hb.cell hB).trans h.2.2.1, (hb.cell hB).trans h.2.2.2.1, (hb.cell hB).trans h.2.2.2.2⟩
theorem six_below {w w' : World} {B C : Nat} {k b x t l m : Int} (h : Six w B k b x t l m) (hb : Below C w w') (hB : B < C) : Six w' B k b x t l m :=
  ⟨(hb.cell hB).trans h.1, (hb.cell hB).trans h.2.1, (hb.cell hB).trans h.2.2.1, (hb.cell hB).trans h.2.2.2.1, (hb.cell hB).trans h.2.2.2.2.1, (hb.cell hB).trans h.2.2.2.2.2⟩

theorem five_set {w : World} {B : Nat} {k b x t l : Int} (h : Five w B k b x t l) (k' b' x' t' l' : Int) :
    Five (((((w.setCell ⟨B, 0, none⟩ (.int .i64 k')).setCell ⟨B, 1, none⟩ (.int .i64 b')).setCell ⟨B, 2, none⟩ (.int .i64 x')).setCell ⟨B, 3, none⟩ (.int .i64 t')).setCell ⟨B, 4, none⟩ (.int .i64 l')) B k' b' x' t' l' := by
  obtain ⟨h0, h1, h2, h3, h4⟩ := h
  refine ⟨?_, ?_, ?_, ?_, ?_⟩ <;> simp [go_sem, h0, h1, h2, h3, h4]

/-- L, with the digits D from its place off + k on. -/
def laidTo (L : List Int) (off n : Nat) (D : List Nat) (k : Nat) : List Int := L.take (off + k) ++ ((D.drop k).map Int.ofNat) ++ L.drop (off + n)

theorem laidTo_start (L : List Int) (off n : Nat) (D : List Nat) (hD : D.length = n) : laidTo L off n D n = L := by
  simp [laidTo, List.drop_of_length_le (Nat.le_of_eq hD)]
theorem laidTo_length (L : List Int) (off n : Nat) (D : List Nat) (k : Nat) (hD : D.length = n) (hL : off + n ≤ L.length) (hk : k ≤ n) : (laidTo L off n D k).length = L.length := by
  simp [laidTo]; omega
theorem laidTo_step (L : List Int) (off n : Nat) (D : List Nat) (k : Nat) (hD : D.length = n) (hL : off + n ≤ L.length) (hk : k < n) :
    (laidTo L off n D (k + 1)).set (off + k) ((D[k]?.getD 0 : Nat) : Int) = laidTo L off n D k := by
  have hk' : k < D.length := by omega
  have e1 : L.take (off + (k + 1)) = L.take (off + k) ++ [L[off + k]'(by omega)] := by
    rw [show off + (k + 1) = (off + k) + 1 by omega, List.take_succ_eq_append_getElem (by omega)]
  have e2 : D.drop k = D[k] :: D.drop (k + 1) := List.drop_eq_getElem_cons hk'
  unfold laidTo
  rw [e1, e2, List.append_assoc, List.append_assoc, List.set_append_right _ _ (by simp; omega)]
  have e3 : off + k - (L.take (off + k)).length = 0 := by simp; omega
  rw [e3]
  simp only [List.cons_append, List.nil_append, List.set_cons_zero, List.map_cons, List.getElem?_eq_getElem hk', Option.getD_some, List.append_assoc]
  rfl
end Go.Proofs.YtgaoeoijdpdjiabGreatDoor

namespace Go.Proofs.YtgaoeoijdpdjiabGreatDoor

/-- The n lowest digits of v to the base x, the highest first. -/
def digs (x : Nat) : Nat → Nat → List Nat
  | 0, _ => []
  | n + 1, v => digs x n (v / x) ++ [v % x]

theorem digs_length (x n v : Nat) : (digs x n v).length = n := by
  induction n generalizing v with
  | zero => rfl
  | succ n ih => simp [digs, ih]

theorem digs_lt (x n v : Nat) (hx : 0 < x) : ∀ d ∈ digs x n v, d < x := by
  induction n generalizing v with
  | zero => simp [digs]
  | succ n ih =>
    intro d hd
    simp only [digs, List.mem_append, List.mem_singleton] at hd
    rcases hd with hd | rfl
    · exact ih _ d hd
    · exact Nat.mod_lt _ hx

/-- The i-th entry, 0 where there is none. -/
def at0M (l : List Nat) (i : Nat) : Nat := l.getD i 0

theorem at0_append_left (a b : List Nat) (i : Nat) (h : i < a.length) : at0M (a ++ b) i = at0M a i := by
  simp [at0M, List.getElem?_append_left h]
theorem at0_append_right (a b : List Nat) (i : Nat) : at0M (a ++ b) (a.length + i) = at0M b i := by
  simp [at0M, List.getElem?_append_right]
theorem at0_past (a : List Nat) (i : Nat) (h : a.length ≤ i) : at0M a i = 0 := by
  simp [at0M, List.getElem?_eq_none h]
theorem at0_lt (l : List Nat) (x i : Nat) (hx : 0 < x) (h : ∀ d ∈ l, d < x) : at0M l i < x := by
  by_cases hi : i < l.length
  · simp only [at0M, List.getD_eq_getElem?_getD, List.getElem?_eq_getElem hi, Option.getD_some]
    exact h _ (List.getElem_mem hi)
  · rw [at0_past _ _ (by omega)]; exact hx

/-- Digit by digit at most: so is the number. -/
theorem digs_mono (x n u v : Nat) (_hx : 0 < x) (h : ∀ i, i < n → at0M (digs x n u) i ≤ at0M (digs x n v) i) : u % x ^ n ≤ v % x ^ n := by
  induction n generalizing u v with
  | zero => simp [Nat.mod_one]
  | succ n ih =>
    have h1 := ih (u / x) (v / x) (fun i hi => by
      have := h i (by omega)
      simp only [digs] at this
      rwa [at0_append_left _ _ _ (by rw [digs_length]; exact hi), at0_append_left _ _ _ (by rw [digs_length]; exact hi)] at this)
    have h2 : u % x ≤ v % x := by
      have := h n (by omega)
      simp only [digs] at this
      have e1 := at0_append_right (digs x n (u / x)) [u % x] 0
      have e2 := at0_append_right (digs x n (v / x)) [v % x] 0
      rw [digs_length, Nat.add_zero] at e1 e2
      rw [e1, e2] at this
      simpa [at0M] using this
    rw [Nat.pow_succ, Nat.mul_comm, Nat.mod_mul, Nat.mod_mul]
    have := Nat.mul_le_mul_left x h1
    omega

theorem digs_inj (x n u v : Nat) (hx : 0 < x) (hu : u < x ^ n) (hv : v < x ^ n) (h : digs x n u = digs x n v) : u = v := by
  have a := digs_mono x n u v hx (fun i _ => by rw [h]; exact Nat.le_refl _)
  have b := digs_mono x n v u hx (fun i _ => by rw [h]; exact Nat.le_refl _)
  rw [Nat.mod_eq_of_lt hu, Nat.mod_eq_of_lt hv] at a b
  omega

/-- What the digits lack. -/
def lackN (x : Nat) : List Nat → Nat
  | [] => 0
  | d :: r => (x - 1 - d) + lackN x r

theorem lackN_append (x : Nat) (a b : List Nat) : lackN x (a ++ b) = lackN x a + lackN x b := by
  induction a with
  | nil => simp [lackN]
  | cons d r ih => simp only [List.cons_append, lackN, ih]; omega

theorem lackN_le (x : Nat) (l : List Nat) : lackN x l ≤ l.length * (x - 1) := by
  induction l with
  | nil => simp [lackN]
  | cons d r ih =>
    simp only [lackN, List.length_cons, Nat.succ_mul]
    omega

theorem lackN_lt (x : Nat) (l k : List Nat) (hlen : l.length = k.length) (hk : ∀ d ∈ k, d < x) (hle : ∀ i, i < l.length → at0M l i ≤ at0M k i) :
    lackN x k ≤ lackN x l ∧ (l ≠ k → lackN x k < lackN x l) := by
  induction l generalizing k with
  | nil =>
    cases k with
    | nil => exact ⟨Nat.le_refl _, fun h => absurd rfl h⟩
    | cons d r => simp at hlen
  | cons d r ih =>
    cases k with
    | nil => simp at hlen
    | cons d' r' =>
      have h0 : d ≤ d' := by simpa [at0M] using hle 0 (by simp)
      have hr := ih r' (by simpa using hlen) (fun y hy => hk y (List.mem_cons_of_mem _ hy)) (fun i hi => by simpa [at0M] using hle (i + 1) (by simp; omega))
      have hd' := hk d' (List.mem_cons_self ..)
      refine ⟨?_, fun hne => ?_⟩
      · simp only [lackN]; omega
      · by_cases e : d = d'
        · subst e
          have := hr.2 (fun e' => hne (by rw [e']))
          simp only [lackN]; omega
        · simp only [lackN]; omega

/-- The digits of all bytes, e of each. -/
def firsts (x e : Nat) : List Nat → List Nat
  | [] => []
  | c :: r => digs x e c ++ firsts x e r

theorem firsts_length (x e : Nat) (l : List Nat) : (firsts x e l).length = l.length * e := by
  induction l with
  | nil => simp [firsts]
  | cons c r ih => simp only [firsts, List.length_append, digs_length, ih, List.length_cons, Nat.succ_mul]; omega

theorem firsts_lt (x e : Nat) (l : List Nat) (hx : 0 < x) : ∀ d ∈ firsts x e l, d < x := by
  induction l with
  | nil => simp [firsts]
  | cons c r ih =>
    intro d hd
    simp only [firsts, List.mem_append] at hd
    rcases hd with hd | hd
    · exact digs_lt _ _ _ hx _ hd
    · exact ih _ hd

theorem firsts_inj (x e : Nat) (a b : List Nat) (hx : 0 < x) (hlen : a.length = b.length) (ha : ∀ c ∈ a, c < x ^ e) (hb : ∀ c ∈ b, c < x ^ e) (h : firsts x e a = firsts x e b) : a = b := by
  induction a generalizing b with
  | nil => cases b with
    | nil => rfl
    | cons c r => simp at hlen
  | cons c r ih => cases b with
    | nil => simp at hlen
    | cons c' r' =>
      simp only [firsts] at h
      have h' := List.append_inj h (by rw [digs_length, digs_length])
      have e1 := digs_inj x e c c' hx (ha c (List.mem_cons_self ..)) (hb c' (List.mem_cons_self ..)) h'.1
      have e2 := ih r' (by simpa using hlen) (fun y hy => ha y (List.mem_cons_of_mem _ hy)) (fun y hy => hb y (List.mem_cons_of_mem _ hy)) h'.2
      rw [e1, e2]

/-- All digits of a value: those of its bytes, then f digits of what they lack. -/
def digitsN (x e f : Nat) (a : List Nat) : List Nat := firsts x e a ++ digs x f (lackN x (firsts x e a))

theorem digitsN_length (x e f : Nat) (a : List Nat) : (digitsN x e f a).length = a.length * e + f := by
  simp [digitsN, firsts_length, digs_length]

theorem digitsN_lt (x e f : Nat) (a : List Nat) (hx : 0 < x) : ∀ d ∈ digitsN x e f a, d < x := by
  intro d hd
  simp only [digitsN, List.mem_append] at hd
  rcases hd with hd | hd
  · exact firsts_lt _ _ _ hx _ hd
  · exact digs_lt _ _ _ hx _ hd

/-- Is a digit among the first n greater in l than in k? -/
def gtTo (l k : List Nat) : Nat → Bool
  | 0 => false
  | n + 1 => gtTo l k n || decide (at0M k n < at0M l n)

theorem gtTo_false (l k : List Nat) (n : Nat) (h : gtTo l k n = false) : ∀ i, i < n → at0M l i ≤ at0M k i := by
  induction n with
  | zero => intro i hi; omega
  | succ n ih =>
    simp only [gtTo, Bool.or_eq_false_iff, decide_eq_false_iff_not] at h
    intro i hi
    by_cases e : i = n
    · subst e; omega
    · exact ih h.1 i (by omega)

theorem gtTo_same (l : List Nat) (n : Nat) : gtTo l l n = false := by
  induction n with
  | zero => rfl
  | succ n ih => simp [gtTo, ih]

/-- P28. -/
theorem crossed (x e f : Nat) (a b : List Nat) (hx : 0 < x) (hlen : a.length = b.length) (ha : ∀ c ∈ a, c < x ^ e) (hb : ∀ c ∈ b, c < x ^ e) (hbd : a.length * e * (x - 1) < x ^ f) :
    gtTo (digitsN x e f a) (digitsN x e f b) (a.length * e + f) = decide (a ≠ b) := by
  by_cases hab : a = b
  · subst hab; rw [gtTo_same]; simp
  · simp only [ne_eq, hab, not_false_eq_true, decide_true]
    cases hg : gtTo (digitsN x e f a) (digitsN x e f b) (a.length * e + f) with
    | true => rfl
    | false =>
      exfalso
      have hle := gtTo_false _ _ _ hg
      have h1 := lackN_lt x (firsts x e a) (firsts x e b) (by rw [firsts_length, firsts_length, hlen]) (firsts_lt _ _ _ hx) (fun i hi => by
        have := hle i (by rw [firsts_length] at hi; omega)
        simp only [digitsN] at this
        rwa [at0_append_left _ _ _ hi, at0_append_left _ _ _ (by rw [firsts_length] at hi ⊢; rw [← hlen]; exact hi)] at this)
      have h2 := h1.2 (fun e' => hab (firsts_inj x e a b hx hlen ha hb e'))
      have h3 := digs_mono x f (lackN x (firsts x e a)) (lackN x (firsts x e b)) hx (fun i hi => by
        have := hle (a.length * e + i) (by omega)
        simp only [digitsN] at this
        have e1 := at0_append_right (firsts x e a) (digs x f (lackN x (firsts x e a))) i
        have e2 := at0_append_right (firsts x e b) (digs x f (lackN x (firsts x e b))) i
        rw [firsts_length] at e1 e2
        rw [← hlen] at e2
        rwa [e1, e2] at this)
      have b1 := lackN_le x (firsts x e a)
      have b2 := lackN_le x (firsts x e b)
      rw [firsts_length] at b1 b2
      rw [← hlen] at b2
      rw [Nat.mod_eq_of_lt (by omega), Nat.mod_eq_of_lt (by omega)] at h3
      omega
end Go.Proofs.YtgaoeoijdpdjiabGreatDoor

namespace Go.Proofs.YtgaoeoijdpdjiabGreatDoor
open Go.ChangeShapes Go.WideShapes Go.ChangeAt Go.RowKit
open Go.ChangeMaps (open_string shut_string)

theorem array3R {a : Array Value} (h : a.size = 3) : ∃ c0 c1 c2, a = #[c0, c1, c2] := by
  obtain ⟨l⟩ := a
  match l, h with
  | [c0, c1, c2], _ => exact ⟨c0, c1, c2, rfl⟩
theorem cellsRec : Tryz.prog.cellsOf 186 = 3 := by kernel_rfl
theorem cellsIntR : Tryz.prog.cellsOf 3 = 1 := by kernel_rfl
theorem cellsStrR : Tryz.prog.cellsOf 9 = 1 := by kernel_rfl
theorem wf_int64 {x : Int} (h : (Lit.int .i64 x).wf = true) : -9223372036854775808 ≤ x ∧ x ≤ 9223372036854775807 := by
  simp [Lit.wf, IntKind.min, IntKind.max, IntKind.signed, IntKind.bits] at h
  exact ⟨by omega, by omega⟩

set_option maxRecDepth 100000 in
theorem open_rec {H : Type} {enc : TypeId × Value → H} {W : World} {base b0 : Nat} {sp : Nat → Bool} {held : Bool} {r : Reach} {v : Value} {d : DataW H} {p : List MemPlace}
    (hv : Value.okWide Tryz.prog W r b0 186 v) (h : DataW.Trod enc Tryz.prog W base sp held 186 v d p) :
    ∃ (q b : Int) (c : ByteArray), v = .agg #[.int .i64 q, .int .i64 b, .string c] ∧ (-9223372036854775808 ≤ q ∧ q ≤ 9223372036854775807) ∧ (-9223372036854775808 ≤ b ∧ b ≤ 9223372036854775807) ∧ c.size ≤ maxLen := by
  obtain ⟨cs, rfl, hsz⟩ := okWide_struct Tryz.underlying186 hv
  obtain ⟨c0, c1, c2, rfl⟩ := array3R (hsz.trans cellsRec)
  obtain ⟨fuel, hf⟩ := h
  obtain ⟨xs, n, _, _, _, hlen, hfs⟩ := DataW.trod_struct Tryz.underlying186 hf
  simp at hlen
  have g0 : DataW.trod enc Tryz.prog W base sp held n 3 [c0] = xs[0]? := by simpa [Value.cells, cellsIntR] using hfs 0 _ rfl
  have g1 : DataW.trod enc Tryz.prog W base sp held n 3 [c1] = xs[1]? := by simpa [Value.cells, cellsIntR] using hfs 1 _ rfl
  have g2 : DataW.trod enc Tryz.prog W base sp held n 9 [c2] = xs[2]? := by simpa [Value.cells, cellsStrR] using hfs 2 _ rfl
  rw [List.getElem?_eq_getElem (by omega)] at g0 g1 g2
  obtain ⟨k, e0, _, w0⟩ := DataW.trod_int Tryz.underlying3 g0
  obtain ⟨b, e1, _, w1⟩ := DataW.trod_int Tryz.underlying3 g1
  have k2 := DataW.trod_string Tryz.underlying9 g2
  obtain ⟨x, e2, hx⟩ := k2
  simp at e0 e1 e2
  subst e0 e1 e2
  exact ⟨k, b, x, rfl, wf_int64 w0, wf_int64 w1, hx.2⟩
end Go.Proofs.YtgaoeoijdpdjiabGreatDoor

namespace Go.Proofs.YtgaoeoijdpdjiabGreatDoor

/-- Is the set right? -/
def rightB (k b x t l : Int) : Bool := decide ((k = 1 ∨ k = 2) ∧ (b = 4 ∨ b = 8) ∧ (x = 4 ∨ x = 16) ∧ (1 ≤ t ∧ t ≤ 4) ∧ (1 ≤ l ∧ l ≤ 3))

end Go.Proofs.YtgaoeoijdpdjiabGreatDoor
