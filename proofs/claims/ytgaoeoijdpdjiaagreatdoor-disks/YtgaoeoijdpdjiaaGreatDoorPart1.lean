/-
  Worlds that part in some blocks alone; rows of things of one size. The small functions of package sets and of the statements' own package, each by its contract: pick, count, perByte, right, chains.
-/
import Derived.Test.YtgaoeoijdpdjiaaGreatDoorRows
import Derived.WalkKit
import Derived.Deep.MidRow
import Derived.Deep.AppendLies
import Derived.WalkSpells
import Derived.WalkLawsBesides
namespace Go.Proofs.YtgaoeoijdpdjiaaGreatDoor
open Go.RowKit
/-- All but the blocks of F, and new ones, is as it was. -/
structure Kept (F : Nat → Prop) (w w' : World) : Prop where
  os : w'.os = w.os
  tape : w'.tape = w.tape
  output : w'.output = w.output
  size : w.heap.size ≤ w'.heap.size
  block : ∀ k, k < w.heap.size → ¬ F k → w'.heap[k]? = w.heap[k]?
theorem Kept.refl (F : Nat → Prop) (w : World) : Kept F w w := ⟨rfl, rfl, rfl, Nat.le_refl _, fun _ _ _ => rfl⟩
theorem Kept.mono {F G : Nat → Prop} {w w' : World} (h : Kept F w w') (hg : ∀ k, k < w.heap.size → F k → G k) : Kept G w w' :=
  ⟨h.os, h.tape, h.output, h.size, fun k hk hn => h.block k hk (fun hf => hn (hg k hk hf))⟩
theorem Kept.trans {F G : Nat → Prop} {a b c : World} (h : Kept F a b) (k : Kept G b c) (hg : ∀ i, G i → F i ∨ a.heap.size ≤ i) : Kept F a c :=
  ⟨k.os.trans h.os, k.tape.trans h.tape, k.output.trans h.output, Nat.le_trans h.size k.size, fun i hi hn => (k.block i (Nat.lt_of_lt_of_le hi h.size) (fun hf => by rcases hg i hf with h1 | h1 <;> first | exact hn h1 | omega)).trans (h.block i hi hn)⟩
theorem Kept.of_below {F : Nat → Prop} {w w' : World} (h : Below w.heap.size w w') : Kept F w w' := ⟨h.os, h.tape, h.output, h.size, fun k hk _ => h.block k hk⟩
theorem Kept.below {F : Nat → Prop} {w w' : World} {B : Nat} (h : Kept F w w') (hF : ∀ k, F k → B ≤ k) (hB : B ≤ w.heap.size) : Below B w w' :=
  ⟨h.os, h.tape, h.output, h.size, fun k hk => h.block k (by omega) (fun hf => by have := hF k hf; omega)⟩
theorem Kept.after {F : Nat → Prop} {a w w' : World} (h : Kept F a w) (hb : Below w.heap.size w w') : Kept F a w' := h.trans (Kept.of_below (F := fun _ => False) hb) (fun _ hf => hf.elim)
theorem Kept.drew {F : Nat → Prop} {a w : World} (h : Kept F a w) : Kept F a w.drew := ⟨h.os, h.tape, h.output, h.size, h.block⟩
theorem Kept.alloc {F : Nat → Prop} {a w : World} (h : Kept F a w) (o : Obj) : Kept F a (w.alloc o) := h.after ((Below.refl _ _).alloc (Nat.le_refl _) _)
theorem kept_set (w : World) (p : Addr) (u : Value) : Kept (fun k => k = p.block) w (w.setCell p u) :=
  ⟨rfl, rfl, rfl, by simp [World.setCell], fun k _ hn => Below.heap_setCell _ _ _ _ hn⟩
theorem Kept.setCell {F : Nat → Prop} {a w : World} (h : Kept F a w) {p : Addr} (hp : F p.block ∨ a.heap.size ≤ p.block) (u : Value) : Kept F a (w.setCell p u) :=
  h.trans (kept_set w p u) (fun i hi => by rw [hi]; exact hp)
theorem kept_sets (b : Nat) : ∀ (vs : List Value) (o : Nat) (w : World), Kept (fun k => k = b) w (w.setCells b o vs)
  | [], _, w => Kept.refl _ w
  | v :: r, o, w => by
    rw [World.setCells]
    exact (kept_set w ⟨b, o, none⟩ v).trans (kept_sets b r (o + 1) _) (fun i hi => .inl hi)
theorem Kept.setCells {F : Nat → Prop} {a w : World} (h : Kept F a w) {b : Nat} (hp : F b ∨ a.heap.size ≤ b) (o : Nat) (vs : List Value) : Kept F a (w.setCells b o vs) :=
  h.trans (kept_sets b vs o w) (fun i hi => by rw [hi]; exact hp)
theorem kept_grown {w w' : World} {row : Option Nat} (hg : w.grownBy w' row) : Kept (fun k => row = some k) w w' :=
  ⟨hg.os, hg.tape, hg.output, hg.size, fun k hk hn => hg.block k hk (fun e => hn e.symm)⟩
theorem Kept.grown {F : Nat → Prop} {a w w' : World} {row : Option Nat} (h : Kept F a w) (hg : w.grownBy w' row) (hr : ∀ k, row = some k → F k ∨ a.heap.size ≤ k) : Kept F a w' :=
  h.trans (kept_grown hg) hr
theorem Kept.cell {F : Nat → Prop} {w w' : World} (h : Kept F w w') {p : Addr} (hp : p.block < w.heap.size) (hn : ¬ F p.block) : w'.cell? p = w.cell? p := World.cell?_of_block (w := w) (h.block p.block hp hn)
theorem owns_kept {F : Nat → Prop} {w w' : World} {base : Nat} {e : TypeId} {size : Nat} {v : Value} {n : Nat} {xs : List Value} (h : w.ownsRow base e size v n xs) (hk : Kept F w w') (hn : ∀ k, v.ownBlock = some k → ¬ F k) : w'.ownsRow base e size v n xs := by
  refine ⟨h.1, ?_⟩
  rcases h.2 with hn0 | ⟨g, cap, cur, rfl, hb, hgg, rest⟩
  · exact .inl hn0
  · refine .inr ⟨g, cap, cur, rfl, hb, ?_, rest⟩
    rw [hk.block g (Array.getElem?_eq_some_iff.1 hgg).1 (hn g rfl)]
    exact hgg
/-! Rows of things of one size -/
theorem flat_length {α : Type} (f : α → List Value) (m : Nat) : ∀ l : List α, (∀ x ∈ l, (f x).length = m) → (l.flatMap f).length = l.length * m
  | [], _ => by simp
  | x :: l, h => by
    rw [List.flatMap_cons, List.length_append, h x (by simp), flat_length f m l (fun y hy => h y (by simp [hy])), List.length_cons, Nat.succ_mul, Nat.add_comm]
theorem flat_get {α : Type} (f : α → List Value) (m : Nat) : ∀ (l : List α) (i : Nat) (x : α) (j : Nat), (∀ x ∈ l, (f x).length = m) → l[i]? = some x → j < m → (l.flatMap f)[i * m + j]? = (f x)[j]?
  | [], i, x, j, _, h, _ => by simp at h
  | y :: l, 0, x, j, hl, h, hj => by
    simp at h
    subst h
    rw [List.flatMap_cons, Nat.zero_mul, Nat.zero_add, List.getElem?_append_left (by rw [hl y (by simp)]; exact hj)]
  | y :: l, i + 1, x, j, hl, h, hj => by
    have hy := hl y (by simp)
    rw [List.flatMap_cons, List.getElem?_append_right (by rw [hy, Nat.succ_mul]; omega), hy, show (i + 1) * m + j - m = i * m + j by rw [Nat.succ_mul]; omega]
    exact flat_get f m l i x j (fun z hz => hl z (by simp [hz])) (by simpa using h) hj
/-- What is laid into a row from a place on. -/
def overlay (L : List Value) : Nat → List Value → List Value
  | _, [] => L
  | o, v :: r => overlay (L.set o v) (o + 1) r
theorem overlay_get : ∀ (vs : List Value) (o : Nat) (L : List Value) (k : Nat), o + vs.length ≤ L.length → (overlay L o vs)[k]? = if o ≤ k ∧ k < o + vs.length then vs[k - o]? else L[k]?
  | [], o, L, k, _ => by
    rw [overlay, if_neg (by simp only [List.length_nil]; omega)]
  | v :: r, o, L, k, h => by
    simp only [List.length_cons] at h
    rw [overlay, overlay_get r (o + 1) (L.set o v) k (by rw [List.length_set]; omega)]
    by_cases h1 : o + 1 ≤ k ∧ k < o + 1 + r.length
    · rw [if_pos h1, if_pos (by simp only [List.length_cons]; omega), show k - o = (k - (o + 1)) + 1 by omega, List.getElem?_cons_succ]
    · rw [if_neg h1]
      by_cases h2 : o = k
      · subst h2
        rw [if_pos (by simp only [List.length_cons]; omega), Nat.sub_self, List.getElem?_cons_zero, List.getElem?_set_self (by omega)]
      · rw [if_neg (by simp only [List.length_cons]; omega), List.getElem?_set_ne h2]
theorem block_setCell {w : World} {b o : Nat} {L : List Value} {t : TypeId} {fr : Nat × Nat} (h : w.heap[b]? = some (.cells L.toArray t fr)) (v : Value) : (w.setCell ⟨b, o, none⟩ v).heap[b]? = some (.cells (L.set o v).toArray t fr) := by
  have hlt : b < w.heap.size := (Array.getElem?_eq_some_iff.1 h).1
  have h' : w.heap[b] = .cells L.toArray t fr := by simpa [Array.getElem?_eq_getElem hlt] using h
  show (w.heap.modify b _)[b]? = _
  rw [Array.getElem?_eq_getElem (by simpa using hlt), Array.getElem_modify_self, h']
  simp
theorem block_setCells (b : Nat) {t : TypeId} {fr : Nat × Nat} : ∀ (vs : List Value) (o : Nat) (L : List Value) (w : World), w.heap[b]? = some (.cells L.toArray t fr) → (w.setCells b o vs).heap[b]? = some (.cells (overlay L o vs).toArray t fr)
  | [], _, _, _, h => h
  | v :: r, o, L, w, h => by
    rw [World.setCells, overlay]
    exact block_setCells b r (o + 1) (L.set o v) _ (block_setCell h v)
/-- One thing of a row, laid anew. -/
theorem overlay_flat {α : Type} (f : α → List Value) (m : Nat) (l : List α) (i : Nat) (x : α) (hl : ∀ x ∈ l, (f x).length = m) (hx : (f x).length = m) (hi : i < l.length) : overlay (l.flatMap f) (i * m) (f x) = (l.set i x).flatMap f := by
  have hl2 : ∀ y ∈ l.set i x, (f y).length = m := fun y hy => by
    rcases List.mem_or_eq_of_mem_set hy with h | h
    · exact hl y h
    · rw [h]; exact hx
  have hlen := flat_length f m l hl
  have hlen2 := flat_length f m (l.set i x) hl2
  rw [List.length_set] at hlen2
  have hbound : i * m + m ≤ l.length * m := by rw [← Nat.succ_mul]; exact Nat.mul_le_mul_right m hi
  apply List.ext_getElem?
  intro k
  rw [overlay_get _ _ _ _ (by rw [hx, hlen]; exact hbound), hx]
  by_cases hk : k < l.length * m
  · have hm : 0 < m := Nat.pos_of_ne_zero (fun e => by subst e; simp at hk)
    have hq : k / m < l.length := Nat.div_lt_of_lt_mul (by rw [Nat.mul_comm]; exact hk)
    have hr : k % m < m := Nat.mod_lt _ hm
    have hkq : k / m * m + k % m = k := by rw [Nat.mul_comm]; exact Nat.div_add_mod k m
    by_cases h : k / m = i
    · have h1 : i * m ≤ k ∧ k < i * m + m := by subst h; omega
      rw [if_pos h1]
      have := flat_get f m (l.set i x) i x (k - i * m) hl2 (by rw [List.getElem?_set_self hi]) (by omega)
      rw [show i * m + (k - i * m) = k by omega] at this
      exact this.symm
    · have h1 : ¬ (i * m ≤ k ∧ k < i * m + m) := by
        rintro ⟨a, b⟩
        apply h
        rw [← Nat.succ_mul] at b
        exact Nat.le_antisymm (Nat.le_of_lt_succ (Nat.div_lt_of_lt_mul (by rw [Nat.mul_comm]; exact b))) ((Nat.le_div_iff_mul_le hm).2 a)
      rw [if_neg h1]
      have e1 := flat_get f m l (k / m) l[k / m] (k % m) hl (List.getElem?_eq_getElem hq) hr
      have e2 := flat_get f m (l.set i x) (k / m) l[k / m] (k % m) hl2 (by rw [List.getElem?_set_ne (fun e => h e.symm), List.getElem?_eq_getElem hq]) hr
      rw [hkq] at e1 e2
      rw [e1, e2]
  · rw [if_neg (by omega), List.getElem?_eq_none (by rw [hlen]; omega), List.getElem?_eq_none (by rw [hlen2]; omega)]
theorem flat_range {α : Type} (f : α → List Value) (m : Nat) (l : List α) (i : Nat) (x : α) (hl : ∀ x ∈ l, (f x).length = m) (h : l[i]? = some x) {w : World} {b : Nat} {C : List Value} {t : TypeId} {fr : Nat × Nat} (hb : w.heap[b]? = some (.cells C.toArray t fr)) (hC : C.take (l.length * m) = l.flatMap f) : w.rangeAt b (i * m) (f x) := by
  intro j v hv
  have hx : (f x).length = m := hl x (List.mem_of_getElem? h)
  have hj : j < m := by rw [← hx]; exact (List.getElem?_eq_some_iff.1 hv).1
  have hi : i < l.length := (List.getElem?_eq_some_iff.1 h).1
  have hbound : i * m + m ≤ l.length * m := by rw [← Nat.succ_mul]; exact Nat.mul_le_mul_right m hi
  rw [cell_of_row w b (i * m + j) C.toArray t fr hb]
  have e := flat_get f m l i x j hl h hj
  rw [← hC, List.getElem?_take_of_lt (by omega)] at e
  rw [List.getElem?_toArray, e, hv]
end Go.Proofs.YtgaoeoijdpdjiaaGreatDoor

namespace Go.Proofs.YtgaoeoijdpdjiaaGreatDoor
open Go.RowKit
/-- What 'pick' answers. -/
def pickZ (c n : Int) : Int := if c < 0 then (-(c + 1)) % n else c % n
theorem pickZ_bd (c n : Int) (h : 1 ≤ n) : 0 ≤ pickZ c n ∧ pickZ c n < n := by
  unfold pickZ
  split
  · exact ⟨Int.emod_nonneg _ (by omega), Int.emod_lt_of_pos _ (by omega)⟩
  · exact ⟨Int.emod_nonneg _ (by omega), Int.emod_lt_of_pos _ (by omega)⟩
/-- How many digits v has to the base b, with as many rounds as are allowed. -/
def cnt : Nat → Nat → Nat → Nat
  | 0, _, _ => 0
  | f + 1, v, b => if v = 0 then 0 else cnt f (v / b) b + 1
end Go.Proofs.YtgaoeoijdpdjiaaGreatDoor
