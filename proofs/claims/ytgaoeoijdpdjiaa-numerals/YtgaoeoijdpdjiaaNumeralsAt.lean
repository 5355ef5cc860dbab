/-
  The statement's numerals: Digits answers as the document's does, and the book holds four lists more.
-/
import Derived.Test.YtgaoeoijdpdjiaaKeepNil
import Derived.Test.YtgaoeoijdpdjiaaLooks
import Derived.Test.YtgaoeoijdpdjiaaMeasures
import Derived.Test.YtgaoeoijdpdjiaaDigitsAll
namespace Go.Proofs.Ytgaoeoijdpdjiaa
open Go.RowKit

/-- What a call of numerals leaves. -/
def Left4 (B0 B bk : Nat) (v : Value) (S : List Value) (w w' : World) : Prop := ∃ v' S', BookAt w' B bk v' S' ∧ S'.length = S.length + 4 ∧ Below B0 w w' ∧ (∀ q, q < w.heap.size → q ≠ bk → v.ownBlock ≠ some q → w'.heap[q]? = w.heap[q]?) ∧ w.heap.size ≤ w'.heap.size

set_option maxRecDepth 20000 in
set_option maxHeartbeats 1000000 in
theorem numerals_err (B0 B bk : Nat) (v : Value) (S : List Value) (k b x t l e : Int) (m : ByteArray) (w : World) (hB : BookAt w B bk v S) (h4 : S.length % 4 = 0) (hS : S.length ≤ 90) (b1 : B0 ≤ B) (b2 : B0 ≤ bk) (b3 : B0 ≤ w.heap.size) (b4 : B ≤ w.heap.size)
    (h1 : ∀ w : World, Calls Try.prog 28 #[.agg #[.int .i64 k, .int .i64 b, .int .i64 x, .int .i64 t, .int .i64 l], .string m] w fun r w' => r = .returned (.tuple #[.slice none 0 0, .int .i64 e]) ∧ Below w.heap.size w w')
    (h2 : ∀ w : World, Calls Try.prog 29 #[.agg #[.int .i64 k, .int .i64 b, .int .i64 x, .int .i64 t, .int .i64 l], .string m] w fun r w' => r = .returned (.tuple #[.slice none 0 0, .int .i64 e]) ∧ Below w.heap.size w w') :
    Calls Try.prog 9 #[.pointer (some ⟨bk, 0, none⟩), .agg #[.int .i64 k, .int .i64 b, .int .i64 x, .int .i64 t, .int .i64 l], .string m] w fun r w' => r = .returned (.bool true) ∧ Left4 B0 B bk v S w w' := by
  have H1 := hideM h1
  have H2 := hideM h2
  have HB := hideM hB
  clear h1 h2 hB
  go_enter Try.func9, Try.ntmps9
  go_wp2_with fail
  refine (H1.out _).mono ?_
  rintro r w1 ⟨rfl, hb⟩
  have B1 := hideM (((Below.refl _ _).alloc (Nat.le_refl _) _).trans (hb.mono (by simp)) : Below w.heap.size w w1)
  obtain ⟨c0, c1, c2, c3, c4⟩ := five_below (show Five (w.alloc (.cells #[.int .i64 k, .int .i64 b, .int .i64 x, .int .i64 t, .int .i64 l] 23)) w.heap.size k b x t l by refine ⟨?_, ?_, ?_, ?_, ?_⟩ <;> simp [go_sem]) hb (by simp)
  clear hb
  go_wp2_with fail
  refine (H2.out _).mono ?_
  rintro r w2 ⟨rfl, hb⟩
  have B2 := hideM (B1.out.trans (hb.mono B1.out.size))
  clear hb c0 c1 c2 c3 c4 B1
  go_wp2_with fail
  refine (same_nil _).mono ?_
  rintro r w3 ⟨rfl, hb⟩
  have B3 := hideM (B2.out.trans (hb.mono B2.out.size))
  clear hb B2
  go_wp2_with fail
  refine (num_any _ _).mono ?_
  rintro r w4 ⟨rfl, rfl⟩
  go_wp2_with fail
  refine (keep_nil B0 B bk v S w w4 HB.out h4 hS B3.out b1 b2 b3 b4).mono ?_
  rintro r w5 ⟨rfl, v', S', hB5, hl5, hb5, hk5, hz5⟩
  have L := hideM (show Left4 B0 B bk v S w w5 from ⟨v', S', hB5, hl5, (B3.out.mono b3).trans hb5, hk5, Nat.le_trans B3.out.size hz5⟩)
  clear hB5 hl5 hb5 hk5 hz5
  go_wp2
  go_ret
  exact ⟨rfl, L.out⟩

set_option maxRecDepth 20000 in
theorem row_cells {w : World} {g : Nat} {D : List Nat} (h : RowZ w g (D.map Int.ofNat)) : ∀ j, j < D.length → w.cell? ⟨g, j, none⟩ = some (.int .i64 ((at0M D j : Nat) : Int)) := by
  intro j hj
  rw [h.cell (by simpa using hj)]
  simp [at0M, List.getElem?_eq_getElem hj]

set_option maxRecDepth 20000 in
theorem owns_cells {w : World} {base g cap n : Nat} {D : List Nat} (h : w.ownsRow base 3 1 (.slice (some ⟨g, 0, none⟩) n cap) n (cellsN D)) (hn : D.length = n) : ∀ j, j < n → w.cell? ⟨g, j, none⟩ = some (.int .i64 ((at0M D j : Nat) : Int)) := by
  intro j hj
  rcases h.2 with ⟨h, _⟩ | ⟨g', cap', cur, h, _, hh, _, _, _, ht⟩
  · cases h
  · simp only [Value.slice.injEq, Option.some.injEq, Addr.mk.injEq, and_true, true_and] at h
    obtain ⟨rfl, rfl⟩ := h
    have h1 : (cur.toList.take (n * 1))[j]? = (cellsN D)[j]? := by rw [ht]
    rw [List.getElem?_take_of_lt (by omega)] at h1
    simp only [World.cell?, hh]
    simpa [cellsN, at0M, List.getElem?_eq_getElem (show j < D.length by omega)] using h1

set_option maxRecDepth 20000 in
set_option maxHeartbeats 1000000 in
theorem numerals_ok (B0 B bk b x e f t l : Nat) (hp : Pair b x e f) (v : Value) (S : List Value) (k : Int) (m : ByteArray) (w : World) (hB : BookAt w B bk v S) (h4 : S.length % 4 = 0) (hS : S.length ≤ 90) (b1 : B0 ≤ B) (b2 : B0 ≤ bk) (b3 : B0 ≤ w.heap.size) (b4 : B ≤ w.heap.size)
    (hr : rightB k b x t l = true) (hk : k = 1 ∨ k = 2) (t1 : 1 ≤ t) (t2 : t ≤ 4) (t3 : 1 ≤ l) (t4 : l ≤ 3) (hm : m.size = b) :
    Calls Try.prog 9 #[.pointer (some ⟨bk, 0, none⟩), .agg #[.int .i64 k, .int .i64 b, .int .i64 x, .int .i64 t, .int .i64 l], .string m] w fun r w' => r = .returned (.bool true) ∧ Left4 B0 B bk v S w w' := by
  have H1 := hideM (fun w : World => digits_any b x e f hp k t l m w hk (by omega) (by omega) (by omega) (by omega) hm)
  have H2 := hideM (fun w : World => refDigits_ok b x e f hp k t l m w hr t1 t2 t3 t4 hm)
  have hlen : (digitsN x e f (bytesN m)).length = b * e + f := by rw [digitsN_length, bytesN_length, hm]
  have hn : b * e + f ≤ 36 := by rcases hp with ⟨rfl, rfl, rfl, rfl⟩ | ⟨rfl, rfl, rfl, rfl⟩ | ⟨rfl, rfl, rfl, rfl⟩ | ⟨rfl, rfl, rfl, rfl⟩ <;> decide
  have hn0 : 0 < b * e + f := by rcases hp with ⟨rfl, rfl, rfl, rfl⟩ | ⟨rfl, rfl, rfl, rfl⟩ | ⟨rfl, rfl, rfl, rfl⟩ | ⟨rfl, rfl, rfl, rfl⟩ <;> decide
  have HB := hideM hB
  generalize digitsN x e f (bytesN m) = D at H1 H2 hlen
  generalize b * e + f = n at H1 H2 hlen hn hn0
  have HLEN := hideM hlen
  clear hB hlen hp hr hk hm
  have hne : ((n : Int) == 0) = false := by simp; omega
  go_enter Try.func9, Try.ntmps9
  go_wp2_with fail
  refine (H1.out _).mono ?_
  rintro r w1 ⟨g, rfl, hg, hrow, hb⟩
  simp at hg
  have B1 := hideM (((Below.refl _ _).alloc (Nat.le_refl _) _).trans (hb.mono (by simp)) : Below w.heap.size w w1)
  obtain ⟨c0, c1, c2, c3, c4⟩ := five_below (show Five (w.alloc (.cells #[.int .i64 k, .int .i64 b, .int .i64 x, .int .i64 t, .int .i64 l] 23)) w.heap.size k b x t l by refine ⟨?_, ?_, ?_, ?_, ?_⟩ <;> simp [go_sem]) hb (by simp)
  have R1 := hideM hrow
  clear hb hrow
  go_wp2_with fail
  refine (H2.out _).mono ?_
  rintro r w2 ⟨v2, rfl, ho, hb⟩
  have B2 := hideM (B1.out.trans (hb.mono B1.out.size))
  have R2 := hideM (R1.out.below hb R1.out.lt)
  obtain ⟨g2, cap2, hv2⟩ := owns_some ho hn0
  rw [hv2] at ho ⊢
  have O2 := hideM ho
  clear hb c0 c1 c2 c3 c4 B1 R1 ho hv2
  go_wp2_with fail
  refine (same_some g g2 n n cap2 D _ (by omega) (fun j hj => row_cells R2.out j (by rw [HLEN.out]; exact hj)) (owns_cells O2.out HLEN.out)).mono ?_
  rintro r w3 ⟨rfl, hb⟩
  have B3 := hideM (B2.out.trans (hb.mono B2.out.size))
  have R3 := hideM (R2.out.below hb R2.out.lt)
  clear hb B2 R2 O2
  go_wp2_with fail
  refine (num_any _ _).mono ?_
  rintro r w4 ⟨rfl, rfl⟩
  go_wp2_with fail
  refine (keep_row B0 B bk g n v S (D.map Int.ofNat) w w4 HB.out h4 hS B3.out (by omega) R3.out (by rw [List.length_map]; exact HLEN.out) hn0 (by omega) b1 b2 b3 b4).mono ?_
  rintro r w5 ⟨rfl, v', S', hB5, hl5, hb5, hk5, hz5⟩
  have L := hideM (show Left4 B0 B bk v S w w5 from ⟨v', S', hB5, hl5, (B3.out.mono b3).trans hb5, hk5, Nat.le_trans B3.out.size hz5⟩)
  clear hB5 hl5 hb5 hk5 hz5
  go_wp2
  go_ret
  exact ⟨rfl, L.out⟩

set_option maxRecDepth 20000 in
theorem numerals_any (B0 B bk : Nat) (v : Value) (S : List Value) (k b x t l : Int) (m : ByteArray) (w : World) (hB : BookAt w B bk v S) (h4 : S.length % 4 = 0) (hS : S.length ≤ 90) (b1 : B0 ≤ B) (b2 : B0 ≤ bk) (b3 : B0 ≤ w.heap.size) (b4 : B ≤ w.heap.size) :
    Calls Try.prog 9 #[.pointer (some ⟨bk, 0, none⟩), .agg #[.int .i64 k, .int .i64 b, .int .i64 x, .int .i64 t, .int .i64 l], .string m] w fun r w' => r = .returned (.bool true) ∧ Left4 B0 B bk v S w w' := by
  cases hr : rightB k b x t l with
  | false => exact numerals_err B0 B bk v S k b x t l 1 m w hB h4 hS b1 b2 b3 b4 (fun w => digits_err k b x t l 1 m w (fun w => setsDigits_set k b x t l m w hr)) (fun w => refDigits_set k b x t l m w hr)
  | true =>
    obtain ⟨b', x', e, f, t', l', hp, hk, rfl, rfl, rfl, rfl, t1, t2, t3, t4⟩ := pair_of_right hr
    by_cases hm : m.size = b'
    · exact numerals_ok B0 B bk b' x' e f t' l' hp v S k m w hB h4 hS b1 b2 b3 b4 hr hk t1 t2 t3 t4 hm
    · exact numerals_err B0 B bk v S k b' x' t' l' 2 m w hB h4 hS b1 b2 b3 b4 (fun w => digits_err k b' x' t' l' 2 m w (fun w => setsDigits_len b' x' e f t' l' hp k m w hk t1 t2 t3 t4 hm)) (fun w => refDigits_len k t' l' b' x' m w hr hm)
end Go.Proofs.Ytgaoeoijdpdjiaa
