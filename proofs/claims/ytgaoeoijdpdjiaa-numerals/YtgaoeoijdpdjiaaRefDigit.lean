/-
  The document's own digit: the i-th digit of a value.
-/
import Derived.Test.YtgaoeoijdpdjiaaMeasureAll
import Derived.Test.YtgaoeoijdpdjiaaDigitsBase
import Derived.Handy
namespace Go.Proofs.Ytgaoeoijdpdjiaa
open Go.RowKit

theorem firsts_at (x e : Nat) (A : List Nat) (i : Nat) (he : 0 < e) (hi : i < A.length * e) : at0M (firsts x e A) i = at0M (digs x e (at0M A (i / e))) (i % e) := by
  induction A generalizing i with
  | nil => simp at hi
  | cons c r ih =>
    simp only [firsts]
    by_cases h : i < e
    · rw [at0_append_left _ _ _ (by rw [digs_length]; exact h), Nat.div_eq_of_lt h, Nat.mod_eq_of_lt h]
      rfl
    · obtain ⟨j, rfl⟩ : ∃ j, i = e + j := ⟨i - e, by omega⟩
      have e1 := at0_append_right (digs x e c) (firsts x e r) j
      rw [digs_length] at e1
      rw [e1, ih j (by simp only [List.length_cons, Nat.succ_mul] at hi; omega)]
      rw [Nat.add_div_left _ he, Nat.add_mod_left]
      rfl

set_option maxHeartbeats 400000 in
theorem digit_4_4_0 (k : Int) (t l i c : Nat) (m : ByteArray) (w : World) (h1 : 1 ≤ t) (h2 : t ≤ 4) (h3 : 1 ≤ l) (h4 : l ≤ 3) (hm : m.size = 4) (hi : i < 16) (hr : i % 4 = 0) (q1 : i / 4 < m.size) (hc : (m[i / 4]'q1).toNat = c) :
    Calls Try.prog 73 #[.agg #[.int .i64 k, .int .i64 4, .int .i64 4, .int .i64 t, .int .i64 l], .string m, .int .i64 i] w fun r w' => r = .returned (.int .i64 (((((c : Int) / 4) / 4) / 4) % 4)) ∧ Below w.heap.size w w' := by
  have HS := hideM (fun w' : World => refSizes_4_4 k t l w' h1 h2 h3 h4)
  have hcb : (((m[i / 4]'q1).toNat : Nat) : Int) ≤ 255 := by have := UInt8.toNat_lt (m[i / 4]'q1); omega
  have HC := hideM hc
  have m1 : m.size ≤ 4 := Nat.le_of_eq hm
  have m2 : 4 ≤ m.size := Nat.le_of_eq hm.symm
  have q2 : ((i : Int) / 4) < (m.size : Int) := by omega
  have q3 : (i : Int) % 4 = 0 := by omega
  clear hc hm hr
  go_enter Try.func73, Try.ntmps73
  go_wp2_with fail
  refine (HS.out _).mono ?_
  rintro r w1 ⟨rfl, hb⟩
  have Z1 := hideM (show w.heap.size < w1.heap.size by have := hb.size; simp at this; omega)
  have B1 := hideM (((Below.refl _ _).alloc (Nat.le_refl _) _).trans (hb.mono (by simp)) : Below w.heap.size w w1)
  have c1 : ∀ o, (w1.alloc o).cell? ⟨w.heap.size, 1, none⟩ = some (.int .i64 4) := fun o => (World.cell?_alloc_past _ _ _ Z1.out).trans ((hb.cell (by simp)).trans (by simp [go_sem]))
  have c2 : ∀ o, (w1.alloc o).cell? ⟨w.heap.size, 2, none⟩ = some (.int .i64 4) := fun o => (World.cell?_alloc_past _ _ _ Z1.out).trans ((hb.cell (by simp)).trans (by simp [go_sem]))
  clear hb HS
  go_wp2
  go_rounds 4
  go_ret
  refine ⟨?_, B1.out.alloc (Nat.le_of_lt Z1.out) _⟩
  first | (rw [HC.out]; done) | (rw [← HC.out]; done) | (simp only [HC.out]; done) | (simp [HC.out]; done)

set_option maxHeartbeats 400000 in
theorem digit_4_4_1 (k : Int) (t l i c : Nat) (m : ByteArray) (w : World) (h1 : 1 ≤ t) (h2 : t ≤ 4) (h3 : 1 ≤ l) (h4 : l ≤ 3) (hm : m.size = 4) (hi : i < 16) (hr : i % 4 = 1) (q1 : i / 4 < m.size) (hc : (m[i / 4]'q1).toNat = c) :
    Calls Try.prog 73 #[.agg #[.int .i64 k, .int .i64 4, .int .i64 4, .int .i64 t, .int .i64 l], .string m, .int .i64 i] w fun r w' => r = .returned (.int .i64 ((((c : Int) / 4) / 4) % 4)) ∧ Below w.heap.size w w' := by
  have HS := hideM (fun w' : World => refSizes_4_4 k t l w' h1 h2 h3 h4)
  have hcb : (((m[i / 4]'q1).toNat : Nat) : Int) ≤ 255 := by have := UInt8.toNat_lt (m[i / 4]'q1); omega
  have HC := hideM hc
  have m1 : m.size ≤ 4 := Nat.le_of_eq hm
  have m2 : 4 ≤ m.size := Nat.le_of_eq hm.symm
  have q2 : ((i : Int) / 4) < (m.size : Int) := by omega
  have q3 : (i : Int) % 4 = 1 := by omega
  clear hc hm hr
  go_enter Try.func73, Try.ntmps73
  go_wp2_with fail
  refine (HS.out _).mono ?_
  rintro r w1 ⟨rfl, hb⟩
  have Z1 := hideM (show w.heap.size < w1.heap.size by have := hb.size; simp at this; omega)
  have B1 := hideM (((Below.refl _ _).alloc (Nat.le_refl _) _).trans (hb.mono (by simp)) : Below w.heap.size w w1)
  have c1 : ∀ o, (w1.alloc o).cell? ⟨w.heap.size, 1, none⟩ = some (.int .i64 4) := fun o => (World.cell?_alloc_past _ _ _ Z1.out).trans ((hb.cell (by simp)).trans (by simp [go_sem]))
  have c2 : ∀ o, (w1.alloc o).cell? ⟨w.heap.size, 2, none⟩ = some (.int .i64 4) := fun o => (World.cell?_alloc_past _ _ _ Z1.out).trans ((hb.cell (by simp)).trans (by simp [go_sem]))
  clear hb HS
  go_wp2
  go_rounds 3
  go_ret
  refine ⟨?_, B1.out.alloc (Nat.le_of_lt Z1.out) _⟩
  first | (rw [HC.out]; done) | (rw [← HC.out]; done) | (simp only [HC.out]; done) | (simp [HC.out]; done)

set_option maxHeartbeats 400000 in
theorem digit_4_4_2 (k : Int) (t l i c : Nat) (m : ByteArray) (w : World) (h1 : 1 ≤ t) (h2 : t ≤ 4) (h3 : 1 ≤ l) (h4 : l ≤ 3) (hm : m.size = 4) (hi : i < 16) (hr : i % 4 = 2) (q1 : i / 4 < m.size) (hc : (m[i / 4]'q1).toNat = c) :
    Calls Try.prog 73 #[.agg #[.int .i64 k, .int .i64 4, .int .i64 4, .int .i64 t, .int .i64 l], .string m, .int .i64 i] w fun r w' => r = .returned (.int .i64 (((c : Int) / 4) % 4)) ∧ Below w.heap.size w w' := by
  have HS := hideM (fun w' : World => refSizes_4_4 k t l w' h1 h2 h3 h4)
  have hcb : (((m[i / 4]'q1).toNat : Nat) : Int) ≤ 255 := by have := UInt8.toNat_lt (m[i / 4]'q1); omega
  have HC := hideM hc
  have m1 : m.size ≤ 4 := Nat.le_of_eq hm
  have m2 : 4 ≤ m.size := Nat.le_of_eq hm.symm
  have q2 : ((i : Int) / 4) < (m.size : Int) := by omega
  have q3 : (i : Int) % 4 = 2 := by omega
  clear hc hm hr
  go_enter Try.func73, Try.ntmps73
  go_wp2_with fail
  refine (HS.out _).mono ?_
  rintro r w1 ⟨rfl, hb⟩
  have Z1 := hideM (show w.heap.size < w1.heap.size by have := hb.size; simp at this; omega)
  have B1 := hideM (((Below.refl _ _).alloc (Nat.le_refl _) _).trans (hb.mono (by simp)) : Below w.heap.size w w1)
  have c1 : ∀ o, (w1.alloc o).cell? ⟨w.heap.size, 1, none⟩ = some (.int .i64 4) := fun o => (World.cell?_alloc_past _ _ _ Z1.out).trans ((hb.cell (by simp)).trans (by simp [go_sem]))
  have c2 : ∀ o, (w1.alloc o).cell? ⟨w.heap.size, 2, none⟩ = some (.int .i64 4) := fun o => (World.cell?_alloc_past _ _ _ Z1.out).trans ((hb.cell (by simp)).trans (by simp [go_sem]))
  clear hb HS
  go_wp2
  go_rounds 2
  go_ret
  refine ⟨?_, B1.out.alloc (Nat.le_of_lt Z1.out) _⟩
  first | (rw [HC.out]; done) | (rw [← HC.out]; done) | (simp only [HC.out]; done) | (simp [HC.out]; done)

set_option maxHeartbeats 400000 in
theorem digit_4_4_3 (k : Int) (t l i c : Nat) (m : ByteArray) (w : World) (h1 : 1 ≤ t) (h2 : t ≤ 4) (h3 : 1 ≤ l) (h4 : l ≤ 3) (hm : m.size = 4) (hi : i < 16) (hr : i % 4 = 3) (q1 : i / 4 < m.size) (hc : (m[i / 4]'q1).toNat = c) :
    Calls Try.prog 73 #[.agg #[.int .i64 k, .int .i64 4, .int .i64 4, .int .i64 t, .int .i64 l], .string m, .int .i64 i] w fun r w' => r = .returned (.int .i64 ((c : Int) % 4)) ∧ Below w.heap.size w w' := by
  have HS := hideM (fun w' : World => refSizes_4_4 k t l w' h1 h2 h3 h4)
  have hcb : (((m[i / 4]'q1).toNat : Nat) : Int) ≤ 255 := by have := UInt8.toNat_lt (m[i / 4]'q1); omega
  have HC := hideM hc
  have m1 : m.size ≤ 4 := Nat.le_of_eq hm
  have m2 : 4 ≤ m.size := Nat.le_of_eq hm.symm
  have q2 : ((i : Int) / 4) < (m.size : Int) := by omega
  have q3 : (i : Int) % 4 = 3 := by omega
  clear hc hm hr
  go_enter Try.func73, Try.ntmps73
  go_wp2_with fail
  refine (HS.out _).mono ?_
  rintro r w1 ⟨rfl, hb⟩
  have Z1 := hideM (show w.heap.size < w1.heap.size by have := hb.size; simp at this; omega)
  have B1 := hideM (((Below.refl _ _).alloc (Nat.le_refl _) _).trans (hb.mono (by simp)) : Below w.heap.size w w1)
  have c1 : ∀ o, (w1.alloc o).cell? ⟨w.heap.size, 1, none⟩ = some (.int .i64 4) := fun o => (World.cell?_alloc_past _ _ _ Z1.out).trans ((hb.cell (by simp)).trans (by simp [go_sem]))
  have c2 : ∀ o, (w1.alloc o).cell? ⟨w.heap.size, 2, none⟩ = some (.int .i64 4) := fun o => (World.cell?_alloc_past _ _ _ Z1.out).trans ((hb.cell (by simp)).trans (by simp [go_sem]))
  clear hb HS
  go_wp2
  go_rounds 1
  go_ret
  refine ⟨?_, B1.out.alloc (Nat.le_of_lt Z1.out) _⟩
  first | (rw [HC.out]; done) | (rw [← HC.out]; done) | (simp only [HC.out]; done) | (simp [HC.out]; done)

set_option maxHeartbeats 400000 in
theorem digit_8_4_0 (k : Int) (t l i c : Nat) (m : ByteArray) (w : World) (h1 : 1 ≤ t) (h2 : t ≤ 4) (h3 : 1 ≤ l) (h4 : l ≤ 3) (hm : m.size = 8) (hi : i < 32) (hr : i % 4 = 0) (q1 : i / 4 < m.size) (hc : (m[i / 4]'q1).toNat = c) :
    Calls Try.prog 73 #[.agg #[.int .i64 k, .int .i64 8, .int .i64 4, .int .i64 t, .int .i64 l], .string m, .int .i64 i] w fun r w' => r = .returned (.int .i64 (((((c : Int) / 4) / 4) / 4) % 4)) ∧ Below w.heap.size w w' := by
  have HS := hideM (fun w' : World => refSizes_8_4 k t l w' h1 h2 h3 h4)
  have hcb : (((m[i / 4]'q1).toNat : Nat) : Int) ≤ 255 := by have := UInt8.toNat_lt (m[i / 4]'q1); omega
  have HC := hideM hc
  have m1 : m.size ≤ 8 := Nat.le_of_eq hm
  have m2 : 8 ≤ m.size := Nat.le_of_eq hm.symm
  have q2 : ((i : Int) / 4) < (m.size : Int) := by omega
  have q3 : (i : Int) % 4 = 0 := by omega
  clear hc hm hr
  go_enter Try.func73, Try.ntmps73
  go_wp2_with fail
  refine (HS.out _).mono ?_
  rintro r w1 ⟨rfl, hb⟩
  have Z1 := hideM (show w.heap.size < w1.heap.size by have := hb.size; simp at this; omega)
  have B1 := hideM (((Below.refl _ _).alloc (Nat.le_refl _) _).trans (hb.mono (by simp)) : Below w.heap.size w w1)
  have c1 : ∀ o, (w1.alloc o).cell? ⟨w.heap.size, 1, none⟩ = some (.int .i64 8) := fun o => (World.cell?_alloc_past _ _ _ Z1.out).trans ((hb.cell (by simp)).trans (by simp [go_sem]))
  have c2 : ∀ o, (w1.alloc o).cell? ⟨w.heap.size, 2, none⟩ = some (.int .i64 4) := fun o => (World.cell?_alloc_past _ _ _ Z1.out).trans ((hb.cell (by simp)).trans (by simp [go_sem]))
  clear hb HS
  go_wp2
  go_rounds 4
  go_ret
  refine ⟨?_, B1.out.alloc (Nat.le_of_lt Z1.out) _⟩
  first | (rw [HC.out]; done) | (rw [← HC.out]; done) | (simp only [HC.out]; done) | (simp [HC.out]; done)

set_option maxHeartbeats 400000 in
theorem digit_8_4_1 (k : Int) (t l i c : Nat) (m : ByteArray) (w : World) (h1 : 1 ≤ t) (h2 : t ≤ 4) (h3 : 1 ≤ l) (h4 : l ≤ 3) (hm : m.size = 8) (hi : i < 32) (hr : i % 4 = 1) (q1 : i / 4 < m.size) (hc : (m[i / 4]'q1).toNat = c) :
    Calls Try.prog 73 #[.agg #[.int .i64 k, .int .i64 8, .int .i64 4, .int .i64 t, .int .i64 l], .string m, .int .i64 i] w fun r w' => r = .returned (.int .i64 ((((c : Int) / 4) / 4) % 4)) ∧ Below w.heap.size w w' := by
  have HS := hideM (fun w' : World => refSizes_8_4 k t l w' h1 h2 h3 h4)
  have hcb : (((m[i / 4]'q1).toNat : Nat) : Int) ≤ 255 := by have := UInt8.toNat_lt (m[i / 4]'q1); omega
  have HC := hideM hc
  have m1 : m.size ≤ 8 := Nat.le_of_eq hm
  have m2 : 8 ≤ m.size := Nat.le_of_eq hm.symm
  have q2 : ((i : Int) / 4) < (m.size : Int) := by omega
  have q3 : (i : Int) % 4 = 1 := by omega
  clear hc hm hr
  go_enter Try.func73, Try.ntmps73
  go_wp2_with fail
  refine (HS.out _).mono ?_
  rintro r w1 ⟨rfl, hb⟩
  have Z1 := hideM (show w.heap.size < w1.heap.size by have := hb.size; simp at this; omega)
  have B1 := hideM (((Below.refl _ _).alloc (Nat.le_refl _) _).trans (hb.mono (by simp)) : Below w.heap.size w w1)
  have c1 : ∀ o, (w1.alloc o).cell? ⟨w.heap.size, 1, none⟩ = some (.int .i64 8) := fun o => (World.cell?_alloc_past _ _ _ Z1.out).trans ((hb.cell (by simp)).trans (by simp [go_sem]))
  have c2 : ∀ o, (w1.alloc o).cell? ⟨w.heap.size, 2, none⟩ = some (.int .i64 4) := fun o => (World.cell?_alloc_past _ _ _ Z1.out).trans ((hb.cell (by simp)).trans (by simp [go_sem]))
  clear hb HS
  go_wp2
  go_rounds 3
  go_ret
  refine ⟨?_, B1.out.alloc (Nat.le_of_lt Z1.out) _⟩
  first | (rw [HC.out]; done) | (rw [← HC.out]; done) | (simp only [HC.out]; done) | (simp [HC.out]; done)

set_option maxHeartbeats 400000 in
theorem digit_8_4_2 (k : Int) (t l i c : Nat) (m : ByteArray) (w : World) (h1 : 1 ≤ t) (h2 : t ≤ 4) (h3 : 1 ≤ l) (h4 : l ≤ 3) (hm : m.size = 8) (hi : i < 32) (hr : i % 4 = 2) (q1 : i / 4 < m.size) (hc : (m[i / 4]'q1).toNat = c) :
    Calls Try.prog 73 #[.agg #[.int .i64 k, .int .i64 8, .int .i64 4, .int .i64 t, .int .i64 l], .string m, .int .i64 i] w fun r w' => r = .returned (.int .i64 (((c : Int) / 4) % 4)) ∧ Below w.heap.size w w' := by
  have HS := hideM (fun w' : World => refSizes_8_4 k t l w' h1 h2 h3 h4)
  have hcb : (((m[i / 4]'q1).toNat : Nat) : Int) ≤ 255 := by have := UInt8.toNat_lt (m[i / 4]'q1); omega
  have HC := hideM hc
  have m1 : m.size ≤ 8 := Nat.le_of_eq hm
  have m2 : 8 ≤ m.size := Nat.le_of_eq hm.symm
  have q2 : ((i : Int) / 4) < (m.size : Int) := by omega
  have q3 : (i : Int) % 4 = 2 := by omega
  clear hc hm hr
  go_enter Try.func73, Try.ntmps73
  go_wp2_with fail
  refine (HS.out _).mono ?_
  rintro r w1 ⟨rfl, hb⟩
  have Z1 := hideM (show w.heap.size < w1.heap.size by have := hb.size; simp at this; omega)
  have B1 := hideM (((Below.refl _ _).alloc (Nat.le_refl _) _).trans (hb.mono (by simp)) : Below w.heap.size w w1)
  have c1 : ∀ o, (w1.alloc o).cell? ⟨w.heap.size, 1, none⟩ = some (.int .i64 8) := fun o => (World.cell?_alloc_past _ _ _ Z1.out).trans ((hb.cell (by simp)).trans (by simp [go_sem]))
  have c2 : ∀ o, (w1.alloc o).cell? ⟨w.heap.size, 2, none⟩ = some (.int .i64 4) := fun o => (World.cell?_alloc_past _ _ _ Z1.out).trans ((hb.cell (by simp)).trans (by simp [go_sem]))
  clear hb HS
  go_wp2
  go_rounds 2
  go_ret
  refine ⟨?_, B1.out.alloc (Nat.le_of_lt Z1.out) _⟩
  first | (rw [HC.out]; done) | (rw [← HC.out]; done) | (simp only [HC.out]; done) | (simp [HC.out]; done)

set_option maxHeartbeats 400000 in
theorem digit_8_4_3 (k : Int) (t l i c : Nat) (m : ByteArray) (w : World) (h1 : 1 ≤ t) (h2 : t ≤ 4) (h3 : 1 ≤ l) (h4 : l ≤ 3) (hm : m.size = 8) (hi : i < 32) (hr : i % 4 = 3) (q1 : i / 4 < m.size) (hc : (m[i / 4]'q1).toNat = c) :
    Calls Try.prog 73 #[.agg #[.int .i64 k, .int .i64 8, .int .i64 4, .int .i64 t, .int .i64 l], .string m, .int .i64 i] w fun r w' => r = .returned (.int .i64 ((c : Int) % 4)) ∧ Below w.heap.size w w' := by
  have HS := hideM (fun w' : World => refSizes_8_4 k t l w' h1 h2 h3 h4)
  have hcb : (((m[i / 4]'q1).toNat : Nat) : Int) ≤ 255 := by have := UInt8.toNat_lt (m[i / 4]'q1); omega
  have HC := hideM hc
  have m1 : m.size ≤ 8 := Nat.le_of_eq hm
  have m2 : 8 ≤ m.size := Nat.le_of_eq hm.symm
  have q2 : ((i : Int) / 4) < (m.size : Int) := by omega
  have q3 : (i : Int) % 4 = 3 := by omega
  clear hc hm hr
  go_enter Try.func73, Try.ntmps73
  go_wp2_with fail
  refine (HS.out _).mono ?_
  rintro r w1 ⟨rfl, hb⟩
  have Z1 := hideM (show w.heap.size < w1.heap.size by have := hb.size; simp at this; omega)
  have B1 := hideM (((Below.refl _ _).alloc (Nat.le_refl _) _).trans (hb.mono (by simp)) : Below w.heap.size w w1)
  have c1 : ∀ o, (w1.alloc o).cell? ⟨w.heap.size, 1, none⟩ = some (.int .i64 8) := fun o => (World.cell?_alloc_past _ _ _ Z1.out).trans ((hb.cell (by simp)).trans (by simp [go_sem]))
  have c2 : ∀ o, (w1.alloc o).cell? ⟨w.heap.size, 2, none⟩ = some (.int .i64 4) := fun o => (World.cell?_alloc_past _ _ _ Z1.out).trans ((hb.cell (by simp)).trans (by simp [go_sem]))
  clear hb HS
  go_wp2
  go_rounds 1
  go_ret
  refine ⟨?_, B1.out.alloc (Nat.le_of_lt Z1.out) _⟩
  first | (rw [HC.out]; done) | (rw [← HC.out]; done) | (simp only [HC.out]; done) | (simp [HC.out]; done)

set_option maxHeartbeats 400000 in
theorem digit_4_16_0 (k : Int) (t l i c : Nat) (m : ByteArray) (w : World) (h1 : 1 ≤ t) (h2 : t ≤ 4) (h3 : 1 ≤ l) (h4 : l ≤ 3) (hm : m.size = 4) (hi : i < 8) (hr : i % 2 = 0) (q1 : i / 2 < m.size) (hc : (m[i / 2]'q1).toNat = c) :
    Calls Try.prog 73 #[.agg #[.int .i64 k, .int .i64 4, .int .i64 16, .int .i64 t, .int .i64 l], .string m, .int .i64 i] w fun r w' => r = .returned (.int .i64 (((c : Int) / 16) % 16)) ∧ Below w.heap.size w w' := by
  have HS := hideM (fun w' : World => refSizes_4_16 k t l w' h1 h2 h3 h4)
  have hcb : (((m[i / 2]'q1).toNat : Nat) : Int) ≤ 255 := by have := UInt8.toNat_lt (m[i / 2]'q1); omega
  have HC := hideM hc
  have m1 : m.size ≤ 4 := Nat.le_of_eq hm
  have m2 : 4 ≤ m.size := Nat.le_of_eq hm.symm
  have q2 : ((i : Int) / 2) < (m.size : Int) := by omega
  have q3 : (i : Int) % 2 = 0 := by omega
  clear hc hm hr
  go_enter Try.func73, Try.ntmps73
  go_wp2_with fail
  refine (HS.out _).mono ?_
  rintro r w1 ⟨rfl, hb⟩
  have Z1 := hideM (show w.heap.size < w1.heap.size by have := hb.size; simp at this; omega)
  have B1 := hideM (((Below.refl _ _).alloc (Nat.le_refl _) _).trans (hb.mono (by simp)) : Below w.heap.size w w1)
  have c1 : ∀ o, (w1.alloc o).cell? ⟨w.heap.size, 1, none⟩ = some (.int .i64 4) := fun o => (World.cell?_alloc_past _ _ _ Z1.out).trans ((hb.cell (by simp)).trans (by simp [go_sem]))
  have c2 : ∀ o, (w1.alloc o).cell? ⟨w.heap.size, 2, none⟩ = some (.int .i64 16) := fun o => (World.cell?_alloc_past _ _ _ Z1.out).trans ((hb.cell (by simp)).trans (by simp [go_sem]))
  clear hb HS
  go_wp2
  go_rounds 2
  go_ret
  refine ⟨?_, B1.out.alloc (Nat.le_of_lt Z1.out) _⟩
  first | (rw [HC.out]; done) | (rw [← HC.out]; done) | (simp only [HC.out]; done) | (simp [HC.out]; done)

set_option maxHeartbeats 400000 in
theorem digit_4_16_1 (k : Int) (t l i c : Nat) (m : ByteArray) (w : World) (h1 : 1 ≤ t) (h2 : t ≤ 4) (h3 : 1 ≤ l) (h4 : l ≤ 3) (hm : m.size = 4) (hi : i < 8) (hr : i % 2 = 1) (q1 : i / 2 < m.size) (hc : (m[i / 2]'q1).toNat = c) :
    Calls Try.prog 73 #[.agg #[.int .i64 k, .int .i64 4, .int .i64 16, .int .i64 t, .int .i64 l], .string m, .int .i64 i] w fun r w' => r = .returned (.int .i64 ((c : Int) % 16)) ∧ Below w.heap.size w w' := by
  have HS := hideM (fun w' : World => refSizes_4_16 k t l w' h1 h2 h3 h4)
  have hcb : (((m[i / 2]'q1).toNat : Nat) : Int) ≤ 255 := by have := UInt8.toNat_lt (m[i / 2]'q1); omega
  have HC := hideM hc
  have m1 : m.size ≤ 4 := Nat.le_of_eq hm
  have m2 : 4 ≤ m.size := Nat.le_of_eq hm.symm
  have q2 : ((i : Int) / 2) < (m.size : Int) := by omega
  have q3 : (i : Int) % 2 = 1 := by omega
  clear hc hm hr
  go_enter Try.func73, Try.ntmps73
  go_wp2_with fail
  refine (HS.out _).mono ?_
  rintro r w1 ⟨rfl, hb⟩
  have Z1 := hideM (show w.heap.size < w1.heap.size by have := hb.size; simp at this; omega)
  have B1 := hideM (((Below.refl _ _).alloc (Nat.le_refl _) _).trans (hb.mono (by simp)) : Below w.heap.size w w1)
  have c1 : ∀ o, (w1.alloc o).cell? ⟨w.heap.size, 1, none⟩ = some (.int .i64 4) := fun o => (World.cell?_alloc_past _ _ _ Z1.out).trans ((hb.cell (by simp)).trans (by simp [go_sem]))
  have c2 : ∀ o, (w1.alloc o).cell? ⟨w.heap.size, 2, none⟩ = some (.int .i64 16) := fun o => (World.cell?_alloc_past _ _ _ Z1.out).trans ((hb.cell (by simp)).trans (by simp [go_sem]))
  clear hb HS
  go_wp2
  go_rounds 1
  go_ret
  refine ⟨?_, B1.out.alloc (Nat.le_of_lt Z1.out) _⟩
  first | (rw [HC.out]; done) | (rw [← HC.out]; done) | (simp only [HC.out]; done) | (simp [HC.out]; done)

set_option maxHeartbeats 400000 in
theorem digit_8_16_0 (k : Int) (t l i c : Nat) (m : ByteArray) (w : World) (h1 : 1 ≤ t) (h2 : t ≤ 4) (h3 : 1 ≤ l) (h4 : l ≤ 3) (hm : m.size = 8) (hi : i < 16) (hr : i % 2 = 0) (q1 : i / 2 < m.size) (hc : (m[i / 2]'q1).toNat = c) :
    Calls Try.prog 73 #[.agg #[.int .i64 k, .int .i64 8, .int .i64 16, .int .i64 t, .int .i64 l], .string m, .int .i64 i] w fun r w' => r = .returned (.int .i64 (((c : Int) / 16) % 16)) ∧ Below w.heap.size w w' := by
  have HS := hideM (fun w' : World => refSizes_8_16 k t l w' h1 h2 h3 h4)
  have hcb : (((m[i / 2]'q1).toNat : Nat) : Int) ≤ 255 := by have := UInt8.toNat_lt (m[i / 2]'q1); omega
  have HC := hideM hc
  have m1 : m.size ≤ 8 := Nat.le_of_eq hm
  have m2 : 8 ≤ m.size := Nat.le_of_eq hm.symm
  have q2 : ((i : Int) / 2) < (m.size : Int) := by omega
  have q3 : (i : Int) % 2 = 0 := by omega
  clear hc hm hr
  go_enter Try.func73, Try.ntmps73
  go_wp2_with fail
  refine (HS.out _).mono ?_
  rintro r w1 ⟨rfl, hb⟩
  have Z1 := hideM (show w.heap.size < w1.heap.size by have := hb.size; simp at this; omega)
  have B1 := hideM (((Below.refl _ _).alloc (Nat.le_refl _) _).trans (hb.mono (by simp)) : Below w.heap.size w w1)
  have c1 : ∀ o, (w1.alloc o).cell? ⟨w.heap.size, 1, none⟩ = some (.int .i64 8) := fun o => (World.cell?_alloc_past _ _ _ Z1.out).trans ((hb.cell (by simp)).trans (by simp [go_sem]))
  have c2 : ∀ o, (w1.alloc o).cell? ⟨w.heap.size, 2, none⟩ = some (.int .i64 16) := fun o => (World.cell?_alloc_past _ _ _ Z1.out).trans ((hb.cell (by simp)).trans (by simp [go_sem]))
  clear hb HS
  go_wp2
  go_rounds 2
  go_ret
  refine ⟨?_, B1.out.alloc (Nat.le_of_lt Z1.out) _⟩
  first | (rw [HC.out]; done) | (rw [← HC.out]; done) | (simp only [HC.out]; done) | (simp [HC.out]; done)

set_option maxHeartbeats 400000 in
theorem digit_8_16_1 (k : Int) (t l i c : Nat) (m : ByteArray) (w : World) (h1 : 1 ≤ t) (h2 : t ≤ 4) (h3 : 1 ≤ l) (h4 : l ≤ 3) (hm : m.size = 8) (hi : i < 16) (hr : i % 2 = 1) (q1 : i / 2 < m.size) (hc : (m[i / 2]'q1).toNat = c) :
    Calls Try.prog 73 #[.agg #[.int .i64 k, .int .i64 8, .int .i64 16, .int .i64 t, .int .i64 l], .string m, .int .i64 i] w fun r w' => r = .returned (.int .i64 ((c : Int) % 16)) ∧ Below w.heap.size w w' := by
  have HS := hideM (fun w' : World => refSizes_8_16 k t l w' h1 h2 h3 h4)
  have hcb : (((m[i / 2]'q1).toNat : Nat) : Int) ≤ 255 := by have := UInt8.toNat_lt (m[i / 2]'q1); omega
  have HC := hideM hc
  have m1 : m.size ≤ 8 := Nat.le_of_eq hm
  have m2 : 8 ≤ m.size := Nat.le_of_eq hm.symm
  have q2 : ((i : Int) / 2) < (m.size : Int) := by omega
  have q3 : (i : Int) % 2 = 1 := by omega
  clear hc hm hr
  go_enter Try.func73, Try.ntmps73
  go_wp2_with fail
  refine (HS.out _).mono ?_
  rintro r w1 ⟨rfl, hb⟩
  have Z1 := hideM (show w.heap.size < w1.heap.size by have := hb.size; simp at this; omega)
  have B1 := hideM (((Below.refl _ _).alloc (Nat.le_refl _) _).trans (hb.mono (by simp)) : Below w.heap.size w w1)
  have c1 : ∀ o, (w1.alloc o).cell? ⟨w.heap.size, 1, none⟩ = some (.int .i64 8) := fun o => (World.cell?_alloc_past _ _ _ Z1.out).trans ((hb.cell (by simp)).trans (by simp [go_sem]))
  have c2 : ∀ o, (w1.alloc o).cell? ⟨w.heap.size, 2, none⟩ = some (.int .i64 16) := fun o => (World.cell?_alloc_past _ _ _ Z1.out).trans ((hb.cell (by simp)).trans (by simp [go_sem]))
  clear hb HS
  go_wp2
  go_rounds 1
  go_ret
  refine ⟨?_, B1.out.alloc (Nat.le_of_lt Z1.out) _⟩
  first | (rw [HC.out]; done) | (rw [← HC.out]; done) | (simp only [HC.out]; done) | (simp [HC.out]; done)

end Go.Proofs.Ytgaoeoijdpdjiaa
