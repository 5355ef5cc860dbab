/-
  The document's own digit: the i-th digit of a value. Digits, the program's and the document's, where the set or the text's length is wrong. The document's H, and the program's Value. The document's own Measure at a set that is right. The program's digest and the document's are one: the padded row and the padded text read alike, and the first n bytes of the whole are the n bytes.
-/
import Derived.Test.YtgaoeoijdpdjiabGreatDoorPart22
import Derived.Test.YtgaoeoijdpdjiabGreatDoorPart11
import Derived.Handy
import Derived.Test.YtgaoeoijdpdjiabGreatDoorPart20
import Derived.Test.YtgaoeoijdpdjiabGreatDoorPart5
import Derived.Deep.RegionHeld3
import Derived.Deep.DrawnRows
namespace Go.Proofs.YtgaoeoijdpdjiabGreatDoor
open Go.RowKit

theorem firsts_at (x e : Nat) (A : List Nat) (i : Nat) (he : 0 < e) (hi : i < A.length * e) : at0M (firsts x e A) i = at0M (digs x e (at0M A (i / e))) (i % e) := by
  induction A generalizing i with
  | nil => simp at hi
  | cons c r ih =>
    simp only [firsts]
    by_cases h : i < e
    · rw [at0_append_left _ _ _ (by rw [digs_length]; exact h), Nat.div_eq_of_lt h, Nat.mod_eq_of_lt h]
      rfl
    · obtain ⟨j, rfl⟩ : ∃ j, i = e + j := ⟨i - e, by omega⟩
      have e1 := at0_append_right (digs x e c) (firsts x e r) j
      rw [digs_length] at e1
      rw [e1, ih j (by simp only [List.length_cons, Nat.succ_mul] at hi; omega)]
      rw [Nat.add_div_left _ he, Nat.add_mod_left]
      rfl

set_option maxHeartbeats 400000 in
theorem digit_4_4_0 (k : Int) (t l i c : Nat) (m : ByteArray) (w : World) (h1 : 1 ≤ t) (h2 : t ≤ 4) (h3 : 1 ≤ l) (h4 : l ≤ 3) (hm : m.size = 4) (hi : i < 16) (hr : i % 4 = 0) (q1 : i / 4 < m.size) (hc : (m[i / 4]'q1).toNat = c) :
    Calls Tryz.prog 166 #[.agg #[.int .i64 k, .int .i64 4, .int .i64 4, .int .i64 t, .int .i64 l], .string m, .int .i64 i] w fun r w' => r = .returned (.int .i64 (((((c : Int) / 4) / 4) / 4) % 4)) ∧ Below w.heap.size w w' := by
  have HS := hideM (fun w' : World => refSizes_4_4 k t l w' h1 h2 h3 h4)
  have hcb : (((m[i / 4]'q1).toNat : Nat) : Int) ≤ 255 := by have := UInt8.toNat_lt (m[i / 4]'q1); omega
  have HC := hideM hc
  have m1 : m.size ≤ 4 := Nat.le_of_eq hm
  have m2 : 4 ≤ m.size := Nat.le_of_eq hm.symm
  have q2 : ((i : Int) / 4) < (m.size : Int) := by omega
  have q3 : (i : Int) % 4 = 0 := by omega
  clear hc hm hr
  go_enter Tryz.func166, Tryz.ntmps166
  go_wp2_with fail
  refine (HS.out _).mono ?_
  rintro r w1 ⟨rfl, hb⟩
  have Z1 := hideM (show w.heap.size < w1.heap.size by have := hb.size; simp at this; omega)
  have B1 := hideM (((Below.refl _ _).alloc (Nat.le_refl _) _).trans (hb.mono (by simp)) : Below w.heap.size w w1)
  have c1 : ∀ o, (w1.alloc o).cell? ⟨w.heap.size, 1, none⟩ = some (.int .i64 4) := fun o => (World.cell?_alloc_past _ _ _ Z1.out).trans ((hb.cell (by simp)).trans (by simp [go_sem]))
  have c2 : ∀ o, (w1.alloc o).cell? ⟨w.heap.size, 2, none⟩ = some (.int .i64 4) := fun o => (World.cell?_alloc_past _ _ _ Z1.out).trans ((hb.cell (by simp)).trans (by simp [go_sem]))
  clear hb HS
  go_wp2
  go_rounds 4
  go_ret
  refine ⟨?_, B1.out.alloc (Nat.le_of_lt Z1.out) _⟩
  first | (rw [HC.out]; done) | (rw [← HC.out]; done) | (simp only [HC.out]; done) | (simp [HC.out]; done)

set_option maxHeartbeats 400000 in
theorem digit_4_4_1 (k : Int) (t l i c : Nat) (m : ByteArray) (w : World) (h1 : 1 ≤ t) (h2 : t ≤ 4) (h3 : 1 ≤ l) (h4 : l ≤ 3) (hm : m.size = 4) (hi : i < 16) (hr : i % 4 = 1) (q1 : i / 4 < m.size) (hc : (m[i / 4]'q1).toNat = c) :
    Calls Tryz.prog 166 #[.agg #[.int .i64 k, .int .i64 4, .int .i64 4, .int .i64 t, .int .i64 l], .string m, .int .i64 i] w fun r w' => r = .returned (.int .i64 ((((c : Int) / 4) / 4) % 4)) ∧ Below w.heap.size w w' := by
  have HS := hideM (fun w' : World => refSizes_4_4 k t l w' h1 h2 h3 h4)
  have hcb : (((m[i / 4]'q1).toNat : Nat) : Int) ≤ 255 := by have := UInt8.toNat_lt (m[i / 4]'q1); omega
  have HC := hideM hc
  have m1 : m.size ≤ 4 := Nat.le_of_eq hm
  have m2 : 4 ≤ m.size := Nat.le_of_eq hm.symm
  have q2 : ((i : Int) / 4) < (m.size : Int) := by omega
  have q3 : (i : Int) % 4 = 1 := by omega
  clear hc hm hr
  go_enter Tryz.func166, Tryz.ntmps166
  go_wp2_with fail
  refine (HS.out _).mono ?_
  rintro r w1 ⟨rfl, hb⟩
  have Z1 := hideM (show w.heap.size < w1.heap.size by have := hb.size; simp at this; omega)
  have B1 := hideM (((Below.refl _ _).alloc (Nat.le_refl _) _).trans (hb.mono (by simp)) : Below w.heap.size w w1)
  have c1 : ∀ o, (w1.alloc o).cell? ⟨w.heap.size, 1, none⟩ = some (.int .i64 4) := fun o => (World.cell?_alloc_past _ _ _ Z1.out).trans ((hb.cell (by simp)).trans (by simp [go_sem]))
  have c2 : ∀ o, (w1.alloc o).cell? ⟨w.heap.size, 2, none⟩ = some (.int .i64 4) := fun o => (World.cell?_alloc_past _ _ _ Z1.out).trans ((hb.cell (by simp)).trans (by simp [go_sem]))
  clear hb HS
  go_wp2
  go_rounds 3
  go_ret
  refine ⟨?_, B1.out.alloc (Nat.le_of_lt Z1.out) _⟩
  first | (rw [HC.out]; done) | (rw [← HC.out]; done) | (simp only [HC.out]; done) | (simp [HC.out]; done)

set_option maxHeartbeats 400000 in
theorem digit_4_4_2 (k : Int) (t l i c : Nat) (m : ByteArray) (w : World) (h1 : 1 ≤ t) (h2 : t ≤ 4) (h3 : 1 ≤ l) (h4 : l ≤ 3) (hm : m.size = 4) (hi : i < 16) (hr : i % 4 = 2) (q1 : i / 4 < m.size) (hc : (m[i / 4]'q1).toNat = c) :
    Calls Tryz.prog 166 #[.agg #[.int .i64 k, .int .i64 4, .int .i64 4, .int .i64 t, .int .i64 l], .string m, .int .i64 i] w fun r w' => r = .returned (.int .i64 (((c : Int) / 4) % 4)) ∧ Below w.heap.size w w' := by
  have HS := hideM (fun w' : World => refSizes_4_4 k t l w' h1 h2 h3 h4)
  have hcb : (((m[i / 4]'q1).toNat : Nat) : Int) ≤ 255 := by have := UInt8.toNat_lt (m[i / 4]'q1); omega
  have HC := hideM hc
  have m1 : m.size ≤ 4 := Nat.le_of_eq hm
  have m2 : 4 ≤ m.size := Nat.le_of_eq hm.symm
  have q2 : ((i : Int) / 4) < (m.size : Int) := by omega
  have q3 : (i : Int) % 4 = 2 := by omega
  clear hc hm hr
  go_enter Tryz.func166, Tryz.ntmps166
  go_wp2_with fail
  refine (HS.out _).mono ?_
  rintro r w1 ⟨rfl, hb⟩
  have Z1 := hideM (show w.heap.size < w1.heap.size by have := hb.size; simp at this; omega)
  have B1 := hideM (((Below.refl _ _).alloc (Nat.le_refl _) _).trans (hb.mono (by simp)) : Below w.heap.size w w1)
  have c1 : ∀ o, (w1.alloc o).cell? ⟨w.heap.size, 1, none⟩ = some (.int .i64 4) := fun o => (World.cell?_alloc_past _ _ _ Z1.out).trans ((hb.cell (by simp)).trans (by simp [go_sem]))
  have c2 : ∀ o, (w1.alloc o).cell? ⟨w.heap.size, 2, none⟩ = some (.int .i64 4) := fun o => (World.cell?_alloc_past _ _ _ Z1.out).trans ((hb.cell (by simp)).trans (by simp [go_sem]))
  clear hb HS
  go_wp2
  go_rounds 2
  go_ret
  refine ⟨?_, B1.out.alloc (Nat.le_of_lt Z1.out) _⟩
  first | (rw [HC.out]; done) | (rw [← HC.out]; done) | (simp only [HC.out]; done) | (simp [HC.out]; done)

set_option maxHeartbeats 400000 in
theorem digit_4_4_3 (k : Int) (t l i c : Nat) (m : ByteArray) (w : World) (h1 : 1 ≤ t) (h2 : t ≤ 4) (h3 : 1 ≤ l) (h4 : l ≤ 3) (hm : m.size = 4) (hi : i < 16) (hr : i % 4 = 3) (q1 : i / 4 < m.size) (hc : (m[i / 4]'q1).toNat = c) :
    Calls Tryz.prog 166 #[.agg #[.int .i64 k, .int .i64 4, .int .i64 4, .int .i64 t, .int .i64 l], .string m, .int .i64 i] w fun r w' => r = .returned (.int .i64 ((c : Int) % 4)) ∧ Below w.heap.size w w' := by
  have HS := hideM (fun w' : World => refSizes_4_4 k t l w' h1 h2 h3 h4)
  have hcb : (((m[i / 4]'q1).toNat : Nat) : Int) ≤ 255 := by have := UInt8.toNat_lt (m[i / 4]'q1); omega
  have HC := hideM hc
  have m1 : m.size ≤ 4 := Nat.le_of_eq hm
  have m2 : 4 ≤ m.size := Nat.le_of_eq hm.symm
  have q2 : ((i : Int) / 4) < (m.size : Int) := by omega
  have q3 : (i : Int) % 4 = 3 := by omega
  clear hc hm hr
  go_enter Tryz.func166, Tryz.ntmps166
  go_wp2_with fail
  refine (HS.out _).mono ?_
  rintro r w1 ⟨rfl, hb⟩
  have Z1 := hideM (show w.heap.size < w1.heap.size by have := hb.size; simp at this; omega)
  have B1 := hideM (((Below.refl _ _).alloc (Nat.le_refl _) _).trans (hb.mono (by simp)) : Below w.heap.size w w1)
  have c1 : ∀ o, (w1.alloc o).cell? ⟨w.heap.size, 1, none⟩ = some (.int .i64 4) := fun o => (World.cell?_alloc_past _ _ _ Z1.out).trans ((hb.cell (by simp)).trans (by simp [go_sem]))
  have c2 : ∀ o, (w1.alloc o).cell? ⟨w.heap.size, 2, none⟩ = some (.int .i64 4) := fun o => (World.cell?_alloc_past _ _ _ Z1.out).trans ((hb.cell (by simp)).trans (by simp [go_sem]))
  clear hb HS
  go_wp2
  go_rounds 1
  go_ret
  refine ⟨?_, B1.out.alloc (Nat.le_of_lt Z1.out) _⟩
  first | (rw [HC.out]; done) | (rw [← HC.out]; done) | (simp only [HC.out]; done) | (simp [HC.out]; done)

set_option maxHeartbeats 400000 in
theorem digit_8_4_0 (k : Int) (t l i c : Nat) (m : ByteArray) (w : World) (h1 : 1 ≤ t) (h2 : t ≤ 4) (h3 : 1 ≤ l) (h4 : l ≤ 3) (hm : m.size = 8) (hi : i < 32) (hr : i % 4 = 0) (q1 : i / 4 < m.size) (hc : (m[i / 4]'q1).toNat = c) :
    Calls Tryz.prog 166 #[.agg #[.int .i64 k, .int .i64 8, .int .i64 4, .int .i64 t, .int .i64 l], .string m, .int .i64 i] w fun r w' => r = .returned (.int .i64 (((((c : Int) / 4) / 4) / 4) % 4)) ∧ Below w.heap.size w w' := by
  have HS := hideM (fun w' : World => refSizes_8_4 k t l w' h1 h2 h3 h4)
  have hcb : (((m[i / 4]'q1).toNat : Nat) : Int) ≤ 255 := by have := UInt8.toNat_lt (m[i / 4]'q1); omega
  have HC := hideM hc
  have m1 : m.size ≤ 8 := Nat.le_of_eq hm
  have m2 : 8 ≤ m.size := Nat.le_of_eq hm.symm
  have q2 : ((i : Int) / 4) < (m.size : Int) := by omega
  have q3 : (i : Int) % 4 = 0 := by omega
  clear hc hm hr
  go_enter Tryz.func166, Tryz.ntmps166
  go_wp2_with fail
  refine (HS.out _).mono ?_
  rintro r w1 ⟨rfl, hb⟩
  have Z1 := hideM (show w.heap.size < w1.heap.size by have := hb.size; simp at this; omega)
  have B1 := hideM (((Below.refl _ _).alloc (Nat.le_refl _) _).trans (hb.mono (by simp)) : Below w.heap.size w w1)
  have c1 : ∀ o, (w1.alloc o).cell? ⟨w.heap.size, 1, none⟩ = some (.int .i64 8) := fun o => (World.cell?_alloc_past _ _ _ Z1.out).trans ((hb.cell (by simp)).trans (by simp [go_sem]))
  have c2 : ∀ o, (w1.alloc o).cell? ⟨w.heap.size, 2, none⟩ = some (.int .i64 4) := fun o => (World.cell?_alloc_past _ _ _ Z1.out).trans ((hb.cell (by simp)).trans (by simp [go_sem]))
  clear hb HS
  go_wp2
  go_rounds 4
  go_ret
  refine ⟨?_, B1.out.alloc (Nat.le_of_lt Z1.out) _⟩
  first | (rw [HC.out]; done) | (rw [← HC.out]; done) | (simp only [HC.out]; done) | (simp [HC.out]; done)

set_option maxHeartbeats 400000 in
theorem digit_8_4_1 (k : Int) (t l i c : Nat) (m : ByteArray) (w : World) (h1 : 1 ≤ t) (h2 : t ≤ 4) (h3 : 1 ≤ l) (h4 : l ≤ 3) (hm : m.size = 8) (hi : i < 32) (hr : i % 4 = 1) (q1 : i / 4 < m.size) (hc : (m[i / 4]'q1).toNat = c) :
    Calls Tryz.prog 166 #[.agg #[.int .i64 k, .int .i64 8, .int .i64 4, .int .i64 t, .int .i64 l], .string m, .int .i64 i] w fun r w' => r = .returned (.int .i64 ((((c : Int) / 4) / 4) % 4)) ∧ Below w.heap.size w w' := by
  have HS := hideM (fun w' : World => refSizes_8_4 k t l w' h1 h2 h3 h4)
  have hcb : (((m[i / 4]'q1).toNat : Nat) : Int) ≤ 255 := by have := UInt8.toNat_lt (m[i / 4]'q1); omega
  have HC := hideM hc
  have m1 : m.size ≤ 8 := Nat.le_of_eq hm
  have m2 : 8 ≤ m.size := Nat.le_of_eq hm.symm
  have q2 : ((i : Int) / 4) < (m.size : Int) := by omega
  have q3 : (i : Int) % 4 = 1 := by omega
  clear hc hm hr
  go_enter Tryz.func166, Tryz.ntmps166
  go_wp2_with fail
  refine (HS.out _).mono ?_
  rintro r w1 ⟨rfl, hb⟩
  have Z1 := hideM (show w.heap.size < w1.heap.size by have := hb.size; simp at this; omega)
  have B1 := hideM (((Below.refl _ _).alloc (Nat.le_refl _) _).trans (hb.mono (by simp)) : Below w.heap.size w w1)
  have c1 : ∀ o, (w1.alloc o).cell? ⟨w.heap.size, 1, none⟩ = some (.int .i64 8) := fun o => (World.cell?_alloc_past _ _ _ Z1.out).trans ((hb.cell (by simp)).trans (by simp [go_sem]))
  have c2 : ∀ o, (w1.alloc o).cell? ⟨w.heap.size, 2, none⟩ = some (.int .i64 4) := fun o => (World.cell?_alloc_past _ _ _ Z1.out).trans ((hb.cell (by simp)).trans (by simp [go_sem]))
  clear hb HS
  go_wp2
  go_rounds 3
  go_ret
  refine ⟨?_, B1.out.alloc (Nat.le_of_lt Z1.out) _⟩
  first | (rw [HC.out]; done) | (rw [← HC.out]; done) | (simp only [HC.out]; done) | (simp [HC.out]; done)

set_option maxHeartbeats 400000 in
theorem digit_8_4_2 (k : Int) (t l i c : Nat) (m : ByteArray) (w : World) (h1 : 1 ≤ t) (h2 : t ≤ 4) (h3 : 1 ≤ l) (h4 : l ≤ 3) (hm : m.size = 8) (hi : i < 32) (hr : i % 4 = 2) (q1 : i / 4 < m.size) (hc : (m[i / 4]'q1).toNat = c) :
    Calls Tryz.prog 166 #[.agg #[.int .i64 k, .int .i64 8, .int .i64 4, .int .i64 t, .int .i64 l], .string m, .int .i64 i] w fun r w' => r = .returned (.int .i64 (((c : Int) / 4) % 4)) ∧ Below w.heap.size w w' := by
  have HS := hideM (fun w' : World => refSizes_8_4 k t l w' h1 h2 h3 h4)
  have hcb : (((m[i / 4]'q1).toNat : Nat) : Int) ≤ 255 := by have := UInt8.toNat_lt (m[i / 4]'q1); omega
  have HC := hideM hc
  have m1 : m.size ≤ 8 := Nat.le_of_eq hm
  have m2 : 8 ≤ m.size := Nat.le_of_eq hm.symm
  have q2 : ((i : Int) / 4) < (m.size : Int) := by omega
  have q3 : (i : Int) % 4 = 2 := by omega
  clear hc hm hr
  go_enter Tryz.func166, Tryz.ntmps166
  go_wp2_with fail
  refine (HS.out _).mono ?_
  rintro r w1 ⟨rfl, hb⟩
  have Z1 := hideM (show w.heap.size < w1.heap.size by have := hb.size; simp at this; omega)
  have B1 := hideM (((Below.refl _ _).alloc (Nat.le_refl _) _).trans (hb.mono (by simp)) : Below w.heap.size w w1)
  have c1 : ∀ o, (w1.alloc o).cell? ⟨w.heap.size, 1, none⟩ = some (.int .i64 8) := fun o => (World.cell?_alloc_past _ _ _ Z1.out).trans ((hb.cell (by simp)).trans (by simp [go_sem]))
  have c2 : ∀ o, (w1.alloc o).cell? ⟨w.heap.size, 2, none⟩ = some (.int .i64 4) := fun o => (World.cell?_alloc_past _ _ _ Z1.out).trans ((hb.cell (by simp)).trans (by simp [go_sem]))
  clear hb HS
  go_wp2
  go_rounds 2
  go_ret
  refine ⟨?_, B1.out.alloc (Nat.le_of_lt Z1.out) _⟩
  first | (rw [HC.out]; done) | (rw [← HC.out]; done) | (simp only [HC.out]; done) | (simp [HC.out]; done)

set_option maxHeartbeats 400000 in
theorem digit_8_4_3 (k : Int) (t l i c : Nat) (m : ByteArray) (w : World) (h1 : 1 ≤ t) (h2 : t ≤ 4) (h3 : 1 ≤ l) (h4 : l ≤ 3) (hm : m.size = 8) (hi : i < 32) (hr : i % 4 = 3) (q1 : i / 4 < m.size) (hc : (m[i / 4]'q1).toNat = c) :
    Calls Tryz.prog 166 #[.agg #[.int .i64 k, .int .i64 8, .int .i64 4, .int .i64 t, .int .i64 l], .string m, .int .i64 i] w fun r w' => r = .returned (.int .i64 ((c : Int) % 4)) ∧ Below w.heap.size w w' := by
  have HS := hideM (fun w' : World => refSizes_8_4 k t l w' h1 h2 h3 h4)
  have hcb : (((m[i / 4]'q1).toNat : Nat) : Int) ≤ 255 := by have := UInt8.toNat_lt (m[i / 4]'q1); omega
  have HC := hideM hc
  have m1 : m.size ≤ 8 := Nat.le_of_eq hm
  have m2 : 8 ≤ m.size := Nat.le_of_eq hm.symm
  have q2 : ((i : Int) / 4) < (m.size : Int) := by omega
  have q3 : (i : Int) % 4 = 3 := by omega
  clear hc hm hr
  go_enter Tryz.func166, Tryz.ntmps166
  go_wp2_with fail
  refine (HS.out _).mono ?_
  rintro r w1 ⟨rfl, hb⟩
  have Z1 := hideM (show w.heap.size < w1.heap.size by have := hb.size; simp at this; omega)
  have B1 := hideM (((Below.refl _ _).alloc (Nat.le_refl _) _).trans (hb.mono (by simp)) : Below w.heap.size w w1)
  have c1 : ∀ o, (w1.alloc o).cell? ⟨w.heap.size, 1, none⟩ = some (.int .i64 8) := fun o => (World.cell?_alloc_past _ _ _ Z1.out).trans ((hb.cell (by simp)).trans (by simp [go_sem]))
  have c2 : ∀ o, (w1.alloc o).cell? ⟨w.heap.size, 2, none⟩ = some (.int .i64 4) := fun o => (World.cell?_alloc_past _ _ _ Z1.out).trans ((hb.cell (by simp)).trans (by simp [go_sem]))
  clear hb HS
  go_wp2
  go_rounds 1
  go_ret
  refine ⟨?_, B1.out.alloc (Nat.le_of_lt Z1.out) _⟩
  first | (rw [HC.out]; done) | (rw [← HC.out]; done) | (simp only [HC.out]; done) | (simp [HC.out]; done)

set_option maxHeartbeats 400000 in
theorem digit_4_16_0 (k : Int) (t l i c : Nat) (m : ByteArray) (w : World) (h1 : 1 ≤ t) (h2 : t ≤ 4) (h3 : 1 ≤ l) (h4 : l ≤ 3) (hm : m.size = 4) (hi : i < 8) (hr : i % 2 = 0) (q1 : i / 2 < m.size) (hc : (m[i / 2]'q1).toNat = c) :
    Calls Tryz.prog 166 #[.agg #[.int .i64 k, .int .i64 4, .int .i64 16, .int .i64 t, .int .i64 l], .string m, .int .i64 i] w fun r w' => r = .returned (.int .i64 (((c : Int) / 16) % 16)) ∧ Below w.heap.size w w' := by
  have HS := hideM (fun w' : World => refSizes_4_16 k t l w' h1 h2 h3 h4)
  have hcb : (((m[i / 2]'q1).toNat : Nat) : Int) ≤ 255 := by have := UInt8.toNat_lt (m[i / 2]'q1); omega
  have HC := hideM hc
  have m1 : m.size ≤ 4 := Nat.le_of_eq hm
  have m2 : 4 ≤ m.size := Nat.le_of_eq hm.symm
  have q2 : ((i : Int) / 2) < (m.size : Int) := by omega
  have q3 : (i : Int) % 2 = 0 := by omega
  clear hc hm hr
  go_enter Tryz.func166, Tryz.ntmps166
  go_wp2_with fail
  refine (HS.out _).mono ?_
  rintro r w1 ⟨rfl, hb⟩
  have Z1 := hideM (show w.heap.size < w1.heap.size by have := hb.size; simp at this; omega)
  have B1 := hideM (((Below.refl _ _).alloc (Nat.le_refl _) _).trans (hb.mono (by simp)) : Below w.heap.size w w1)
  have c1 : ∀ o, (w1.alloc o).cell? ⟨w.heap.size, 1, none⟩ = some (.int .i64 4) := fun o => (World.cell?_alloc_past _ _ _ Z1.out).trans ((hb.cell (by simp)).trans (by simp [go_sem]))
  have c2 : ∀ o, (w1.alloc o).cell? ⟨w.heap.size, 2, none⟩ = some (.int .i64 16) := fun o => (World.cell?_alloc_past _ _ _ Z1.out).trans ((hb.cell (by simp)).trans (by simp [go_sem]))
  clear hb HS
  go_wp2
  go_rounds 2
  go_ret
  refine ⟨?_, B1.out.alloc (Nat.le_of_lt Z1.out) _⟩
  first | (rw [HC.out]; done) | (rw [← HC.out]; done) | (simp only [HC.out]; done) | (simp [HC.out]; done)

set_option maxHeartbeats 400000 in
theorem digit_4_16_1 (k : Int) (t l i c : Nat) (m : ByteArray) (w : World) (h1 : 1 ≤ t) (h2 : t ≤ 4) (h3 : 1 ≤ l) (h4 : l ≤ 3) (hm : m.size = 4) (hi : i < 8) (hr : i % 2 = 1) (q1 : i / 2 < m.size) (hc : (m[i / 2]'q1).toNat = c) :
    Calls Tryz.prog 166 #[.agg #[.int .i64 k, .int .i64 4, .int .i64 16, .int .i64 t, .int .i64 l], .string m, .int .i64 i] w fun r w' => r = .returned (.int .i64 ((c : Int) % 16)) ∧ Below w.heap.size w w' := by
  have HS := hideM (fun w' : World => refSizes_4_16 k t l w' h1 h2 h3 h4)
  have hcb : (((m[i / 2]'q1).toNat : Nat) : Int) ≤ 255 := by have := UInt8.toNat_lt (m[i / 2]'q1); omega
  have HC := hideM hc
  have m1 : m.size ≤ 4 := Nat.le_of_eq hm
  have m2 : 4 ≤ m.size := Nat.le_of_eq hm.symm
  have q2 : ((i : Int) / 2) < (m.size : Int) := by omega
  have q3 : (i : Int) % 2 = 1 := by omega
  clear hc hm hr
  go_enter Tryz.func166, Tryz.ntmps166
  go_wp2_with fail
  refine (HS.out _).mono ?_
  rintro r w1 ⟨rfl, hb⟩
  have Z1 := hideM (show w.heap.size < w1.heap.size by have := hb.size; simp at this; omega)
  have B1 := hideM (((Below.refl _ _).alloc (Nat.le_refl _) _).trans (hb.mono (by simp)) : Below w.heap.size w w1)
  have c1 : ∀ o, (w1.alloc o).cell? ⟨w.heap.size, 1, none⟩ = some (.int .i64 4) := fun o => (World.cell?_alloc_past _ _ _ Z1.out).trans ((hb.cell (by simp)).trans (by simp [go_sem]))
  have c2 : ∀ o, (w1.alloc o).cell? ⟨w.heap.size, 2, none⟩ = some (.int .i64 16) := fun o => (World.cell?_alloc_past _ _ _ Z1.out).trans ((hb.cell (by simp)).trans (by simp [go_sem]))
  clear hb HS
  go_wp2
  go_rounds 1
  go_ret
  refine ⟨?_, B1.out.alloc (Nat.le_of_lt Z1.out) _⟩
  first | (rw [HC.out]; done) | (rw [← HC.out]; done) | (simp only [HC.out]; done) | (simp [HC.out]; done)

set_option maxHeartbeats 400000 in
theorem digit_8_16_0 (k : Int) (t l i c : Nat) (m : ByteArray) (w : World) (h1 : 1 ≤ t) (h2 : t ≤ 4) (h3 : 1 ≤ l) (h4 : l ≤ 3) (hm : m.size = 8) (hi : i < 16) (hr : i % 2 = 0) (q1 : i / 2 < m.size) (hc : (m[i / 2]'q1).toNat = c) :
    Calls Tryz.prog 166 #[.agg #[.int .i64 k, .int .i64 8, .int .i64 16, .int .i64 t, .int .i64 l], .string m, .int .i64 i] w fun r w' => r = .returned (.int .i64 (((c : Int) / 16) % 16)) ∧ Below w.heap.size w w' := by
  have HS := hideM (fun w' : World => refSizes_8_16 k t l w' h1 h2 h3 h4)
  have hcb : (((m[i / 2]'q1).toNat : Nat) : Int) ≤ 255 := by have := UInt8.toNat_lt (m[i / 2]'q1); omega
  have HC := hideM hc
  have m1 : m.size ≤ 8 := Nat.le_of_eq hm
  have m2 : 8 ≤ m.size := Nat.le_of_eq hm.symm
  have q2 : ((i : Int) / 2) < (m.size : Int) := by omega
  have q3 : (i : Int) % 2 = 0 := by omega
  clear hc hm hr
  go_enter Tryz.func166, Tryz.ntmps166
  go_wp2_with fail
  refine (HS.out _).mono ?_
  rintro r w1 ⟨rfl, hb⟩
  have Z1 := hideM (show w.heap.size < w1.heap.size by have := hb.size; simp at this; omega)
  have B1 := hideM (((Below.refl _ _).alloc (Nat.le_refl _) _).trans (hb.mono (by simp)) : Below w.heap.size w w1)
  have c1 : ∀ o, (w1.alloc o).cell? ⟨w.heap.size, 1, none⟩ = some (.int .i64 8) := fun o => (World.cell?_alloc_past _ _ _ Z1.out).trans ((hb.cell (by simp)).trans (by simp [go_sem]))
  have c2 : ∀ o, (w1.alloc o).cell? ⟨w.heap.size, 2, none⟩ = some (.int .i64 16) := fun o => (World.cell?_alloc_past _ _ _ Z1.out).trans ((hb.cell (by simp)).trans (by simp [go_sem]))
  clear hb HS
  go_wp2
  go_rounds 2
  go_ret
  refine ⟨?_, B1.out.alloc (Nat.le_of_lt Z1.out) _⟩
  first | (rw [HC.out]; done) | (rw [← HC.out]; done) | (simp only [HC.out]; done) | (simp [HC.out]; done)

set_option maxHeartbeats 400000 in
theorem digit_8_16_1 (k : Int) (t l i c : Nat) (m : ByteArray) (w : World) (h1 : 1 ≤ t) (h2 : t ≤ 4) (h3 : 1 ≤ l) (h4 : l ≤ 3) (hm : m.size = 8) (hi : i < 16) (hr : i % 2 = 1) (q1 : i / 2 < m.size) (hc : (m[i / 2]'q1).toNat = c) :
    Calls Tryz.prog 166 #[.agg #[.int .i64 k, .int .i64 8, .int .i64 16, .int .i64 t, .int .i64 l], .string m, .int .i64 i] w fun r w' => r = .returned (.int .i64 ((c : Int) % 16)) ∧ Below w.heap.size w w' := by
  have HS := hideM (fun w' : World => refSizes_8_16 k t l w' h1 h2 h3 h4)
  have hcb : (((m[i / 2]'q1).toNat : Nat) : Int) ≤ 255 := by have := UInt8.toNat_lt (m[i / 2]'q1); omega
  have HC := hideM hc
  have m1 : m.size ≤ 8 := Nat.le_of_eq hm
  have m2 : 8 ≤ m.size := Nat.le_of_eq hm.symm
  have q2 : ((i : Int) / 2) < (m.size : Int) := by omega
  have q3 : (i : Int) % 2 = 1 := by omega
  clear hc hm hr
  go_enter Tryz.func166, Tryz.ntmps166
  go_wp2_with fail
  refine (HS.out _).mono ?_
  rintro r w1 ⟨rfl, hb⟩
  have Z1 := hideM (show w.heap.size < w1.heap.size by have := hb.size; simp at this; omega)
  have B1 := hideM (((Below.refl _ _).alloc (Nat.le_refl _) _).trans (hb.mono (by simp)) : Below w.heap.size w w1)
  have c1 : ∀ o, (w1.alloc o).cell? ⟨w.heap.size, 1, none⟩ = some (.int .i64 8) := fun o => (World.cell?_alloc_past _ _ _ Z1.out).trans ((hb.cell (by simp)).trans (by simp [go_sem]))
  have c2 : ∀ o, (w1.alloc o).cell? ⟨w.heap.size, 2, none⟩ = some (.int .i64 16) := fun o => (World.cell?_alloc_past _ _ _ Z1.out).trans ((hb.cell (by simp)).trans (by simp [go_sem]))
  clear hb HS
  go_wp2
  go_rounds 1
  go_ret
  refine ⟨?_, B1.out.alloc (Nat.le_of_lt Z1.out) _⟩
  first | (rw [HC.out]; done) | (rw [← HC.out]; done) | (simp only [HC.out]; done) | (simp [HC.out]; done)

end Go.Proofs.YtgaoeoijdpdjiabGreatDoor

namespace Go.Proofs.YtgaoeoijdpdjiabGreatDoor
open Go.RowKit

set_option maxHeartbeats 400000 in
theorem setsDigits_set (k b x t l : Int) (m : ByteArray) (w : World) (hr : rightB k b x t l = false) :
    Calls Tryz.prog 241 #[.agg #[.int .i64 k, .int .i64 b, .int .i64 x, .int .i64 t, .int .i64 l], .string m] w fun r w' => r = .returned (.tuple #[.slice none 0 0, .int .i64 1]) ∧ Below w.heap.size w w' := by
  have HM := hideM (fun w' : World => setsMeasure_no k b x t l w' hr)
  clear hr
  go_enter Tryz.func241, Tryz.ntmps241
  go_wp2_with fail
  refine (HM.out _).mono ?_
  rintro r w1 ⟨rfl, hb⟩
  have B1 := hideM (((Below.refl _ _).alloc (Nat.le_refl _) _).trans (hb.mono (by simp)) : Below w.heap.size w w1)
  have Z1 := hideM (show w.heap.size < w1.heap.size by have := hb.size; simp at this; omega)
  clear hb
  go_wp2
  go_ret2
  exact ⟨rfl, B1.out.alloc (Nat.le_of_lt Z1.out) _⟩

set_option maxHeartbeats 400000 in
theorem setsDigits_len (b x e f t l : Nat) (hp : Pair b x e f) (k : Int) (m : ByteArray) (w : World) (hk : k = 1 ∨ k = 2) (h1 : 1 ≤ t) (h2 : t ≤ 4) (h3 : 1 ≤ l) (h4 : l ≤ 3) (hm : m.size ≠ b) :
    Calls Tryz.prog 241 #[.agg #[.int .i64 k, .int .i64 b, .int .i64 x, .int .i64 t, .int .i64 l], .string m] w fun r w' => r = .returned (.tuple #[.slice none 0 0, .int .i64 2]) ∧ Below w.heap.size w w' := by
  have HM := hideM (fun w' : World => setsMeasure_yes b x e f t l hp k w' hk h1 h2 h3 h4)
  have hne : ((m.size : Int) != (b : Int)) = true := by simp; omega
  clear hp hm hk
  go_enter Tryz.func241, Tryz.ntmps241
  go_wp2_with fail
  refine (HM.out _).mono ?_
  rintro r w1 ⟨rfl, hb⟩
  have B1 := hideM (((Below.refl _ _).alloc (Nat.le_refl _) _).trans (hb.mono (by simp)) : Below w.heap.size w w1)
  have Z1 := hideM (show w.heap.size < w1.heap.size by have := hb.size; simp at this; omega)
  have c1 : ∀ o, (w1.alloc o).cell? ⟨w.heap.size, 1, none⟩ = some (.int .i64 b) := fun o => (World.cell?_alloc_past _ _ _ Z1.out).trans ((hb.cell (by simp)).trans (by simp [go_sem]))
  clear hb
  go_wp2
  go_ret2
  exact ⟨rfl, B1.out.alloc (Nat.le_of_lt Z1.out) _⟩

set_option maxHeartbeats 400000 in
/-- signet.Digits hands an error on. -/
theorem digits_err (k b x t l e : Int) (m : ByteArray) (w : World)
    (h : ∀ w : World, Calls Tryz.prog 241 #[.agg #[.int .i64 k, .int .i64 b, .int .i64 x, .int .i64 t, .int .i64 l], .string m] w fun r w' => r = .returned (.tuple #[.slice none 0 0, .int .i64 e]) ∧ Below w.heap.size w w') :
    Calls Tryz.prog 190 #[.agg #[.int .i64 k, .int .i64 b, .int .i64 x, .int .i64 t, .int .i64 l], .string m] w fun r w' => r = .returned (.tuple #[.slice none 0 0, .int .i64 e]) ∧ Below w.heap.size w w' := by
  have H := hideM h
  clear h
  go_enter Tryz.func190, Tryz.ntmps190
  go_wp2_with fail
  refine (H.out _).mono ?_
  rintro r w1 ⟨rfl, hb⟩
  have B1 := hideM (((Below.refl _ _).alloc (Nat.le_refl _) _).trans (hb.mono (by simp)) : Below w.heap.size w w1)
  clear hb
  go_wp2
  go_ret2
  exact ⟨rfl, B1.out⟩

set_option maxHeartbeats 400000 in
theorem refDigits_set (k b x t l : Int) (m : ByteArray) (w : World) (hr : rightB k b x t l = false) :
    Calls Tryz.prog 191 #[.agg #[.int .i64 k, .int .i64 b, .int .i64 x, .int .i64 t, .int .i64 l], .string m] w fun r w' => r = .returned (.tuple #[.slice none 0 0, .int .i64 1]) ∧ Below w.heap.size w w' := by
  have HM := hideM (fun w' : World => refCheck_any k b x t l w')
  rw [hr] at HM
  clear hr
  go_enter Tryz.func191, Tryz.ntmps191
  go_wp2_with fail
  refine (HM.out _).mono ?_
  rintro r w1 ⟨rfl, hb⟩
  have B1 := hideM (((Below.refl _ _).alloc (Nat.le_refl _) _).trans (hb.mono (by simp)) : Below w.heap.size w w1)
  clear hb
  go_wp2
  go_ret2
  exact ⟨rfl, B1.out⟩

set_option maxHeartbeats 400000 in
theorem refDigits_len (k t l : Int) (b x : Nat) (m : ByteArray) (w : World) (hr : rightB k b x t l = true) (hm : m.size ≠ b) :
    Calls Tryz.prog 191 #[.agg #[.int .i64 k, .int .i64 b, .int .i64 x, .int .i64 t, .int .i64 l], .string m] w fun r w' => r = .returned (.tuple #[.slice none 0 0, .int .i64 2]) ∧ Below w.heap.size w w' := by
  have HM := hideM (fun w' : World => refCheck_any k b x t l w')
  rw [hr] at HM
  have hne : ((m.size : Int) != (b : Int)) = true := by simp; omega
  clear hr hm
  go_enter Tryz.func191, Tryz.ntmps191
  go_wp2_with fail
  refine (HM.out _).mono ?_
  rintro r w1 ⟨rfl, hb⟩
  have B1 := hideM (((Below.refl _ _).alloc (Nat.le_refl _) _).trans (hb.mono (by simp)) : Below w.heap.size w w1)
  have c1 : w1.cell? ⟨w.heap.size, 1, none⟩ = some (.int .i64 b) := (hb.cell (by simp)).trans (by simp [go_sem])
  clear hb
  go_wp2
  go_ret2
  exact ⟨rfl, B1.out⟩
end Go.Proofs.YtgaoeoijdpdjiabGreatDoor

namespace Go.Proofs.YtgaoeoijdpdjiabGreatDoor
open Go.RowKit

/-- The table of turns lies where the program reads it. -/
def Tn (w : World) : Prop := Turns32 w ∧ Turns64 w ∧ 1 < w.heap.size
theorem Tn.below {w w' : World} {B : Nat} (h : Tn w) (hb : Below B w w') (hB : 1 < B) : Tn w' := by
  obtain ⟨h3, h6, hw⟩ := h
  have hs := hb.size
  exact ⟨fun i hi => (hb.cell (p := ⟨1, i, none⟩) hB).trans (h3 i hi), fun i hi => (hb.cell (p := ⟨1, i, none⟩) hB).trans (h6 i hi), by omega⟩
theorem Tn.pos {w : World} (h : Tn w) : 1 < w.heap.size := h.2.2
theorem Tn.on {w w' : World} (h : Tn w) (hb : Below w.heap.size w w') : Tn w' := h.below hb h.pos
theorem Tn.alloc {w : World} (h : Tn w) (o : Obj) : Tn (w.alloc o) := h.on ((Below.refl _ _).alloc (Nat.le_refl _) o)

/-- The digest of a text, for words of the kind k, of b bytes. -/
def hv (k b : Int) (s : ByteArray) : ByteArray := (digAns k b s).1

theorem of_hv (k b : Int) (s : ByteArray) (w : World) (hk : k = 1 ∨ k = 2) (h1 : 1 ≤ b) (h2 : b ≤ 16) (hs : s.size ≤ 400) (hT : Tn w) :
    Calls Tryz.prog 169 #[.int .i64 k, .int .i64 b, .string s] w fun e w' => e = .returned (.tuple #[.string (hv k b s), .int .i64 0]) ∧ Below w.heap.size w w' := by
  refine (of_ans k b s w hT.1 hT.2.1 hT.2.2).mono ?_
  rintro e w' ⟨rfl, hb⟩
  refine ⟨?_, hb⟩
  have : (digAns k b s).2 = 0 := by
    unfold digAns
    rcases hk with rfl | rfl <;> simp [h1, h2, hs]
  rw [this]; rfl
theorem hv_size (k b : Int) (s : ByteArray) (hk : k = 1 ∨ k = 2) (h1 : 1 ≤ b) (h2 : b ≤ 16) (hs : s.size ≤ 400) : ((hv k b s).size : Int) = b := by
  unfold hv digAns
  have h3 := whole32_size s
  have h6 := whole64_size s
  rcases hk with rfl | rfl <;> simp [h1, h2, hs, ByteArray.size_extract, h3, h6] <;> omega

set_option maxHeartbeats 1000000 in
theorem value_any (k b x t l tag : Int) (bk o c : Nat) (xs : List ByteArray) (w : World) (hcells : ∀ (j : Nat) y, xs[j]? = some y → w.cell? ⟨bk, o + j, none⟩ = some (.string y)) (hbk : bk < w.heap.size) (hcap : xs.length ≤ c) (hN : xs.length ≤ 1000)
    (hk : k = 1 ∨ k = 2) (h1 : 1 ≤ b) (h2 : b ≤ 16) (hs : (cat xs).size ≤ 399) (hT : Tn w) :
    Calls Tryz.prog 248 #[.agg #[.int .i64 k, .int .i64 b, .int .i64 x, .int .i64 t, .int .i64 l], .int .i64 tag, .slice (some ⟨bk, o, none⟩) xs.length c] w fun e w' => e = .returned (.string (hv k b (numB 1 tag ++ cat xs))) ∧ Below w.heap.size w w' := by
  have HN := hide (fun w' : World => number_any 1 tag w' (by decide))
  have HJ := hide (fun (w' : World) (hb : Below (w.heap.size + 1) (w.alloc (.cells #[.int .i64 k, .int .i64 b, .int .i64 x, .int .i64 t, .int .i64 l] 26)) w') => join_any bk o c xs w' (fun j y h => (hb.cell (p := ⟨bk, o + j, none⟩) (by show bk < w.heap.size + 1; omega)).trans ((World.cell?_alloc_past _ _ _ hbk).trans (hcells j y h))) (by have := hb.size; simp at this; omega) hN hcap (by omega))
  have HO := hide (fun (w' : World) (hb : Below (w.heap.size + 1) (w.alloc (.cells #[.int .i64 k, .int .i64 b, .int .i64 x, .int .i64 t, .int .i64 l] 26)) w') => of_hv k b (numB 1 tag ++ cat xs) w' hk h1 h2 (by rw [ByteArray.size_append, numB_size]; omega) ((hT.alloc _).below hb (by omega)))
  clear hcells hT
  have hcc : ∀ w : World, (Op.stringOp .add (numB 1 tag) (cat xs)).run Tryz.prog w = .ok (.string (numB 1 tag ++ cat xs)) w := fun w => run_string_add w _ _ (by rw [numB_size]; omega) (by omega)
  go_enter Tryz.func248, Tryz.ntmps248
  go_wp2_with fail
  go_region_held3 (fun w' => w'.cell? ⟨w.heap.size, 0, none⟩ = some (.int .i64 k) ∧ w'.cell? ⟨w.heap.size, 1, none⟩ = some (.int .i64 b) ∧ Below (w.heap.size + 1) (w.alloc (.cells #[.int .i64 k, .int .i64 b, .int .i64 x, .int .i64 t, .int .i64 l] 26)) w') (first | exact hS3 | exact hS2 | exact hS1 | exact ⟨by simp [go_sem], by simp [go_sem], (Below.refl _ _).drew⟩) (first | (go_at_call 160; refine (HN.out _).mono ?_; rintro e w1 ⟨rfl, hb1⟩; have hS1 := held2 (by assumption) hb1 (by simp) (by simp) (by simp)) | (go_at_call 161; refine (HJ.out _ hS1.2.2).mono ?_; rintro e w2 ⟨rfl, hb2⟩; have hS2 := held2 hS1 hb2 (by simp) (by simp) (by simp)) | (go_at_call 169; refine (HO.out _ hS2.2.2).mono ?_; rintro e w3 ⟨rfl, hb3⟩; have hS3 := held2 hS2 hb3 (by simp) (by simp) (by simp)))
  go_wp2
  go_ret
  exact ⟨rfl, ((Below.refl _ _).alloc (Nat.le_refl _) _).trans (hS3.2.2.mono (by omega))⟩
end Go.Proofs.YtgaoeoijdpdjiabGreatDoor

namespace Go.Proofs.YtgaoeoijdpdjiabGreatDoor
open Go.RowKit

set_option maxHeartbeats 400000 in
theorem refMeasure_yes (k b x t l a0 a1 a2 a3 a4 a5 : Int) (w : World) (hr : rightB k b x t l = true)
    (h : ∀ w : World, Calls Tryz.prog 83 #[.agg #[.int .i64 k, .int .i64 b, .int .i64 x, .int .i64 t, .int .i64 l]] w fun r w' => r = .returned (.agg #[.int .i64 a0, .int .i64 a1, .int .i64 a2, .int .i64 a3, .int .i64 a4, .int .i64 a5]) ∧ Below w.heap.size w w') :
    Calls Tryz.prog 164 #[.agg #[.int .i64 k, .int .i64 b, .int .i64 x, .int .i64 t, .int .i64 l]] w fun r w' =>
      r = .returned (.tuple #[.agg #[.int .i64 a0, .int .i64 a1, .int .i64 a2, .int .i64 a3, .int .i64 a4, .int .i64 a5], .int .i64 0]) ∧ Below w.heap.size w w' := by
  have HR := hideM hr
  have H := hideM h
  clear hr h
  go_enter Tryz.func164, Tryz.ntmps164
  go_wp2_with fail
  refine (refCheck_any k b x t l _).mono ?_
  rintro e w1 ⟨rfl, hb⟩
  rw [HR.out]
  obtain ⟨z0, z1, z2, z3, z4, z5⟩ := six_zero hb
  have F5 : Five w1 w.heap.size k b x t l := five_below (show Five ((w.alloc (.cells #[.int .i64 k, .int .i64 b, .int .i64 x, .int .i64 t, .int .i64 l] 26)).alloc (.cells #[.int .i64 0, .int .i64 0, .int .i64 0, .int .i64 0, .int .i64 0, .int .i64 0] 158)) w.heap.size k b x t l by refine ⟨?_, ?_, ?_, ?_, ?_⟩ <;> simp [go_sem]) hb (by simp; omega)
  have fz : ∀ o, w1.frozen? ⟨w.heap.size + 1, o, none⟩ = false := fun o => (hb.frozen (by simp)).trans (by simp [go_sem])
  have hz := hb.size
  simp at hz
  have HB := hideM ((((Below.refl _ _).alloc (Nat.le_refl _) _).alloc (by simp) _).trans (hb.mono (by simp; omega)) : Below w.heap.size w w1)
  clear hb
  obtain ⟨c0, c1, c2, c3, c4⟩ := F5
  go_wp2_with fail

  refine (H.out _).mono ?_

  rintro r w2 ⟨rfl, hb2⟩
  obtain ⟨y0, y1, y2, y3, y4, y5⟩ := six_below (show Six w1 (w.heap.size + 1) 0 0 0 0 0 0 from ⟨z0, z1, z2, z3, z4, z5⟩) hb2 (by omega)
  have fy : ∀ o, w2.frozen? ⟨w.heap.size + 1, o, none⟩ = false := fun o => (hb2.frozen (by exact hz)).trans (fz o)
  have hz2 : w.heap.size + 1 < w2.heap.size := by have := hb2.size; omega
  have hz4 : ¬ w.heap.size + 1 = w2.heap.size := by omega
  have HB2 := hideM (HB.out.trans (hb2.mono (by omega)) : Below w.heap.size w w2)
  clear hb2 c0 c1 c2 c3 c4 z0 z1 z2 z3 z4 z5 fz hz
  clear HR H HB
  have g1 : ∀ o i, (w2.alloc o).cell? ⟨w.heap.size + 1, i, none⟩ = w2.cell? ⟨w.heap.size + 1, i, none⟩ := fun o i => World.cell?_alloc_past _ _ _ hz2
  have g2 : ∀ o i, (w2.alloc o).frozen? ⟨w.heap.size + 1, i, none⟩ = false := fun o i => (World.frozen?_alloc_past _ _ _ hz2).trans (fy i)
  clear hz2 hz4 fy
  go_wp2
  refine bodyPost_ret (v := .tuple #[.agg #[.int .i64 a0, .int .i64 a1, .int .i64 a2, .int .i64 a3, .int .i64 a4, .int .i64 a5], .int .i64 0]) (by simp [results, Tryz.results164, go_sem, g1, y0, y1, y2, y3, y4, y5]) rfl ⟨rfl, ?_⟩
  iterate 6 refine Below.setCell ?_ (show w.heap.size ≤ _ by simp) _
  exact HB2.out.alloc HB2.out.size _
end Go.Proofs.YtgaoeoijdpdjiabGreatDoor

namespace Go.Proofs.YtgaoeoijdpdjiabGreatDoor
open Go.RowKit

theorem beN_congr (A B : List Nat) (h : ∀ i, at0 A i = at0 B i) (o k : Nat) : beN A o k = beN B o k := by
  induction k with
  | zero => rfl
  | succ k ih => rw [beN, beN, ih, h]
theorem take32_congr (A B : List Nat) (h : ∀ i, at0 A i = at0 B i) (o : Nat) (L : List Nat) (j : Nat) : take32 A o L j = take32 B o L j := by
  induction j with
  | zero => rfl
  | succ j ih => rw [take32, take32, ih, beN_congr A B h]
theorem take64_congr (A B : List Nat) (h : ∀ i, at0 A i = at0 B i) (o : Nat) (L : List Nat) (j : Nat) : take64 A o L j = take64 B o L j := by
  induction j with
  | zero => rfl
  | succ j ih => rw [take64, take64, ih, beN_congr A B h]
theorem soak32_congr (A B : List Nat) (h : ∀ i, at0 A i = at0 B i) (m : Nat) : soak32 A m = soak32 B m := by
  induction m with
  | zero => rfl
  | succ m ih => rw [soak32_succ, soak32_succ, ih, take32_congr A B h]
theorem soak64_congr (A B : List Nat) (h : ∀ i, at0 A i = at0 B i) (m : Nat) : soak64 A m = soak64 B m := by
  induction m with
  | zero => rfl
  | succ m ih => rw [soak64_succ, soak64_succ, ih, take64_congr A B h]

theorem outs_take (n : Nat) (L : List Nat) (m k : Nat) (h : k ≤ m) : (outs n L m).take k = outs n L k := by
  unfold outs
  rw [← List.map_take, List.take_range, Nat.min_eq_left h]
theorem textOf_cut (D : List Nat) (k : Nat) : (textOf D).extract 0 k = textOf (D.take k) := by
  apply ByteArray.ext
  simp [textOf, ByteArray.extract, ByteArray.copySlice, List.map_take]

theorem whole32_cut (s : ByteArray) (k : Nat) (h : k ≤ 16) : (whole32 s).extract 0 k = textOf (outs 4 (soak32 (padL s) (s.size / 16 + 1)) k) := by
  unfold whole32
  rw [textOf_cut, outs_take _ _ _ _ h, soak32_congr _ _ (padRow_at s _)]
theorem whole64_cut (s : ByteArray) (k : Nat) (h : k ≤ 32) : (whole64 s).extract 0 k = textOf (outs 8 (soak64 (padL s) (s.size / 32 + 1)) k) := by
  unfold whole64
  rw [textOf_cut, outs_take _ _ _ _ h, soak64_congr _ _ (padRow_at s _)]
end Go.Proofs.YtgaoeoijdpdjiabGreatDoor
