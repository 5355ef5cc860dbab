/-
  Digits, the program's and the document's, where the set or the text's length is wrong.
-/
import Derived.Test.YtgaoeoijdpdjiaaMeasureAll
namespace Go.Proofs.Ytgaoeoijdpdjiaa
open Go.RowKit

set_option maxHeartbeats 400000 in
theorem setsDigits_set (k b x t l : Int) (m : ByteArray) (w : World) (hr : rightB k b x t l = false) :
    Calls Try.prog 52 #[.agg #[.int .i64 k, .int .i64 b, .int .i64 x, .int .i64 t, .int .i64 l], .string m] w fun r w' => r = .returned (.tuple #[.slice none 0 0, .int .i64 1]) ∧ Below w.heap.size w w' := by
  have HM := hideM (fun w' : World => setsMeasure_no k b x t l w' hr)
  clear hr
  go_enter Try.func52, Try.ntmps52
  go_wp2_with fail
  refine (HM.out _).mono ?_
  rintro r w1 ⟨rfl, hb⟩
  have B1 := hideM (((Below.refl _ _).alloc (Nat.le_refl _) _).trans (hb.mono (by simp)) : Below w.heap.size w w1)
  have Z1 := hideM (show w.heap.size < w1.heap.size by have := hb.size; simp at this; omega)
  clear hb
  go_wp2
  go_ret2
  exact ⟨rfl, B1.out.alloc (Nat.le_of_lt Z1.out) _⟩

set_option maxHeartbeats 400000 in
theorem setsDigits_len (b x e f t l : Nat) (hp : Pair b x e f) (k : Int) (m : ByteArray) (w : World) (hk : k = 1 ∨ k = 2) (h1 : 1 ≤ t) (h2 : t ≤ 4) (h3 : 1 ≤ l) (h4 : l ≤ 3) (hm : m.size ≠ b) :
    Calls Try.prog 52 #[.agg #[.int .i64 k, .int .i64 b, .int .i64 x, .int .i64 t, .int .i64 l], .string m] w fun r w' => r = .returned (.tuple #[.slice none 0 0, .int .i64 2]) ∧ Below w.heap.size w w' := by
  have HM := hideM (fun w' : World => setsMeasure_yes b x e f t l hp k w' hk h1 h2 h3 h4)
  have hne : ((m.size : Int) != (b : Int)) = true := by simp; omega
  clear hp hm hk
  go_enter Try.func52, Try.ntmps52
  go_wp2_with fail
  refine (HM.out _).mono ?_
  rintro r w1 ⟨rfl, hb⟩
  have B1 := hideM (((Below.refl _ _).alloc (Nat.le_refl _) _).trans (hb.mono (by simp)) : Below w.heap.size w w1)
  have Z1 := hideM (show w.heap.size < w1.heap.size by have := hb.size; simp at this; omega)
  have c1 : ∀ o, (w1.alloc o).cell? ⟨w.heap.size, 1, none⟩ = some (.int .i64 b) := fun o => (World.cell?_alloc_past _ _ _ Z1.out).trans ((hb.cell (by simp)).trans (by simp [go_sem]))
  clear hb
  go_wp2
  go_ret2
  exact ⟨rfl, B1.out.alloc (Nat.le_of_lt Z1.out) _⟩

set_option maxHeartbeats 400000 in
/-- signet.Digits hands an error on. -/
theorem digits_err (k b x t l e : Int) (m : ByteArray) (w : World)
    (h : ∀ w : World, Calls Try.prog 52 #[.agg #[.int .i64 k, .int .i64 b, .int .i64 x, .int .i64 t, .int .i64 l], .string m] w fun r w' => r = .returned (.tuple #[.slice none 0 0, .int .i64 e]) ∧ Below w.heap.size w w') :
    Calls Try.prog 28 #[.agg #[.int .i64 k, .int .i64 b, .int .i64 x, .int .i64 t, .int .i64 l], .string m] w fun r w' => r = .returned (.tuple #[.slice none 0 0, .int .i64 e]) ∧ Below w.heap.size w w' := by
  have H := hideM h
  clear h
  go_enter Try.func28, Try.ntmps28
  go_wp2_with fail
  refine (H.out _).mono ?_
  rintro r w1 ⟨rfl, hb⟩
  have B1 := hideM (((Below.refl _ _).alloc (Nat.le_refl _) _).trans (hb.mono (by simp)) : Below w.heap.size w w1)
  clear hb
  go_wp2
  go_ret2
  exact ⟨rfl, B1.out⟩

set_option maxHeartbeats 400000 in
theorem refDigits_set (k b x t l : Int) (m : ByteArray) (w : World) (hr : rightB k b x t l = false) :
    Calls Try.prog 29 #[.agg #[.int .i64 k, .int .i64 b, .int .i64 x, .int .i64 t, .int .i64 l], .string m] w fun r w' => r = .returned (.tuple #[.slice none 0 0, .int .i64 1]) ∧ Below w.heap.size w w' := by
  have HM := hideM (fun w' : World => refCheck_any k b x t l w')
  rw [hr] at HM
  clear hr
  go_enter Try.func29, Try.ntmps29
  go_wp2_with fail
  refine (HM.out _).mono ?_
  rintro r w1 ⟨rfl, hb⟩
  have B1 := hideM (((Below.refl _ _).alloc (Nat.le_refl _) _).trans (hb.mono (by simp)) : Below w.heap.size w w1)
  clear hb
  go_wp2
  go_ret2
  exact ⟨rfl, B1.out⟩

set_option maxHeartbeats 400000 in
theorem refDigits_len (k t l : Int) (b x : Nat) (m : ByteArray) (w : World) (hr : rightB k b x t l = true) (hm : m.size ≠ b) :
    Calls Try.prog 29 #[.agg #[.int .i64 k, .int .i64 b, .int .i64 x, .int .i64 t, .int .i64 l], .string m] w fun r w' => r = .returned (.tuple #[.slice none 0 0, .int .i64 2]) ∧ Below w.heap.size w w' := by
  have HM := hideM (fun w' : World => refCheck_any k b x t l w')
  rw [hr] at HM
  have hne : ((m.size : Int) != (b : Int)) = true := by simp; omega
  clear hr hm
  go_enter Try.func29, Try.ntmps29
  go_wp2_with fail
  refine (HM.out _).mono ?_
  rintro r w1 ⟨rfl, hb⟩
  have B1 := hideM (((Below.refl _ _).alloc (Nat.le_refl _) _).trans (hb.mono (by simp)) : Below w.heap.size w w1)
  have c1 : w1.cell? ⟨w.heap.size, 1, none⟩ = some (.int .i64 b) := (hb.cell (by simp)).trans (by simp [go_sem])
  clear hb
  go_wp2
  go_ret2
  exact ⟨rfl, B1.out⟩
end Go.Proofs.Ytgaoeoijdpdjiaa
