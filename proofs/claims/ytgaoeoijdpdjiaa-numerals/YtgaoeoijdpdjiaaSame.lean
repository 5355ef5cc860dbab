/-
  The document's Digits at a right set; the statement's own sameInts and markInt.
-/
import Derived.Test.YtgaoeoijdpdjiaaRefDigits
import Derived.Test.YtgaoeoijdpdjiaaDigitsErr
import Derived.BigQuiet
import Derived.Deep.QuietTactic
namespace Go.Proofs.Ytgaoeoijdpdjiaa
open Go.RowKit

set_option maxHeartbeats 400000 in
theorem refDigits_ok (b x e f : Nat) (hp : Pair b x e f) (k : Int) (t l : Nat) (m : ByteArray) (w : World) (hr : rightB k b x t l = true) (h1 : 1 ≤ t) (h2 : t ≤ 4) (h3 : 1 ≤ l) (h4 : l ≤ 3) (hm : m.size = b) :
    Calls Try.prog 29 #[.agg #[.int .i64 k, .int .i64 b, .int .i64 x, .int .i64 t, .int .i64 l], .string m] w fun r w' =>
      ∃ v, r = .returned (.tuple #[v, .int .i64 0]) ∧ w'.ownsRow w.heap.size 3 1 v (b * e + f) (cellsN (digitsN x e f (bytesN m))) ∧ Below w.heap.size w w' := by
  have HM := hideM (fun w' : World => refCheck_any k b x t l w')
  rw [hr] at HM
  have HD := hideM (fun w' : World => refDigits_list b x e f hp k t l m w' h1 h2 h3 h4 hm)
  have hne : ((m.size : Int) != (b : Int)) = false := by simp [hm]
  generalize digitsN x e f (bytesN m) = D at HD ⊢
  generalize b * e + f = n at HD ⊢
  clear hr hm hp
  go_enter Try.func29, Try.ntmps29
  go_wp2_with fail
  refine (HM.out _).mono ?_
  rintro r w1 ⟨rfl, hb⟩
  have B1 := hideM (((Below.refl _ _).alloc (Nat.le_refl _) _).trans (hb.mono (by simp)) : Below w.heap.size w w1)
  obtain ⟨c0, c1, c2, c3, c4⟩ := five_below (show Five (w.alloc (.cells #[.int .i64 k, .int .i64 b, .int .i64 x, .int .i64 t, .int .i64 l] 23)) w.heap.size k b x t l by refine ⟨?_, ?_, ?_, ?_, ?_⟩ <;> simp [go_sem]) hb (by simp)
  clear hb
  go_wp2_with fail
  refine (HD.out _).mono ?_
  rintro r w2 ⟨v, rfl, ho, hb⟩
  have HO := hideM ho
  have B2 := hideM (B1.out.trans (hb.mono B1.out.size))
  clear ho hb c0 c1 c2 c3 c4
  go_wp2
  go_ret2
  exact ⟨v, rfl, ⟨HO.out.1, HO.out.2.elim Or.inl (fun ⟨g, cap, cur, hv, hg, r⟩ => Or.inr ⟨g, cap, cur, hv, Nat.le_trans B1.out.size hg, r⟩)⟩, B2.out⟩

set_option maxHeartbeats 400000 in
theorem same_nil (w : World) : Calls Try.prog 30 #[.slice none 0 0, .slice none 0 0] w fun r w' => r = .returned (.bool true) ∧ Below w.heap.size w w' := by
  go_enter Try.func30, Try.ntmps30
  go_wp2
  refine wp_loop_rounds 1 ?_
  rw [rounds_succ]
  go_wp2
  go_ret
  exact ⟨rfl, Below.refl _ _⟩

set_option maxHeartbeats 400000 in
theorem same_some (g1 g2 n c1 c2 : Nat) (D : List Nat) (w : World) (hn : n ≤ 1000) (h1 : ∀ j, j < n → w.cell? ⟨g1, j, none⟩ = some (.int .i64 ((at0M D j : Nat) : Int))) (h2 : ∀ j, j < n → w.cell? ⟨g2, j, none⟩ = some (.int .i64 ((at0M D j : Nat) : Int))) :
    Calls Try.prog 30 #[.slice (some ⟨g1, 0, none⟩) n c1, .slice (some ⟨g2, 0, none⟩) n c2] w fun r w' => r = .returned (.bool true) ∧ Below w.heap.size w w' := by
  have H1 := hideM h1
  have H2 := hideM h2
  clear h1 h2
  go_enter Try.func30, Try.ntmps30
  go_wp2
  go_loopw [5] (fun i wr => ∃ j q : Nat, j ≤ n ∧ i = .int .i64 j ∧ Hid (wr = w.drewN q)) (fun i _ => n - (intOf i).toNat)
  case atStart => exact ⟨0, 0, by omega, rfl, rfl⟩
  case round =>
    obtain ⟨j, q, hj, rfl, hw⟩ := hrel
    by_cases hlt : j < n
    · have d1 : wr.cell? ⟨g1, j, none⟩ = some (.int .i64 ((at0M D j : Nat) : Int)) := by rw [hw.out]; exact H1.out j hlt
      have d2 : wr.cell? ⟨g2, j, none⟩ = some (.int .i64 ((at0M D j : Nat) : Int)) := by rw [hw.out]; exact H2.out j hlt
      generalize at0M D j = d at d1 d2
      go_wp2
      go_quiet (fail)
      go_wp2
      go_roundw
      case rel => exact ⟨j + 1, q + _, by omega, by go_num, by show World.drewN wr _ = w.drewN _; rw [hw.out, World.drewN_drewN]⟩
      case measure => simp [intOf]; omega
    · go_wp2
      go_ret
      exact ⟨rfl, by rw [hw.out]; exact below_drewN (Below.refl _ _) _⟩

set_option maxHeartbeats 400000 in
theorem mark_any (n : Int) (w : World) (h0 : 0 ≤ n) (h1 : n ≤ 1000000) : Calls Try.prog 32 #[.int .i64 n] w fun r w' => r = .returned (.int .i64 (-1000 - n)) ∧ w' = w := by
  go_enter Try.func32, Try.ntmps32
  go_wp2
  go_ret
  exact ⟨rfl, rfl⟩
end Go.Proofs.Ytgaoeoijdpdjiaa
