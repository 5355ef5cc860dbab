/-
  The statement's looks: all lists of the book still read as marks.
-/
import Derived.Test.YtgaoeoijdpdjiaaBookBase
import Derived.Test.YtgaoeoijdpdjiaaSame
namespace Go.Proofs.Ytgaoeoijdpdjiaa
open Go.RowKit

set_option maxHeartbeats 1000000 in
theorem looks_any (B bk : Nat) (v : Value) (S : List Value) (w : World) (hB : BookAt w B bk v S) (h0 : 0 < S.length) :
    Calls Try.prog 10 #[.pointer (some ⟨bk, 0, none⟩)] w fun r w' => r = .returned (.bool true) ∧ Below w.heap.size w w' := by
  obtain ⟨gv, cap, cur, hv, _, hh, hc1, _, hc2, hc3⟩ : ∃ gv cap cur, v = .slice (some ⟨gv, 0, none⟩) S.length cap ∧ B ≤ gv ∧ w.heap[gv]? = some (.cells cur 36 (0, 0)) ∧ S.length ≤ cap ∧ cap ≤ maxLen ∧ cur.size = cap * 1 ∧ cur.toList.take (S.length * 1) = S := by
    rcases hB.row.2 with ⟨_, h⟩ | h
    · omega
    · exact h
  subst hv
  have hS := hB.len
  have HROW := hideM (show ∀ i s, S[i]? = some s → w.cell? ⟨gv, i, none⟩ = some s by
    intro i s hs
    have hi : i < S.length := (List.getElem?_eq_some_iff.1 hs).1
    rw [← hc3, List.getElem?_take_of_lt (by omega)] at hs
    simp only [World.cell?, hh]
    simpa using hs)
  have HLIST := hideM hB.lists
  have b0 : w.cell? ⟨bk, 0, none⟩ = some (.slice (some ⟨gv, 0, none⟩) S.length cap) := by have := hB.blk; simp [World.cell?, this]
  have b1 : w.cell? ⟨bk, 1, none⟩ = some (.slice none 0 0) := by have := hB.blk; simp [World.cell?, this]
  have b2 : w.cell? ⟨bk, 2, none⟩ = some (.slice none 0 0) := by have := hB.blk; simp [World.cell?, this]
  have HBK := hideM (And.intro b0 (And.intro b1 b2))
  clear hB hh hc1 hc2 hc3 b0 b1 b2
  go_enter Try.func10, Try.ntmps10
  go_wp2
  go_loopw [3] (fun i wr => ∃ a q : Nat, a ≤ S.length ∧ i = .int .i64 a ∧ Hid (wr = w.drewN q)) (fun i _ => S.length - (intOf i).toNat)
  case atStart => exact ⟨0, 0, by omega, rfl, rfl⟩
  case round =>
    obtain ⟨a, q, ha, rfl, hw⟩ := hrel
    have k0 : wr.cell? ⟨bk, 0, none⟩ = some (.slice (some ⟨gv, 0, none⟩) S.length cap) := by rw [hw.out]; exact HBK.out.1
    have k1 : wr.cell? ⟨bk, 1, none⟩ = some (.slice none 0 0) := by rw [hw.out]; exact HBK.out.2.1
    have k2 : wr.cell? ⟨bk, 2, none⟩ = some (.slice none 0 0) := by rw [hw.out]; exact HBK.out.2.2
    by_cases hlt : a < S.length
    · obtain ⟨wo, rfl⟩ : ∃ wo : World, wo = wr := ⟨_, rfl⟩
      have hs : S[a]? = some S[a] := List.getElem?_eq_getElem hlt
      have HC := hideM (HROW.out a _ hs)
      obtain ⟨n, hn, _, hm⟩ := HLIST.out a _ hs
      generalize S[a] = s at hs HC hm
      clear hs
      rcases hm with ⟨rfl, rfl⟩ | ⟨g, c, cur, rfl, _, hh, _, _, _, ht⟩
      · have ks : wo.cell? ⟨gv, a, none⟩ = some (.slice none 0 0) := by rw [hw.out]; exact HC.out
        go_wp2
        refine wp_loop_rounds 1 ?_
        rw [rounds_succ]
        go_wp2
        go_roundw
        case rel => exact ⟨a + 1, q, by omega, by go_num, hw⟩
        case measure => simp [intOf]; omega
      · have HE := hideM (show ∀ j, j < n → w.cell? ⟨g, j, none⟩ = some (.int .i64 (-1000 - ((a / 4 * 4 : Nat) : Int))) by
          intro j hj
          have h1 : (cur.toList.take (n * 1))[j]? = (List.replicate n (Value.int .i64 (-1000 - ((a / 4 * 4 : Nat) : Int))))[j]? := by rw [ht]
          rw [List.getElem?_take_of_lt (by omega)] at h1
          simp only [World.cell?, hh]
          simpa [hj] using h1)
        clear hh ht
        have ks : wo.cell? ⟨gv, a, none⟩ = some (.slice (some ⟨g, 0, none⟩) n c) := by rw [hw.out]; exact HC.out
        have e4 : ((a / 4 * 4 : Nat) : Int) = (a : Int) / 4 * 4 := by omega
        rw [e4] at HE
        clear e4
        go_wp2
        go_loopw [4] (fun i wr => ∃ j p : Nat, j ≤ n ∧ i = .int .i64 j ∧ Hid (wr = w.drewN p)) (fun i _ => n - (intOf i).toNat)
        case atStart => exact ⟨0, q, by omega, rfl, hw⟩
        case round =>
          obtain ⟨j, p, hj, rfl, hw2⟩ := hrel
          have m0 : wr.cell? ⟨bk, 0, none⟩ = some (.slice (some ⟨gv, 0, none⟩) S.length cap) := by rw [hw2.out]; exact HBK.out.1
          have m1 : wr.cell? ⟨gv, a, none⟩ = some (.slice (some ⟨g, 0, none⟩) n c) := by rw [hw2.out]; exact HC.out
          by_cases hlt2 : j < n
          · have m2 : wr.cell? ⟨g, j, none⟩ = some (.int .i64 (-1000 - (a : Int) / 4 * 4)) := by rw [hw2.out]; exact HE.out j hlt2
            go_wp2
            go_quiet ((go_at_call 32; exact Calls.quiet_of_same (mark_any _ _ (by omega) (by omega))))
            go_wp2
            go_roundw
            case rel => exact ⟨j + 1, p + _, by omega, by go_num, by show World.drewN wr _ = w.drewN _; rw [hw2.out, World.drewN_drewN]⟩
            case measure => simp [intOf]; omega
          · go_wp2
            go_roundw
            case rel => exact ⟨a + 1, p, by omega, by go_num, hw2⟩
            case measure => simp [intOf]; omega
    · go_wp2
      refine wp_loop_rounds 1 ?_
      rw [rounds_succ]
      go_wp2
      refine wp_loop_rounds 1 ?_
      rw [rounds_succ]
      go_wp2
      go_ret
      exact ⟨rfl, by rw [hw.out]; exact below_drewN (Below.refl _ _) _⟩
end Go.Proofs.Ytgaoeoijdpdjiaa
