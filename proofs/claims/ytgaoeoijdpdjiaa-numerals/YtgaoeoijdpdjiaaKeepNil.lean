/-
  The statement's keepInts at a list that is nil.
-/
import Derived.Test.YtgaoeoijdpdjiaaKeep
namespace Go.Proofs.Ytgaoeoijdpdjiaa
open Go.RowKit

set_option maxRecDepth 20000 in
set_option maxHeartbeats 1000000 in
theorem keep_nil_at (B0 B bk j : Nat) (v : Value) (S : List Value) (w0 wr : World) (hj : j = 0) (hB : BookAt w0 B bk v S) (h4 : S.length % 4 = 0) (hS : S.length ≤ 90) (hb : Below w0.heap.size w0 wr) (b1 : B0 ≤ B) (b2 : B0 ≤ bk) (b3 : B0 ≤ w0.heap.size) (b4 : B ≤ w0.heap.size) :
    Calls Try.prog 31 #[.pointer (some ⟨bk, 0, none⟩), .slice none j j] wr fun r w' =>
      r = .returned (.tuple #[]) ∧ ∃ v' S', BookAt w' B bk v' S' ∧ S'.length = S.length + 4 ∧ Below B0 wr w' ∧ (∀ q, q < w0.heap.size → q ≠ bk → v.ownBlock ≠ some q → w'.heap[q]? = w0.heap[q]?) ∧ wr.heap.size ≤ w'.heap.size := by
  obtain ⟨ao, cap, hv, hao⟩ := owns_form hB.row
  subst hv
  have HB := hideM hB
  have HBW := hideM hb
  have cb : wr.cell? ⟨bk, 0, none⟩ = some (.slice ao S.length cap) := by
    have := (hB.below hb).blk
    simp [World.cell?, this]
  have ZW : w0.heap.size ≤ wr.heap.size := hb.size
  have HJ := hideM hj
  have j0 : j < 1 := by omega
  have HMK := hideM (show ∀ z, Marked wr (.slice none j j) z by subst hj; exact fun z => marked_nil wr z)
  have HO0 := hideM (Below.refl B0 wr)
  clear hB hb hao hj
  obtain ⟨i0, hi, hz0, hz1, hz2⟩ := info_parts infoInt
  obtain ⟨i1, hi', hz0', hz1', hz2'⟩ := info_parts infoSlice
  go_enter Try.func31, Try.ntmps31
  go_wp2_with fail
  refine (mark_any _ _ (by omega) (by omega)).mono ?_
  rintro r w9 ⟨rfl, rfl⟩
  generalize hz : (-1000 - (S.length : Int)) = z
  have HZ := hideM hz
  have HMK := hideM (HMK.out z)
  clear hz cb
  go_wp2
  refine wp_loop_rounds 1 ?_
  rw [rounds_succ]
  go_wp2_with (at_builtin; refine wpList_append_grows _ rfl (.tmp 25) (.tmp 27) 36 rfl 3 i0 (.int .i64 0) 1 8 Try.underlying36 hi hz0 hz1 hz2 rfl (by decide) none j j (List.replicate j (.int .i64 z)) rfl ?n1 (by simp) ?o1 ⟨w9.heap.size, 0, none⟩ 1 1 [.int .i64 z] rfl rfl ?p1 ?q1 (by omega) ?r1 ?s1 ?_)
  case n1 => exact HJ.out
  case o1 => intro b hb; cases hb
  case p1 => exact list_new _ #[.int .i64 z] _
  case q1 => intro u hu; simp at hu; subst hu; rfl
  case r1 => unfold maxLen; omega
  case s1 => omega
  intro v1 w2 ho1 hg1
  have Z1 := hg1.size
  simp at Z1
  have K1 := hideM (Below.grown (B := w9.heap.size) ((Below.refl _ w9).alloc (Nat.le_refl _) _) hg1 (by simp) (fun _ h => by cases h) : Below w9.heap.size w9 w2)
  have O1 := hideM (show w2.ownsRow 0 3 1 v1 (j + 1) (List.replicate (j + 1) (.int .i64 z)) from ⟨by simp, ho1.2.elim Or.inl (fun ⟨g', c', cur, a1, a2, a3, a4, a5, a6, a7⟩ => Or.inr ⟨g', c', cur, a1, Nat.zero_le _, a3, a4, a5, a6, by rw [a7]; exact List.replicate_succ'.symm⟩)⟩)
  obtain ⟨g1, k1, hv1⟩ := owns_some O1.out (by omega)
  rw [hv1] at O1 ⊢
  clear hv1 ho1 hg1
  go_wp2_with (at_builtin; refine wpList_append_grows _ rfl (.tmp 29) (.tmp 32) 36 rfl 3 i0 (.int .i64 0) 1 8 Try.underlying36 hi hz0 hz1 hz2 rfl (by decide) none j j (List.replicate j (.int .i64 z)) rfl ?n2 (by simp) ?o2 ⟨w2.heap.size, 0, none⟩ 2 2 [.int .i64 z, .int .i64 z] rfl rfl ?p2 ?q2 (by omega) ?r2 ?s2 ?_)
  case n2 => exact HJ.out
  case o2 => intro b hb; cases hb
  case p2 => exact list_new _ #[.int .i64 z, .int .i64 z] _
  case q2 => intro u hu; simp at hu; subst hu; rfl
  case r2 => unfold maxLen; omega
  case s2 => omega
  intro v2 w3 ho2 hg2
  have Z2 := hg2.size
  simp at Z2
  have K2 := hideM (Below.grown (B := w2.heap.size) ((Below.refl _ w2).alloc (Nat.le_refl _) _) hg2 (by simp) (fun _ h => by cases h) : Below w2.heap.size w2 w3)
  have O2 := hideM (show w3.ownsRow 0 3 1 v2 (j + 2) (List.replicate (j + 2) (.int .i64 z)) from ⟨by simp, ho2.2.elim Or.inl (fun ⟨g', c', cur, a1, a2, a3, a4, a5, a6, a7⟩ => Or.inr ⟨g', c', cur, a1, Nat.zero_le _, a3, a4, a5, a6, by rw [a7]; simp [List.replicate_succ']⟩)⟩)
  obtain ⟨g2, k2, hv2⟩ := owns_some O2.out (by omega)
  rw [hv2] at O2 ⊢
  clear hv2 ho2 hg2
  go_wp2_with (at_builtin; refine wpList_append_grows _ rfl (.tmp 34) (.tmp 38) 36 rfl 3 i0 (.int .i64 0) 1 8 Try.underlying36 hi hz0 hz1 hz2 rfl (by decide) none j j (List.replicate j (.int .i64 z)) rfl ?n3 (by simp) ?o3 ⟨w3.heap.size, 0, none⟩ 3 3 [.int .i64 z, .int .i64 z, .int .i64 z] rfl rfl ?p3 ?q3 (by omega) ?r3 ?s3 ?_)
  case n3 => exact HJ.out
  case o3 => intro b hb; cases hb
  case p3 => exact list_new _ #[.int .i64 z, .int .i64 z, .int .i64 z] _
  case q3 => intro u hu; simp at hu; subst hu; rfl
  case r3 => unfold maxLen; omega
  case s3 => omega
  intro v3 w4 ho3 hg3
  have Z3 := hg3.size
  simp at Z3
  have K3 := hideM (Below.grown (B := w3.heap.size) ((Below.refl _ w3).alloc (Nat.le_refl _) _) hg3 (by simp) (fun _ h => by cases h) : Below w3.heap.size w3 w4)
  have O3 := hideM (show w4.ownsRow 0 3 1 v3 (j + 3) (List.replicate (j + 3) (.int .i64 z)) from ⟨by simp, ho3.2.elim Or.inl (fun ⟨g', c', cur, a1, a2, a3, a4, a5, a6, a7⟩ => Or.inr ⟨g', c', cur, a1, Nat.zero_le _, a3, a4, a5, a6, by rw [a7]; simp [List.replicate_succ']⟩)⟩)
  obtain ⟨g3, k3, hv3⟩ := owns_some O3.out (by omega)
  rw [hv3] at O3 ⊢
  clear hv3 ho3 hg3
  have KK := hideM ((K1.out.trans (K2.out.mono (by omega))).trans (K3.out.mono (by omega)) : Below w9.heap.size w9 w4)
  have KW := hideM (HBW.out.trans (KK.out.mono (by omega)) : Below w0.heap.size w0 w4)
  have HB4 := hideM (HB.out.below KW.out)
  have M0 := hideM (marked_keep HMK.out (fun q _ hq => KK.out.block q (lt_of_block hq)))
  have M1 := hideM (marked_keep (marked_owns O1.out (by omega)) (fun q _ hq => (K2.out.trans (K3.out.mono (by omega))).block q (lt_of_block hq)))
  have M2 := hideM (marked_keep (marked_owns O2.out (by omega)) (fun q _ hq => K3.out.block q (lt_of_block hq)))
  have M3 := hideM (marked_owns O3.out (by omega))
  have cb : w4.cell? ⟨bk, 0, none⟩ = some (.slice ao S.length cap) := by have := HB4.out.blk; simp [World.cell?, this]
  have hbk4 := lt_of_block HB4.out.blk
  have HBK := hideM hbk4
  clear hbk4
  go_wp2_with (at_builtin; refine wpList_append_lies _ rfl (.tmp 44) (.tmp 49) 25 rfl B 36 i1 (.slice none 0 0) 1 24 Try.underlying25 hi' hz0' hz1' hz2' rfl (by decide) _ _ _ rfl (HB4.out.row.alloc _) ⟨w4.heap.size, 0, none⟩ 4 4 [.slice none j j, .slice (some ⟨g1, 0, none⟩) (j + 1) k1, .slice (some ⟨g2, 0, none⟩) (j + 2) k2, .slice (some ⟨g3, 0, none⟩) (j + 3) k3] rfl rfl ?l1 ?l2 (by omega) ?l3 ?l4 ?l5 (w4.heap.size + 1) (by simp) ?_)
  case l1 => exact list_new _ #[.slice none j j, .slice (some ⟨g1, 0, none⟩) (j + 1) k1, .slice (some ⟨g2, 0, none⟩) (j + 2) k2, .slice (some ⟨g3, 0, none⟩) (j + 3) k3] _
  case l2 => intro u hu; simp at hu; rcases hu with rfl | rfl | rfl | rfl <;> rfl
  case l3 => unfold maxLen; omega
  case l4 => omega
  case l5 => have := KW.out.size; simp; omega
  intro g5 cap5 w5 ho5 hg5 hat hlt5
  have HO5 := hideM ho5
  have HG5 := hideM hg5
  have MORE := hideM (BookAt.more HB4.out h4 (by rw [HZ.out]; exact M0.out) (by rw [HZ.out]; exact M1.out) (by rw [HZ.out]; exact M2.out) (by rw [HZ.out]; exact M3.out) _ HO5.out HG5.out (by omega))
  clear ho5 hg5
  have KEEP := hideM (show ∀ q, q < w4.heap.size → (Value.slice ao S.length cap).ownBlock ≠ some q → w5.heap[q]? = w4.heap[q]? from fun q hq hne => by
    rw [HG5.out.block q (by simp; omega) (fun e => hne e.symm)]
    exact Below.heap_alloc _ _ _ hq)
  have OWN := hideM (show ∀ q, (Value.slice ao S.length cap).ownBlock = some q → B ≤ q from fun q hq => (owns_lt HB4.out.row q hq).1)
  have NBK := hideM (show (Value.slice ao S.length cap).ownBlock ≠ some bk from fun e => by
    rcases HB4.out.row.2 with ⟨h, _⟩ | ⟨gg, cc, cur, h, _, hh, _⟩
    · rw [h] at e; simp [Value.ownBlock] at e
    · rw [h] at e; simp only [Value.ownBlock, Option.some.injEq] at e; subst e; rw [HB4.out.blk] at hh; simp at hh)
  have c5 : w5.cell? ⟨bk, 0, none⟩ = some (.slice ao S.length cap) := by
    have h1 := KEEP.out bk HBK.out NBK.out
    have h2 := HB4.out.blk
    rw [← h1] at h2
    simp [World.cell?, h2]
  have f5 : w5.frozen? ⟨bk, 0, none⟩ = false := by
    have h1 := KEEP.out bk HBK.out NBK.out
    have h2 := HB4.out.blk
    rw [← h1] at h2
    simp [World.frozen?, h2]
  have Z5 := HG5.out.size
  simp at Z5
  clear cb hat
  go_wp2
  go_end0
  refine ⟨rfl, _, _, MORE.out, by simp, ?_, ?_, ?_⟩
  · refine Below.setCell (HO0.out.trans ((KK.out.mono (by omega)).trans ?_)) (by simpa using b2) _
    exact ((Below.refl B0 w4).alloc (by omega) _).grown HG5.out (by simp; omega) (fun q hq => Nat.le_trans b1 (OWN.out q hq))
  · intro q hq hqb hqo
    rw [Below.heap_setCell _ _ _ _ hqb, KEEP.out q (by omega) hqo]
    exact KW.out.block q hq
  · have h0 := HO0.out.size
    have h1 := KK.out.size
    simp only [World.size_setCell]
    omega

set_option maxRecDepth 20000 in
theorem keep_nil (B0 B bk : Nat) (v : Value) (S : List Value) (w0 wr : World) (hB : BookAt w0 B bk v S) (h4 : S.length % 4 = 0) (hS : S.length ≤ 90) (hb : Below w0.heap.size w0 wr) (b1 : B0 ≤ B) (b2 : B0 ≤ bk) (b3 : B0 ≤ w0.heap.size) (b4 : B ≤ w0.heap.size) :
    Calls Try.prog 31 #[.pointer (some ⟨bk, 0, none⟩), .slice none 0 0] wr fun r w' =>
      r = .returned (.tuple #[]) ∧ ∃ v' S', BookAt w' B bk v' S' ∧ S'.length = S.length + 4 ∧ Below B0 wr w' ∧ (∀ q, q < w0.heap.size → q ≠ bk → v.ownBlock ≠ some q → w'.heap[q]? = w0.heap[q]?) ∧ wr.heap.size ≤ w'.heap.size :=
  keep_nil_at B0 B bk 0 v S w0 wr rfl hB h4 hS hb b1 b2 b3 b4
end Go.Proofs.Ytgaoeoijdpdjiaa
