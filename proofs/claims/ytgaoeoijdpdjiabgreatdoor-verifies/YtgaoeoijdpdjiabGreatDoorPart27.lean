/-
  The statement's keepInts: the caller writes a mark into a whole list and appends to it three times; the book holds four lists more. The statement's own sameTexts. The document's own hash, tree, start, join. The fold of a leaf's ends.
-/
import Derived.Test.YtgaoeoijdpdjiabGreatDoorPart26
import Derived.ArgAppend
import Derived.Deep.AppendLies
import Derived.Deep.MidRow
import Derived.BigQuiet
import Derived.Deep.QuietTactic
import Derived.Test.YtgaoeoijdpdjiabGreatDoorPart21
import Derived.Test.YtgaoeoijdpdjiabGreatDoorPart23
import Derived.Test.YtgaoeoijdpdjiabGreatDoorPart22
namespace Go.Proofs.YtgaoeoijdpdjiabGreatDoor
open Go.RowKit

theorem cell_alloc_lt {w : World} {b : Nat} (o : Obj) (i : Nat) (h : b < w.heap.size) : (w.alloc o).cell? ⟨b, i, none⟩ = w.cell? ⟨b, i, none⟩ := World.cell?_alloc_past _ _ _ h
theorem infoSlice : (Tryz.prog.info? 56).map (fun i => (i.zero, i.size, i.bytes)) = some (some (.slice none 0 0), 1, 24) := by kernel_rfl

/-- The row of marks as the loop makes it. -/
def marksTo (L : List Int) (z : Int) (j : Nat) : List Int := List.replicate j z ++ L.drop j

theorem marksTo_step (L : List Int) (z : Int) (j : Nat) (h : j < L.length) : (marksTo L z j).set j z = marksTo L z (j + 1) := by
  unfold marksTo
  rw [List.set_append_right _ _ (by simp), List.length_replicate, Nat.sub_self, List.drop_eq_getElem_cons h, List.set_cons_zero, List.replicate_succ', List.append_assoc]
  rfl
theorem marksTo_length (L : List Int) (z : Int) (j : Nat) (h : j ≤ L.length) : (marksTo L z j).length = L.length := by
  simp [marksTo]; omega
theorem marksTo_end (L : List Int) (z : Int) : marksTo L z L.length = List.replicate L.length z := by
  simp [marksTo]

set_option maxHeartbeats 1000000 in
theorem keep_row (B0 B bk g n : Nat) (v : Value) (S : List Value) (L : List Int) (w0 w : World) (hB : BookAt w0 B bk v S) (h4 : S.length % 4 = 0) (hS : S.length ≤ 90) (hb : Below w0.heap.size w0 w) (hg : w0.heap.size ≤ g) (hr : RowZ w g L) (hL : L.length = n) (hn : 0 < n) (hn2 : n ≤ 90) (b1 : B0 ≤ B) (b2 : B0 ≤ bk) (b3 : B0 ≤ w0.heap.size) (b4 : B ≤ w0.heap.size) :
    Calls Tryz.prog 193 #[.pointer (some ⟨bk, 0, none⟩), .slice (some ⟨g, 0, none⟩) n n] w fun r w' =>
      r = .returned (.tuple #[]) ∧ ∃ v' S', BookAt w' B bk v' S' ∧ S'.length = S.length + 4 ∧ Below B0 w w' ∧ (∀ q, q < w0.heap.size → q ≠ bk → v.ownBlock ≠ some q → w'.heap[q]? = w0.heap[q]?) ∧ w.heap.size ≤ w'.heap.size := by
  obtain ⟨ao, cap, hv, hao⟩ := owns_form hB.row
  subst hv
  have HB := hideM hB
  have HBL := hideM hb
  have HR := hideM hr
  have HL := hideM hL
  have HAO := hideM hao
  have cb : w.cell? ⟨bk, 0, none⟩ = some (.slice ao S.length cap) := by
    have := (hB.below hb).blk
    simp [World.cell?, this]
  have hSZ : w0.heap.size ≤ w.heap.size := hb.size
  clear hB hb hr hL hao
  obtain ⟨i0, hi, hz0, hz1, hz2⟩ := info_parts infoInt
  obtain ⟨i1, hi', hz0', hz1', hz2'⟩ := info_parts infoSlice
  go_enter Tryz.func193, Tryz.ntmps193
  go_wp2_with fail
  refine (mark_any _ _ (by omega) (by omega)).mono ?_
  rintro r w1 ⟨rfl, rfl⟩
  generalize hz : (-1000 - (S.length : Int)) = z
  have HZ := hideM hz
  clear hz
  go_wp2
  go_loopw [5] (fun i wr => ∃ j : Nat, j ≤ n ∧ i = .int .i64 j ∧ Hid (RowZ wr g (marksTo L z j)) ∧ Hid (OnlyM g w1 wr)) (fun i _ => n - (intOf i).toNat)
  case atStart => exact ⟨0, by omega, rfl, by unfold Hid marksTo; simpa using HR.out, OnlyM.refl _ _⟩
  case round =>
    obtain ⟨j, hj, rfl, hr, ho⟩ := hrel
    by_cases hlt : j < n
    · have c := hr.out.cell (i := j) (by rw [marksTo_length _ _ _ (by have := HL.out; omega), HL.out]; exact hlt)
      have fz := hr.out.free j
      go_wp2
      go_roundw
      case rel => exact ⟨j + 1, by omega, by go_num, by have h := hr.out.set j z; rw [marksTo_step _ _ _ (by have := HL.out; omega)] at h; exact h, ho.out.setCell _ _⟩
      case measure => simp [intOf]; omega
    · obtain rfl : j = n := by omega
      have hrow : RowZ wr g (List.replicate j z) := by have h := hr.out; rw [← HL.out, marksTo_end, HL.out] at h; exact h
      --TAIL
      have HBW := hideM (OnlyM.below HBL.out ho.out hg : Below w0.heap.size w0 wr)
      have HO0 := hideM (OnlyM.below (Below.refl B0 _) ho.out (by omega) : Below B0 w1 wr)
      have HRW := hideM hrow
      have ZW : w0.heap.size ≤ wr.heap.size := HBW.out.size
      have HCW := hideM (show ∀ q u, (List.replicate j (Value.int .i64 z))[q]? = some u → wr.cell? ⟨g, q, none⟩ = some u by
        intro q u hq
        have hqj : q < j := by have := (List.getElem?_eq_some_iff.1 hq).1; simpa using this
        rw [hrow.cell (by simpa using hqj)]
        simp [hqj] at hq ⊢
        exact hq)
      have HMK := hideM (marked_row hrow (by omega) hn)
      have glt := hrow.lt
      clear hrow hlt hr HR cb ho
      go_wp2_with (at_builtin; refine wpList_append_grows _ rfl (.tmp 25) (.tmp 27) 56 rfl 3 i0 (.int .i64 0) 1 8 Tryz.underlying56 hi hz0 hz1 hz2 rfl (by decide) (some ⟨g, 0, none⟩) j j (List.replicate j (.int .i64 z)) rfl ?n1 (by simp) ?o1 ⟨wr.heap.size, 0, none⟩ 1 1 [.int .i64 z] rfl rfl ?p1 ?q1 (by omega) ?r1 ?s1 ?_)
      case n1 => intro h; cases h
      case o1 => intro b hb q u hq; cases hb; rw [Addr.add_mid, Nat.zero_add, cell_alloc_lt _ _ glt]; exact HCW.out q u hq
      case p1 => exact list_new _ #[.int .i64 z] _
      case q1 => intro u hu; simp at hu; subst hu; rfl
      case r1 => unfold maxLen; omega
      case s1 => omega
      intro v1 w2 ho1 hg1
      have Z1 := hg1.size
      simp at Z1
      have K1 := hideM (Below.grown (B := wr.heap.size) ((Below.refl _ wr).alloc (Nat.le_refl _) _) hg1 (by simp) (fun _ h => by cases h) : Below wr.heap.size wr w2)
      have O1 := hideM (show w2.ownsRow 0 3 1 v1 (j + 1) (List.replicate (j + 1) (.int .i64 z)) from ⟨by simp, ho1.2.elim Or.inl (fun ⟨g', c', cur, a1, a2, a3, a4, a5, a6, a7⟩ => Or.inr ⟨g', c', cur, a1, Nat.zero_le _, a3, a4, a5, a6, by rw [a7]; exact List.replicate_succ'.symm⟩)⟩)
      obtain ⟨g1, k1, hv1⟩ := owns_someM O1.out (by omega)
      rw [hv1] at O1 ⊢
      clear hv1 ho1 hg1
      go_wp2_with (at_builtin; refine wpList_append_grows _ rfl (.tmp 29) (.tmp 32) 56 rfl 3 i0 (.int .i64 0) 1 8 Tryz.underlying56 hi hz0 hz1 hz2 rfl (by decide) (some ⟨g, 0, none⟩) j j (List.replicate j (.int .i64 z)) rfl ?n2 (by simp) ?o2 ⟨w2.heap.size, 0, none⟩ 2 2 [.int .i64 z, .int .i64 z] rfl rfl ?p2 ?q2 (by omega) ?r2 ?s2 ?_)
      case n2 => intro h; cases h
      case o2 => intro b hb q u hq; cases hb; rw [Addr.add_mid, Nat.zero_add, cell_alloc_lt _ _ (by omega), K1.out.cell (by exact glt)]; exact HCW.out q u hq
      case p2 => exact list_new _ #[.int .i64 z, .int .i64 z] _
      case q2 => intro u hu; simp at hu; subst hu; rfl
      case r2 => unfold maxLen; omega
      case s2 => omega
      intro v2 w3 ho2 hg2
      have Z2 := hg2.size
      simp at Z2
      have K2 := hideM (Below.grown (B := w2.heap.size) ((Below.refl _ w2).alloc (Nat.le_refl _) _) hg2 (by simp) (fun _ h => by cases h) : Below w2.heap.size w2 w3)
      have O2 := hideM (show w3.ownsRow 0 3 1 v2 (j + 2) (List.replicate (j + 2) (.int .i64 z)) from ⟨by simp, ho2.2.elim Or.inl (fun ⟨g', c', cur, a1, a2, a3, a4, a5, a6, a7⟩ => Or.inr ⟨g', c', cur, a1, Nat.zero_le _, a3, a4, a5, a6, by rw [a7]; simp [List.replicate_succ']⟩)⟩)
      obtain ⟨g2, k2, hv2⟩ := owns_someM O2.out (by omega)
      rw [hv2] at O2 ⊢
      clear hv2 ho2 hg2
      go_wp2_with (at_builtin; refine wpList_append_grows _ rfl (.tmp 34) (.tmp 38) 56 rfl 3 i0 (.int .i64 0) 1 8 Tryz.underlying56 hi hz0 hz1 hz2 rfl (by decide) (some ⟨g, 0, none⟩) j j (List.replicate j (.int .i64 z)) rfl ?n3 (by simp) ?o3 ⟨w3.heap.size, 0, none⟩ 3 3 [.int .i64 z, .int .i64 z, .int .i64 z] rfl rfl ?p3 ?q3 (by omega) ?r3 ?s3 ?_)
      case n3 => intro h; cases h
      case o3 => intro b hb q u hq; cases hb; rw [Addr.add_mid, Nat.zero_add, cell_alloc_lt _ _ (by omega), K2.out.cell (by exact Nat.lt_of_lt_of_le glt (by omega)), K1.out.cell (by exact glt)]; exact HCW.out q u hq
      case p3 => exact list_new _ #[.int .i64 z, .int .i64 z, .int .i64 z] _
      case q3 => intro u hu; simp at hu; subst hu; rfl
      case r3 => unfold maxLen; omega
      case s3 => omega
      intro v3 w4 ho3 hg3
      have Z3 := hg3.size
      simp at Z3
      have K3 := hideM (Below.grown (B := w3.heap.size) ((Below.refl _ w3).alloc (Nat.le_refl _) _) hg3 (by simp) (fun _ h => by cases h) : Below w3.heap.size w3 w4)
      have O3 := hideM (show w4.ownsRow 0 3 1 v3 (j + 3) (List.replicate (j + 3) (.int .i64 z)) from ⟨by simp, ho3.2.elim Or.inl (fun ⟨g', c', cur, a1, a2, a3, a4, a5, a6, a7⟩ => Or.inr ⟨g', c', cur, a1, Nat.zero_le _, a3, a4, a5, a6, by rw [a7]; simp [List.replicate_succ']⟩)⟩)
      obtain ⟨g3, k3, hv3⟩ := owns_someM O3.out (by omega)
      rw [hv3] at O3 ⊢
      clear hv3 ho3 hg3
      have KK := hideM ((K1.out.trans (K2.out.mono (by omega))).trans (K3.out.mono (by omega)) : Below wr.heap.size wr w4)
      have KW := hideM (HBW.out.trans (KK.out.mono (by omega)) : Below w0.heap.size w0 w4)
      have HB4 := hideM (HB.out.below KW.out)
      have M0 := hideM (marked_keep HMK.out (fun q _ hq => KK.out.block q (lt_of_block hq)))
      have M1 := hideM (marked_keep (marked_owns O1.out (by omega)) (fun q _ hq => (K2.out.trans (K3.out.mono (by omega))).block q (lt_of_block hq)))
      have M2 := hideM (marked_keep (marked_owns O2.out (by omega)) (fun q _ hq => K3.out.block q (lt_of_block hq)))
      have M3 := hideM (marked_owns O3.out (by omega))
      have cb : w4.cell? ⟨bk, 0, none⟩ = some (.slice ao S.length cap) := by have := HB4.out.blk; simp [World.cell?, this]
      have hbk4 := lt_of_block HB4.out.blk
      have HBK := hideM hbk4
      clear hbk4
      go_wp2_with (at_builtin; refine wpList_append_lies _ rfl (.tmp 44) (.tmp 49) 31 rfl B 56 i1 (.slice none 0 0) 1 24 Tryz.underlying31 hi' hz0' hz1' hz2' rfl (by decide) _ _ _ rfl (HB4.out.row.alloc _) ⟨w4.heap.size, 0, none⟩ 4 4 [.slice (some ⟨g, 0, none⟩) j j, .slice (some ⟨g1, 0, none⟩) (j + 1) k1, .slice (some ⟨g2, 0, none⟩) (j + 2) k2, .slice (some ⟨g3, 0, none⟩) (j + 3) k3] rfl rfl ?l1 ?l2 (by omega) ?l3 ?l4 ?l5 (w4.heap.size + 1) (by simp) ?_)
      case l1 => exact list_new _ #[.slice (some ⟨g, 0, none⟩) j j, .slice (some ⟨g1, 0, none⟩) (j + 1) k1, .slice (some ⟨g2, 0, none⟩) (j + 2) k2, .slice (some ⟨g3, 0, none⟩) (j + 3) k3] _
      case l2 => intro u hu; simp at hu; rcases hu with rfl | rfl | rfl | rfl <;> rfl
      case l3 => unfold maxLen; omega
      case l4 => omega
      case l5 => have := KW.out.size; simp; omega
      intro g5 cap5 w5 ho5 hg5 hat hlt5
      have HO5 := hideM ho5
      have HG5 := hideM hg5
      have MORE := hideM (BookAt.more HB4.out h4 (by rw [HZ.out]; exact M0.out) (by rw [HZ.out]; exact M1.out) (by rw [HZ.out]; exact M2.out) (by rw [HZ.out]; exact M3.out) _ HO5.out HG5.out (by omega))
      clear ho5 hg5
      have KEEP := hideM (show ∀ q, q < w4.heap.size → (Value.slice ao S.length cap).ownBlock ≠ some q → w5.heap[q]? = w4.heap[q]? from fun q hq hne => by
        rw [HG5.out.block q (by simp; omega) (fun e => hne e.symm)]
        exact Below.heap_alloc _ _ _ hq)
      have OWN := hideM (show ∀ q, (Value.slice ao S.length cap).ownBlock = some q → B ≤ q from fun q hq => (owns_ltM HB4.out.row q hq).1)
      have NBK := hideM (show (Value.slice ao S.length cap).ownBlock ≠ some bk from fun e => by
        rcases HB4.out.row.2 with ⟨h, _⟩ | ⟨gg, cc, cur, h, _, hh, _⟩
        · rw [h] at e; simp [Value.ownBlock] at e
        · rw [h] at e; simp only [Value.ownBlock, Option.some.injEq] at e; subst e; rw [HB4.out.blk] at hh; simp at hh)
      have c5 : w5.cell? ⟨bk, 0, none⟩ = some (.slice ao S.length cap) := by
        have h1 := KEEP.out bk HBK.out NBK.out
        have h2 := HB4.out.blk
        rw [← h1] at h2
        simp [World.cell?, h2]
      have f5 : w5.frozen? ⟨bk, 0, none⟩ = false := by
        have h1 := KEEP.out bk HBK.out NBK.out
        have h2 := HB4.out.blk
        rw [← h1] at h2
        simp [World.frozen?, h2]
      have Z5 := HG5.out.size
      simp at Z5
      clear cb hat
      go_wp2
      go_end0
      refine ⟨rfl, _, _, MORE.out, by simp, ?_, ?_, ?_⟩
      · refine Below.setCell (HO0.out.trans ((KK.out.mono (by omega)).trans ?_)) (by simpa using b2) _
        exact ((Below.refl B0 w4).alloc (by omega) _).grown HG5.out (by simp; omega) (fun q hq => Nat.le_trans b1 (OWN.out q hq))
      · intro q hq hqb hqo
        rw [Below.heap_setCell _ _ _ _ hqb, KEEP.out q (by omega) hqo]
        exact KW.out.block q hq
      · have h0 := HO0.out.size
        have h1 := KK.out.size
        simp only [World.size_setCell]
        omega
end Go.Proofs.YtgaoeoijdpdjiabGreatDoor

namespace Go.Proofs.YtgaoeoijdpdjiabGreatDoor
open Go.RowKit

set_option maxRecDepth 20000 in
set_option maxHeartbeats 400000 in
theorem sameT_nil (w : World) : Calls Tryz.prog 37 #[.slice none 0 0, .slice none 0 0] w fun r w' => r = .returned (.bool true) ∧ Below w.heap.size w w' := by
  go_enter Tryz.func37, Tryz.ntmps37
  go_wp2
  refine wp_loop_rounds 1 ?_
  rw [rounds_succ]
  go_wp2
  go_ret
  exact ⟨rfl, Below.refl _ _⟩

set_option maxRecDepth 20000 in
set_option maxHeartbeats 1000000 in
theorem sameT_some (g1 g2 n c1 c2 : Nat) (xs : List ByteArray) (w : World) (hn : n ≤ 1000) (hx : xs.length = n) (h1 : ∀ (j : Nat) y, xs[j]? = some y → w.cell? ⟨g1, j, none⟩ = some (.string y)) (h2 : ∀ (j : Nat) y, xs[j]? = some y → w.cell? ⟨g2, j, none⟩ = some (.string y)) :
    Calls Tryz.prog 37 #[.slice (some ⟨g1, 0, none⟩) n c1, .slice (some ⟨g2, 0, none⟩) n c2] w fun r w' => r = .returned (.bool true) ∧ Below w.heap.size w w' := by
  have H1 := hide h1
  have H2 := hide h2
  have HX := hide hx
  clear h1 h2 hx
  go_enter Tryz.func37, Tryz.ntmps37
  go_wp2
  go_loopw [5] (fun i wr => ∃ j q : Nat, j ≤ n ∧ i = .int .i64 j ∧ Hid (wr = w.drewN q)) (fun i _ => n - (intOf i).toNat)
  case atStart => exact ⟨0, 0, by omega, rfl, rfl⟩
  case round =>
    obtain ⟨j, q, hj, rfl, hw⟩ := hrel
    by_cases hlt : j < n
    · obtain ⟨y, hy⟩ : ∃ y, xs[j]? = some y := ⟨_, List.getElem?_eq_getElem (by rw [HX.out]; exact hlt)⟩
      have d1 : wr.cell? ⟨g1, j, none⟩ = some (.string y) := by rw [hw.out]; exact H1.out j y hy
      have d2 : wr.cell? ⟨g2, j, none⟩ = some (.string y) := by rw [hw.out]; exact H2.out j y hy
      clear hy
      have hji : (j : Int) < (n : Int) := by omega
      go_wp2
      go_quiet (fail)
      go_wp2
      go_roundw
      case rel => exact ⟨j + 1, q + _, by omega, by go_num, by show World.drewN wr _ = w.drewN _; rw [hw.out, World.drewN_drewN]⟩
      case measure => simp [intOf]; omega
    · go_wp2
      go_ret
      exact ⟨rfl, by rw [hw.out]; exact below_drewN (Below.refl _ _) _⟩
end Go.Proofs.YtgaoeoijdpdjiabGreatDoor

namespace Go.Proofs.YtgaoeoijdpdjiabGreatDoor
open Go.RowKit

theorem refDigested (k : Int) (n : Nat) (s : ByteArray) (w : World) (hk : k = 1 ∨ k = 2) (h1 : 1 ≤ n) (h2 : n ≤ 16) (hs : s.size ≤ 400) :
    Calls Tryz.prog 165 #[.int .i64 k, .int .i64 n, .string s] w fun e w' => e = .returned (.string (hv k n s)) ∧ Below w.heap.size w w' := by
  rcases hk with rfl | rfl
  · refine (digested_32 n s w h1 h2 hs).mono ?_
    rintro e w' ⟨rfl, hb⟩
    refine ⟨?_, hb⟩
    rw [← whole32_cut s n h2]
    unfold hv digAns
    rw [if_pos ⟨by simp, by omega, by omega⟩, if_pos hs, if_pos rfl]
    simp
  · refine (digested_64 n s w h1 h2 hs).mono ?_
    rintro e w' ⟨rfl, hb⟩
    refine ⟨?_, hb⟩
    rw [← whole64_cut s n (by omega)]
    unfold hv digAns
    rw [if_pos ⟨by simp, by omega, by omega⟩, if_pos hs, if_neg (by decide)]
    simp

set_option maxRecDepth 20000 in
set_option maxHeartbeats 2000000 in
theorem rhash_any (k x t l tag : Int) (b : Nat) (s : ByteArray) (w : World) (hk : k = 1 ∨ k = 2) (h1 : 1 ≤ b) (h2 : b ≤ 16) (hs : s.size ≤ 399) (ht : 0 ≤ tag) (ht2 : tag ≤ 100) :
    Calls Tryz.prog 90 #[.agg #[.int .i64 k, .int .i64 b, .int .i64 x, .int .i64 t, .int .i64 l], .int .i64 tag, .string s] w fun e w' => e = .returned (.string (hv k b (numB 1 tag ++ s))) ∧ Below w.heap.size w w' := by
  obtain ⟨W0, hW⟩ : ∃ W0, w.alloc (.cells #[.int .i64 k, .int .i64 b, .int .i64 x, .int .i64 t, .int .i64 l] 26) = W0 := ⟨_, rfl⟩
  have HF := hide (show FiveC w.heap.size W0 k b x t l by subst hW; refine ⟨?_, ?_, ?_, ?_, ?_⟩ <;> simp [go_sem])
  have HB := hide (show Below w.heap.size w W0 by subst hW; exact (Below.refl _ _).alloc (Nat.le_refl _) _)
  have hz : W0.heap.size = w.heap.size + 1 := by subst hW; simp
  have HS := hide (fun (V : World) (h : Below W0.heap.size W0 V) => (by
    obtain ⟨c0, c1, _, _, _⟩ := HF.out.below h (by omega)
    exact ⟨c0, c1, h⟩ : V.cell? ⟨w.heap.size, 0, none⟩ = some (.int .i64 k) ∧ V.cell? ⟨w.heap.size, 1, none⟩ = some (.int .i64 b) ∧ Below W0.heap.size W0 V))
  have HN := hide (fun V : World => refNumber_any 1 tag V (by decide) ht (by omega))
  have HD := hide (fun V : World => refDigested k b (numB 1 tag ++ s) V hk h1 h2 (by rw [ByteArray.size_append, numB_size]; omega))
  have hcc := sadd (numB 1 tag) s (by rw [numB_size]; omega) (by omega)
  go_enter Tryz.func90, Tryz.ntmps90
  go_wp2_with fail
  try rw [hW]
  go_region_held3 (fun V => V.cell? ⟨w.heap.size, 0, none⟩ = some (.int .i64 k) ∧ V.cell? ⟨w.heap.size, 1, none⟩ = some (.int .i64 b) ∧ Below W0.heap.size W0 V) (first | exact HS.out _ hS2 | exact HS.out _ hS1 | exact HS.out _ (Below.refl _ _).drew) (first | (go_at_call 87; refine (HN.out _).mono ?_; rintro e w1 ⟨rfl, hb1⟩; have hS1 := heldB (Below.refl W0.heap.size W0).drew hb1 (Nat.le_refl _)) | (go_at_call 165; refine (HD.out _).mono ?_; rintro e w2 ⟨rfl, hb2⟩; have hS2 := heldB hS1 hb2 (Nat.le_refl _)))
  go_wp2
  go_ret
  exact ⟨rfl, HB.out.trans (hS2.mono (by omega))⟩

set_option maxRecDepth 20000 in
set_option maxHeartbeats 2000000 in
theorem rtree_any (p0 p1 p2 p3 : Int) (w : World) (h0 : 0 ≤ p0) (h0' : p0 ≤ 100000) (h1 : 0 ≤ p1) (h1' : p1 ≤ 100000) :
    Calls Tryz.prog 167 #[.agg #[.int .i64 p0, .int .i64 p1, .int .i64 p2, .int .i64 p3]] w fun e w' => e = .returned (.string (numB 1 p0 ++ numB 4 p1)) ∧ Below w.heap.size w w' := by
  obtain ⟨W0, hW⟩ : ∃ W0, w.alloc (.cells #[.int .i64 p0, .int .i64 p1, .int .i64 p2, .int .i64 p3] 91) = W0 := ⟨_, rfl⟩
  have HF := hide (show FourC w.heap.size W0 p0 p1 p2 p3 by subst hW; refine ⟨?_, ?_, ?_, ?_⟩ <;> simp [go_sem])
  have HB := hide (show Below w.heap.size w W0 by subst hW; exact (Below.refl _ _).alloc (Nat.le_refl _) _)
  have hz : W0.heap.size = w.heap.size + 1 := by subst hW; simp
  have HS := hide (fun (V : World) (h : Below W0.heap.size W0 V) => (by
    obtain ⟨c0, c1, _, _⟩ := HF.out.below h (by omega)
    exact ⟨c0, c1, h⟩ : V.cell? ⟨w.heap.size, 0, none⟩ = some (.int .i64 p0) ∧ V.cell? ⟨w.heap.size, 1, none⟩ = some (.int .i64 p1) ∧ Below W0.heap.size W0 V))
  have HN := hide (fun V : World => refNumber_any 1 p0 V (by decide) h0 (by omega))
  have HN4 := hide (fun V : World => refNumber_any 4 p1 V (by decide) h1 (by omega))
  have hcc := sadd (numB 1 p0) (numB 4 p1) (by rw [numB_size]; omega) (by rw [numB_size]; omega)
  clear h0 h0' h1 h1'
  go_enter Tryz.func167, Tryz.ntmps167
  go_wp2_with fail
  try rw [hW]
  go_region_held3 (fun V => V.cell? ⟨w.heap.size, 0, none⟩ = some (.int .i64 p0) ∧ V.cell? ⟨w.heap.size, 1, none⟩ = some (.int .i64 p1) ∧ Below W0.heap.size W0 V) (first | exact HS.out _ hS2 | exact HS.out _ hS1 | exact HS.out _ (Below.refl _ _).drew) (first | (go_at_call 87; have hx := hS1; clear hx; refine (HN4.out _).mono ?_; rintro e w2 ⟨rfl, hb2⟩; have hS2 := heldB hS1 hb2 (Nat.le_refl _)) | (go_at_call 87; refine (HN.out _).mono ?_; rintro e w1 ⟨rfl, hb1⟩; have hS1 := heldB (Below.refl W0.heap.size W0).drew hb1 (Nat.le_refl _)))
  go_wp2
  go_ret
  exact ⟨rfl, HB.out.trans (hS2.mono (by omega))⟩
end Go.Proofs.YtgaoeoijdpdjiabGreatDoor

namespace Go.Proofs.YtgaoeoijdpdjiabGreatDoor
open Go.RowKit

/-- The document's fold, with as many rounds as are allowed. -/
def foldS (k b : Int) (pub : ByteArray) (p0 p1 p2 : Int) : Nat → Int → List ByteArray → ByteArray
  | 0, _, xs => xs.headD ⟨#[]⟩
  | f + 1, r, xs => if xs.length ≤ 1 then xs.headD ⟨#[]⟩ else foldS k b pub p0 p1 p2 f (r + 1) (roundS k b pub p0 p1 p2 r xs)
theorem foldS_stop (k b : Int) (pub : ByteArray) (p0 p1 p2 : Int) (f : Nat) (r : Int) (xs : List ByteArray) (h : xs.length ≤ 1) : foldS k b pub p0 p1 p2 f r xs = xs.headD ⟨#[]⟩ := by
  cases f with
  | zero => rfl
  | succ f => rw [foldS, if_pos h]
theorem roundS_length (k b : Int) (pub : ByteArray) (p0 p1 p2 r : Int) (xs : List ByteArray) : (roundS k b pub p0 p1 p2 r xs).length = (xs.length + 1) / 2 := by simp [roundS]
theorem roundS_size (k b : Int) (pub : ByteArray) (p0 p1 p2 r : Int) (xs : List ByteArray) (hk : k = 1 ∨ k = 2) (h1 : 1 ≤ b) (h2 : b ≤ 16) (hp : pub.size ≤ 16) (hx : ∀ y ∈ xs, (y.size : Int) = b) : ∀ y ∈ roundS k b pub p0 p1 p2 r xs, (y.size : Int) = b := by
  intro y hy
  simp only [roundS, List.mem_map, List.mem_range] at hy
  obtain ⟨q, hq, rfl⟩ := hy
  have hg : ∀ i, i < xs.length → ((xs.getD i ⟨#[]⟩).size : Int) = b := by
    intro i hi
    rw [List.getD_eq_getElem?_getD, List.getElem?_eq_getElem hi]
    exact hx _ (List.getElem_mem hi)
  unfold pv
  split
  · rename_i h
    have e0 := hg (2 * q) (by omega)
    have e1 := hg (2 * q + 1) h
    exact pairS_size k b pub p0 p1 p2 r _ _ _ hk h1 h2 hp (by omega) (by omega)
  · exact hg (2 * q) (by omega)

theorem owns_strs {V : World} {base : Nat} {v : Value} {ys : List ByteArray} (h : V.ownsRow base 9 1 v ys.length (ys.map Value.string)) (hn : 1 ≤ ys.length) :
    ∃ g c, v = .slice (some ⟨g, 0, none⟩) ys.length c ∧ ys.length ≤ c ∧ base ≤ g ∧ g < V.heap.size ∧ ∀ (j : Nat) y, ys[j]? = some y → V.cell? ⟨g, 0 + j, none⟩ = some (.string y) := by
  rcases h.2 with ⟨_, h0⟩ | ⟨g, cap, cur, hv, hg, hh, hc, hm, hs, ht⟩
  · omega
  · refine ⟨g, cap, hv, hc, hg, lt_of_block hh, ?_⟩
    intro j y hj
    have hjl : j < ys.length := (List.getElem?_eq_some_iff.1 hj).1
    have e : (cur.toList.take (ys.length * 1))[j]? = (ys.map Value.string)[j]? := by rw [ht]
    rw [List.getElem?_take_of_lt (by omega), List.getElem?_map, hj] at e
    simp only [World.cell?, hh]
    simpa using e

set_option maxRecDepth 20000 in
set_option maxHeartbeats 4000000 in
theorem sfold_any (k b x t l : Int) (seed : ByteArray) (p0 p1 p2 p3 : Int) (bk o c : Nat) (xs : List ByteArray) (w : World) (hcells : ∀ (j : Nat) y, xs[j]? = some y → w.cell? ⟨bk, o + j, none⟩ = some (.string y)) (hbk : bk < w.heap.size) (hcap : xs.length ≤ c) (hN : xs.length ≤ 64) (hN1 : 1 ≤ xs.length)
    (hk : k = 1 ∨ k = 2) (h1 : 1 ≤ b) (h2 : b ≤ 16) (hs : seed.size ≤ 16) (hxs : ∀ y ∈ xs, (y.size : Int) = b) (hT : Tn w) :
    Calls Tryz.prog 270 #[.agg #[.int .i64 k, .int .i64 b, .int .i64 x, .int .i64 t, .int .i64 l, .string seed, .int .i64 p0, .int .i64 p1, .int .i64 p2, .int .i64 p3], .slice (some ⟨bk, o, none⟩) xs.length c] w fun e w' => e = .returned (.string (foldS k b seed p0 p1 p2 6 0 xs)) ∧ Below w.heap.size w w' := by
  obtain ⟨W0, hW⟩ : ∃ W0, w.alloc (.cells #[.int .i64 k, .int .i64 b, .int .i64 x, .int .i64 t, .int .i64 l, .string seed, .int .i64 p0, .int .i64 p1, .int .i64 p2, .int .i64 p3] 344) = W0 := ⟨_, rfl⟩
  have HF := hide (show TenC w.heap.size W0 k b x t l seed p0 p1 p2 p3 by subst hW; refine ⟨?_, ?_, ?_, ?_, ?_, ?_, ?_, ?_, ?_, ?_⟩ <;> simp [go_sem])
  have HB := hide (show Below w.heap.size w W0 by subst hW; exact (Below.refl _ _).alloc (Nat.le_refl _) _)
  have hz : W0.heap.size = w.heap.size + 1 := by subst hW; simp
  have HT := hide (hT.on HB.out)
  have HS := hide (fun (V : World) (h : Below W0.heap.size W0 V) => (by
    obtain ⟨c0, c1, c2, c3, c4, c5, c6, c7, c8, c9⟩ := HF.out.below h (by omega)
    exact ⟨c0, c1, c2, c3, c4, c5, c6, c7, c8, c9, h⟩ : V.cell? ⟨w.heap.size, 0, none⟩ = some (.int .i64 k) ∧ V.cell? ⟨w.heap.size, 1, none⟩ = some (.int .i64 b) ∧ V.cell? ⟨w.heap.size, 2, none⟩ = some (.int .i64 x) ∧ V.cell? ⟨w.heap.size, 3, none⟩ = some (.int .i64 t) ∧ V.cell? ⟨w.heap.size, 4, none⟩ = some (.int .i64 l) ∧ V.cell? ⟨w.heap.size, 5, none⟩ = some (.string seed) ∧ V.cell? ⟨w.heap.size, 6, none⟩ = some (.int .i64 p0) ∧ V.cell? ⟨w.heap.size, 7, none⟩ = some (.int .i64 p1) ∧ V.cell? ⟨w.heap.size, 8, none⟩ = some (.int .i64 p2) ∧ V.cell? ⟨w.heap.size, 9, none⟩ = some (.int .i64 p3) ∧ Below W0.heap.size W0 V))
  have HP := hide (fun (r : Int) (bk o c : Nat) (ys : List ByteArray) (V : World) (hb : Below W0.heap.size W0 V) (hc : ∀ (j : Nat) y, ys[j]? = some y → V.cell? ⟨bk, o + j, none⟩ = some (.string y)) (hbk : bk < V.heap.size) (hcap : ys.length ≤ c) (hN : ys.length ≤ 64) (hy : ∀ y ∈ ys, (y.size : Int) = b) => paired_any k b x t l seed p0 p1 p2 p3 r bk o c ys V hc hbk hcap (by omega) hk h1 h2 hs (fun y h => by have := hy y h; omega) (HT.out.on hb))
  have HRS := hide (fun (r : Int) (ys : List ByteArray) (hy : ∀ y ∈ ys, (y.size : Int) = b) => roundS_size k b seed p0 p1 p2 r ys hk h1 h2 hs hy)
  have HC0 := hide (fun (j : Nat) (y : ByteArray) (hj : xs[j]? = some y) => (HB.out.cell (p := ⟨bk, o + j, none⟩) hbk).trans (hcells j y hj))
  have HX := hide hxs
  clear hT hcells hxs
  go_enter Tryz.func270, Tryz.ntmps270
  go_wp2_with fail
  try rw [hW]
  clear hW
  go_loopw [5, 6] (fun v i wr => ∃ (j : Nat) (g q c' : Nat) (ys : List ByteArray), j ≤ 6 ∧ i = .int .i64 j ∧ v = .slice (some ⟨g, q, none⟩) ys.length c' ∧ ys.length ≤ c' ∧ 1 ≤ ys.length ∧ ys.length ≤ 64 ∧ g < wr.heap.size ∧ Hid (ys.length ≤ 2 ^ (6 - j) ∧ foldS k b seed p0 p1 p2 6 0 xs = foldS k b seed p0 p1 p2 (6 - j) j ys) ∧ Hid (∀ y ∈ ys, (y.size : Int) = b) ∧ Hid (∀ (m : Nat) y, ys[m]? = some y → wr.cell? ⟨g, q + m, none⟩ = some (.string y)) ∧ Hid (Below W0.heap.size W0 wr)) (fun _ i _ => 7 - (intOf i).toNat)
  case atStart => exact ⟨0, bk, o, c, xs, by omega, rfl, rfl, hcap, hN1, hN, by omega, ⟨by simpa using hN, rfl⟩, HX.out, HC0.out, Below.refl _ _⟩
  case round =>
    obtain ⟨j, g, q, c', ys, hj, rfl, rfl, hc', hy1, hy64, hg, hfo, hys, hce, hb⟩ := hrel
    by_cases hlt : 1 < ys.length
    · have hj6 : j < 6 := by
        rcases Nat.lt_or_ge j 6 with h | h
        · exact h
        · have := hfo.out.1
          rw [show 6 - j = 0 by omega] at this
          simp at this; omega
      have HPJ := hide (HP.out j g q c' ys wr hb.out hce.out hg hc' hy64 hys.out)
      obtain ⟨d0, d1, d2, d3, d4, d5, d6, d7, d8, d9, _⟩ := HS.out wr hb.out
      go_wp2_with fail
      refine HPJ.out.mono ?_
      rintro e w1 ⟨v, rfl, hrow, hb1⟩
      have hl : (roundS k b seed p0 p1 p2 j ys).length = (ys.length + 1) / 2 := roundS_length _ _ _ _ _ _ _ _
      obtain ⟨g', cap', rfl, hcc, hg1, hg2, hce'⟩ := owns_strs hrow (by omega)
      have HB1 := hide (heldB hb.out hb1 (Nat.le_refl _))
      have HCE := hide hce'
      have HYS := hide (HRS.out j ys hys.out)
      have HFO : Hid ((roundS k b seed p0 p1 p2 j ys).length ≤ 2 ^ (6 - (j + 1)) ∧ foldS k b seed p0 p1 p2 6 0 xs = foldS k b seed p0 p1 p2 (6 - (j + 1)) (j + 1) (roundS k b seed p0 p1 p2 j ys)) := by
        refine ⟨?_, ?_⟩
        · have := hfo.out.1
          rw [show 6 - j = (6 - (j + 1)) + 1 by omega, Nat.pow_succ] at this
          omega
        · rw [hfo.out.2, show 6 - j = (6 - (j + 1)) + 1 by omega, foldS, if_neg (by omega)]
      have hl1 : (roundS k b seed p0 p1 p2 j ys).length ≤ 64 := by omega
      have hl2 : 1 ≤ (roundS k b seed p0 p1 p2 j ys).length := by omega
      clear hl hrow hb1 hce' hfo hys hce HPJ d0 d1 d2 d3 d4 d5 d6 d7 d8 d9
      generalize roundS k b seed p0 p1 p2 j ys = zs at HFO HYS HCE hl1 hl2 hcc ⊢
      go_wp2
      go_roundw
      case rel =>
        have R : ∃ (j' : Nat) (g2 q2 c2 : Nat) (ys : List ByteArray), j' ≤ 6 ∧ Value.int .i64 ((j : Int) + 1) = .int .i64 j' ∧ Value.slice (some ⟨g', 0, none⟩) zs.length cap' = .slice (some ⟨g2, q2, none⟩) ys.length c2 ∧ ys.length ≤ c2 ∧ 1 ≤ ys.length ∧ ys.length ≤ 64 ∧ g2 < w1.heap.size ∧ Hid (ys.length ≤ 2 ^ (6 - j') ∧ foldS k b seed p0 p1 p2 6 0 xs = foldS k b seed p0 p1 p2 (6 - j') j' ys) ∧ Hid (∀ y ∈ ys, (y.size : Int) = b) ∧ Hid (∀ (m : Nat) y, ys[m]? = some y → w1.cell? ⟨g2, q2 + m, none⟩ = some (.string y)) ∧ Hid (Below W0.heap.size W0 w1) :=
          ⟨j + 1, g', 0, cap', zs, by omega, by go_num, rfl, hcc, by omega, by omega, hg2, by have h := HFO.out; exact ⟨h.1, by rw [h.2]; rfl⟩, HYS.out, HCE.out, HB1.out⟩
        first | exact R | ((repeat apply Exists.intro); exact ⟨R, rfl⟩)
      case measure => simp [intOf]; omega
    · have hy0 : ys.length = 1 := by omega
      obtain ⟨y, rfl⟩ : ∃ y, ys = [y] := List.length_eq_one_iff.1 hy0
      have c0 := hce.out 0 y rfl
      have HR := hide (foldS_stop k b seed p0 p1 p2 (6 - j) j [y] (by simp))
      simp only [List.length_cons, List.length_nil, Nat.reduceAdd, Nat.add_zero] at c0 ⊢
      go_wp2
      go_ret
      exact ⟨by rw [hfo.out.2, HR.out]; rfl, HB.out.trans (hb.out.mono (by omega))⟩
end Go.Proofs.YtgaoeoijdpdjiabGreatDoor
