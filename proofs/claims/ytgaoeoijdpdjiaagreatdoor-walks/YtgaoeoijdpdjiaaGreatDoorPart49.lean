/-
  The statement's book: its marks. The statement's own sameTexts and sameNodes, of two rows that hold the same. The statement's keepTexts: the caller writes a mark into a whole list and appends to it three times; the book holds four lists more. The statement's keepNodes: the caller writes a mark into a whole list of nodes and appends to it three times; the book holds four lists more.
-/
import Derived.Test.YtgaoeoijdpdjiaaGreatDoorPart40
import Derived.Test.YtgaoeoijdpdjiaaGreatDoorPart24
import Derived.Test.YtgaoeoijdpdjiaaGreatDoorPart6
import Derived.Test.YtgaoeoijdpdjiaaGreatDoorPart19
import Derived.BigQuiet
import Derived.Deep.QuietTactic
namespace Go.Proofs.YtgaoeoijdpdjiaaGreatDoor
open Go.RowKit
theorem infoSlN : (Tryz.prog.info? 96).map (fun i => (i.zero, i.size, i.bytes)) = some (some (.slice none 0 0), 1, 24) := by kernel_rfl
theorem owns_shape {w : World} {lo : Nat} {e : TypeId} {sz : Nat} {v : Value} {n : Nat} {xs : List Value} (h : w.ownsRow lo e sz v n xs) : ∃ ao cap, v = .slice ao n cap := by
  rcases h.2 with ⟨rfl, rfl⟩ | ⟨g, cap, cur, rfl, -⟩
  · exact ⟨_, _, rfl⟩
  · exact ⟨_, _, rfl⟩
theorem new_cells (w : World) (c : Array Value) (t : TypeId) : ∀ j u, c.toList[j]? = some u → (w.alloc (.cells c t)).cell? ((Addr.mk w.heap.size 0 none).add j) = some u := by
  intro j u hj
  rw [Addr.add_mid, Nat.zero_add]
  exact ((Blk.new w c.toList t).cell j).trans hj
def markS (n : Nat) : ByteArray := ⟨#[109, 97, 114, 107]⟩ ++ numB 8 n
set_option maxRecDepth 20000 in
theorem markTextZ_any (n : Nat) (w : World) (h1 : n ≤ 9223372036854775807) : Calls Tryz.prog 66 #[.int .i64 n] w fun r w' => r = .returned (.string (markS n)) ∧ Below w.heap.size w w' := by
  have HN := hide (refNumber_any 8 n w (by decide) (by omega) (by omega))
  have hcc := sadd ⟨#[109, 97, 114, 107]⟩ (numB 8 n) (by decide) (by rw [numB_size]; omega)
  rw [show (⟨#[109, 97, 114, 107]⟩ : ByteArray) ++ numB 8 n = markS n from rfl] at hcc
  generalize markS n = res at hcc ⊢
  generalize numB 8 (n : Int) = nb at hcc HN
  clear h1
  go_enter Tryz.func66, Tryz.ntmps66
  go_wp2_with fail
  refine HN.out.mono ?_
  rintro r w1 ⟨rfl, hb⟩
  have HB := hide hb
  clear hb HN
  go_wp2
  go_ret
  exact ⟨rfl, HB.out⟩
theorem markIntZ_any (n : Nat) (w : World) (h1 : n ≤ 4611686018427387904) : Calls Tryz.prog 65 #[.int .i64 n] w fun r w' => r = .returned (.int .i64 (-1000 - (n : Int))) ∧ w' = w := by
  go_enter Tryz.func65, Tryz.ntmps65
  go_wp2
  go_ret
  exact ⟨rfl, rfl⟩
set_option maxRecDepth 20000 in
theorem markNode_any (n : Nat) (w : World) (h1 : n ≤ 4611686018427387904) : Calls Tryz.prog 67 #[.int .i64 n] w fun r w' => r = .returned (.agg #[.int .i64 (-1000 - (n : Int)), .int .i64 (-1000 - (n : Int)), .string (markS n)]) ∧ Below w.heap.size w w' := by
  have HI := hide (fun V : World => markIntZ_any n V h1)
  have HT := hide (fun V : World => markTextZ_any n V (by omega))
  obtain ⟨W0, hW⟩ : ∃ W0, w.alloc (.cells #[.int .i64 0, .int .i64 0, .string ⟨#[]⟩] 100) = W0 := ⟨_, rfl⟩
  have HX := hide (show Blk W0 w.heap.size [.int .i64 0, .int .i64 0, .string ⟨#[]⟩] 100 by subst hW; exact Blk.new _ _ _)
  have HB := hide (show Below w.heap.size w W0 by subst hW; exact (Below.refl _ _).alloc (Nat.le_refl _) _)
  generalize markS n = z2 at HT ⊢
  obtain ⟨z1, hz1⟩ : ∃ z1 : Int, -1000 - (n : Int) = z1 := ⟨_, rfl⟩
  rw [hz1] at HI ⊢
  have HWE := hide hW
  clear hW hz1 h1
  go_enter Tryz.func67, Tryz.ntmps67
  go_wp2_with fail
  rw [HWE.out]
  clear HWE
  refine (HI.out _).mono ?_
  rintro e w1 ⟨rfl, hw1⟩
  obtain rfl := hw1.symm
  clear hw1
  go_wp2_with fail
  refine (HI.out _).mono ?_
  rintro e w1 ⟨rfl, hw1⟩
  obtain rfl := hw1.symm
  clear hw1
  go_wp2_with fail
  refine (HT.out _).mono ?_
  rintro e w1 ⟨rfl, hb1⟩
  have HX1 := hide (HX.out.on hb1)
  have HB1 := hide (heldB HB.out hb1 (Nat.le_refl _))
  clear hb1
  have r0 := HX1.out.cell 0
  have r1 := HX1.out.cell 1
  have r2 := HX1.out.cell 2
  have f0 := HX1.out.free 0
  have f1 := HX1.out.free 1
  have f2 := HX1.out.free 2
  simp only [List.getElem?_cons_zero, List.getElem?_cons_succ] at r0 r1 r2
  go_wp2
  refine bodyPost_ret (v := .agg #[.int .i64 z1, .int .i64 z1, .string z2]) (by simp [results, Tryz.results67, go_sem, r0, r1, r2]) rfl ⟨rfl, ?_⟩
  have h := HB1.out
  iterate 3 refine Below.setCell ?_ (by simp <;> omega) _
  exact h
end Go.Proofs.YtgaoeoijdpdjiaaGreatDoor

namespace Go.Proofs.YtgaoeoijdpdjiaaGreatDoor
open Go.RowKit
theorem sameT_zero (a1 a2 : Option Addr) (c1 c2 : Nat) (w : World) : Calls Tryz.prog 112 #[.slice a1 0 c1, .slice a2 0 c2] w fun r w' => r = .returned (.bool true) ∧ Below w.heap.size w w' := by
  go_enter Tryz.func112, Tryz.ntmps112
  go_wp2
  go_rounds 1
  go_wp2
  go_ret
  exact ⟨rfl, Below.refl _ _⟩
theorem sameT_rows (lo lo2 : Nat) (v1 v2 : Value) (n : Nat) (xs : List ByteArray) (w : World) (h1 : w.ownsRow lo 9 1 v1 n (xs.map .string)) (h2 : w.ownsRow lo2 9 1 v2 n (xs.map .string)) (hn : n ≤ 1000) :
    Calls Tryz.prog 112 #[v1, v2] w fun r w' => r = .returned (.bool true) ∧ Below w.heap.size w w' := by
  rcases Nat.eq_zero_or_pos n with h0 | h0
  · subst h0
    obtain ⟨a1, c1, rfl⟩ := owns_shape h1
    obtain ⟨a2, c2, rfl⟩ := owns_shape h2
    exact sameT_zero a1 a2 c1 c2 w
  · obtain ⟨g1, c1, rfl, -, -⟩ := h1.form h0
    obtain ⟨g2, c2, rfl, -, -⟩ := h2.form h0
    have hl : xs.length = n := by have := h1.1; simp at this; exact this
    refine sameT_some g1 g2 n c1 c2 xs w hn hl (fun j y hy => ?_) (fun j y hy => ?_)
    · have hj : j < n := by rw [← hl]; exact (List.getElem?_eq_some_iff.1 hy).1
      rw [h1.cellAt j (by omega), List.getElem?_map, hy]
      rfl
    · have hj : j < n := by rw [← hl]; exact (List.getElem?_eq_some_iff.1 hy).1
      rw [h2.cellAt j (by omega), List.getElem?_map, hy]
      rfl
set_option maxRecDepth 20000 in
theorem sameN_zero (a1 a2 : Option Addr) (c1 c2 : Nat) (w : World) : Calls Tryz.prog 115 #[.slice a1 0 c1, .slice a2 0 c2] w fun r w' => r = .returned (.bool true) ∧ Below w.heap.size w w' := by
  go_enter Tryz.func115, Tryz.ntmps115
  go_wp2
  go_rounds 1
  go_wp2
  go_ret
  exact ⟨rfl, Below.refl _ _⟩
set_option maxRecDepth 20000 in
set_option maxHeartbeats 2000000 in
theorem sameN_some (g1 g2 n c1 c2 : Nat) (ns : List Nd) (w : World) (hn : n ≤ 1000) (hx : ns.length = n) (h1 : ∀ (j : Nat) p, ns[j]? = some p → w.cell? ⟨g1, j * 3, none⟩ = some (.int .i64 (p.1 : Int)) ∧ w.cell? ⟨g1, j * 3 + 1, none⟩ = some (.int .i64 (p.2.1 : Int)) ∧ w.cell? ⟨g1, j * 3 + 2, none⟩ = some (.string p.2.2)) (h2 : ∀ (j : Nat) p, ns[j]? = some p → w.cell? ⟨g2, j * 3, none⟩ = some (.int .i64 (p.1 : Int)) ∧ w.cell? ⟨g2, j * 3 + 1, none⟩ = some (.int .i64 (p.2.1 : Int)) ∧ w.cell? ⟨g2, j * 3 + 2, none⟩ = some (.string p.2.2)) :
    Calls Tryz.prog 115 #[.slice (some ⟨g1, 0, none⟩) n c1, .slice (some ⟨g2, 0, none⟩) n c2] w fun r w' => r = .returned (.bool true) ∧ Below w.heap.size w w' := by
  have H1 := hide h1
  have H2 := hide h2
  have HX := hide hx
  clear h1 h2 hx
  go_enter Tryz.func115, Tryz.ntmps115
  go_wp2
  go_loopw [5] (fun i wr => ∃ j q : Nat, j ≤ n ∧ i = .int .i64 j ∧ Hid (wr = w.drewN q)) (fun i _ => n - (intOf i).toNat)
  case atStart => exact ⟨0, 0, by omega, rfl, rfl⟩
  case round =>
    obtain ⟨j, q, hj, rfl, hw⟩ := hrel
    by_cases hlt : j < n
    · obtain ⟨p, hp⟩ : ∃ p, ns[j]? = some p := ⟨_, List.getElem?_eq_getElem (by rw [HX.out]; exact hlt)⟩
      obtain ⟨a0, a1, a2⟩ := H1.out j p hp
      obtain ⟨b0, b1, b2⟩ := H2.out j p hp
      have d0 : wr.cell? ⟨g1, j * 3, none⟩ = some (.int .i64 (p.1 : Int)) := by rw [hw.out]; exact a0
      have d1 : wr.cell? ⟨g1, j * 3 + 1, none⟩ = some (.int .i64 (p.2.1 : Int)) := by rw [hw.out]; exact a1
      have d2 : wr.cell? ⟨g1, j * 3 + 2, none⟩ = some (.string p.2.2) := by rw [hw.out]; exact a2
      have e0 : wr.cell? ⟨g2, j * 3, none⟩ = some (.int .i64 (p.1 : Int)) := by rw [hw.out]; exact b0
      have e1 : wr.cell? ⟨g2, j * 3 + 1, none⟩ = some (.int .i64 (p.2.1 : Int)) := by rw [hw.out]; exact b1
      have e2 : wr.cell? ⟨g2, j * 3 + 2, none⟩ = some (.string p.2.2) := by rw [hw.out]; exact b2
      generalize p.1 = x0 at *
      generalize p.2.1 = x1 at *
      generalize p.2.2 = x2 at *
      clear hp a0 a1 a2 b0 b1 b2
      have hji : (j : Int) < (n : Int) := by omega
      go_wp2
      go_quiet (fail)
      go_wp2
      go_roundw
      case rel => exact ⟨j + 1, q + _, by omega, by go_num, by show World.drewN wr _ = w.drewN _; rw [hw.out, World.drewN_drewN]⟩
      case measure => simp [intOf]; omega
    · go_wp2
      go_ret
      exact ⟨rfl, by rw [hw.out]; exact below_drewN (Below.refl _ _) _⟩
theorem sameN_rows (lo lo2 : Nat) (v1 v2 : Value) (n : Nat) (ns : List Nd) (w : World) (h1 : w.ownsRow lo 100 3 v1 n (nodC ns)) (h2 : w.ownsRow lo2 100 3 v2 n (nodC ns)) (hn : n ≤ 1000) :
    Calls Tryz.prog 115 #[v1, v2] w fun r w' => r = .returned (.bool true) ∧ Below w.heap.size w w' := by
  have hl : ns.length = n := by have := h1.1; rw [nodC_length] at this; omega
  rcases Nat.eq_zero_or_pos n with h0 | h0
  · obtain ⟨a1, c1, rfl⟩ := owns_shape h1
    obtain ⟨a2, c2, rfl⟩ := owns_shape h2
    rw [h0]
    exact sameN_zero a1 a2 c1 c2 w
  · obtain ⟨g1, c1, rfl, -, -⟩ := h1.form h0
    obtain ⟨g2, c2, rfl, -, -⟩ := h2.form h0
    refine sameN_some g1 g2 n c1 c2 ns w hn hl (fun j p hp => ?_) (fun j p hp => ?_)
    all_goals
      have hj : j < n := by rw [← hl]; exact (List.getElem?_eq_some_iff.1 hp).1
    · exact ⟨by rw [h1.cellAt (j * 3) (by omega)]; exact nodC_get hp 0 (by decide), by rw [h1.cellAt (j * 3 + 1) (by omega)]; exact nodC_get hp 1 (by decide), by rw [h1.cellAt (j * 3 + 2) (by omega)]; exact nodC_get hp 2 (by decide)⟩
    · exact ⟨by rw [h2.cellAt (j * 3) (by omega)]; exact nodC_get hp 0 (by decide), by rw [h2.cellAt (j * 3 + 1) (by omega)]; exact nodC_get hp 1 (by decide), by rw [h2.cellAt (j * 3 + 2) (by omega)]; exact nodC_get hp 2 (by decide)⟩
end Go.Proofs.YtgaoeoijdpdjiaaGreatDoor

namespace Go.Proofs.YtgaoeoijdpdjiaaGreatDoor
open Go.RowKit
set_option maxRecDepth 20000 in
set_option maxHeartbeats 4000000 in
theorem keepT_on (lo Wb : Nat) (C : List Value) (v l : Value) (S : List Value) (n : Nat) (xs : List Value) (w : World) (hW : Blk w Wb C 74) (hC : C[1]? = some v) (hr : w.ownsRow lo 50 1 v S.length S) (hl : w.ownsRow lo 9 1 l n xs) (hS : S.length ≤ 4398046511104) (hn : n ≤ 250) (hlo : lo ≤ w.heap.size) :
    Calls Tryz.prog 113 #[.pointer (some ⟨Wb, 0, none⟩), l] w fun r w' => r = .returned (.tuple #[]) ∧ ∃ v' a1 a2 a3, Blk w' Wb (C.set 1 v') 74 ∧ w'.ownsRow lo 50 1 v' (S.length + 4) (S ++ [l, a1, a2, a3]) ∧ w'.ownsRow lo 9 1 l n (rowM ([.string (markS S.length)]) n) ∧ w'.ownsRow lo 9 1 a1 (n + 1) (rowM ([.string (markS S.length)]) (n + 1)) ∧ w'.ownsRow lo 9 1 a2 (n + 2) (rowM ([.string (markS S.length)]) (n + 2)) ∧ w'.ownsRow lo 9 1 a3 (n + 3) (rowM ([.string (markS S.length)]) (n + 3)) ∧
      Kept (fun q => q = Wb ∨ v.ownBlock = some q ∨ l.ownBlock = some q) w w' ∧ (∀ u, u = a1 ∨ u = a2 ∨ u = a3 → ∀ q, u.ownBlock = some q → l.ownBlock = some q ∨ w.heap.size ≤ q) ∧ ∀ q, v'.ownBlock = some q → v.ownBlock = some q ∨ w.heap.size ≤ q := by
  obtain ⟨i0, hi, hz0, hz1, hz2⟩ := info_parts infoSt
  obtain ⟨i1, hi', hz0', hz1', hz2'⟩ := info_parts infoSlT
  obtain ⟨ao, cap, hv⟩ := owns_shape hr
  obtain ⟨la, lc, hlv⟩ := owns_shape hl
  subst hv
  subst hlv
  have hne : ∀ q, (Value.slice ao S.length cap).ownBlock = some q → q ≠ Wb := fun q hq e => by
    obtain ⟨-, -, us, b1⟩ := row_blkZ hr hq
    subst e
    exact blk_neZ b1 hW (by decide)
  have hnl : ∀ q, (Value.slice la n lc).ownBlock = some q → q ≠ Wb := fun q hq e => by
    obtain ⟨-, -, us, b1⟩ := row_blkZ hl hq
    subst e
    exact blk_neZ b1 hW (by decide)
  have hvl : ∀ q, (Value.slice la n lc).ownBlock = some q → (Value.slice ao S.length cap).ownBlock ≠ some q := fun q hq e => by
    obtain ⟨-, -, us, b1⟩ := row_blkZ hl hq
    obtain ⟨-, -, us2, b2⟩ := row_blkZ hr e
    exact blk_neZ b1 b2 (by decide)
  have HNE := hide hne
  have HNL := hide hnl
  have HVL := hide hvl
  have HW := hide hW
  have HC := hide hC
  have HR := hide hr
  have HL := hide hl
  have HLO := hide hlo
  have HXL := hide hl.1
  have HSL := hide hS
  have cb : w.cell? ⟨Wb, 1, none⟩ = some (.slice ao S.length cap) := (hW.cell 1).trans hC
  obtain ⟨s, hs⟩ : ∃ s, S.length = s := ⟨_, rfl⟩
  have HSS := hide hs
  rw [hs] at cb hS HR HNE HVL ⊢
  have HMT := hide (fun V : World => markTextZ_any s V (by omega))
  clear hW hC hr hl hlo hne hnl hvl hs
  go_enter Tryz.func113, Tryz.ntmps113
  go_wp2_with fail
  refine (HMT.out _).mono ?_
  rintro r w0 ⟨rfl, hb0⟩
  have HBW := hide hb0
  clear hb0 cb
  obtain ⟨z2, hz2z⟩ : ∃ z2, markS s = z2 := ⟨_, rfl⟩
  have HZE := hide hz2z
  rw [hz2z]
  clear hz2z
  obtain ⟨W0, hW0⟩ : ∃ W0, w0 = W0 := ⟨_, rfl⟩
  rw [hW0] at HBW ⊢
  clear hW0
  go_wp2_with fail
  have HLW := hide (owns_kept HL.out (Kept.of_below (F := fun _ => False) HBW.out) (fun _ _ e => e))
  go_loopw [5] (fun i wr => ∃ j : Nat, j ≤ n ∧ i = .int .i64 j ∧ Hid (wr.ownsRow lo 9 1 (.slice la n lc) n (mrkV [.string z2] xs j)) ∧ Hid (Kept (fun q => (Value.slice la n lc).ownBlock = some q) W0 wr)) (fun i _ => n - (intOf i).toNat)
  case atStart => exact ⟨0, by omega, rfl, (by show W0.ownsRow lo 9 1 (.slice la n lc) n (mrkV [.string z2] xs 0); rw [mrkV_zero]; exact HLW.out), Kept.refl _ _⟩
  case round =>
    obtain ⟨j, hj, rfl, hro, hko⟩ := hrel
    by_cases hlt : j < n
    · obtain ⟨g, cc, hg, -, hgl⟩ := hro.out.form (by omega)
      simp only [Value.slice.injEq] at hg
      obtain ⟨rfl, -, rfl⟩ := hg
      obtain ⟨u0, hu0⟩ : ∃ u0, (mrkV [.string z2] xs j)[j]? = some u0 := ⟨_, List.getElem?_eq_getElem (by rw [mrkV_length _ _ _ n HXL.out (by omega)]; simp; omega)⟩
      have c : wr.cell? ⟨g, j, none⟩ = some u0 := by rw [hro.out.cellAt j (by omega)]; exact hu0
      have fz := owns_free hro.out j
      have HS1 := hide (show (wr.setCell ⟨g, j, none⟩ (.string z2)).ownsRow lo 9 1 (.slice (some ⟨g, 0, none⟩) n lc) n (mrkV [.string z2] xs (j + 1)) by
        have h := owns_set hro.out j (.string z2)
        rw [← mrkV_step [.string z2] xs j n HXL.out hlt]
        rw [show j * List.length [Value.string z2] = j from Nat.mul_one j]
        exact h)
      have HK1 := hide (show Kept (fun q => (Value.slice (some ⟨g, 0, none⟩) n lc).ownBlock = some q) W0 (wr.setCell ⟨g, j, none⟩ (.string z2)) from hko.out.setCell (p := ⟨g, j, none⟩) (.inl rfl) _)
      clear hu0 hro hko
      have hji : (j : Int) < (n : Int) := by omega
      go_wp2
      go_roundw
      case rel => exact ⟨j + 1, by omega, by go_num, HS1.out, HK1.out⟩
      case measure => simp [intOf]; omega
    · obtain rfl : j = n := by omega
      have hji : ¬ (j : Int) < (j : Int) := by omega
      have M0 := hide (show wr.ownsRow lo 9 1 (.slice la j lc) j (rowM [.string z2] j) by
        have h := hro.out
        rw [mrkV_end _ _ j HXL.out] at h
        exact h)
      have K0 := hide (show Kept (fun q => (Value.slice la j lc).ownBlock = some q) w wr from (Kept.of_below HBW.out).trans hko.out (fun q e => .inl e))
      clear hro hko hlt
      have hlo1 : lo ≤ wr.heap.size := Nat.le_trans HLO.out K0.out.size
      have HLL1 := hide hlo1
      clear hlo1
      have ML1 := hide (M0.out.alloc (.cells #[.string z2] 9))
      go_wp2_with (at_builtin; refine wpList_mark _ rfl (.tmp 25) (.tmp 27) 50 rfl lo 9 i0 (.string ⟨#[]⟩) 1 16 Tryz.underlying50 hi hz0 hz1 hz2 rfl (by decide) [.string z2] rfl (fun u hu => by simp at hu; subst hu; rfl) (.slice la j lc) j 1 1 rfl ML1.out ⟨wr.heap.size, 0, none⟩ rfl (fun q u hq => new_cells _ #[.string z2] _ q u hq) (by decide) (by unfold maxLen; omega) (by omega) (by have := HLL1.out; rw [World.size_alloc]; omega) ?_)
      intro g1 cap1 w1 ho1 hg1 hat1 hkp1
      have AL1 := hide ((Below.refl wr.heap.size wr).alloc (Nat.le_refl _) (.cells #[.string z2] 9))
      have hgs1 : wr.heap.size + 1 ≤ w1.heap.size := by have h := hg1.size; rw [World.size_alloc] at h; exact h
      have KS1 := hide (show Kept (fun q => (Value.slice la j lc).ownBlock = some q) wr w1 from ((Kept.of_below AL1.out).trans (kept_grown hg1) (fun q e => .inl e)))
      have K1 := hide (show Kept (fun q => (Value.slice la j lc).ownBlock = some q) w w1 from K0.out.trans KS1.out (fun q e => .inl e))
      have O1 := hide ho1
      have T1 := hide (show ∀ q, (Value.slice (some ⟨g1, 0, none⟩) (j + 1) cap1).ownBlock = some q → (Value.slice la j lc).ownBlock = some q ∨ w.heap.size ≤ q from fun q hq => by
        have e : g1 = q := by simpa [Value.ownBlock] using hq
        subst e
        rcases hat1 with h | h
        · exact .inl h
        · have := K0.out.size
          exact .inr (by omega))
      have M0 := hide (hkp1 _ _ ML1.out)
      clear ho1 hg1 hat1 hkp1 ML1 AL1 KS1 HLL1
      have HGS1 := hide hgs1
      clear hgs1
      have hlo2 : lo ≤ w1.heap.size := Nat.le_trans HLO.out K1.out.size
      have HLL2 := hide hlo2
      clear hlo2
      have ML2 := hide (M0.out.alloc (.cells #[.string z2, .string z2] 9))
      go_wp2_with (at_builtin; refine wpList_mark _ rfl (.tmp 29) (.tmp 32) 50 rfl lo 9 i0 (.string ⟨#[]⟩) 1 16 Tryz.underlying50 hi hz0 hz1 hz2 rfl (by decide) [.string z2] rfl (fun u hu => by simp at hu; subst hu; rfl) (.slice la j lc) j 2 2 rfl ML2.out ⟨w1.heap.size, 0, none⟩ rfl (fun q u hq => new_cells _ #[.string z2, .string z2] _ q u hq) (by decide) (by unfold maxLen; omega) (by omega) (by have := HLL2.out; rw [World.size_alloc]; omega) ?_)
      intro g2 cap2 w2 ho2 hg2 hat2 hkp2
      have AL2 := hide ((Below.refl w1.heap.size w1).alloc (Nat.le_refl _) (.cells #[.string z2, .string z2] 9))
      have hgs2 : w1.heap.size + 1 ≤ w2.heap.size := by have h := hg2.size; rw [World.size_alloc] at h; exact h
      have KS2 := hide (show Kept (fun q => (Value.slice la j lc).ownBlock = some q) w1 w2 from ((Kept.of_below AL2.out).trans (kept_grown hg2) (fun q e => .inl e)))
      have K2 := hide (show Kept (fun q => (Value.slice la j lc).ownBlock = some q) w w2 from K1.out.trans KS2.out (fun q e => .inl e))
      have O2 := hide ho2
      have T2 := hide (show ∀ q, (Value.slice (some ⟨g2, 0, none⟩) (j + 2) cap2).ownBlock = some q → (Value.slice la j lc).ownBlock = some q ∨ w.heap.size ≤ q from fun q hq => by
        have e : g2 = q := by simpa [Value.ownBlock] using hq
        subst e
        rcases hat2 with h | h
        · exact .inl h
        · have := K1.out.size
          exact .inr (by omega))
      have O1 := hide (hkp2 _ _ (O1.out.alloc _))
      have M0 := hide (hkp2 _ _ ML2.out)
      clear ho2 hg2 hat2 hkp2 ML2 AL2 KS2 HLL2
      have HGS2 := hide hgs2
      clear hgs2
      have hlo3 : lo ≤ w2.heap.size := Nat.le_trans HLO.out K2.out.size
      have HLL3 := hide hlo3
      clear hlo3
      have ML3 := hide (M0.out.alloc (.cells #[.string z2, .string z2, .string z2] 9))
      go_wp2_with (at_builtin; refine wpList_mark _ rfl (.tmp 34) (.tmp 38) 50 rfl lo 9 i0 (.string ⟨#[]⟩) 1 16 Tryz.underlying50 hi hz0 hz1 hz2 rfl (by decide) [.string z2] rfl (fun u hu => by simp at hu; subst hu; rfl) (.slice la j lc) j 3 3 rfl ML3.out ⟨w2.heap.size, 0, none⟩ rfl (fun q u hq => new_cells _ #[.string z2, .string z2, .string z2] _ q u hq) (by decide) (by unfold maxLen; omega) (by omega) (by have := HLL3.out; rw [World.size_alloc]; omega) ?_)
      intro g3 cap3 w3 ho3 hg3 hat3 hkp3
      have AL3 := hide ((Below.refl w2.heap.size w2).alloc (Nat.le_refl _) (.cells #[.string z2, .string z2, .string z2] 9))
      have hgs3 : w2.heap.size + 1 ≤ w3.heap.size := by have h := hg3.size; rw [World.size_alloc] at h; exact h
      have KS3 := hide (show Kept (fun q => (Value.slice la j lc).ownBlock = some q) w2 w3 from ((Kept.of_below AL3.out).trans (kept_grown hg3) (fun q e => .inl e)))
      have K3 := hide (show Kept (fun q => (Value.slice la j lc).ownBlock = some q) w w3 from K2.out.trans KS3.out (fun q e => .inl e))
      have O3 := hide ho3
      have T3 := hide (show ∀ q, (Value.slice (some ⟨g3, 0, none⟩) (j + 3) cap3).ownBlock = some q → (Value.slice la j lc).ownBlock = some q ∨ w.heap.size ≤ q from fun q hq => by
        have e : g3 = q := by simpa [Value.ownBlock] using hq
        subst e
        rcases hat3 with h | h
        · exact .inl h
        · have := K2.out.size
          exact .inr (by omega))
      have O1 := hide (hkp3 _ _ (O1.out.alloc _))
      have O2 := hide (hkp3 _ _ (O2.out.alloc _))
      have M0 := hide (hkp3 _ _ ML3.out)
      clear ho3 hg3 hat3 hkp3 ML3 AL3 KS3 HLL3
      have HGS3 := hide hgs3
      clear hgs3
      have HW3 := hide (blkY HW.out K3.out (fun e => HNL.out _ e rfl))
      have HR3 := hide (show w3.ownsRow lo 50 1 (.slice ao s cap) s S from owns_kept HR.out K3.out (fun q hq e => HVL.out q e hq))
      have cb : w3.cell? ⟨Wb, 1, none⟩ = some (.slice ao s cap) := by rw [HW3.out.cell 1, HC.out, HSS.out]
      have hlo3 := Nat.le_trans HLO.out K3.out.size
      have HL3 := hide hlo3
      clear hlo3
      go_wp2_with (at_builtin; refine wpList_append_lies _ rfl (.tmp 44) (.tmp 49) 66 rfl lo 50 i1 (.slice none 0 0) 1 24 Tryz.underlying66 hi' hz0' hz1' hz2' rfl (by decide) _ _ _ rfl (HR3.out.alloc _) ⟨w3.heap.size, 0, none⟩ 4 4 [.slice la j lc, .slice (some ⟨g1, 0, none⟩) (j + 1) cap1, .slice (some ⟨g2, 0, none⟩) (j + 2) cap2, .slice (some ⟨g3, 0, none⟩) (j + 3) cap3] rfl rfl ?l1 ?l2 (by omega) ?l3 ?l4 ?l5 (w3.heap.size + 1) (by simp) ?_)
      case l1 => exact new_cells _ #[.slice la j lc, .slice (some ⟨g1, 0, none⟩) (j + 1) cap1, .slice (some ⟨g2, 0, none⟩) (j + 2) cap2, .slice (some ⟨g3, 0, none⟩) (j + 3) cap3] _
      case l2 => intro u hu; simp at hu; rcases hu with rfl | rfl | rfl | rfl <;> rfl
      case l3 => unfold maxLen; omega
      case l4 => omega
      case l5 => have := HL3.out; simp; omega
      intro g5 cap5 w5 ho5 hg5 hat hlt5
      have KS := hide (show Kept (fun q => (Value.slice ao s cap).ownBlock = some q) w3 w5 from ((Kept.of_below ((Below.refl w3.heap.size w3).alloc (Nat.le_refl _) (.cells #[.slice la j lc, .slice (some ⟨g1, 0, none⟩) (j + 1) cap1, .slice (some ⟨g2, 0, none⟩) (j + 2) cap2, .slice (some ⟨g3, 0, none⟩) (j + 3) cap3] 50))).trans (kept_grown hg5) (fun q e => .inl e)))
      have HW5 := hide (blkY HW3.out KS.out (fun e => HNE.out _ e rfl))
      have HO5 := hide ho5
      have HAT := hide (show ∀ q, (Value.slice (some ⟨g5, 0, none⟩) (s + 4) cap5).ownBlock = some q → (Value.slice ao s cap).ownBlock = some q ∨ w.heap.size ≤ q from fun q hq => by
        have e : g5 = q := by simpa [Value.ownBlock] using hq
        subst e
        rcases hat with h | h
        · exact .inl h
        · have := K3.out.size
          exact .inr (by omega))
      have HG5 := hide (show g5 ≠ Wb from fun e => by
        rcases HAT.out g5 rfl with h | h
        · exact HNE.out _ h e
        · have := HW.out.lt
          omega)
      clear ho5 hg5 hat hlt5 cb
      have c5 : w5.cell? ⟨Wb, 1, none⟩ = some (.slice ao s cap) := by rw [HW5.out.cell 1, HC.out, HSS.out]
      have f5 := HW5.out.free 1
      have KW := hide (kept_set w5 ⟨Wb, 1, none⟩ (.slice (some ⟨g5, 0, none⟩) (s + 4) cap5))
      have UP := hide (fun (u : Value) (m : Nat) (h : w3.ownsRow lo 9 1 u m (rowM [.string z2] m)) => (by
        have h1 := owns_kept h KS.out (fun q hq e => by
          obtain ⟨-, -, us, b1⟩ := row_blkZ h hq
          obtain ⟨-, -, us2, b2⟩ := row_blkZ HR3.out e
          exact blk_neZ b1 b2 (by decide))
        exact owns_kept h1 KW.out (fun q hq e => by
          obtain ⟨-, -, us, b1⟩ := row_blkZ h1 hq
          have e' : q = Wb := e
          subst e'
          exact blk_neZ b1 HW5.out (by decide)) : (w5.setCell ⟨Wb, 1, none⟩ (.slice (some ⟨g5, 0, none⟩) (s + 4) cap5)).ownsRow lo 9 1 u m (rowM [.string z2] m)))
      go_wp2
      go_end0
      rw [HZE.out]
      refine ⟨rfl, _, HW5.out.set 1 _, _, _, _, ?_, UP.out _ _ M0.out, UP.out _ _ O1.out, UP.out _ _ O2.out, UP.out _ _ O3.out, ?_, ?_, HAT.out⟩
      · exact owns_kept HO5.out KW.out (fun q hq e => by
          have e1 : g5 = q := by simpa [Value.ownBlock] using hq
          exact HG5.out (e1.trans e))
      · refine ((K3.out.mono (fun q _ e => .inr (.inr e))).trans KS.out (fun q e => .inl (.inr (.inl e)))).trans KW.out (fun q e => .inl (.inl e))
      · exact ⟨T1.out, T2.out, T3.out⟩
end Go.Proofs.YtgaoeoijdpdjiaaGreatDoor

namespace Go.Proofs.YtgaoeoijdpdjiaaGreatDoor
open Go.RowKit
set_option maxRecDepth 20000 in
set_option maxHeartbeats 4000000 in
theorem keepN_on (lo Wb : Nat) (C : List Value) (v l : Value) (S : List Value) (n : Nat) (xs : List Value) (w : World) (hW : Blk w Wb C 74) (hC : C[2]? = some v) (hr : w.ownsRow lo 96 1 v S.length S) (hl : w.ownsRow lo 100 3 l n xs) (hS : S.length ≤ 4398046511104) (hn : n ≤ 250) (hlo : lo ≤ w.heap.size) :
    Calls Tryz.prog 116 #[.pointer (some ⟨Wb, 0, none⟩), l] w fun r w' => r = .returned (.tuple #[]) ∧ ∃ v' a1 a2 a3, Blk w' Wb (C.set 2 v') 74 ∧ w'.ownsRow lo 96 1 v' (S.length + 4) (S ++ [l, a1, a2, a3]) ∧ w'.ownsRow lo 100 3 l n (rowM ([.int .i64 (-1000 - ((S.length : Nat) : Int)), .int .i64 (-1000 - ((S.length : Nat) : Int)), .string (markS S.length)]) n) ∧ w'.ownsRow lo 100 3 a1 (n + 1) (rowM ([.int .i64 (-1000 - ((S.length : Nat) : Int)), .int .i64 (-1000 - ((S.length : Nat) : Int)), .string (markS S.length)]) (n + 1)) ∧ w'.ownsRow lo 100 3 a2 (n + 2) (rowM ([.int .i64 (-1000 - ((S.length : Nat) : Int)), .int .i64 (-1000 - ((S.length : Nat) : Int)), .string (markS S.length)]) (n + 2)) ∧ w'.ownsRow lo 100 3 a3 (n + 3) (rowM ([.int .i64 (-1000 - ((S.length : Nat) : Int)), .int .i64 (-1000 - ((S.length : Nat) : Int)), .string (markS S.length)]) (n + 3)) ∧
      Kept (fun q => q = Wb ∨ v.ownBlock = some q ∨ l.ownBlock = some q) w w' ∧ (∀ u, u = a1 ∨ u = a2 ∨ u = a3 → ∀ q, u.ownBlock = some q → l.ownBlock = some q ∨ w.heap.size ≤ q) ∧ ∀ q, v'.ownBlock = some q → v.ownBlock = some q ∨ w.heap.size ≤ q := by
  obtain ⟨i0, hi, hz0, hz1, hz2⟩ := info_parts infoNd
  obtain ⟨i1, hi', hz0', hz1', hz2'⟩ := info_parts infoSlN
  obtain ⟨ao, cap, hv⟩ := owns_shape hr
  obtain ⟨la, lc, hlv⟩ := owns_shape hl
  subst hv
  subst hlv
  have hne : ∀ q, (Value.slice ao S.length cap).ownBlock = some q → q ≠ Wb := fun q hq e => by
    obtain ⟨-, -, us, b1⟩ := row_blkZ hr hq
    subst e
    exact blk_neZ b1 hW (by decide)
  have hnl : ∀ q, (Value.slice la n lc).ownBlock = some q → q ≠ Wb := fun q hq e => by
    obtain ⟨-, -, us, b1⟩ := row_blkZ hl hq
    subst e
    exact blk_neZ b1 hW (by decide)
  have hvl : ∀ q, (Value.slice la n lc).ownBlock = some q → (Value.slice ao S.length cap).ownBlock ≠ some q := fun q hq e => by
    obtain ⟨-, -, us, b1⟩ := row_blkZ hl hq
    obtain ⟨-, -, us2, b2⟩ := row_blkZ hr e
    exact blk_neZ b1 b2 (by decide)
  have HNE := hide hne
  have HNL := hide hnl
  have HVL := hide hvl
  have HW := hide hW
  have HC := hide hC
  have HR := hide hr
  have HL := hide hl
  have HLO := hide hlo
  have HXL := hide hl.1
  have HSL := hide hS
  have cb : w.cell? ⟨Wb, 2, none⟩ = some (.slice ao S.length cap) := (hW.cell 2).trans hC
  obtain ⟨s, hs⟩ : ∃ s, S.length = s := ⟨_, rfl⟩
  have HSS := hide hs
  rw [hs] at cb hS HR HNE HVL ⊢
  have HMT := hide (fun V : World => markNode_any s V (by omega))
  clear hW hC hr hl hlo hne hnl hvl hs
  go_enter Tryz.func116, Tryz.ntmps116
  go_wp2_with fail
  refine (HMT.out _).mono ?_
  rintro r w0 ⟨rfl, hb0⟩
  have HB0 := hide hb0
  clear hb0 cb
  obtain ⟨z1, hz1z⟩ : ∃ z1 : Int, -1000 - (s : Int) = z1 := ⟨_, rfl⟩
  obtain ⟨z2, hz2z⟩ : ∃ z2, markS s = z2 := ⟨_, rfl⟩
  have HZE := hide (And.intro hz1z hz2z)
  rw [hz1z, hz2z]
  clear hz1z hz2z
  obtain ⟨W0, hW0⟩ : ∃ W0, w0.alloc (.cells #[.int .i64 z1, .int .i64 z1, .string z2] 100) = W0 := ⟨_, rfl⟩
  have HBX := hide (show Blk W0 w0.heap.size [.int .i64 z1, .int .i64 z1, .string z2] 100 by subst hW0; exact Blk.new _ _ _)
  have HBW := hide (show Below w.heap.size w W0 by subst hW0; exact HB0.out.alloc HB0.out.size _)
  obtain ⟨bx, hbx⟩ : ∃ bx, w0.heap.size = bx := ⟨_, rfl⟩
  have HBL := hide (show w.heap.size ≤ bx by rw [← hbx]; exact HB0.out.size)
  have HWE := hide hW0
  clear hW0
  go_wp2_with fail
  rw [HWE.out]
  rw [hbx] at HBX
  try rw [hbx]
  clear HWE hbx HB0
  have HLW := hide (owns_kept HL.out (Kept.of_below (F := fun _ => False) HBW.out) (fun _ _ e => e))
  have HBN := hide (show ∀ q, (Value.slice la n lc).ownBlock = some q → q ≠ bx from fun q hq e => by
    have h1 := (row_blkZ HL.out hq).2.1
    have h2 := HBL.out
    omega)
  go_loopw [5] (fun i wr => ∃ j : Nat, j ≤ n ∧ i = .int .i64 j ∧ Hid (wr.ownsRow lo 100 3 (.slice la n lc) n (mrkV [.int .i64 z1, .int .i64 z1, .string z2] xs j)) ∧ Hid (Kept (fun q => (Value.slice la n lc).ownBlock = some q) W0 wr) ∧ Hid (Blk wr bx [.int .i64 z1, .int .i64 z1, .string z2] 100)) (fun i _ => n - (intOf i).toNat)
  case atStart => exact ⟨0, by omega, rfl, (by show W0.ownsRow lo 100 3 (.slice la n lc) n (mrkV [.int .i64 z1, .int .i64 z1, .string z2] xs 0); rw [mrkV_zero]; exact HLW.out), Kept.refl _ _, HBX.out⟩
  case round =>
    obtain ⟨j, hj, rfl, hro, hko, hbx2⟩ := hrel
    by_cases hlt : j < n
    · obtain ⟨g, cc, hg, -, hgl⟩ := hro.out.form (by omega)
      simp only [Value.slice.injEq] at hg
      obtain ⟨rfl, -, rfl⟩ := hg
      have hlen := mrkV_length [.int .i64 z1, .int .i64 z1, .string z2] xs j n HXL.out (by omega)
      have hlen2 : (mrkV [.int .i64 z1, .int .i64 z1, .string z2] xs j).length = n * 3 := hlen
      obtain ⟨u0, hu0⟩ : ∃ u0, (mrkV [.int .i64 z1, .int .i64 z1, .string z2] xs j)[j * 3]? = some u0 := ⟨_, List.getElem?_eq_getElem (by omega)⟩
      obtain ⟨u1, hu1⟩ : ∃ u1, (mrkV [.int .i64 z1, .int .i64 z1, .string z2] xs j)[j * 3 + 1]? = some u1 := ⟨_, List.getElem?_eq_getElem (by omega)⟩
      obtain ⟨u2, hu2⟩ : ∃ u2, (mrkV [.int .i64 z1, .int .i64 z1, .string z2] xs j)[j * 3 + 2]? = some u2 := ⟨_, List.getElem?_eq_getElem (by omega)⟩
      have k0 : wr.cell? ⟨g, j * 3, none⟩ = some u0 := by rw [hro.out.cellAt (j * 3) (by omega)]; exact hu0
      have k1 : wr.cell? ⟨g, j * 3 + 1, none⟩ = some u1 := by rw [hro.out.cellAt (j * 3 + 1) (by omega)]; exact hu1
      have k2 : wr.cell? ⟨g, j * 3 + 2, none⟩ = some u2 := by rw [hro.out.cellAt (j * 3 + 2) (by omega)]; exact hu2
      have f0 := owns_free hro.out (j * 3)
      have f1 := owns_free hro.out (j * 3 + 1)
      have f2 := owns_free hro.out (j * 3 + 2)
      have m0 := hbx2.out.cell 0
      have m1 := hbx2.out.cell 1
      have m2 := hbx2.out.cell 2
      simp only [List.getElem?_cons_zero, List.getElem?_cons_succ] at m0 m1 m2
      obtain ⟨W1, HW1⟩ : ∃ W1, Hid (((wr.setCell ⟨g, j * 3, none⟩ (.int .i64 z1)).setCell ⟨g, j * 3 + 1, none⟩ (.int .i64 z1)).setCell ⟨g, j * 3 + 2, none⟩ (.string z2) = W1) := ⟨_, rfl⟩
      have HS1 := hide (show W1.ownsRow lo 100 3 (.slice (some ⟨g, 0, none⟩) n lc) n (mrkV [.int .i64 z1, .int .i64 z1, .string z2] xs (j + 1)) by
        rw [← HW1.out, ← mrkV_step [.int .i64 z1, .int .i64 z1, .string z2] xs j n HXL.out hlt]
        exact owns_set (owns_set (owns_set hro.out (j * 3) (.int .i64 z1)) (j * 3 + 1) (.int .i64 z1)) (j * 3 + 2) (.string z2))
      have HK1 := hide (show Kept (fun q => (Value.slice (some ⟨g, 0, none⟩) n lc).ownBlock = some q) W0 W1 by
        rw [← HW1.out]
        exact ((hko.out.setCell (p := ⟨g, j * 3, none⟩) (.inl rfl) _).setCell (p := ⟨g, j * 3 + 1, none⟩) (.inl rfl) _).setCell (p := ⟨g, j * 3 + 2, none⟩) (.inl rfl) _)
      have HX1 := hide (show Blk W1 bx [.int .i64 z1, .int .i64 z1, .string z2] 100 by
        rw [← HW1.out]
        have h := HBN.out g rfl
        exact ((hbx2.out.other (a := ⟨g, j * 3, none⟩) _ (Ne.symm h)).other (a := ⟨g, j * 3 + 1, none⟩) _ (Ne.symm h)).other (a := ⟨g, j * 3 + 2, none⟩) _ (Ne.symm h))
      clear hu0 hu1 hu2 hro hko hbx2 hlen hlen2
      have hji : (j : Int) < (n : Int) := by omega
      go_wp2_with fail
      rw [HW1.out]
      go_roundw
      case rel => exact ⟨j + 1, by omega, by go_num, HS1.out, HK1.out, HX1.out⟩
      case measure => simp [intOf]; omega
    · obtain rfl : j = n := by omega
      have hji : ¬ (j : Int) < (j : Int) := by omega
      have M0 := hide (show wr.ownsRow lo 100 3 (.slice la j lc) j (rowM [.int .i64 z1, .int .i64 z1, .string z2] j) by
        have h := hro.out
        rw [mrkV_end _ _ j HXL.out] at h
        exact h)
      have K0 := hide (show Kept (fun q => (Value.slice la j lc).ownBlock = some q) w wr from (Kept.of_below HBW.out).trans hko.out (fun q e => .inl e))
      clear hro hko hlt
      have X0 := hbx2
      clear hbx2
      have m0 := X0.out.cell 0
      have m1 := X0.out.cell 1
      have m2 := X0.out.cell 2
      simp only [List.getElem?_cons_zero, List.getElem?_cons_succ] at m0 m1 m2
      have hlo1 : lo ≤ wr.heap.size := Nat.le_trans HLO.out K0.out.size
      have HLL1 := hide hlo1
      clear hlo1
      have ML1 := hide (M0.out.alloc (.cells #[.int .i64 z1, .int .i64 z1, .string z2] 100))
      go_wp2_with (at_builtin; refine wpList_mark _ rfl (.tmp 25) (.tmp 27) 96 rfl lo 100 i0 (.agg #[.int .i64 0, .int .i64 0, .string ⟨#[]⟩]) 3 32 Tryz.underlying96 hi hz0 hz1 hz2 rfl (by decide) [.int .i64 z1, .int .i64 z1, .string z2] rfl (fun u hu => by simp at hu; rcases hu with rfl | rfl | rfl <;> rfl) (.slice la j lc) j 1 1 rfl ML1.out ⟨wr.heap.size, 0, none⟩ rfl (fun q u hq => new_cells _ #[.int .i64 z1, .int .i64 z1, .string z2] _ q u hq) (by decide) (by unfold maxLen; omega) (by omega) (by have := HLL1.out; rw [World.size_alloc]; omega) ?_)
      intro g1 cap1 w1 ho1 hg1 hat1 hkp1
      have AL1 := hide ((Below.refl wr.heap.size wr).alloc (Nat.le_refl _) (.cells #[.int .i64 z1, .int .i64 z1, .string z2] 100))
      have hgs1 : wr.heap.size + 1 ≤ w1.heap.size := by have h := hg1.size; rw [World.size_alloc] at h; exact h
      have KS1 := hide (show Kept (fun q => (Value.slice la j lc).ownBlock = some q) wr w1 from ((Kept.of_below AL1.out).trans (kept_grown hg1) (fun q e => .inl e)))
      have K1 := hide (show Kept (fun q => (Value.slice la j lc).ownBlock = some q) w w1 from K0.out.trans KS1.out (fun q e => .inl e))
      have O1 := hide ho1
      have T1 := hide (show ∀ q, (Value.slice (some ⟨g1, 0, none⟩) (j + 1) cap1).ownBlock = some q → (Value.slice la j lc).ownBlock = some q ∨ w.heap.size ≤ q from fun q hq => by
        have e : g1 = q := by simpa [Value.ownBlock] using hq
        subst e
        rcases hat1 with h | h
        · exact .inl h
        · have := K0.out.size
          exact .inr (by omega))
      have M0 := hide (hkp1 _ _ ML1.out)
      have X1 := hide (blkY X0.out KS1.out (fun e => HBN.out _ e rfl))
      clear ho1 hg1 hat1 hkp1 ML1 AL1 KS1 HLL1
      have HGS1 := hide hgs1
      clear hgs1
      clear m0 m1 m2
      have m0 := X1.out.cell 0
      have m1 := X1.out.cell 1
      have m2 := X1.out.cell 2
      simp only [List.getElem?_cons_zero, List.getElem?_cons_succ] at m0 m1 m2
      have hlo2 : lo ≤ w1.heap.size := Nat.le_trans HLO.out K1.out.size
      have HLL2 := hide hlo2
      clear hlo2
      have ML2 := hide (M0.out.alloc (.cells #[.int .i64 z1, .int .i64 z1, .string z2, .int .i64 z1, .int .i64 z1, .string z2] 100))
      go_wp2_with (at_builtin; refine wpList_mark _ rfl (.tmp 29) (.tmp 32) 96 rfl lo 100 i0 (.agg #[.int .i64 0, .int .i64 0, .string ⟨#[]⟩]) 3 32 Tryz.underlying96 hi hz0 hz1 hz2 rfl (by decide) [.int .i64 z1, .int .i64 z1, .string z2] rfl (fun u hu => by simp at hu; rcases hu with rfl | rfl | rfl <;> rfl) (.slice la j lc) j 2 2 rfl ML2.out ⟨w1.heap.size, 0, none⟩ rfl (fun q u hq => new_cells _ #[.int .i64 z1, .int .i64 z1, .string z2, .int .i64 z1, .int .i64 z1, .string z2] _ q u hq) (by decide) (by unfold maxLen; omega) (by omega) (by have := HLL2.out; rw [World.size_alloc]; omega) ?_)
      intro g2 cap2 w2 ho2 hg2 hat2 hkp2
      have AL2 := hide ((Below.refl w1.heap.size w1).alloc (Nat.le_refl _) (.cells #[.int .i64 z1, .int .i64 z1, .string z2, .int .i64 z1, .int .i64 z1, .string z2] 100))
      have hgs2 : w1.heap.size + 1 ≤ w2.heap.size := by have h := hg2.size; rw [World.size_alloc] at h; exact h
      have KS2 := hide (show Kept (fun q => (Value.slice la j lc).ownBlock = some q) w1 w2 from ((Kept.of_below AL2.out).trans (kept_grown hg2) (fun q e => .inl e)))
      have K2 := hide (show Kept (fun q => (Value.slice la j lc).ownBlock = some q) w w2 from K1.out.trans KS2.out (fun q e => .inl e))
      have O2 := hide ho2
      have T2 := hide (show ∀ q, (Value.slice (some ⟨g2, 0, none⟩) (j + 2) cap2).ownBlock = some q → (Value.slice la j lc).ownBlock = some q ∨ w.heap.size ≤ q from fun q hq => by
        have e : g2 = q := by simpa [Value.ownBlock] using hq
        subst e
        rcases hat2 with h | h
        · exact .inl h
        · have := K1.out.size
          exact .inr (by omega))
      have O1 := hide (hkp2 _ _ (O1.out.alloc _))
      have M0 := hide (hkp2 _ _ ML2.out)
      have X2 := hide (blkY X1.out KS2.out (fun e => HBN.out _ e rfl))
      clear ho2 hg2 hat2 hkp2 ML2 AL2 KS2 HLL2
      have HGS2 := hide hgs2
      clear hgs2
      clear m0 m1 m2
      have m0 := X2.out.cell 0
      have m1 := X2.out.cell 1
      have m2 := X2.out.cell 2
      simp only [List.getElem?_cons_zero, List.getElem?_cons_succ] at m0 m1 m2
      have hlo3 : lo ≤ w2.heap.size := Nat.le_trans HLO.out K2.out.size
      have HLL3 := hide hlo3
      clear hlo3
      have ML3 := hide (M0.out.alloc (.cells #[.int .i64 z1, .int .i64 z1, .string z2, .int .i64 z1, .int .i64 z1, .string z2, .int .i64 z1, .int .i64 z1, .string z2] 100))
      go_wp2_with (at_builtin; refine wpList_mark _ rfl (.tmp 34) (.tmp 38) 96 rfl lo 100 i0 (.agg #[.int .i64 0, .int .i64 0, .string ⟨#[]⟩]) 3 32 Tryz.underlying96 hi hz0 hz1 hz2 rfl (by decide) [.int .i64 z1, .int .i64 z1, .string z2] rfl (fun u hu => by simp at hu; rcases hu with rfl | rfl | rfl <;> rfl) (.slice la j lc) j 3 3 rfl ML3.out ⟨w2.heap.size, 0, none⟩ rfl (fun q u hq => new_cells _ #[.int .i64 z1, .int .i64 z1, .string z2, .int .i64 z1, .int .i64 z1, .string z2, .int .i64 z1, .int .i64 z1, .string z2] _ q u hq) (by decide) (by unfold maxLen; omega) (by omega) (by have := HLL3.out; rw [World.size_alloc]; omega) ?_)
      intro g3 cap3 w3 ho3 hg3 hat3 hkp3
      have AL3 := hide ((Below.refl w2.heap.size w2).alloc (Nat.le_refl _) (.cells #[.int .i64 z1, .int .i64 z1, .string z2, .int .i64 z1, .int .i64 z1, .string z2, .int .i64 z1, .int .i64 z1, .string z2] 100))
      have hgs3 : w2.heap.size + 1 ≤ w3.heap.size := by have h := hg3.size; rw [World.size_alloc] at h; exact h
      have KS3 := hide (show Kept (fun q => (Value.slice la j lc).ownBlock = some q) w2 w3 from ((Kept.of_below AL3.out).trans (kept_grown hg3) (fun q e => .inl e)))
      have K3 := hide (show Kept (fun q => (Value.slice la j lc).ownBlock = some q) w w3 from K2.out.trans KS3.out (fun q e => .inl e))
      have O3 := hide ho3
      have T3 := hide (show ∀ q, (Value.slice (some ⟨g3, 0, none⟩) (j + 3) cap3).ownBlock = some q → (Value.slice la j lc).ownBlock = some q ∨ w.heap.size ≤ q from fun q hq => by
        have e : g3 = q := by simpa [Value.ownBlock] using hq
        subst e
        rcases hat3 with h | h
        · exact .inl h
        · have := K2.out.size
          exact .inr (by omega))
      have O1 := hide (hkp3 _ _ (O1.out.alloc _))
      have O2 := hide (hkp3 _ _ (O2.out.alloc _))
      have M0 := hide (hkp3 _ _ ML3.out)
      have X3 := hide (blkY X2.out KS3.out (fun e => HBN.out _ e rfl))
      clear ho3 hg3 hat3 hkp3 ML3 AL3 KS3 HLL3
      have HGS3 := hide hgs3
      clear hgs3
      clear m0 m1 m2
      have m0 := X3.out.cell 0
      have m1 := X3.out.cell 1
      have m2 := X3.out.cell 2
      simp only [List.getElem?_cons_zero, List.getElem?_cons_succ] at m0 m1 m2
      clear m0 m1 m2
      have HW3 := hide (blkY HW.out K3.out (fun e => HNL.out _ e rfl))
      have HR3 := hide (show w3.ownsRow lo 96 1 (.slice ao s cap) s S from owns_kept HR.out K3.out (fun q hq e => HVL.out q e hq))
      have cb : w3.cell? ⟨Wb, 2, none⟩ = some (.slice ao s cap) := by rw [HW3.out.cell 2, HC.out, HSS.out]
      have hlo3 := Nat.le_trans HLO.out K3.out.size
      have HL3 := hide hlo3
      clear hlo3
      go_wp2_with (at_builtin; refine wpList_append_lies _ rfl (.tmp 44) (.tmp 49) 67 rfl lo 96 i1 (.slice none 0 0) 1 24 Tryz.underlying67 hi' hz0' hz1' hz2' rfl (by decide) _ _ _ rfl (HR3.out.alloc _) ⟨w3.heap.size, 0, none⟩ 4 4 [.slice la j lc, .slice (some ⟨g1, 0, none⟩) (j + 1) cap1, .slice (some ⟨g2, 0, none⟩) (j + 2) cap2, .slice (some ⟨g3, 0, none⟩) (j + 3) cap3] rfl rfl ?l1 ?l2 (by omega) ?l3 ?l4 ?l5 (w3.heap.size + 1) (by simp) ?_)
      case l1 => exact new_cells _ #[.slice la j lc, .slice (some ⟨g1, 0, none⟩) (j + 1) cap1, .slice (some ⟨g2, 0, none⟩) (j + 2) cap2, .slice (some ⟨g3, 0, none⟩) (j + 3) cap3] _
      case l2 => intro u hu; simp at hu; rcases hu with rfl | rfl | rfl | rfl <;> rfl
      case l3 => unfold maxLen; omega
      case l4 => omega
      case l5 => have := HL3.out; simp; omega
      intro g5 cap5 w5 ho5 hg5 hat hlt5
      have KS := hide (show Kept (fun q => (Value.slice ao s cap).ownBlock = some q) w3 w5 from ((Kept.of_below ((Below.refl w3.heap.size w3).alloc (Nat.le_refl _) (.cells #[.slice la j lc, .slice (some ⟨g1, 0, none⟩) (j + 1) cap1, .slice (some ⟨g2, 0, none⟩) (j + 2) cap2, .slice (some ⟨g3, 0, none⟩) (j + 3) cap3] 96))).trans (kept_grown hg5) (fun q e => .inl e)))
      have HW5 := hide (blkY HW3.out KS.out (fun e => HNE.out _ e rfl))
      have HO5 := hide ho5
      have HAT := hide (show ∀ q, (Value.slice (some ⟨g5, 0, none⟩) (s + 4) cap5).ownBlock = some q → (Value.slice ao s cap).ownBlock = some q ∨ w.heap.size ≤ q from fun q hq => by
        have e : g5 = q := by simpa [Value.ownBlock] using hq
        subst e
        rcases hat with h | h
        · exact .inl h
        · have := K3.out.size
          exact .inr (by omega))
      have HG5 := hide (show g5 ≠ Wb from fun e => by
        rcases HAT.out g5 rfl with h | h
        · exact HNE.out _ h e
        · have := HW.out.lt
          omega)
      clear ho5 hg5 hat hlt5 cb
      have c5 : w5.cell? ⟨Wb, 2, none⟩ = some (.slice ao s cap) := by rw [HW5.out.cell 2, HC.out, HSS.out]
      have f5 := HW5.out.free 2
      have KW := hide (kept_set w5 ⟨Wb, 2, none⟩ (.slice (some ⟨g5, 0, none⟩) (s + 4) cap5))
      have UP := hide (fun (u : Value) (m : Nat) (h : w3.ownsRow lo 100 3 u m (rowM [.int .i64 z1, .int .i64 z1, .string z2] m)) => (by
        have h1 := owns_kept h KS.out (fun q hq e => by
          obtain ⟨-, -, us, b1⟩ := row_blkZ h hq
          obtain ⟨-, -, us2, b2⟩ := row_blkZ HR3.out e
          exact blk_neZ b1 b2 (by decide))
        exact owns_kept h1 KW.out (fun q hq e => by
          obtain ⟨-, -, us, b1⟩ := row_blkZ h1 hq
          have e' : q = Wb := e
          subst e'
          exact blk_neZ b1 HW5.out (by decide)) : (w5.setCell ⟨Wb, 2, none⟩ (.slice (some ⟨g5, 0, none⟩) (s + 4) cap5)).ownsRow lo 100 3 u m (rowM [.int .i64 z1, .int .i64 z1, .string z2] m)))
      go_wp2
      go_end0
      rw [HZE.out.1, HZE.out.2]
      refine ⟨rfl, _, HW5.out.set 2 _, _, _, _, ?_, UP.out _ _ M0.out, UP.out _ _ O1.out, UP.out _ _ O2.out, UP.out _ _ O3.out, ?_, ?_, HAT.out⟩
      · exact owns_kept HO5.out KW.out (fun q hq e => by
          have e1 : g5 = q := by simpa [Value.ownBlock] using hq
          exact HG5.out (e1.trans e))
      · refine ((K3.out.mono (fun q _ e => .inr (.inr e))).trans KS.out (fun q e => .inl (.inr (.inl e)))).trans KW.out (fun q e => .inl (.inl e))
      · exact ⟨T1.out, T2.out, T3.out⟩
end Go.Proofs.YtgaoeoijdpdjiaaGreatDoor
