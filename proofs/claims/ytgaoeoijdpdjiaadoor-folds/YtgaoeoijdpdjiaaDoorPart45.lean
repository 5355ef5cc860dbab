/-
  The program's IsLeaf, IsTree, IsChain. The statement's own whole: the list that was lent is as it was, its room too.
-/
import Derived.Test.YtgaoeoijdpdjiaaDoorPart43
import Derived.Test.YtgaoeoijdpdjiaaDoorPart20
namespace Go.Proofs.YtgaoeoijdpdjiaaDoor
open Go.RowKit

set_option maxRecDepth 20000 in
set_option maxHeartbeats 2000000 in
theorem isLeaf_any (k b x : Int) (t l : Nat) (p0 p1 p2 p3 : Int) (w : World) (h1 : 1 ≤ t) (h2 : t ≤ 4) (h4 : l ≤ 3) :
    Calls Tryd.prog 59 #[.agg #[.int .i64 k, .int .i64 b, .int .i64 x, .int .i64 t, .int .i64 l], .agg #[.int .i64 p0, .int .i64 p1, .int .i64 p2, .int .i64 p3]] w fun e w' => e = .returned (.bool (leafB t l p0 p1 p2 && p3 == 0)) ∧ Below w.heap.size w w' := by
  have HL := hide (isLeafOf_any k b x t l p0 p1 p2 p3 ((w.alloc (.cells #[.int .i64 k, .int .i64 b, .int .i64 x, .int .i64 t, .int .i64 l] 25)).alloc (.cells #[.int .i64 p0, .int .i64 p1, .int .i64 p2, .int .i64 p3] 27)) h1 h2 h4)
  generalize leafB t l p0 p1 p2 = r at HL ⊢
  cases r with
  | false =>
    go_enter Tryd.func59, Tryd.ntmps59
    go_wp2_with fail
    refine HL.out.mono ?_
    rintro e w1 ⟨rfl, hb1⟩
    have HB1 := hide ((((Below.refl w.heap.size w).alloc (Nat.le_refl _) _).alloc (by simp) _).trans (hb1.mono (by simp; omega)))
    clear hb1
    go_wp2
    go_ret
    exact ⟨rfl, HB1.out⟩
  | true =>
    generalize hr : (p3 == 0) = r
    go_enter Tryd.func59, Tryd.ntmps59
    go_wp2_with fail
    refine HL.out.mono ?_
    rintro e w1 ⟨rfl, hb1⟩
    have d3 : w1.cell? ⟨w.heap.size + 1, 3, none⟩ = some (.int .i64 p3) := (hb1.cell (p := ⟨w.heap.size + 1, 3, none⟩) (by simp)).trans (by simp [go_sem])
    have HB1 := hide ((((Below.refl w.heap.size w).alloc (Nat.le_refl _) _).alloc (by simp) _).trans (hb1.mono (by simp; omega)))
    clear hb1
    go_wp2
    go_ret
    exact ⟨by simp, HB1.out⟩

/-- Is it the place of a chain? -/
def chainB (t l ch : Nat) (p0 p1 p2 p3 : Int) : Bool := leafB t l p0 p1 p2 && decide (0 ≤ p3 ∧ p3 < (ch : Int))

set_option maxRecDepth 20000 in
set_option maxHeartbeats 2000000 in
theorem isChain_any (k b x a0 a1 a3 a4 a5 : Int) (t l ch : Nat) (p0 p1 p2 p3 : Int) (w : World) (h1 : 1 ≤ t) (h2 : t ≤ 4) (h4 : l ≤ 3)
    (hM : ∀ V : World, Calls Tryd.prog 57 #[.agg #[.int .i64 k, .int .i64 b, .int .i64 x, .int .i64 t, .int .i64 l]] V fun r w' => r = .returned (.tuple #[.agg #[.int .i64 a0, .int .i64 a1, .int .i64 ch, .int .i64 a3, .int .i64 a4, .int .i64 a5], .int .i64 0]) ∧ Below V.heap.size V w') :
    Calls Tryd.prog 69 #[.agg #[.int .i64 k, .int .i64 b, .int .i64 x, .int .i64 t, .int .i64 l], .agg #[.int .i64 p0, .int .i64 p1, .int .i64 p2, .int .i64 p3]] w fun e w' => e = .returned (.bool (chainB t l ch p0 p1 p2 p3)) ∧ Below w.heap.size w w' := by
  unfold chainB
  obtain ⟨W0, hW⟩ : ∃ W0, (w.alloc (.cells #[.int .i64 k, .int .i64 b, .int .i64 x, .int .i64 t, .int .i64 l] 25)).alloc (.cells #[.int .i64 p0, .int .i64 p1, .int .i64 p2, .int .i64 p3] 27) = W0 := ⟨_, rfl⟩
  have HF := hide (show FiveC w.heap.size W0 k b x t l by subst hW; refine ⟨?_, ?_, ?_, ?_, ?_⟩ <;> simp [go_sem])
  have HP := hide (show FourC (w.heap.size + 1) W0 p0 p1 p2 p3 by subst hW; refine ⟨?_, ?_, ?_, ?_⟩ <;> simp [go_sem])
  have HB := hide (show Below w.heap.size w W0 by subst hW; exact ((Below.refl _ _).alloc (Nat.le_refl _) _).alloc (by simp) _)
  have hz : W0.heap.size ≤ w.heap.size + 2 := by subst hW; simp
  have hz' : w.heap.size + 2 ≤ W0.heap.size := by subst hW; simp
  have HM := hide hM
  have HL := hide (fun V : World => isLeafOf_any k b x t l p0 p1 p2 p3 V h1 h2 h4)
  have HW := hide (fun V : World => within_any p3 ch V)
  generalize decide (0 ≤ p3 ∧ p3 < (ch : Int)) = rc at HW ⊢
  generalize leafB t l p0 p1 p2 = r at HL ⊢
  clear hM
  obtain ⟨c0, c1, c2, c3, c4⟩ := HF.out
  cases r
  all_goals
    go_enter Tryd.func69, Tryd.ntmps69
    go_wp2_with fail
    try rw [hW]
    refine (HM.out _).mono ?_
    rintro e w1 ⟨rfl, hb1⟩
    have HB1 := hide (hb1.alloc hb1.size (.cells #[.int .i64 a0, .int .i64 a1, .int .i64 ch, .int .i64 a3, .int .i64 a4, .int .i64 a5] 68))
    have hzz := hb1.size
    clear hb1 c0 c1 c2 c3 c4 hW
    obtain ⟨c0, c1, c2, c3, c4⟩ := HF.out.below HB1.out (by omega)
    obtain ⟨d0, d1, d2, d3⟩ := HP.out.below HB1.out (by omega)
    go_wp2_with fail
    refine (HL.out _).mono ?_
    rintro e w2 ⟨rfl, hb2⟩
    have HB2 := hide (heldB HB1.out hb2 (Nat.le_refl _))
    have z2 : w2.cell? ⟨w1.heap.size, 2, none⟩ = some (.int .i64 ch) := (hb2.cell (p := ⟨w1.heap.size, 2, none⟩) (by simp)).trans (by simp [go_sem])
    clear hb2 c0 c1 c2 c3 c4 d0 d1 d2 d3
    obtain ⟨d0, d1, d2, d3⟩ := HP.out.below HB2.out (by omega)
    go_wp2_with (go_at_call 93; refine (HW.out _).mono ?_; rintro e w3 ⟨rfl, rfl⟩)
    go_ret
    exact ⟨rfl, HB.out.trans (HB2.out.mono (by omega))⟩
end Go.Proofs.YtgaoeoijdpdjiaaDoor

namespace Go.Proofs.YtgaoeoijdpdjiaaDoor
open Go.RowKit

set_option maxRecDepth 20000 in
set_option maxHeartbeats 2000000 in
theorem whole_some (g bk o c : Nat) (xs : List ByteArray) (w : World) (hcells : ∀ (j : Nat) y, xs[j]? = some y → w.cell? ⟨bk, o + j, none⟩ = some (.string y)) (hbk : bk < g) (hN : xs.length ≤ 8796093022208) (hr0 : Blk w g (mixL (xs.length + 5) (fun _ => spoiltS) (lentV xs) 0) 9) :
    Calls Tryd.prog 26 #[.slice (some ⟨g, 0, none⟩) xs.length (xs.length + 5), .slice (some ⟨bk, o, none⟩) xs.length c] w fun e w' => e = .returned (.bool true) ∧ Below g w w' := by
  have HC := hide (fun (V : World) (h : Below g w V) (j : Nat) (y : ByteArray) (hj : xs[j]? = some y) => (h.cell (p := ⟨bk, o + j, none⟩) hbk).trans (hcells j y hj))
  have HR0 := hide hr0
  have HSET := hide (fun m => mixL_set (xs.length + 5) (fun _ => spoiltS) (lentV xs) m)
  have HAT := hide (fun m h => mixL_at (xs.length + 5) (fun _ => spoiltS) (lentV xs) m h)
  have HLV := hide (fun m (h : xs.length ≤ m) => (show lentV xs m = beyondS by unfold lentV; rw [if_neg (by omega)]))
  have HLX := hide (fun m y (h : xs[m]? = some y) => (show lentV xs m = y by
    have hl : m < xs.length := (List.getElem?_eq_some_iff.1 h).1
    unfold lentV
    rw [if_pos hl, List.getD_eq_getElem?_getD, h]; rfl))
  clear hcells hr0
  have heq := fun V : World => Lib.run_eql_slice_nil (P := Tryd.prog) V 28 9 (some ⟨bk, o, none⟩) xs.length c 0 0 Tryd.underlying28
  go_enter Tryd.func26, Tryd.ntmps26
  go_wp2_with fail
  go_loopw [7, 8] (fun ok i wr => ∃ m : Nat, m ≤ xs.length + 5 ∧ ok = .bool true ∧ i = .int .i64 m ∧ Hid (Blk wr g (mixL (xs.length + 5) (fun _ => spoiltS) (lentV xs) m) 9) ∧ Hid (Below g w wr)) (fun _ i _ => xs.length + 5 - (intOf i).toNat)
  case atStart => exact ⟨0, Nat.zero_le _, rfl, rfl, HR0.out, Below.refl _ _⟩
  case round =>
    obtain ⟨m, hm, rfl, rfl, hr, hb⟩ := hrel
    by_cases hlt : m < xs.length + 5
    · have hc0 := (hr.out.cell m).trans (HAT.out m hlt)
      have hf := hr.out.free m
      have HST := hide (hr.out.set m (.string spoiltS))
      rw [show (mixL (xs.length + 5) (fun _ => spoiltS) (lentV xs) m).set m (.string spoiltS) = mixL (xs.length + 5) (fun _ => spoiltS) (lentV xs) (m + 1) from HSET.out m] at HST
      have hlt' : (m : Int) < (xs.length : Int) + 5 := by omega
      by_cases hin : m < xs.length
      · obtain ⟨y, hy⟩ : ∃ y, xs[m]? = some y := ⟨_, List.getElem?_eq_getElem hin⟩
        have cx := HC.out wr hb.out m y hy
        have hc : wr.cell? ⟨g, m, none⟩ = some (.string y) := by rw [hc0, HLX.out m y hy]
        clear hy hc0
        go_wp2
        go_roundw
        case rel => exact ⟨m + 1, by omega, rfl, by go_num, HST.out, hb.out.setCell (Nat.le_refl _) _⟩
        case measure => simp [intOf]; omega
      · have hc : wr.cell? ⟨g, m, none⟩ = some (.string ⟨#[98, 101, 121, 111, 110, 100]⟩) := by rw [hc0, HLV.out m (by omega)]; rfl
        clear hc0
        go_wp2
        go_roundw
        case rel => exact ⟨m + 1, by omega, rfl, by go_num, HST.out, hb.out.setCell (Nat.le_refl _) _⟩
        case measure => simp [intOf]; omega
    · obtain rfl : m = xs.length + 5 := by omega
      go_wp2
      go_ret
      exact ⟨rfl, hb.out⟩

set_option maxRecDepth 20000 in
set_option maxHeartbeats 2000000 in
theorem whole_emp (g : Nat) (a : Addr) (c : Nat) (xs : List ByteArray) (w : World) (hX : xs = []) (hr0 : Blk w g (mixL (xs.length + 5) (fun _ => spoiltS) (lentV xs) 0) 9) :
    Calls Tryd.prog 26 #[.slice (some ⟨g, 0, none⟩) xs.length (xs.length + 5), .slice (some a) xs.length c] w fun e w' => e = .returned (.bool true) ∧ Below g w w' := by
  have hN : xs.length ≤ 0 := by rw [hX]; simp
  have HR0 := hide hr0
  have HSET := hide (fun m => mixL_set (xs.length + 5) (fun _ => spoiltS) (lentV xs) m)
  have HAT := hide (fun m h => mixL_at (xs.length + 5) (fun _ => spoiltS) (lentV xs) m h)
  have HLV := hide (fun m (h : xs.length ≤ m) => (show lentV xs m = beyondS by unfold lentV; rw [if_neg (by omega)]))
  clear hX hr0
  have heq := fun V : World => Lib.run_eql_slice_nil (P := Tryd.prog) V 28 9 (some a) xs.length c 0 0 Tryd.underlying28
  go_enter Tryd.func26, Tryd.ntmps26
  go_wp2_with fail
  go_loopw [7, 8] (fun ok i wr => ∃ m : Nat, m ≤ xs.length + 5 ∧ ok = .bool true ∧ i = .int .i64 m ∧ Hid (Blk wr g (mixL (xs.length + 5) (fun _ => spoiltS) (lentV xs) m) 9) ∧ Hid (Below g w wr)) (fun _ i _ => xs.length + 5 - (intOf i).toNat)
  case atStart => exact ⟨0, Nat.zero_le _, rfl, rfl, HR0.out, Below.refl _ _⟩
  case round =>
    obtain ⟨m, hm, rfl, rfl, hr, hb⟩ := hrel
    by_cases hlt : m < xs.length + 5
    · have hc0 := (hr.out.cell m).trans (HAT.out m hlt)
      have hf := hr.out.free m
      have HST := hide (hr.out.set m (.string spoiltS))
      rw [show (mixL (xs.length + 5) (fun _ => spoiltS) (lentV xs) m).set m (.string spoiltS) = mixL (xs.length + 5) (fun _ => spoiltS) (lentV xs) (m + 1) from HSET.out m] at HST
      have hlt' : (m : Int) < (xs.length : Int) + 5 := by omega
      · have hc : wr.cell? ⟨g, m, none⟩ = some (.string ⟨#[98, 101, 121, 111, 110, 100]⟩) := by rw [hc0, HLV.out m (by omega)]; rfl
        clear hc0
        go_wp2
        go_roundw
        case rel => exact ⟨m + 1, by omega, rfl, by go_num, HST.out, hb.out.setCell (Nat.le_refl _) _⟩
        case measure => simp [intOf]; omega
    · obtain rfl : m = xs.length + 5 := by omega
      go_wp2
      go_ret
      exact ⟨rfl, hb.out⟩

set_option maxRecDepth 20000 in
theorem whole_nil (w : World) : Calls Tryd.prog 26 #[.slice none 0 0, .slice none 0 0] w fun e w' => e = .returned (.bool true) ∧ w' = w := by
  have heq := fun V : World => Lib.run_eql_slice_nil (P := Tryd.prog) V 28 9 none 0 0 0 0 Tryd.underlying28
  go_enter Tryd.func26, Tryd.ntmps26
  go_wp2
  go_ret
  exact ⟨rfl, rfl⟩
end Go.Proofs.YtgaoeoijdpdjiaaDoor
