/-
  The walk of the statement Crossed: it answers true at every set and every two texts.
-/
import Derived.Test.YtgaoeoijdpdjiaaKeepDigits
import Derived.Test.YtgaoeoijdpdjiaaSome
namespace Go.Proofs.Ytgaoeoijdpdjiaa
open Go.RowKit

theorem fit_pair (k b x t l : Int) (w : World) (hk : Int64 k) (hb : Int64 b) (hx : Int64 x) (ht : Int64 t) (hl : Int64 l) :
    Calls Try.prog 11 #[.agg #[.int .i64 k, .int .i64 b, .int .i64 x, .int .i64 t, .int .i64 l]] w fun r w' =>
      ∃ (k' t' l' : Int) (b' x' e f : Nat), r = .returned (.agg #[.int .i64 k', .int .i64 b', .int .i64 x', .int .i64 t', .int .i64 l']) ∧ Hid (Pair b' x' e f) ∧ Hid (k' = 1 ∨ k' = 2) ∧ 1 ≤ t' ∧ t' ≤ 4 ∧ 1 ≤ l' ∧ l' ≤ 3 ∧ Below w.heap.size w w' := by
  refine (fit_any k b x t l w hk hb hx ht hl).mono fun r w' ⟨hr, hbl⟩ => ?_
  have p1 := pickZ_bd k 2 (by omega)
  have p2 := pickZ_bd b 2 (by omega)
  have p3 := pickZ_bd x 2 (by omega)
  have p4 := pickZ_bd t 4 (by omega)
  have p5 := pickZ_bd l 3 (by omega)
  have q2 : pickZ b 2 = 0 ∨ pickZ b 2 = 1 := by omega
  have q3 : pickZ x 2 = 0 ∨ pickZ x 2 = 1 := by omega
  subst hr
  rcases q2 with q2 | q2 <;> rcases q3 with q3 | q3 <;> rw [q2, q3]
  · exact ⟨_, _, _, 4, 4, 4, 3, rfl, by unfold Hid Pair; omega, by unfold Hid; omega, by omega, by omega, by omega, by omega, hbl⟩
  · exact ⟨_, _, _, 4, 16, 2, 2, rfl, by unfold Hid Pair; omega, by unfold Hid; omega, by omega, by omega, by omega, by omega, hbl⟩
  · exact ⟨_, _, _, 8, 4, 4, 4, rfl, by unfold Hid Pair; omega, by unfold Hid; omega, by omega, by omega, by omega, by omega, hbl⟩
  · exact ⟨_, _, _, 8, 16, 2, 2, rfl, by unfold Hid Pair; omega, by unfold Hid; omega, by omega, by omega, by omega, by omega, hbl⟩

theorem bytesN_inj (a b : ByteArray) (h : bytesN a = bytesN b) : a = b := by
  have h1 : a.data.toList = b.data.toList := by
    refine List.ext_getElem (by have := congrArg List.length h; simpa [bytesN] using this) fun i h1 h2 => ?_
    have := congrArg (fun l : List Nat => l[i]?) h
    simp only [bytesN, List.getElem?_map, List.getElem?_eq_getElem h1, List.getElem?_eq_getElem h2, Option.map_some, Option.some.injEq] at this
    exact UInt8.toNat_inj.1 this
  have h2 : a.data = b.data := Array.toList_inj.1 h1
  cases a; cases b; simp_all

theorem toList_inj {a b : ByteArray} (h : a.toList = b.toList) : a = b := by
  rw [ByteArray.toList_eq, ByteArray.toList_eq] at h
  exact bytesN_inj a b (by unfold bytesN; rw [h])

theorem pair_crossed (b x e f : Nat) (m1 m2 : ByteArray) (hp : Pair b x e f) (h1 : m1.size = b) (h2 : m2.size = b) :
    gtTo (digitsN x e f (bytesN m1)) (digitsN x e f (bytesN m2)) (b * e + f) = decide (m1 ≠ m2) ∧ gtTo (digitsN x e f (bytesN m2)) (digitsN x e f (bytesN m1)) (b * e + f) = decide (m1 ≠ m2) := by
  have l1 : (bytesN m1).length = b := by rw [bytesN_length, h1]
  have l2 : (bytesN m2).length = b := by rw [bytesN_length, h2]
  have hx : 0 < x := by rcases hp with ⟨rfl, rfl, rfl, rfl⟩ | ⟨rfl, rfl, rfl, rfl⟩ | ⟨rfl, rfl, rfl, rfl⟩ | ⟨rfl, rfl, rfl, rfl⟩ <;> decide
  have hxe : 256 = x ^ e := by rcases hp with ⟨rfl, rfl, rfl, rfl⟩ | ⟨rfl, rfl, rfl, rfl⟩ | ⟨rfl, rfl, rfl, rfl⟩ | ⟨rfl, rfl, rfl, rfl⟩ <;> rfl
  have hbd : b * e * (x - 1) < x ^ f := by rcases hp with ⟨rfl, rfl, rfl, rfl⟩ | ⟨rfl, rfl, rfl, rfl⟩ | ⟨rfl, rfl, rfl, rfl⟩ | ⟨rfl, rfl, rfl, rfl⟩ <;> decide
  have b1 : ∀ c ∈ bytesN m1, c < x ^ e := by rw [← hxe]; exact bytesN_lt m1
  have b2 : ∀ c ∈ bytesN m2, c < x ^ e := by rw [← hxe]; exact bytesN_lt m2
  have e1 := crossed x e f (bytesN m1) (bytesN m2) hx (by rw [l1, l2]) b1 b2 (by rw [l1]; exact hbd)
  have e2 := crossed x e f (bytesN m2) (bytesN m1) hx (by rw [l1, l2]) b2 b1 (by rw [l2]; exact hbd)
  rw [l1] at e1
  rw [l2] at e2
  rw [e1, e2]
  by_cases h : m1 = m2
  · subst h; simp
  · have h' : bytesN m1 ≠ bytesN m2 := fun e => h (bytesN_inj _ _ e)
    simp [h, h', Ne.symm h']

theorem row_at {w : World} {g : Nat} {D : List Nat} (h : RowZ w g (D.map Int.ofNat)) {j : Nat} (hj : j < D.length) : w.cell? ⟨g, j, none⟩ = some (.int .i64 ((at0M D j : Nat) : Int)) := by
  rw [h.cell (by simpa using hj)]
  simp [at0M, List.getElem?_eq_getElem hj]

set_option maxHeartbeats 1000000 in
theorem crossed_any (k b x t l : Int) (s u : ByteArray) (w : World) (hk : Int64 k) (hb : Int64 b) (hx : Int64 x) (ht : Int64 t) (hl : Int64 l) (hs : s.size ≤ maxLen) (hu : u.size ≤ maxLen) :
    Calls Try.prog 4 #[.agg #[.int .i64 k, .int .i64 b, .int .i64 x, .int .i64 t, .int .i64 l], .string s, .string u] w fun r w' => r = .returned (.bool true) ∧ Below w.heap.size w w' := by
  have HF := hideM (fit_pair k b x t l (w.alloc (.cells #[.int .i64 k, .int .i64 b, .int .i64 x, .int .i64 t, .int .i64 l] 23)) hk hb hx ht hl)
  have HS := hideM hs
  have HU := hideM hu
  clear hk hb hx ht hl hs hu
  go_enter Try.func4, Try.ntmps4
  go_wp2_with fail
  refine HF.out.mono ?_
  clear HF
  rintro r w1 ⟨k', t', l', b', x', e, f, rfl, HP, HK, h1, h2, h3, h4, hb1⟩
  have hz1 := hb1.size
  simp at hz1
  have hz2 : w.heap.size < w1.heap.size := by omega
  have c0 : w1.cell? ⟨w.heap.size, 0, none⟩ = some (.int .i64 k) := (hb1.cell (by simp)).trans (by simp [go_sem])
  have c1 : w1.cell? ⟨w.heap.size, 1, none⟩ = some (.int .i64 b) := (hb1.cell (by simp)).trans (by simp [go_sem])
  have c2 : w1.cell? ⟨w.heap.size, 2, none⟩ = some (.int .i64 x) := (hb1.cell (by simp)).trans (by simp [go_sem])
  have c3 : w1.cell? ⟨w.heap.size, 3, none⟩ = some (.int .i64 t) := (hb1.cell (by simp)).trans (by simp [go_sem])
  have c4 : w1.cell? ⟨w.heap.size, 4, none⟩ = some (.int .i64 l) := (hb1.cell (by simp)).trans (by simp [go_sem])
  have f0 : ∀ o, w1.frozen? ⟨w.heap.size, o, none⟩ = false := fun o => (hb1.frozen (by simp)).trans (by simp [go_sem])
  have HB1 := hideM (((Below.refl _ _).alloc (Nat.le_refl _) _).trans (hb1.mono (by simp)) : Below w.heap.size w w1)
  clear hb1
  have hbb : b' = 4 ∨ b' = 8 := by rcases HP.out with ⟨h, _⟩ | ⟨h, _⟩ | ⟨h, _⟩ | ⟨h, _⟩ <;> omega
  have HBB := hideM hbb
  clear hbb
  go_wp2_with fail
  have HF1 := hideM (five_set (show Five w1 w.heap.size k b x t l from ⟨c0, c1, c2, c3, c4⟩) k' b' x' t' l')
  have HB2 := hideM (((((HB1.out.setCell (p := ⟨w.heap.size, 0, none⟩) (by simp) (.int .i64 k')).setCell (p := ⟨w.heap.size, 1, none⟩) (by simp) (.int .i64 b')).setCell (p := ⟨w.heap.size, 2, none⟩) (by simp) (.int .i64 x')).setCell (p := ⟨w.heap.size, 3, none⟩) (by simp) (.int .i64 t')).setCell (p := ⟨w.heap.size, 4, none⟩) (by simp) (.int .i64 l'))
  have hz3 : w.heap.size < (((((w1.setCell ⟨w.heap.size, 0, none⟩ (.int .i64 k')).setCell ⟨w.heap.size, 1, none⟩ (.int .i64 b')).setCell ⟨w.heap.size, 2, none⟩ (.int .i64 x')).setCell ⟨w.heap.size, 3, none⟩ (.int .i64 t')).setCell ⟨w.heap.size, 4, none⟩ (.int .i64 l')).heap.size := by simpa [World.setCell] using hz2
  clear c0 c1 c2 c3 c4 f0 hz1
  generalize (((((w1.setCell ⟨w.heap.size, 0, none⟩ (.int .i64 k')).setCell ⟨w.heap.size, 1, none⟩ (.int .i64 b')).setCell ⟨w.heap.size, 2, none⟩ (.int .i64 x')).setCell ⟨w.heap.size, 3, none⟩ (.int .i64 t')).setCell ⟨w.heap.size, 4, none⟩ (.int .i64 l')) = W at HF1 HB2 hz3 ⊢
  clear HB1 hz2
  refine (some_any s b' W HS.out HBB.out).mono ?_
  rintro r w2 ⟨m1, rfl, hm1, hb2⟩
  have HM1 := hideM hm1
  have HF2 := hideM (five_below HF1.out hb2 hz3)
  have HB3 := hideM (HB2.out.trans (hb2.mono (by omega)))
  have hz4 : w.heap.size < w2.heap.size := by have := hb2.size; omega
  clear hm1 hb2 HF1 HB2 hz3
  obtain ⟨c0, c1, c2, c3, c4⟩ := HF2.out
  go_wp2_with fail
  refine (some_any u b' w2 HU.out HBB.out).mono ?_
  rintro r w3 ⟨m2, rfl, hm2, hb3⟩
  have HM2 := hideM hm2
  have HF3 := hideM (five_below HF2.out hb3 hz4)
  have HB4 := hideM (HB3.out.trans (hb3.mono (by omega)))
  have hz5 : w.heap.size < w3.heap.size := by have := hb3.size; omega
  clear hm2 hb3 HF2 HB3 hz4 c0 c1 c2 c3 c4
  obtain ⟨c0, c1, c2, c3, c4⟩ := HF3.out
  go_wp2_with fail
  refine (keepDigits_any b' x' e f HP.out k' t' l' m1 w3 HK.out h1 h2 h3 h4 HM1.out).mono ?_
  rintro r w4 ⟨g1, rfl, hg1, hr1, hb4⟩
  have HR1 := hideM hr1
  have HF4 := hideM (five_below HF3.out hb4 hz5)
  have HB5 := hideM (HB4.out.trans (hb4.mono (by omega)))
  have hz6 : w.heap.size < w4.heap.size := by have := hb4.size; omega
  clear hr1 hb4 HF3 HB4 hz5 c0 c1 c2 c3 c4
  obtain ⟨c0, c1, c2, c3, c4⟩ := HF4.out
  go_wp2_with fail
  refine (keepDigits_any b' x' e f HP.out k' t' l' m2 w4 HK.out h1 h2 h3 h4 HM2.out).mono ?_
  rintro r w5 ⟨g2, rfl, hg2, hr2, hb5⟩
  have HR2 := hideM hr2
  have HR1' := hideM (HR1.out.below hb5 HR1.out.lt)
  have HB6 := hideM (HB5.out.trans (hb5.mono (by omega)))
  clear hr2 hb5 HF4 HB5 hz6 c0 c1 c2 c3 c4 HR1
  have hn : b' * e + f ≤ 36 := by rcases HP.out with ⟨rfl, rfl, rfl, rfl⟩ | ⟨rfl, rfl, rfl, rfl⟩ | ⟨rfl, rfl, rfl, rfl⟩ | ⟨rfl, rfl, rfl, rfl⟩ <;> decide
  have HX := hideM (pair_crossed b' x' e f m1 m2 HP.out HM1.out HM2.out)
  have HL1 : Hid ((digitsN x' e f (bytesN m1)).length = b' * e + f) := by show (digitsN x' e f (bytesN m1)).length = _; rw [digitsN_length, bytesN_length, HM1.out]
  have HL2 : Hid ((digitsN x' e f (bytesN m2)).length = b' * e + f) := by show (digitsN x' e f (bytesN m2)).length = _; rw [digitsN_length, bytesN_length, HM2.out]
  clear HP HM1 HM2
  generalize digitsN x' e f (bytesN m1) = D1 at HR1' HX HL1
  generalize digitsN x' e f (bytesN m2) = D2 at HR2 HX HL2
  generalize b' * e + f = n at hn HX HL1 HL2 ⊢
  go_wp2
  go_loopw [11, 12, 13] (fun p q i wr => ∃ j : Nat, j ≤ n ∧ i = .int .i64 j ∧ p = .bool (gtTo D1 D2 j) ∧ q = .bool (gtTo D2 D1 j) ∧ Hid (RowZ wr g1 (D1.map Int.ofNat)) ∧ Hid (RowZ wr g2 (D2.map Int.ofNat)) ∧ Hid (Below w.heap.size w wr)) (fun _ _ i _ => n - (intOf i).toNat)
  case atStart => exact ⟨0, by omega, rfl, rfl, rfl, HR1', HR2, HB6⟩
  case round =>
    obtain ⟨j, hj, rfl, rfl, rfl, hr1, hr2, hb⟩ := hrel
    by_cases hlt : j < n
    · have d1 := row_at hr1.out (show j < D1.length by have := HL1.out; omega)
      have d2 := row_at hr2.out (show j < D2.length by have := HL2.out; omega)
      have S1 : Hid (gtTo D1 D2 (j + 1) = (gtTo D1 D2 j || decide (((at0M D2 j : Nat) : Int) < ((at0M D1 j : Nat) : Int)))) := by show gtTo D1 D2 (j + 1) = _; simp [gtTo]
      have S2 : Hid (gtTo D2 D1 (j + 1) = (gtTo D2 D1 j || decide (((at0M D1 j : Nat) : Int) < ((at0M D2 j : Nat) : Int)))) := by show gtTo D2 D1 (j + 1) = _; simp [gtTo]
      generalize at0M D1 j = a1 at d1 S1 S2
      generalize at0M D2 j = a2 at d2 S1 S2
      generalize gtTo D1 D2 j = p at S1 ⊢
      generalize gtTo D2 D1 j = q at S2 ⊢
      cases p <;> cases q
      all_goals
        go_wp2
        go_quiet (fail)
        go_wp2
        go_quiet (fail)
        go_wp2
        go_roundw
        case rel => exact ⟨j + 1, by omega, by go_num, by rw [S1.out]; first | rfl | simp, by rw [S2.out]; first | rfl | simp, hr1.out.drewN _, hr2.out.drewN _, below_drewN hb.out _⟩
        case measure => simp [intOf]; omega
    · obtain rfl : j = n := by omega
      rw [HX.out.1, HX.out.2]
      by_cases hmm : m1 = m2
      · subst hmm
        go_wp2
        go_ret
        exact ⟨rfl, hb.out⟩
      · have hne : (m1.toList == m2.toList) = false := beq_eq_false_iff_ne.2 (fun e => hmm (toList_inj e))
        go_wp2
        go_ret
        exact ⟨rfl, hb.out⟩
end Go.Proofs.Ytgaoeoijdpdjiaa
