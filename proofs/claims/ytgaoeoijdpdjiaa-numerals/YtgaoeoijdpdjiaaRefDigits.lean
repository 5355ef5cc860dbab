/-
  The document's own digits: the list of P6, in new memory.
-/
import Derived.Test.YtgaoeoijdpdjiaaMeasureYesR
import Derived.Test.YtgaoeoijdpdjiaaRefDigitAll
import Derived.Test.YtgaoeoijdpdjiaaFit
namespace Go.Proofs.Ytgaoeoijdpdjiaa
open Go.RowKit

theorem infoInt : (Try.prog.info? 3).map (fun i => (i.zero, i.size, i.bytes)) = some (some (.int .i64 0), 1, 8) := by kernel_rfl

/-- The cells of a list of numbers. -/
def cellsN (D : List Nat) : List Value := D.map (fun d => Value.int .i64 ((d : Nat) : Int))

theorem cellsN_length (D : List Nat) : (cellsN D).length = D.length := by simp [cellsN]
theorem cellsN_snoc (D : List Nat) (d : Nat) : cellsN (D ++ [d]) = cellsN D ++ [.int .i64 ((d : Nat) : Int)] := by simp [cellsN]

theorem take_at (D : List Nat) (i : Nat) (h : i < D.length) : D.take (i + 1) = D.take i ++ [at0M D i] := by
  rw [List.take_succ_eq_append_getElem h]; simp [at0M, h]

theorem owns_lt {w : World} {base : Nat} {e : TypeId} {s : Nat} {v : Value} {n : Nat} {xs : List Value} (h : w.ownsRow base e s v n xs) : ∀ k, v.ownBlock = some k → base ≤ k ∧ k < w.heap.size := by
  intro k hk
  rcases h.2 with ⟨rfl, _⟩ | ⟨g, cap, cur, rfl, hg, hh, _⟩
  · simp [Value.ownBlock] at hk
  · simp only [Value.ownBlock, Option.some.injEq] at hk
    subst hk
    exact ⟨hg, lt_of_block hh⟩

theorem owns_below {w w' : World} {base : Nat} {e : TypeId} {s : Nat} {v : Value} {n : Nat} {xs : List Value} (h : w.ownsRow base e s v n xs) (hb : Below w.heap.size w w') : w'.ownsRow base e s v n xs := by
  obtain ⟨h1, h2⟩ := h
  refine ⟨h1, ?_⟩
  rcases h2 with h2 | ⟨g, cap, cur, hv, hg, hh, r⟩
  · exact Or.inl h2
  · exact Or.inr ⟨g, cap, cur, hv, hg, by rw [hb.block g (lt_of_block hh)]; exact hh, r⟩

theorem one_new (w : World) (v : Value) (t : TypeId) : ∀ j u, [v][j]? = some u → (w.alloc (.cells #[v] t)).cell? ((Addr.mk w.heap.size 0 none).add j) = some u := by
  intro j u hj
  match j, hj with
  | 0, hj => simp at hj; subst hj; simp [Addr.add]

set_option maxHeartbeats 1000000 in
theorem refDigits_list (b x e f : Nat) (hp : Pair b x e f) (k : Int) (t l : Nat) (m : ByteArray) (w : World) (h1 : 1 ≤ t) (h2 : t ≤ 4) (h3 : 1 ≤ l) (h4 : l ≤ 3) (hm : m.size = b) :
    Calls Try.prog 53 #[.agg #[.int .i64 k, .int .i64 b, .int .i64 x, .int .i64 t, .int .i64 l], .string m] w fun r w' =>
      ∃ v, r = .returned v ∧ w'.ownsRow w.heap.size 3 1 v (b * e + f) (cellsN (digitsN x e f (bytesN m))) ∧ Below w.heap.size w w' := by
  have HSZ := hideM (fun w' : World => refSizes_yes b x e f t l hp k w' h1 h2 h3 h4)
  have HDG := hideM (fun (i : Nat) (w' : World) (hi : i < b * e) => refDigit_any b x e f hp k t l i m w' h1 h2 h3 h4 hm hi)
  have hF : (firsts x e (bytesN m)).length = b * e := by rw [firsts_length, bytesN_length, hm]
  have hlt := firsts_lt x e (bytesN m) (show 0 < x by rcases hp with ⟨rfl, rfl, rfl, rfl⟩ | ⟨rfl, rfl, rfl, rfl⟩ | ⟨rfl, rfl, rfl, rfl⟩ | ⟨rfl, rfl, rfl, rfl⟩ <;> decide)
  have hbe : b * e ≤ 32 := by rcases hp with ⟨rfl, rfl, rfl, rfl⟩ | ⟨rfl, rfl, rfl, rfl⟩ | ⟨rfl, rfl, rfl, rfl⟩ | ⟨rfl, rfl, rfl, rfl⟩ <;> decide
  have hf4 : f ≤ 4 := by rcases hp with ⟨rfl, rfl, rfl, rfl⟩ | ⟨rfl, rfl, rfl, rfl⟩ | ⟨rfl, rfl, rfl, rfl⟩ | ⟨rfl, rfl, rfl, rfl⟩ <;> decide
  have hx2 : 2 ≤ x := by rcases hp with ⟨rfl, rfl, rfl, rfl⟩ | ⟨rfl, rfl, rfl, rfl⟩ | ⟨rfl, rfl, rfl, rfl⟩ | ⟨rfl, rfl, rfl, rfl⟩ <;> decide
  have hx16 : x ≤ 16 := by rcases hp with ⟨rfl, rfl, rfl, rfl⟩ | ⟨rfl, rfl, rfl, rfl⟩ | ⟨rfl, rfl, rfl, rfl⟩ | ⟨rfl, rfl, rfl, rfl⟩ <;> decide
  have HXF := hideM (show x ^ f ≤ 65536 by rcases hp with ⟨rfl, rfl, rfl, rfl⟩ | ⟨rfl, rfl, rfl, rfl⟩ | ⟨rfl, rfl, rfl, rfl⟩ | ⟨rfl, rfl, rfl, rfl⟩ <;> decide)
  unfold digitsN
  generalize firsts x e (bytesN m) = D at HDG hF hlt ⊢
  generalize b * e = n at HSZ HDG hF hbe ⊢
  have HF := hideM hF
  have HLT := hideM hlt
  obtain ⟨i0, hi, hz0, hz1, hz2⟩ := info_parts infoInt
  clear hp hm hF hlt
  go_enter Try.func53, Try.ntmps53
  go_wp2_with fail
  refine (HSZ.out _).mono ?_
  rintro r w1 ⟨rfl, hb⟩
  have Z1 := hideM (show w.heap.size < w1.heap.size by have := hb.size; simp at this; omega)
  have B1 := hideM (((Below.refl _ _).alloc (Nat.le_refl _) _).trans (hb.mono (by simp)) : Below w.heap.size w w1)
  have F1 := hideM (five_below (show Five (w.alloc (.cells #[.int .i64 k, .int .i64 b, .int .i64 x, .int .i64 t, .int .i64 l] 23)) w.heap.size k b x t l by refine ⟨?_, ?_, ?_, ?_, ?_⟩ <;> simp [go_sem]) hb (by simp))
  clear hb HSZ
  go_wp2
  generalize hW : w1.alloc (.cells #[.int .i64 (n : Int), .int .i64 (f : Int), .int .i64 ((n : Int) + (f : Int)), .int .i64 (totalZ t l), .int .i64 (sigZ b x t l), .int .i64 (5 + 2 * (b : Int))] 72) = W
  have HW := hideM hW
  have S0 := hideM (show W.cell? ⟨w1.heap.size, 0, none⟩ = some (.int .i64 n) by subst hW; simp [go_sem])
  have S1 := hideM (show W.cell? ⟨w1.heap.size, 1, none⟩ = some (.int .i64 f) by subst hW; simp [go_sem])
  have F5 := hideM (show Five W w.heap.size k b x t l by subst hW; exact five_below F1.out ((Below.refl _ _).alloc (Nat.le_refl _) _) Z1.out)
  have BW := hideM (show Below w.heap.size w W by subst hW; exact B1.out.alloc (Nat.le_of_lt Z1.out) _)
  have ZW := hideM (show w1.heap.size + 1 = W.heap.size by subst hW; simp)
  clear hW HW B1 F1
  go_loopw [6, 7, 8] (fun v s i wr => ∃ j : Nat, j ≤ n ∧ i = .int .i64 j ∧ s = .int .i64 ((lackN x (D.take j) : Nat) : Int) ∧ Hid (wr.ownsRow W.heap.size 3 1 v j (cellsN (D.take j))) ∧ Hid (Below W.heap.size W wr)) (fun _ _ i _ => n - (intOf i).toNat)
  case atStart => exact ⟨0, by omega, rfl, rfl, World.ownsRow_nil _ _ _ _, Below.refl _ _⟩
  case round =>
    obtain ⟨j, hj, rfl, rfl, ho, hb⟩ := hrel
    have s0 : wr.cell? ⟨w1.heap.size, 0, none⟩ = some (.int .i64 n) := (hb.out.cell (by have := ZW.out; simp; omega)).trans S0.out
    have s1 : wr.cell? ⟨w1.heap.size, 1, none⟩ = some (.int .i64 f) := (hb.out.cell (by have := ZW.out; simp; omega)).trans S1.out
    have F := five_below F5.out hb.out (by have := ZW.out; have := Z1.out; omega)
    by_cases hlt : j < n
    · have hjD : j < D.length := by have := HF.out; omega
      have HTK := hideM (take_at D j hjD)
      have hd := at0_lt D x j (by omega) HLT.out
      have hs : lackN x (D.take j) ≤ 32 * 15 := Nat.le_trans (lackN_le x (D.take j)) (Nat.mul_le_mul (by simp; omega) (by omega))
      have HLS : Hid (lackN x (D.take (j + 1)) = lackN x (D.take j) + (x - 1 - at0M D j)) := by
        show lackN x (D.take (j + 1)) = _
        rw [HTK.out, lackN_snoc]
      have HCS : Hid (cellsN (D.take (j + 1)) = cellsN (D.take j) ++ [.int .i64 ((at0M D j : Nat) : Int)]) := by
        show cellsN (D.take (j + 1)) = _
        rw [HTK.out, cellsN_snoc]
      have HDJ := hideM (fun w' : World => HDG.out j w' hlt)
      generalize at0M D j = d at hd HLS HCS HDJ HTK
      generalize lackN x (D.take j) = s at hs HLS ⊢
      obtain ⟨c0, c1, c2, c3, c4⟩ := F
      go_wp2_with fail
      refine (HDJ.out _).mono ?_
      rintro r w2 ⟨rfl, hb2⟩
      have HO2 := hideM (owns_below ho.out hb2)
      have HB2 := hideM (hb.out.trans (hb2.mono hb.out.size))
      clear hb2 c0 c1 c2 c3 c4 s0 s1
      go_wp2_with (at_builtin; refine wpList_append_own _ rfl _ _ 36 rfl W.heap.size 3 i0 (.int .i64 0) 1 8 Try.underlying36 hi hz0 hz1 hz2 rfl (by decide) _ _ _ rfl (HO2.out.alloc _) ⟨w2.heap.size, 0, none⟩ 1 1 [.int .i64 (d : Int)] rfl rfl (one_new _ _ _) ?c2 ?c3 ?c4 ?c5 ?_)
      case c2 => intro u hu; simp at hu; subst hu; rfl
      case c3 => unfold maxLen; omega
      case c4 => omega
      case c5 => have := HB2.out.size; simp; omega
      intro v' w3 ho3 hgrow _
      have HB3 := hideM ((HB2.out.alloc HB2.out.size (.cells #[.int .i64 (d : Int)] 3)).grown hgrow (by have := HB2.out.size; simp; omega) (fun q hq => (owns_lt HO2.out q hq).1))
      have HO3 := hideM ho3
      have e2 : w3.cell? ⟨w.heap.size, 2, none⟩ = some (.int .i64 x) := (HB3.out.cell (by have := ZW.out; have := Z1.out; simp; omega)).trans F5.out.2.2.1
      clear ho3 hgrow
      go_wp2
      go_roundw
      case rel =>
        have R : ∃ i : Nat, i ≤ n ∧ Value.int .i64 ((j : Int) + 1) = .int .i64 i ∧ Value.int .i64 ((s : Int) + (x : Int) - 1 - (d : Int)) = .int .i64 ((lackN x (D.take i) : Nat) : Int) ∧ Hid (w3.ownsRow W.heap.size 3 1 v' i (cellsN (D.take i))) ∧ Hid (Below W.heap.size W w3) :=
          ⟨j + 1, by omega, by go_num, by rw [HLS.out]; go_num, by rw [HCS.out]; exact HO3.out, HB3.out⟩
        first | exact R | ((repeat apply Exists.intro); exact ⟨R, rfl⟩)
      case measure => simp [intOf]; omega
    · obtain rfl : j = n := by omega
      have hDj : D.take j = D := List.take_of_length_le (by have := HF.out; omega)
      rw [hDj] at ho ⊢
      clear hDj hlt
      have hR : lackN x D ≤ 32 * 15 := Nat.le_trans (lackN_le x D) (Nat.mul_le_mul (by have := HF.out; omega) (by omega))
      have HLEN := hideM (digs_length x f (lackN x D))
      have HAT := hideM (fun (q : Nat) (hq : q < f) => digs_at x f (lackN x D) q hq)
      generalize hE : digs x f (lackN x D) = E at HLEN HAT
      generalize hRR : lackN x D = R at hR HAT hE ⊢
      have HE := hideM hE
      have HRR := hideM hRR
      clear hE hRR
      obtain ⟨wo, rfl⟩ : ∃ wo : World, wo = wr := ⟨_, rfl⟩
      go_wp2
      go_loopw [6, 10] (fun v i wr => ∃ q : Nat, q ≤ f ∧ i = .int .i64 q ∧ Hid (wr.ownsRow W.heap.size 3 1 v (j + q) (cellsN (D ++ E.take q))) ∧ Hid (Below W.heap.size W wr)) (fun _ i _ => f - (intOf i).toNat)
      case atStart => exact ⟨0, by omega, rfl, by unfold Hid; simpa using ho.out, hb⟩
      case round =>
        obtain ⟨q, hq, rfl, ho, hb⟩ := hrel
        have s1 : wr.cell? ⟨w1.heap.size, 1, none⟩ = some (.int .i64 f) := (hb.out.cell (by have := ZW.out; simp; omega)).trans S1.out
        have c2 : wr.cell? ⟨w.heap.size, 2, none⟩ = some (.int .i64 x) := (hb.out.cell (by have := ZW.out; have := Z1.out; simp; omega)).trans F5.out.2.2.1
        by_cases hlt : q < f
        · have hp1 : x ^ (f - 1 - q) ≤ 65536 := Nat.le_trans (Nat.pow_le_pow_right (by omega) (by omega)) HXF.out
          have hp0 : 1 ≤ x ^ (f - 1 - q) := Nat.one_le_pow _ _ (by omega)
          have HPW := hideM (fun w' : World => power_any x (f - 1 - q) w' hx16 (by omega) hp1 (by omega))
          have HEQ : Hid (at0M E q = R / x ^ (f - 1 - q) % x) := by
            show at0M E q = _
            have h := HAT.out q hlt
            rw [show f - (q + 1) = f - 1 - q by omega] at h
            exact h
          have HTK := hideM (take_at E q (by have := HLEN.out; omega))
          generalize x ^ (f - 1 - q) = P at hp1 hp0 HPW HEQ
          have hq0 : (0 : Int) ≤ (R : Int) / (P : Int) := Int.ediv_nonneg (by omega) (by omega)
          have hq1 : (R : Int) / (P : Int) ≤ 480 := by have h1 := Nat.div_le_self R P; have h2 : ((R / P : Nat) : Int) = (R : Int) / (P : Int) := Int.natCast_ediv R P; omega
          go_wp2_with fail
          rw [show ((f : Int) - 1 - (q : Int)) = ((f - 1 - q : Nat) : Int) by omega]
          refine (HPW.out _).mono ?_
          rintro r w2 ⟨rfl, rfl⟩
          go_wp2_with (at_builtin; refine wpList_append_own _ rfl _ _ 36 rfl W.heap.size 3 i0 (.int .i64 0) 1 8 Try.underlying36 hi hz0 hz1 hz2 rfl (by decide) _ _ _ rfl (ho.out.alloc _) ⟨w2.heap.size, 0, none⟩ 1 1 [.int .i64 ((R : Int) / (P : Int) % (x : Int))] rfl rfl (one_new _ _ _) ?d2 ?d3 ?d4 ?d5 ?_)
          case d2 => intro u hu; simp at hu; subst hu; rfl
          case d3 => unfold maxLen; omega
          case d4 => omega
          case d5 => have := hb.out.size; simp; omega
          intro v' w3 ho3 hgrow _
          have HB3 := hideM ((hb.out.alloc hb.out.size (.cells #[.int .i64 ((R : Int) / (P : Int) % (x : Int))] 3)).grown hgrow (by have := hb.out.size; simp; omega) (fun q hq => (owns_lt ho.out q hq).1))
          have HO3 := hideM ho3
          clear ho3 hgrow
          go_wp2
          go_roundw
          case rel =>
            have hcs : cellsN (D ++ E.take (q + 1)) = cellsN (D ++ E.take q) ++ [.int .i64 ((R : Int) / (P : Int) % (x : Int))] := by
              rw [HTK.out, ← List.append_assoc, cellsN_snoc, HEQ.out, Int.natCast_emod, Int.natCast_ediv]
            have R : ∃ i : Nat, i ≤ f ∧ Value.int .i64 ((q : Int) + 1) = .int .i64 i ∧ Hid (w3.ownsRow W.heap.size 3 1 v' (j + i) (cellsN (D ++ E.take i))) ∧ Hid (Below W.heap.size W w3) :=
              ⟨q + 1, by omega, by go_num, by rw [hcs]; exact HO3.out, HB3.out⟩
            first | exact R | ((repeat apply Exists.intro); exact ⟨R, rfl⟩)
          case measure => simp [intOf]; omega
        · obtain rfl : q = f := by omega
          go_wp2
          go_ret
          refine ⟨_, rfl, ?_, BW.out.trans (hb.out.mono (by have := ZW.out; have := Z1.out; omega))⟩
          have h := ho.out
          rw [List.take_of_length_le (by have := HLEN.out; omega), ← HE.out, ← HRR.out] at h
          exact ⟨h.1, h.2.elim Or.inl (fun ⟨g, cap, cur, hv, hg, r⟩ => Or.inr ⟨g, cap, cur, hv, by have := ZW.out; have := Z1.out; omega, r⟩)⟩
end Go.Proofs.Ytgaoeoijdpdjiaa
