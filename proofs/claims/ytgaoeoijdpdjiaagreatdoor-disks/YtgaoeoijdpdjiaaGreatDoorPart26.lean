/-
  The document's disk: Read, Write, Count.
-/
import Derived.Test.YtgaoeoijdpdjiaaGreatDoorPart25
import Derived.Test.YtgaoeoijdpdjiaaGreatDoorPart8
import Derived.Test.YtgaoeoijdpdjiaaGreatDoorPart12
import Derived.Deep.AppendLies
namespace Go.Proofs.YtgaoeoijdpdjiaaGreatDoor
open Go.RowKit
theorem owns_neQ {w : World} {lo : Nat} {e : TypeId} {sz : Nat} {v : Value} {n : Nat} {xs : List Value} {b : Nat} {vs : List Value} {T : TypeId} (h : w.ownsRow lo e sz v n xs) (hb : Blk w b vs T) (hne : e ≠ T) : v.ownBlock ≠ some b := by
  intro he
  rcases h.2 with ⟨rfl, _⟩ | ⟨g, cap, cur, rfl, _, hg, _⟩
  · simp [Value.ownBlock] at he
  · have e' : g = b := by simpa [Value.ownBlock] using he
    subst e'
    unfold Blk at hb
    rw [hb] at hg
    simp only [Option.some.injEq, Obj.cells.injEq] at hg
    exact hne hg.2.1.symm
/-- The last write to the sector, of the first k, that is not lost. -/
def lastR (L : List LogW) (i : Nat) : Nat → ByteArray
  | 0 => numB 32 0
  | k + 1 => match L[k]? with
    | some p => if p.1 = i ∧ p.2.2 ≠ 2 then p.2.1 else lastR L i k
    | none => lastR L i k
theorem lastR_yes {L : List LogW} {i k : Nat} {p : LogW} (h : L[k]? = some p) (h1 : p.1 = i) (h2 : p.2.2 ≠ 2) : lastR L i (k + 1) = p.2.1 := by
  rw [lastR, h]
  exact if_pos ⟨h1, h2⟩
theorem lastR_no {L : List LogW} {i k : Nat} {p : LogW} (h : L[k]? = some p) (h1 : ¬ (p.1 = i ∧ p.2.2 ≠ 2)) : lastR L i (k + 1) = lastR L i k := by
  rw [lastR, h]
  exact if_neg h1
def tickR (due : Int) : Int := if due = 0 then 0 else due - 1
theorem rread_sec (R : Nat) (i n : Int) (lv : Value) (due sy en : Int) (w : World) (hB : Blk w R (rdC n lv due sy en) 259) (h : i < 0 ∨ n ≤ i) : Calls Tryz.prog 121 #[.pointer (some ⟨R, 0, none⟩), .int .i64 i] w fun e w' => e = .returned (.tuple #[.string ⟨#[]⟩, .int .i64 4]) ∧ w' = w := by
  have c0 : w.cell? ⟨R, 0, none⟩ = some (.int .i64 n) := hB.cell 0
  clear hB
  by_cases h0 : i < 0
  · go_enter Tryz.func121, Tryz.ntmps121
    go_wp2
    go_ret2
    exact ⟨rfl, rfl⟩
  · have h1 : n ≤ i := by omega
    have e1 : decide (n ≤ i) = true := decide_eq_true h1
    go_enter Tryz.func121, Tryz.ntmps121
    go_wp2
    go_ret2
    exact ⟨rfl, rfl⟩
theorem rread_fail (R : Nat) (i n : Int) (lv : Value) (due sy en : Int) (w : World) (hB : Blk w R (rdC n lv due sy en) 259) (h0 : 0 ≤ i) (h1 : i < n) (hd : due = 1) : Calls Tryz.prog 121 #[.pointer (some ⟨R, 0, none⟩), .int .i64 i] w fun e w' => e = .returned (.tuple #[.string ⟨#[]⟩, .int .i64 5]) ∧ Blk w' R (rdC n lv (tickR due) sy en) 259 ∧ Kept (fun q => q = R) w w' := by
  have c0 : w.cell? ⟨R, 0, none⟩ = some (.int .i64 n) := hB.cell 0
  have HF := hide (rfails_any R n lv due sy en w hB (by omega) (by omega))
  subst hd
  have i0 : ¬ i < 0 := by omega
  have i1 : ¬ n ≤ i := by omega
  clear hB h0 h1
  go_enter Tryz.func121, Tryz.ntmps121
  go_wp2_with fail
  refine HF.out.mono ?_
  rintro e w1 ⟨rfl, hb, hk⟩
  have HQ := hide (And.intro hb hk)
  clear hb hk
  go_wp2
  go_ret2
  exact ⟨rfl, HQ.out.1, HQ.out.2⟩
set_option maxHeartbeats 1000000 in
theorem rread_yes (lo R i : Nat) (n : Int) (la : Option Addr) (lc : Nat) (due sy en : Int) (L : List LogW) (w : World) (hB : Blk w R (rdC n (.slice la L.length lc) due sy en) 259) (hr : w.ownsRow lo 261 3 (.slice la L.length lc) L.length (logC L)) (hL : L.length ≤ 2199023255552) (h1 : (i : Int) < n) (hd0 : 0 ≤ due) (hd2 : due ≤ 9223372036854775807) (hd : due ≠ 1) :
    Calls Tryz.prog 121 #[.pointer (some ⟨R, 0, none⟩), .int .i64 i] w fun e w' => e = .returned (.tuple #[.string (lastR L i L.length), .int .i64 0]) ∧ Blk w' R (rdC n (.slice la L.length lc) (tickR due) sy en) 259 ∧ Kept (fun q => q = R) w w' := by
  have HF := hide (rfails_any R n (.slice la L.length lc) due sy en w hB hd0 hd2)
  have hde : (due == 1) = false := by simpa using hd
  have hne := owns_neQ hr hB (by decide)
  have c0 : w.cell? ⟨R, 0, none⟩ = some (.int .i64 n) := hB.cell 0
  obtain ⟨m, hm⟩ : ∃ m, L.length = m := ⟨_, rfl⟩
  rw [hm] at hB hr hL HF hne ⊢
  have HM := hide hm
  have HRK := hide (fun (V : World) (hk : Kept (fun q => q = R) w V) => owns_kept hr hk (fun q e e2 => hne (by rw [e, e2])))
  have HL := hide hL
  have i0 : ¬ (i : Int) < 0 := by omega
  have i1 : ¬ n ≤ (i : Int) := by omega
  clear hB hr hL hm hne h1 hd0 hd2 hd
  go_enter Tryz.func121, Tryz.ntmps121
  go_wp2_with fail
  refine HF.out.mono ?_
  rintro e w1 ⟨rfl, hb, hk⟩
  have c1 : w1.cell? ⟨R, 1, none⟩ = some (.slice la m lc) := hb.cell 1
  have HR := hide (HRK.out _ hk)
  have HQ := hide (And.intro hb hk)
  have hw : IntKind.i64.wrap ((m : Int) - 1) = (m : Int) - 1 := by have := HL.out; rw [IntKind.wrap_i64] <;> omega
  clear hb hk c0
  go_wp2_with fail
  go_loopw [7] (fun k wr => ∃ j : Nat, j ≤ m ∧ k = .int .i64 ((j : Int) - 1) ∧ Hid (lastR L i m = lastR L i j) ∧ wr = w1) (fun k _ => (intOf k + 1).toNat)
  case atStart => exact ⟨m, Nat.le_refl _, rfl, rfl, rfl⟩
  case round =>
    obtain ⟨j, hj, rfl, hla, rfl⟩ := hrel
    cases j with
    | zero =>
      have HN := hide (refNumber_any 32 0 wr (by decide) (by decide) (by decide))
      have e0 : ((0 : Nat) : Int) - 1 = -1 := rfl
      rw [e0]
      go_wp2_with fail
      refine HN.out.mono ?_
      rintro e w2 ⟨rfl, hb2⟩
      have HB2 := hide hb2
      clear hb2
      go_wp2
      go_ret2
      exact ⟨by rw [hla.out]; rfl, HQ.out.1.on HB2.out, HQ.out.2.after HB2.out⟩
    | succ k =>
      have e0 : ((k + 1 : Nat) : Int) - 1 = (k : Int) := by omega
      rw [e0]
      obtain ⟨p, hp⟩ : ∃ p, L[k]? = some p := ⟨_, List.getElem?_eq_getElem (by rw [HM.out]; omega)⟩
      obtain ⟨g, cap, hgv, _, _⟩ := HR.out.form (by omega)
      simp only [Value.slice.injEq] at hgv
      obtain ⟨rfl, _, rfl⟩ := hgv
      have y0 : wr.cell? ⟨g, k * 3, none⟩ = some (.int .i64 (p.1 : Int)) := by
        rw [HR.out.cellAt (k * 3) (by omega)]
        exact logC_get hp 0 (by decide)
      have y1 : wr.cell? ⟨g, k * 3 + 1, none⟩ = some (.string p.2.1) := by
        rw [HR.out.cellAt (k * 3 + 1) (by omega)]
        exact logC_get hp 1 (by decide)
      have y2 : wr.cell? ⟨g, k * 3 + 2, none⟩ = some (.int .i64 (p.2.2 : Int)) := by
        rw [HR.out.cellAt (k * 3 + 2) (by omega)]
        exact logC_get hp 2 (by decide)
      have hms : (k : Int) < (m : Int) := by omega
      have hjm : (k : Int) < 2199023255552 := by have := HL.out; omega
      have hk0 : 0 ≤ (k : Int) := by omega
      have hw2 : IntKind.i64.wrap ((k : Int) - 1) = (k : Int) - 1 := by rw [IntKind.wrap_i64] <;> omega
      have HP := hide hp
      obtain ⟨ps, pt, pz⟩ := p
      dsimp only at y0 y1 y2
      clear hp
      by_cases ha : ps = i
      · have a1 : ((ps : Int) == (i : Int)) = true := by simp [ha]
        by_cases hb : pz = 2
        · have b1 : ((pz : Int) != 2) = false := by simp [hb]
          have HE := hide (lastR_no HP.out (i := i) (by rintro ⟨_, h⟩; exact h hb))
          clear ha hb
          go_wp2
          go_roundw
          case rel => exact ⟨k, by omega, by go_num, by show _ = _; rw [hla.out, HE.out], by trivial⟩
          case measure => first | (simp [intOf]; done) | (simp [intOf]; omega)
        · have b1 : ((pz : Int) != 2) = true := by
            have : (pz : Int) ≠ 2 := by omega
            simpa using this
          have HE := hide (lastR_yes HP.out ha hb)
          clear ha hb
          go_wp2
          go_ret2
          exact ⟨congrArg (fun q => Ending.returned (Value.tuple #[.string q, .int .i64 0])) (hla.out.trans HE.out).symm, HQ.out.1, HQ.out.2⟩
      · have a1 : ((ps : Int) == (i : Int)) = false := by
          have : (ps : Int) ≠ i := by omega
          simpa using this
        have HE := hide (lastR_no HP.out (i := i) (by rintro ⟨h, _⟩; exact ha h))
        clear ha
        go_wp2
        go_roundw
        case rel => exact ⟨k, by omega, by go_num, by show _ = _; rw [hla.out, HE.out], by trivial⟩
        case measure => first | (simp [intOf]; done) | (simp [intOf]; omega)
theorem rcount_any (lo R : Nat) (n : Int) (la : Option Addr) (lc : Nat) (due sy en : Int) (L : List LogW) (w : World) (hB : Blk w R (rdC n (.slice la L.length lc) due sy en) 259) (hr : w.ownsRow lo 261 3 (.slice la L.length lc) L.length (logC L)) (hL : L.length ≤ 2199023255552) :
    Calls Tryz.prog 133 #[.pointer (some ⟨R, 0, none⟩)] w fun e w' => e = .returned (.agg #[.int .i64 L.length, .int .i64 sy, .int .i64 (pendN L : Int)]) ∧ Below w.heap.size w w' := by
  have HW := hide (fun (V : World) (hb : Below w.heap.size w V) => rwait_any lo R n la lc due sy en L V (hB.on hb) (owns_kept hr (Kept.of_below (F := fun _ => False) hb) (fun _ _ e => e)) hL)
  obtain ⟨m, hm⟩ : ∃ m, L.length = m := ⟨_, rfl⟩
  have HS := hide (fun (V : World) (hb : Below w.heap.size w V) => (by
    have h' := hB.on hb
    rw [hm] at h'
    exact ⟨h'.cell 1, h'.cell 3, hb⟩ : V.cell? ⟨R, 1, none⟩ = some (.slice la m lc) ∧ V.cell? ⟨R, 3, none⟩ = some (.int .i64 sy) ∧ Below w.heap.size w V))
  rw [hm] at hL ⊢
  generalize pendN L = pn at HW ⊢
  clear hB hr hm
  go_enter Tryz.func133, Tryz.ntmps133
  go_wp2_with fail
  refine (HW.out _ ((Below.refl _ _).alloc (Nat.le_refl _) _)).mono ?_
  rintro e w1 ⟨rfl, hw1⟩
  subst w1
  go_wp2_with fail
  go_region_held3 (fun V => V.cell? ⟨R, 1, none⟩ = some (.slice la m lc) ∧ V.cell? ⟨R, 3, none⟩ = some (.int .i64 sy) ∧ Below w.heap.size w V) (exact HS.out _ ((Below.refl _ _).alloc (Nat.le_refl _) _).drew) (fail)
  go_wp2
  refine bodyPost_ret (v := .agg #[.int .i64 m, .int .i64 sy, .int .i64 pn]) (by simp [results, Tryz.results133, go_sem]) rfl ⟨rfl, ((Below.refl _ _).alloc (Nat.le_refl _) _).drew⟩
end Go.Proofs.YtgaoeoijdpdjiaaGreatDoor
