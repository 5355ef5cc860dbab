/-
  The document's walk: where it is, its path, its stacks, its next leaf. A walk is asked for: the program and the document answer alike. A walk of the program and the document's, side by side. The statement's world with its walks and its book. A step of a script of walks. How a script of walks begins, and how it is played.
-/
import Derived.Test.YtgaoeoijdpdjiaaGreatDoorPart48
import Derived.Test.YtgaoeoijdpdjiaaGreatDoorPart4
import Derived.BigQuiet
import Derived.Deep.QuietTactic
import Derived.Test.YtgaoeoijdpdjiaaGreatDoorPart47
import Derived.Test.YtgaoeoijdpdjiaaGreatDoorPart40
import Derived.Test.YtgaoeoijdpdjiaaGreatDoorPart41
import Derived.Test.YtgaoeoijdpdjiaaGreatDoorPart43
import Derived.Test.YtgaoeoijdpdjiaaGreatDoorPart31
import Derived.Test.YtgaoeoijdpdjiaaGreatDoorPart42
import Derived.Test.YtgaoeoijdpdjiaaGreatDoorPart34
import Derived.Test.YtgaoeoijdpdjiaaGreatDoorPart39
import Derived.Test.YtgaoeoijdpdjiaaGreatDoorPart38
import Derived.Test.YtgaoeoijdpdjiaaGreatDoorPart44
import Derived.Test.YtgaoeoijdpdjiaaGreatDoorPart14
import Derived.Test.YtgaoeoijdpdjiaaGreatDoorPart19
import Derived.Test.YtgaoeoijdpdjiaaGreatDoorPart29
import Derived.Test.YtgaoeoijdpdjiaaGreatDoorPart5
import Derived.Test.YtgaoeoijdpdjiaaGreatDoorPart50
import Derived.Test.YtgaoeoijdpdjiaaGreatDoorPart49
import Derived.Test.YtgaoeoijdpdjiaaGreatDoorPart51
namespace Go.Proofs.YtgaoeoijdpdjiaaGreatDoor
open Go.RowKit
/-- The document's walk at R. -/
structure Rw (lo R : Nat) (ra : Option Addr) (rc : Nat) (vs : List Value) (p0 p1 : Int) (tv : Nat → Nat → ByteArray) (T a : Nat) (w : World) : Prop where
  b : Blk w R [.int .i64 p0, .int .i64 p1, .int .i64 0, .int .i64 0, .slice ra (T + 1) rc, .int .i64 (a : Int), .int .i64 (T : Int)] 249
  g : GrI lo w (.slice ra (T + 1) rc) vs (T + 1) T tv
variable {lo R : Nat} {ra : Option Addr} {rc : Nat} {vs : List Value} {p0 p1 : Int} {tv : Nat → Nat → ByteArray} {T a : Nat} {w w' : World}
theorem Rw.on (h : Rw lo R ra rc vs p0 p1 tv T a w) (hb : Below w.heap.size w w') : Rw lo R ra rc vs p0 p1 tv T a w' := ⟨h.b.on hb, h.g.on hb⟩
theorem Rw.kept {F : Nat → Prop} (h : Rw lo R ra rc vs p0 p1 tv T a w) (hk : Kept F w w') (h0 : ¬ F R) (h1 : ∀ q, (Value.slice ra (T + 1) rc).ownBlock = some q → ¬ F q) (h2 : ∀ v ∈ vs, ∀ q, v.ownBlock = some q → ¬ F q) : Rw lo R ra rc vs p0 p1 tv T a w' := ⟨blkY h.b hk h0, h.g.kept hk h1 h2⟩
set_option maxRecDepth 20000 in
theorem rw_at (h : Rw lo R ra rc vs p0 p1 tv T a w) : Calls Tryz.prog 110 #[.pointer (some ⟨R, 0, none⟩)] w fun e w' => e = .returned (.int .i64 (a : Int)) ∧ w' = w := by
  have c5 : w.cell? ⟨R, 5, none⟩ = some (.int .i64 (a : Int)) := h.b.cell 5
  clear h
  go_enter Tryz.func110, Tryz.ntmps110
  go_wp2_with fail
  go_ret
  exact ⟨rfl, rfl⟩
set_option maxRecDepth 20000 in
set_option maxHeartbeats 1000000 in
theorem rw_path (h : Rw lo R ra rc vs p0 p1 tv T a w) (hT : T ≤ 4) (ha : a < 2 ^ T) : Calls Tryz.prog 111 #[.pointer (some ⟨R, 0, none⟩)] w fun e w' => ∃ v, e = .returned v ∧ w'.ownsRow w.heap.size 9 1 v T ((wlP tv T a).map .string) ∧ Below w.heap.size w w' := by
  have HS := hide (fun (V : World) (hV : Below w.heap.size w V) => (⟨(h.b.on hV).cell 0, (h.b.on hV).cell 1, (h.b.on hV).cell 2, (h.b.on hV).cell 3, (h.b.on hV).cell 4, (h.b.on hV).cell 5⟩ : V.cell? ⟨R, 0, none⟩ = some (.int .i64 p0) ∧ V.cell? ⟨R, 1, none⟩ = some (.int .i64 p1) ∧ V.cell? ⟨R, 2, none⟩ = some (.int .i64 0) ∧ V.cell? ⟨R, 3, none⟩ = some (.int .i64 0) ∧ V.cell? ⟨R, 4, none⟩ = some (.slice ra (T + 1) rc) ∧ V.cell? ⟨R, 5, none⟩ = some (.int .i64 (a : Int))))
  have HP := hide (fun (V : World) (hV : Below w.heap.size w V) => rpath_on lo p0 p1 0 0 ra rc T a vs tv V hT ha (h.g.on hV))
  clear h ha
  go_enter Tryz.func111, Tryz.ntmps111
  go_wp2_with fail
  go_region_held3 (fun V => V.cell? ⟨R, 0, none⟩ = some (.int .i64 p0) ∧ V.cell? ⟨R, 1, none⟩ = some (.int .i64 p1) ∧ V.cell? ⟨R, 2, none⟩ = some (.int .i64 0) ∧ V.cell? ⟨R, 3, none⟩ = some (.int .i64 0) ∧ V.cell? ⟨R, 4, none⟩ = some (.slice ra (T + 1) rc) ∧ V.cell? ⟨R, 5, none⟩ = some (.int .i64 (a : Int))) (first | exact HS.out _ hS1 | exact HS.out _ (Below.refl w.heap.size w).drew) ((go_at_call 194; refine (HP.out _ (Below.refl w.heap.size w).drew).mono ?_; rintro e w2 ⟨v, rfl, hr2, hb2⟩; have hS1 := heldB (Below.refl w.heap.size w).drew hb2 (Nat.le_refl _)))
  have HR := hide hr2
  have HB := hide hS1
  clear hr2 hS1 hb2
  go_wp2_with fail
  go_ret
  exact ⟨_, rfl, HR.out, HB.out⟩
set_option maxRecDepth 20000 in
theorem rw_stack_bad (h : Rw lo R ra rc vs p0 p1 tv T a w) {i : Int} (hi : i < 0 ∨ (T : Int) ≤ i) : Calls Tryz.prog 114 #[.pointer (some ⟨R, 0, none⟩), .int .i64 i] w fun e w' => e = .returned (.tuple #[.slice none 0 0, .int .i64 2]) ∧ w' = w := by
  have c6 : w.cell? ⟨R, 6, none⟩ = some (.int .i64 (T : Int)) := h.b.cell 6
  clear h
  by_cases h0 : i < 0
  · go_enter Tryz.func114, Tryz.ntmps114
    go_wp2_with fail
    go_ret2
    exact ⟨rfl, rfl⟩
  · have h1 : (T : Int) ≤ i := by omega
    go_enter Tryz.func114, Tryz.ntmps114
    go_wp2_with fail
    go_ret2
    exact ⟨rfl, rfl⟩
set_option maxRecDepth 20000 in
set_option maxHeartbeats 1000000 in
theorem rw_stack (h : Rw lo R ra rc vs p0 p1 tv T a w) (hT : T ≤ 4) (ha : a < 2 ^ T) {i : Nat} (hi : i < T) : Calls Tryz.prog 114 #[.pointer (some ⟨R, 0, none⟩), .int .i64 (i : Int)] w fun e w' => ∃ v, e = .returned (.tuple #[v, .int .i64 0]) ∧ w'.ownsRow w.heap.size 100 3 v (skAt (2 ^ T) a i).1.length (nodC ((skAt (2 ^ T) a i).1.map (ndT tv))) ∧ Below w.heap.size w w' := by
  have c6 : w.cell? ⟨R, 6, none⟩ = some (.int .i64 (T : Int)) := h.b.cell 6
  have HS := hide (fun (V : World) (hV : Below w.heap.size w V) => (⟨(h.b.on hV).cell 0, (h.b.on hV).cell 1, (h.b.on hV).cell 2, (h.b.on hV).cell 3, (h.b.on hV).cell 4, (h.b.on hV).cell 5⟩ : V.cell? ⟨R, 0, none⟩ = some (.int .i64 p0) ∧ V.cell? ⟨R, 1, none⟩ = some (.int .i64 p1) ∧ V.cell? ⟨R, 2, none⟩ = some (.int .i64 0) ∧ V.cell? ⟨R, 3, none⟩ = some (.int .i64 0) ∧ V.cell? ⟨R, 4, none⟩ = some (.slice ra (T + 1) rc) ∧ V.cell? ⟨R, 5, none⟩ = some (.int .i64 (a : Int))))
  have HP := hide (fun (V : World) (hV : Below w.heap.size w V) => rstack_on lo p0 p1 0 0 ra rc T a i vs tv V hT ha hi (h.g.on hV))
  have i0 : ¬ (i : Int) < 0 := by omega
  have i1 : ¬ (T : Int) ≤ (i : Int) := by omega
  generalize (skAt (2 ^ T) a i).1 = SK at HP ⊢
  clear h ha
  go_enter Tryz.func114, Tryz.ntmps114
  go_wp2_with fail
  go_region_held3 (fun V => V.cell? ⟨R, 0, none⟩ = some (.int .i64 p0) ∧ V.cell? ⟨R, 1, none⟩ = some (.int .i64 p1) ∧ V.cell? ⟨R, 2, none⟩ = some (.int .i64 0) ∧ V.cell? ⟨R, 3, none⟩ = some (.int .i64 0) ∧ V.cell? ⟨R, 4, none⟩ = some (.slice ra (T + 1) rc) ∧ V.cell? ⟨R, 5, none⟩ = some (.int .i64 (a : Int))) (first | exact HS.out _ hS1 | exact HS.out _ (Below.refl w.heap.size w).drew) ((go_at_call 195; refine (HP.out _ (Below.refl w.heap.size w).drew).mono ?_; rintro e w2 ⟨v, rfl, hr2, hb2⟩; have hS1 := heldB (Below.refl w.heap.size w).drew hb2 (Nat.le_refl _)))
  have HR := hide hr2
  have HB := hide hS1
  clear hr2 hS1 hb2
  go_wp2_with fail
  go_ret2
  exact ⟨_, rfl, HR.out, HB.out⟩
set_option maxRecDepth 20000 in
set_option maxHeartbeats 1000000 in
theorem rw_next (h : Rw lo R ra rc vs p0 p1 tv T a w) (hT : T ≤ 4) (ha : a + 1 < 2 ^ T) (hgr : ∀ q, (Value.slice ra (T + 1) rc).ownBlock = some q → q ≠ R) (hvs : ∀ v ∈ vs, ∀ q, v.ownBlock = some q → q ≠ R) : Calls Tryz.prog 117 #[.pointer (some ⟨R, 0, none⟩)] w fun e w' => e = .returned (.int .i64 0) ∧ Rw lo R ra rc vs p0 p1 tv T (a + 1) w' ∧ Kept (fun q => q = R) w w' := by
  have h16 : 2 ^ T ≤ 16 := Nat.le_trans (Nat.pow_le_pow_right (by decide) hT) (by decide)
  have HS := hide (fun (V : World) (hV : Below w.heap.size w V) => (⟨(h.b.on hV).cell 5, (h.b.on hV).cell 6⟩ : V.cell? ⟨R, 5, none⟩ = some (.int .i64 (a : Int)) ∧ V.cell? ⟨R, 6, none⟩ = some (.int .i64 (T : Int))))
  have HH := hide h
  have HP := hide (fun V : World => power_any 2 T V (by decide) (by omega) (by omega) (by decide))
  generalize 2 ^ T = n at *
  have hn : ¬ (n : Int) ≤ (a : Int) + 1 := by omega
  have hn2 : decide ((n : Int) ≤ (a : Int) + 1) = false := decide_eq_false hn
  have hw : IntKind.i64.wrap ((a : Int) + 1) = (a : Int) + 1 := by rw [IntKind.wrap_i64] <;> omega
  have ha16 : (a : Int) < 16 := by omega
  have HGR := hide hgr
  have HVS := hide hvs
  clear h ha h16 hgr hvs
  go_enter Tryz.func117, Tryz.ntmps117
  go_wp2_with fail
  go_region_held3 (fun V => V.cell? ⟨R, 5, none⟩ = some (.int .i64 (a : Int)) ∧ V.cell? ⟨R, 6, none⟩ = some (.int .i64 (T : Int))) (first | exact HS.out _ (Below.refl w.heap.size w).drew) ((go_at_call 55; refine (HP.out _).mono ?_; rintro e w2 ⟨rfl, hw2⟩; obtain rfl := hw2.symm; clear hw2))
  have HB := hide ((Below.refl w.heap.size w).drew)
  have HD := hide (HH.out.on HB.out)
  generalize World.drew w = V at HB HD ⊢
  have c5 : V.cell? ⟨R, 5, none⟩ = some (.int .i64 (a : Int)) := HD.out.b.cell 5
  have f5 := HD.out.b.free 5
  go_wp2_with fail
  go_ret
  refine ⟨rfl, ⟨?_, ?_⟩, ?_⟩
  · have h := HD.out.b.set 5 (.int .i64 ((a : Int) + 1))
    rw [show ((a + 1 : Nat) : Int) = (a : Int) + 1 by omega]
    exact h
  · exact HD.out.g.kept (kept_set V ⟨R, 5, none⟩ _) HGR.out (fun v hv q hq => HVS.out v hv q hq)
  · exact (Kept.of_below (F := fun q => q = R) HB.out).setCell (p := ⟨R, 5, none⟩) (.inl rfl) _
set_option maxRecDepth 20000 in
set_option maxHeartbeats 1000000 in
theorem rw_spent (h : Rw lo R ra rc vs p0 p1 tv T a w) (hT : T ≤ 4) (ha : a + 1 = 2 ^ T) : Calls Tryz.prog 117 #[.pointer (some ⟨R, 0, none⟩)] w fun e w' => e = .returned (.int .i64 10) ∧ Below w.heap.size w w' := by
  have h16 : 2 ^ T ≤ 16 := Nat.le_trans (Nat.pow_le_pow_right (by decide) hT) (by decide)
  have HS := hide (fun (V : World) (hV : Below w.heap.size w V) => (⟨(h.b.on hV).cell 5, (h.b.on hV).cell 6⟩ : V.cell? ⟨R, 5, none⟩ = some (.int .i64 (a : Int)) ∧ V.cell? ⟨R, 6, none⟩ = some (.int .i64 (T : Int))))
  have HP := hide (fun V : World => power_any 2 T V (by decide) (by omega) (by omega) (by decide))
  generalize 2 ^ T = n at *
  have hn : (n : Int) ≤ (a : Int) + 1 := by omega
  have hn2 : decide ((n : Int) ≤ (a : Int) + 1) = true := decide_eq_true hn
  have hw : IntKind.i64.wrap ((a : Int) + 1) = (a : Int) + 1 := by rw [IntKind.wrap_i64] <;> omega
  clear h ha h16
  go_enter Tryz.func117, Tryz.ntmps117
  go_wp2_with fail
  go_region_held3 (fun V => V.cell? ⟨R, 5, none⟩ = some (.int .i64 (a : Int)) ∧ V.cell? ⟨R, 6, none⟩ = some (.int .i64 (T : Int))) (first | exact HS.out _ (Below.refl w.heap.size w).drew) ((go_at_call 55; refine (HP.out _).mono ?_; rintro e w2 ⟨rfl, hw2⟩; obtain rfl := hw2.symm; clear hw2))
  go_wp2_with fail
  go_ret
  exact ⟨rfl, (Below.refl w.heap.size w).drew⟩
end Go.Proofs.YtgaoeoijdpdjiaaGreatDoor

namespace Go.Proofs.YtgaoeoijdpdjiaaGreatDoor
open Go.RowKit
theorem rset_of {k : Int} {b x e f t l : Nat} (hp : Pair b x e f) (hk : k = 1 ∨ k = 2) (h1 : 1 ≤ t) (h2 : t ≤ 4) (h3 : 1 ≤ l) (h4 : l ≤ 3) (hr : rightB k b x t l = true) : RSet k b x e f t l := ⟨hp, hk, h1, h2, h3, h4, hr⟩
theorem nw_cases (k b x t l : Int) (sec rnd pub : ByteArray) (p0 p1 p2 p3 : Int) :
    (∃ er : Int, (∀ V : World, Tn V → Calls Tryz.prog 18 #[.agg #[.int .i64 k, .int .i64 b, .int .i64 x, .int .i64 t, .int .i64 l], .agg #[.string sec, .string rnd, .string pub], .agg #[.int .i64 p0, .int .i64 p1, .int .i64 p2, .int .i64 p3]] V fun e w' => e = .returned (.tuple #[.pointer none, .int .i64 er]) ∧ Below V.heap.size V w') ∧
      ∀ V : World, Calls Tryz.prog 109 #[.agg #[.int .i64 k, .int .i64 b, .int .i64 x, .int .i64 t, .int .i64 l], .agg #[.string sec, .string rnd, .string pub], .agg #[.int .i64 p0, .int .i64 p1, .int .i64 p2, .int .i64 p3]] V fun e w' => e = .returned (.tuple #[.pointer none, .int .i64 er]) ∧ Below V.heap.size V w') ∨
    ∃ (b' x' e f t' l' : Nat), RSet k b' x' e f t' l' ∧ b = b' ∧ x = x' ∧ t = t' ∧ l = l' ∧ p2 = 0 ∧ p3 = 0 ∧ leafB t' l' p0 p1 0 = true ∧ sec.size = b' ∧ rnd.size = b' ∧ pub.size = b' := by
  cases hr : rightB k b x t l with
  | false =>
    refine .inl ⟨1, fun V hV => nwalk_err k b x t l sec rnd pub p0 p1 p2 p3 1 V hV (fun V _ => new_set k b x t l _ _ _ _ _ _ sec rnd pub p0 p1 p2 p3 V (fun V => setsMeasure_no k b x t l V hr)) (Or.inl rfl), fun V => rnw_set k b x t l sec rnd pub p0 p1 p2 p3 V (fun V => ?_)⟩
    have h := refCheck_any k b x t l V
    rw [hr] at h
    exact h
  | true =>
    obtain ⟨b', x', e, g, t', l', hp, hk, rfl, rfl, rfl, rfl, h1, h2, h3, h4⟩ := pair_of_right hr
    obtain ⟨g1, g2, g3, g4, g5, g6⟩ := pair_small hp
    have HR : ∀ V : World, Calls Tryz.prog 49 #[.agg #[.int .i64 k, .int .i64 b', .int .i64 x', .int .i64 t', .int .i64 l']] V fun e w' => e = .returned (.int .i64 0) ∧ Below V.heap.size V w' := fun V => by have h := refCheck_any k b' x' t' l' V; rw [hr] at h; exact h
    have HM := fun V : World => setsMeasure_yes b' x' e g t' l' hp k V hk h1 h2 h3 h4
    have HZ := fun V : World => refSizes_yes b' x' e g t' l' hp k V h1 h2 h3 h4
    have HSD := fun V : World => seedsRight_any k b' x' t' l' sec rnd pub V
    have HSR := fun V : World => seeded_any k b' x' t' l' sec rnd pub V
    have HIT := fun V : World => isTree_any k b' x' t' l' p0 p1 p2 p3 V h1 h2 h4
    have HPL := fun V : World => placed_any k x' _ _ _ _ _ b' t' l' (b' * e + g) p0 p1 p2 p3 V h2 h4 HZ
    cases hs : seedsB b' sec rnd pub with
    | false =>
      rw [hs] at HSD HSR
      exact .inl ⟨2, fun V hV => nwalk_err k b' x' t' l' sec rnd pub p0 p1 p2 p3 2 V hV (fun V _ => new_see k b' x' t' l' _ _ _ _ _ _ sec rnd pub p0 p1 p2 p3 V HM HSD) (Or.inr rfl), fun V => rnw_see k b' x' t' l' sec rnd pub p0 p1 p2 p3 _ V HR HSR HPL⟩
    | true =>
      rw [hs] at HSD HSR
      obtain ⟨s1, s2, s3⟩ := seedsB_size hs
      cases ht : ((leafB t' l' p0 p1 p2 && p3 == 0) && p2 == 0) with
      | false =>
        rw [ht] at HIT
        have HE := fun (V : World) (hV : Tn V) => nwalk_err k b' x' t' l' sec rnd pub p0 p1 p2 p3 2 V hV (fun V _ => new_pla k b' x' t' l' _ _ _ _ _ _ sec rnd pub p0 p1 p2 p3 V HM HSD HIT) (Or.inr rfl)
        refine .inl ⟨2, HE, fun V => ?_⟩
        cases hc : chainB t' l' (b' * e + g) p0 p1 p2 p3 with
        | false =>
          rw [hc] at HPL
          exact rnw_pla k b' x' t' l' sec rnd pub p0 p1 p2 p3 V HR HSR HPL
        | true =>
          rw [hc] at HPL
          cases z2 : (p2 == 0) with
          | false => exact rnw_lea k b' x' t' l' sec rnd pub p0 p1 p2 p3 V HR HSR HPL z2
          | true =>
            have hp2 : p2 = 0 := by simpa using z2
            subst hp2
            cases z3 : (p3 == 0) with
            | false => exact rnw_cha k b' x' t' l' sec rnd pub p0 p1 p3 V HR HSR HPL z3
            | true =>
              unfold chainB at hc
              rw [z2, z3] at ht
              simp at ht hc
              rw [ht] at hc
              simp at hc
      | true =>
        have ht' := ht
        simp only [Bool.and_eq_true] at ht'
        obtain ⟨⟨hl, z3⟩, z2⟩ := ht'
        have hp3 : p3 = 0 := by simpa using z3
        have hp2 : p2 = 0 := by simpa using z2
        subst hp2
        exact .inr ⟨b', x', e, g, t', l', rset_of hp hk h1 h2 h3 h4 hr, rfl, rfl, rfl, rfl, rfl, hp3, hl, by omega, by omega, by omega⟩
/-- The document's walk of a tree that is right. -/
theorem rnw_tree (k : Int) (b x e f t l : Nat) (R : RSet k b x e f t l) (sec rnd pub : ByteArray) (s1 : sec.size = b) (s2 : rnd.size = b) (s3 : pub.size = b) (p0 p1 : Int) (hl : leafB t l p0 p1 0 = true) (w : World) :
    Calls Tryz.prog 109 #[.agg #[.int .i64 k, .int .i64 b, .int .i64 x, .int .i64 t, .int .i64 l], .agg #[.string sec, .string rnd, .string pub], .agg #[.int .i64 p0, .int .i64 p1, .int .i64 0, .int .i64 0]] w fun e' w' => ∃ Rr ra rc vs, e' = .returned (.tuple #[.pointer (some ⟨Rr, 0, none⟩), .int .i64 0]) ∧ Rw w.heap.size Rr ra rc vs p0 p1 (nodeS k b (x - 1) (b * e + f) sec pub p0 p1) t 0 w' ∧ w.heap.size ≤ Rr ∧ Below w.heap.size w w' := by
  obtain ⟨g1, g2, g3, g4, g5, g6⟩ := pair_small R.pr
  have h2 := R.t2
  have h4 := R.l2
  have HZ := fun V : World => refSizes_yes b x e f t l R.pr k V R.t1 R.t2 R.l1 R.l2
  have hc : chainB t l (b * e + f) p0 p1 0 0 = true := by
    unfold chainB
    rw [hl]
    simp; omega
  obtain ⟨q0, q1, -, -⟩ := chainB_bounds hc h2 h4 g4
  have hwd : (x : Int) = ((x - 1 : Nat) : Int) + 1 := by omega
  have hsd : seedsB b sec rnd pub = true := seedsB_of (by omega) (by omega) (by omega)
  have nsz := nodeS_size k b (x - 1) (b * e + f) sec pub p0 p1 R.kk (by omega) (by omega) (by omega) (by omega) g3
  have hn16 : 2 ^ t ≤ 16 := Nat.le_trans (Nat.pow_le_pow_right (by decide) h2) (by decide)
  refine (rnw_yes k b x l t sec rnd pub p0 p1 (nodeS k b (x - 1) (b * e + f) sec pub p0 p1) w (fun V => by have h := refCheck_any k b x t l V; rw [R.r] at h; exact h) (fun V => by have h := seeded_any k b x t l sec rnd pub V; rw [hsd] at h; exact h) (fun V => by have h := placed_any k x _ _ _ _ _ b t l (b * e + f) p0 p1 0 0 V h2 h4 HZ; rw [hc] at h; exact h) (fun V => grow_on k b x l p0 p1 0 0 t (2 ^ t) sec rnd pub (nodeS k b (x - 1) (b * e + f) sec pub p0 p1) V h2 rfl (fun V => leaves_any t k b x l V h2) (fun i V hi => ?_) (fun h j V hh hj => ?_))).mono ?_
  · exact rleaf_any k x t l p0 p1 i 0 _ _ _ _ _ b sec rnd pub (b * e + f) (x - 1) V R.kk (by omega) (by omega) (by omega) (by omega) g3 g4 (by omega) hwd q0 q1 ⟨by omega, by omega⟩ HZ
  · have hj2 : j ≤ 16 := by
      have : 2 ^ (t - (h + 1)) ≤ 2 ^ t := Nat.pow_le_pow_right (by decide) (by omega)
      omega
    exact rjoin_any k x t l p0 p1 0 0 ((h + 1 : Nat) : Int) j b pub _ _ V R.kk (by omega) (by omega) (by omega) (by have := nsz h (2 * j); omega) (by have := nsz h (2 * j + 1); omega) q0 q1 ⟨by omega, by omega⟩ ⟨by omega, by omega⟩
  · rintro e' w' ⟨Rr, ra, rc, vs, rfl, hB, hG, hR, hb⟩
    exact ⟨Rr, ra, rc, vs, rfl, ⟨hB, hG⟩, hR, hb⟩
end Go.Proofs.YtgaoeoijdpdjiaaGreatDoor

namespace Go.Proofs.YtgaoeoijdpdjiaaGreatDoor
open Go.RowKit
structure PrW where
  X : Nat
  R : Nat
  k : Wk
  ra : Option Addr
  rc : Nat
  vs : List Value
  p0 : Int
  p1 : Int
  tr : Value
  tv : Nat → Nat → ByteArray
  T : Nat
  a : Nat
def PrW.fp (p : PrW) : Nat → Prop := fun q => q = p.X ∨ p.k.foot q ∨ q = p.R ∨ (Value.slice p.ra (p.T + 1) p.rc).ownBlock = some q ∨ ∃ v ∈ p.vs, v.ownBlock = some q
structure PW (lo : Nat) (p : PrW) (w : World) : Prop where
  x : Wl lo p.X p.k p.tr p.tv p.T p.a w
  r : Rw lo p.R p.ra p.rc p.vs p.p0 p.p1 p.tv p.T p.a w
  o : ∃ jn, TrOk p.tr p.tv jn
  lR : lo ≤ p.R
  sep : ∀ v ∈ p.vs, ∀ q, v.ownBlock = some q → ¬ p.k.foot q
variable {lo : Nat} {p : PrW} {w V w' : World}
theorem PW.below (h : PW lo p w) (hb : Below w.heap.size w w') : PW lo p w' := ⟨h.x.on hb, h.r.on hb, h.o, h.lR, h.sep⟩
theorem PW.kept {F : Nat → Prop} (h : PW lo p w) (hk : Kept F w w') (hn : ∀ q, p.fp q → ¬ F q) : PW lo p w' :=
  ⟨h.x.kept hk (hn _ (.inl rfl)) (fun q e => hn q (.inr (.inl e))), h.r.kept hk (hn _ (.inr (.inr (.inl rfl)))) (fun q e => hn q (.inr (.inr (.inr (.inl e))))) (fun v hv q e => hn q (.inr (.inr (.inr (.inr ⟨v, hv, e⟩))))), h.o, h.lR, h.sep⟩
theorem PW.lt (h : PW lo p w) {q : Nat} (hq : p.fp q) : lo ≤ q ∧ q < w.heap.size := by
  rcases hq with rfl | e | rfl | e | ⟨v, hv, e⟩
  · exact ⟨h.x.lX, h.x.x.lt⟩
  · exact h.x.i.foot_lt q e
  · exact ⟨h.lR, h.r.b.lt⟩
  · exact h.r.g.lt.1 q e
  · exact h.r.g.lt.2 v hv q e
theorem PW.nR (h : PW lo p w) : ¬ p.k.foot p.R := h.x.i.foot_ne h.r.b (by decide) (by decide) (by decide) (by decide)
theorem PW.gR (h : PW lo p w) : ∀ q, (Value.slice p.ra (p.T + 1) p.rc).ownBlock = some q → q ≠ p.R := fun q hq e => by
  obtain ⟨-, -, us, b1⟩ := row_blkZ h.r.g.row hq
  subst e
  exact blk_neZ b1 h.r.b (by decide)
theorem PW.gF (h : PW lo p w) : ∀ q, (Value.slice p.ra (p.T + 1) p.rc).ownBlock = some q → ¬ p.k.foot q := fun q hq => by
  obtain ⟨-, -, us, b1⟩ := row_blkZ h.r.g.row hq
  exact h.x.i.foot_ne b1 (by decide) (by decide) (by decide) (by decide)
theorem PW.vR (h : PW lo p w) : ∀ v ∈ p.vs, ∀ q, v.ownBlock = some q → q ≠ p.R := fun v hv q hq e => by
  obtain ⟨us, b1⟩ := h.r.g.blk hv hq
  subst e
  exact blk_neZ b1 h.r.b (by decide)
/-- What a step of a walk leaves. -/
def PLeftW (lo : Nat) (p : PrW) (w w' : World) : Prop := ∃ p' : PrW, p'.X = p.X ∧ p'.R = p.R ∧ PW lo p' w' ∧ Kept p.fp w w' ∧ ∀ q, p'.fp q → p.fp q ∨ w.heap.size ≤ q
def HalfW (lo : Nat) (p : PrW) (w V : World) : Prop := ∃ k', Wl lo p.X k' p.tr p.tv p.T (p.a + 1) V ∧ Rw lo p.R p.ra p.rc p.vs p.p0 p.p1 p.tv p.T p.a V ∧ Kept p.fp w V ∧ ∀ q, k'.foot q → p.k.foot q ∨ w.heap.size ≤ q
theorem halfW (h : PW lo p w) (hb : Below w.heap.size w V) (hTn : Tn w) (hTB : 0 < lo) (hlo : lo ≤ w.heap.size) (ha : p.a + 1 < 2 ^ p.T) :
    Calls Tryz.prog 23 #[.pointer (some ⟨p.X, 0, none⟩)] V fun e w' => e = .returned (.int .i64 0) ∧ Kept p.fp V w' ∧ HalfW lo p w w' := by
  have hV := h.below hb
  obtain ⟨jn, hO⟩ := h.o
  refine (wl_next hV.x hO ha (hTn.on hb) hTB (Nat.le_trans hlo hb.size)).mono ?_
  rintro e w2 ⟨rfl, k', h1, h2, h3⟩
  have hk : Kept p.fp V w2 := h2.mono (fun q _ e => .inr (.inl e))
  refine ⟨rfl, hk, k', h1, hV.r.kept h2 h.nR h.gF (fun v hv q hq => h.sep v hv q hq), (Kept.of_below hb).trans hk (fun q e => .inl e), fun q hq => ?_⟩
  rcases h3 q hq with e | e
  · exact .inl e
  · exact .inr (Nat.le_trans hb.size e)
theorem wholeW (h : PW lo p w) (hh : HalfW lo p w V) (ha : p.a + 1 < 2 ^ p.T) :
    Calls Tryz.prog 117 #[.pointer (some ⟨p.R, 0, none⟩)] V fun e w' => e = .returned (.int .i64 0) ∧ PLeftW lo p w w' := by
  obtain ⟨k', h1, h2, h3, h4⟩ := hh
  refine (rw_next h2 h.x.T4 ha h.gR h.vR).mono ?_
  rintro e w2 ⟨rfl, r1, r2⟩
  have hRl := h.r.b.lt
  have hxR : ¬ k'.foot p.R := h1.i.foot_ne h2.b (by decide) (by decide) (by decide) (by decide)
  have hXR : p.X ≠ p.R := fun e => by
    have hb := h2.b
    rw [← e] at hb
    exact blk_neZ h1.x hb (by decide)
  refine ⟨rfl, { p with k := k', a := p.a + 1 }, rfl, rfl, ⟨h1.kept r2 hXR (fun q hq e => hxR (e ▸ hq)), r1, h.o, h.lR, fun v hv q hq hf => ?_⟩, h3.trans r2 (fun q e => .inl (.inr (.inr (.inl e)))), fun q hq => ?_⟩
  · rcases h4 q hf with e | e
    · exact h.sep v hv q hq e
    · have := (h.r.g.lt.2 v hv q hq).2
      omega
  · rcases hq with e | e | e | e | e
    · exact .inl (.inl e)
    · rcases h4 q e with e | e
      · exact .inl (.inr (.inl e))
      · exact .inr e
    · exact .inl (.inr (.inr (.inl e)))
    · exact .inl (.inr (.inr (.inr (.inl e))))
    · exact .inl (.inr (.inr (.inr (.inr e))))
end Go.Proofs.YtgaoeoijdpdjiaaGreatDoor

namespace Go.Proofs.YtgaoeoijdpdjiaaGreatDoor
open Go.RowKit
/-- A book's row of lists of marks. -/
structure BkI (lo : Nat) (E SL : TypeId) (sz : Nat) (mk : Nat → List Value) (cB : Nat) (c : Nat → Nat) (v : Value) (S : List Value) (w : World) : Prop where
  row : w.ownsRow lo SL 1 v S.length S
  cr : ∀ q, v.ownBlock = some q → c q = cB
  each : ∀ (i : Nat) (s : Value), S[i]? = some s → (∃ n, n ≤ 1000 ∧ w.ownsRow lo E sz s n (rowM (mk (i / 4 * 4)) n)) ∧ ∀ q, s.ownBlock = some q → c q = 5
  l4 : S.length % 4 = 0
section
variable {lo : Nat} {E SL : TypeId} {sz : Nat} {mk : Nat → List Value} {cB : Nat} {c c' : Nat → Nat} {v : Value} {S : List Value} {w w' : World}
theorem BkI.lt (h : BkI lo E SL sz mk cB c v S w) : (∀ q, v.ownBlock = some q → q < w.heap.size) ∧ ∀ (i : Nat) (s : Value), S[i]? = some s → ∀ q, s.ownBlock = some q → q < w.heap.size :=
  ⟨fun q hq => (row_blkZ h.row hq).2.1, fun i s hs q hq => by obtain ⟨⟨n, -, hr⟩, -⟩ := h.each i s hs; exact (row_blkZ hr hq).2.1⟩
theorem BkI.kept {F : Nat → Prop} (h : BkI lo E SL sz mk cB c v S w) (hk : Kept F w w') (hF : ∀ q, q < w.heap.size → F q → c q ≠ cB ∧ c q ≠ 5) (hc : ∀ q, q < w.heap.size → c' q = c q) : BkI lo E SL sz mk cB c' v S w' := by
  refine ⟨owns_kept h.row hk (fun q hq e => (hF q (h.lt.1 q hq) e).1 (h.cr q hq)), fun q hq => by rw [hc q (h.lt.1 q hq)]; exact h.cr q hq, fun i s hs => ?_, h.l4⟩
  obtain ⟨⟨n, hn, hr⟩, h5⟩ := h.each i s hs
  have hl := h.lt.2 i s hs
  exact ⟨⟨n, hn, owns_kept hr hk (fun q hq e => (hF q (hl q hq) e).2 (h5 q hq))⟩, fun q hq => by rw [hc q (hl q hq)]; exact h5 q hq⟩
theorem BkI.nil (lo : Nat) (E SL : TypeId) (sz : Nat) (mk : Nat → List Value) (cB : Nat) (c : Nat → Nat) (w : World) : BkI lo E SL sz mk cB c (.slice none 0 0) [] w :=
  ⟨World.ownsRow_nil _ _ _ _, fun q e => by simp [Value.ownBlock] at e, fun i s h => by simp at h, rfl⟩
theorem BkI.see (h : BkI lo E SL sz mk cB c v S w) (hm : ∀ i, (mk i).length = sz) : BkR w v S mk := by
  obtain ⟨ao, cc, rfl⟩ := owns_shape h.row
  refine ⟨ao, cc, rfl, fun h0 => ?_, fun i s hs => ?_⟩
  · obtain ⟨g, c2, hv, -, hg⟩ := h.row.form h0
    simp only [Value.slice.injEq] at hv
    obtain ⟨rfl, -, rfl⟩ := hv
    refine ⟨g, rfl, hg, fun i s hs => ?_⟩
    have hi := (List.getElem?_eq_some_iff.1 hs).1
    rw [h.row.cellAt i (by omega)]
    exact hs
  · obtain ⟨⟨n, hn, hr⟩, -⟩ := h.each i s hs
    exact mkC_of hr (hm _) hn
/-- Four lists more. -/
theorem BkI.more {v' l a1 a2 a3 : Value} {n : Nat} {F : Nat → Prop} (h : BkI lo E SL sz mk cB c v S w) (hk : Kept F w w') (hF : ∀ q, q < w.heap.size → F q → c q ≠ 5) (hc : ∀ q, q < w.heap.size → c' q = c q) (hn : n ≤ 900)
    (hr : w'.ownsRow lo SL 1 v' (S.length + 4) (S ++ [l, a1, a2, a3])) (h0 : w'.ownsRow lo E sz l n (rowM (mk S.length) n)) (h1 : w'.ownsRow lo E sz a1 (n + 1) (rowM (mk S.length) (n + 1))) (h2 : w'.ownsRow lo E sz a2 (n + 2) (rowM (mk S.length) (n + 2))) (h3 : w'.ownsRow lo E sz a3 (n + 3) (rowM (mk S.length) (n + 3)))
    (cv : ∀ q, v'.ownBlock = some q → c' q = cB) (cl : ∀ u, u = l ∨ u = a1 ∨ u = a2 ∨ u = a3 → ∀ q, u.ownBlock = some q → c' q = 5) : BkI lo E SL sz mk cB c' v' (S ++ [l, a1, a2, a3]) w' := by
  have hl4 := h.l4
  have hlen : (S ++ [l, a1, a2, a3]).length = S.length + 4 := by simp
  refine ⟨by rw [hlen]; exact hr, cv, fun i s hs => ?_, by rw [hlen]; omega⟩
  by_cases hi : i < S.length
  · rw [List.getElem?_append_left hi] at hs
    obtain ⟨⟨m, hm, hr2⟩, h5⟩ := h.each i s hs
    have hl := h.lt.2 i s hs
    exact ⟨⟨m, hm, owns_kept hr2 hk (fun q hq e => hF q (hl q hq) e (h5 q hq))⟩, fun q hq => by rw [hc q (hl q hq)]; exact h5 q hq⟩
  · rw [List.getElem?_append_right (by omega)] at hs
    have hi4 : i - S.length < 4 := by have := (List.getElem?_eq_some_iff.1 hs).1; simpa using this
    have hd : i / 4 * 4 = S.length := by omega
    rw [hd]
    rcases (show i - S.length = 0 ∨ i - S.length = 1 ∨ i - S.length = 2 ∨ i - S.length = 3 by omega) with e | e | e | e
    all_goals
      rw [e] at hs
      simp only [List.getElem?_cons_zero, List.getElem?_cons_succ, Option.some.injEq] at hs
      subst hs
    · exact ⟨⟨n, by omega, h0⟩, cl _ (.inl rfl)⟩
    · exact ⟨⟨n + 1, by omega, h1⟩, cl _ (.inr (.inl rfl))⟩
    · exact ⟨⟨n + 2, by omega, h2⟩, cl _ (.inr (.inr (.inl rfl)))⟩
    · exact ⟨⟨n + 3, by omega, h3⟩, cl _ (.inr (.inr (.inr rfl)))⟩
end
structure WI (lo Wb : Nat) (Wd : World) (bI dv hv : Value) (j : Nat) (c : Nat → Nat) (wv bT bN : Value) (ST SN : List Value) (Ps : List PrW) (w : World) : Prop where
  wb : Blk w Wb (wldQ bI bT bN wv dv hv) 74
  cw : c Wb = 1
  row : w.ownsRow lo 109 2 wv Ps.length (plC (Ps.map fun p => (p.X, p.R)))
  cr : ∀ q, wv.ownBlock = some q → c q = 2
  pa : ∀ (i : Nat) (p : PrW), Ps[i]? = some p → PW lo p w ∧ ∀ q, p.fp q → c q = 6 + i
  bt : BkI lo 9 50 1 mkT 3 c bT ST w
  bn : BkI lo 100 96 3 mkN 4 c bN SN w
  len : Ps.length ≤ j ∧ ST.length ≤ 4 * j ∧ SN.length ≤ 4 * j
  low : Below lo Wd w
  big : lo ≤ w.heap.size
  lW : lo ≤ Wb
variable {lo Wb j : Nat} {Wd w w' : World} {bI dv hv wv bT bN : Value} {c : Nat → Nat} {ST SN : List Value} {Ps : List PrW}
theorem WI.below (h : WI lo Wb Wd bI dv hv j c wv bT bN ST SN Ps w) (hb : Below w.heap.size w w') : WI lo Wb Wd bI dv hv j c wv bT bN ST SN Ps w' :=
  ⟨h.wb.on hb, h.cw, owns_kept h.row (Kept.of_below (F := fun _ => False) hb) (fun _ _ e => e), h.cr, fun i p e => ⟨(h.pa i p e).1.below hb, (h.pa i p e).2⟩, h.bt.kept (F := fun _ => False) (Kept.of_below hb) (fun _ _ e => e.elim) (fun _ _ => rfl), h.bn.kept (F := fun _ => False) (Kept.of_below hb) (fun _ _ e => e.elim) (fun _ _ => rfl), h.len, h.low.trans (hb.mono h.big), Nat.le_trans h.big hb.size, h.lW⟩
theorem WI.next (h : WI lo Wb Wd bI dv hv j c wv bT bN ST SN Ps w) : WI lo Wb Wd bI dv hv (j + 1) c wv bT bN ST SN Ps w :=
  { h with len := by obtain ⟨h1, h2, h3⟩ := h.len; omega }
/-- All but one thing stays. -/
theorem WI.walks (h : WI lo Wb Wd bI dv hv j c wv bT bN ST SN Ps w) {F : Nat → Prop} {c' : Nat → Nat} (hk : Kept F w w') (hF : ∀ q, q < w.heap.size → F q → c q < 6) (hc : ∀ q, q < w.heap.size → c' q = c q) : ∀ (i : Nat) (p : PrW), Ps[i]? = some p → PW lo p w' ∧ ∀ q, p.fp q → c' q = 6 + i := fun i p hp => by
  obtain ⟨h1, h2⟩ := h.pa i p hp
  exact ⟨h1.kept hk (fun q hq e => by have := hF q (h1.lt hq).2 e; have := h2 q hq; omega), fun q hq => by rw [hc q (h1.lt hq).2]; exact h2 q hq⟩
theorem WI.rowK (h : WI lo Wb Wd bI dv hv j c wv bT bN ST SN Ps w) {F : Nat → Prop} {c' : Nat → Nat} (hk : Kept F w w') (hF : ∀ q, q < w.heap.size → F q → c q ≠ 2) (hc : ∀ q, q < w.heap.size → c' q = c q) : w'.ownsRow lo 109 2 wv Ps.length (plC (Ps.map fun p => (p.X, p.R))) ∧ ∀ q, wv.ownBlock = some q → c' q = 2 :=
  ⟨owns_kept h.row hk (fun q hq e => hF q (row_blkZ h.row hq).2.1 e (h.cr q hq)), fun q hq => by rw [hc q (row_blkZ h.row hq).2.1]; exact h.cr q hq⟩
/-- A list of texts came out. -/
theorem WI.text (h : WI lo Wb Wd bI dv hv j c wv bT bN ST SN Ps w) {V : World} (hb : Below w.heap.size w V) {v' l a1 a2 a3 : Value} {n : Nat} (hn : n ≤ 900)
    (hl : ∀ q, l.ownBlock = some q → w.heap.size ≤ q)
    (hW : Blk w' Wb ((wldQ bI bT bN wv dv hv).set 1 v') 74) (hr : w'.ownsRow lo 50 1 v' (ST.length + 4) (ST ++ [l, a1, a2, a3])) (h0 : w'.ownsRow lo 9 1 l n (rowM (mkT ST.length) n)) (h1 : w'.ownsRow lo 9 1 a1 (n + 1) (rowM (mkT ST.length) (n + 1))) (h2 : w'.ownsRow lo 9 1 a2 (n + 2) (rowM (mkT ST.length) (n + 2))) (h3 : w'.ownsRow lo 9 1 a3 (n + 3) (rowM (mkT ST.length) (n + 3)))
    (hk : Kept (fun q => q = Wb ∨ bT.ownBlock = some q ∨ l.ownBlock = some q) V w') (ha : ∀ u, u = a1 ∨ u = a2 ∨ u = a3 → ∀ q, u.ownBlock = some q → l.ownBlock = some q ∨ V.heap.size ≤ q) (hvv : ∀ q, v'.ownBlock = some q → bT.ownBlock = some q ∨ V.heap.size ≤ q) :
    ∃ c', WI lo Wb Wd bI dv hv (j + 1) c' wv v' bN (ST ++ [l, a1, a2, a3]) SN Ps w' := by
  have hz := hb.size
  have hK : Kept (fun q => q = Wb ∨ bT.ownBlock = some q) w w' := ((Kept.of_below hb).trans hk (fun q e => by
    rcases e with e | e | e
    · exact .inl (.inl e)
    · exact .inl (.inr e)
    · exact .inr (hl q e)))
  have hF : ∀ q, q < w.heap.size → (q = Wb ∨ bT.ownBlock = some q) → c q = 1 ∨ c q = 3 := fun q _ e => by
    rcases e with e | e
    · exact .inl (e ▸ h.cw)
    · exact .inr (h.bt.cr q e)
  have hnv : ∀ u (m : Nat), w'.ownsRow lo 9 1 u m (rowM (mkT ST.length) m) → ∀ q, u.ownBlock = some q → v'.ownBlock ≠ some q := fun u m hu q hq e => by
    obtain ⟨-, -, us, b1⟩ := row_blkZ hu hq
    obtain ⟨-, -, us2, b2⟩ := row_blkZ hr e
    exact blk_neZ b1 b2 (by decide)
  have hfr : ∀ u, u = l ∨ u = a1 ∨ u = a2 ∨ u = a3 → ∀ q, u.ownBlock = some q → w.heap.size ≤ q ∧ v'.ownBlock ≠ some q := fun u hu q hq => by
    rcases hu with rfl | hu
    · exact ⟨hl q hq, hnv _ _ h0 q hq⟩
    · refine ⟨?_, ?_⟩
      · rcases ha u hu q hq with e | e
        · exact hl q e
        · omega
      · rcases hu with rfl | rfl | rfl
        · exact hnv _ _ h1 q hq
        · exact hnv _ _ h2 q hq
        · exact hnv _ _ h3 q hq
  obtain ⟨l1, l2, l3⟩ := h.len
  let c' : Nat → Nat := fun q => if q < w.heap.size then c q else if v'.ownBlock = some q then 3 else 5
  have hc' : ∀ q, q < w.heap.size → c' q = c q := fun q hq => if_pos hq
  have hrow := h.rowK (c' := c') hK (fun q hq e => by rcases hF q hq e with e | e <;> omega) hc'
  refine ⟨c', hW, (hc' _ h.wb.lt).trans h.cw, hrow.1, hrow.2, h.walks hK (fun q hq e => by rcases hF q hq e with e | e <;> omega) hc', h.bt.more hK (fun q hq e => by rcases hF q hq e with e | e <;> omega) hc' hn hr h0 h1 h2 h3 (fun q hq => ?_) (fun u hu q hq => ?_), h.bn.kept hK (fun q hq e => by rcases hF q hq e with e | e <;> omega) hc', ⟨by omega, by simp; omega, by omega⟩, h.low.trans (hK.below (fun q e => ?_) h.big), Nat.le_trans h.big hK.size, h.lW⟩
  · rcases hvv q hq with e | e
    · rw [hc' q (h.bt.lt.1 q e)]
      exact h.bt.cr q e
    · show (if q < w.heap.size then c q else if v'.ownBlock = some q then 3 else 5) = 3
      rw [if_neg (by omega), if_pos hq]
  · obtain ⟨f1, f2⟩ := hfr u hu q hq
    show (if q < w.heap.size then c q else if v'.ownBlock = some q then 3 else 5) = 5
    rw [if_neg (by omega), if_neg f2]
  · rcases e with e | e
    · exact e ▸ h.lW
    · exact (row_blkZ h.bt.row e).1
/-- A list of nodes came out. -/
theorem WI.node (h : WI lo Wb Wd bI dv hv j c wv bT bN ST SN Ps w) {V : World} (hb : Below w.heap.size w V) {v' l a1 a2 a3 : Value} {n : Nat} (hn : n ≤ 900)
    (hl : ∀ q, l.ownBlock = some q → w.heap.size ≤ q)
    (hW : Blk w' Wb ((wldQ bI bT bN wv dv hv).set 2 v') 74) (hr : w'.ownsRow lo 96 1 v' (SN.length + 4) (SN ++ [l, a1, a2, a3])) (h0 : w'.ownsRow lo 100 3 l n (rowM (mkN SN.length) n)) (h1 : w'.ownsRow lo 100 3 a1 (n + 1) (rowM (mkN SN.length) (n + 1))) (h2 : w'.ownsRow lo 100 3 a2 (n + 2) (rowM (mkN SN.length) (n + 2))) (h3 : w'.ownsRow lo 100 3 a3 (n + 3) (rowM (mkN SN.length) (n + 3)))
    (hk : Kept (fun q => q = Wb ∨ bN.ownBlock = some q ∨ l.ownBlock = some q) V w') (ha : ∀ u, u = a1 ∨ u = a2 ∨ u = a3 → ∀ q, u.ownBlock = some q → l.ownBlock = some q ∨ V.heap.size ≤ q) (hvv : ∀ q, v'.ownBlock = some q → bN.ownBlock = some q ∨ V.heap.size ≤ q) :
    ∃ c', WI lo Wb Wd bI dv hv (j + 1) c' wv bT v' ST (SN ++ [l, a1, a2, a3]) Ps w' := by
  have hz := hb.size
  have hK : Kept (fun q => q = Wb ∨ bN.ownBlock = some q) w w' := ((Kept.of_below hb).trans hk (fun q e => by
    rcases e with e | e | e
    · exact .inl (.inl e)
    · exact .inl (.inr e)
    · exact .inr (hl q e)))
  have hF : ∀ q, q < w.heap.size → (q = Wb ∨ bN.ownBlock = some q) → c q = 1 ∨ c q = 4 := fun q _ e => by
    rcases e with e | e
    · exact .inl (e ▸ h.cw)
    · exact .inr (h.bn.cr q e)
  have hnv : ∀ u (m : Nat), w'.ownsRow lo 100 3 u m (rowM (mkN SN.length) m) → ∀ q, u.ownBlock = some q → v'.ownBlock ≠ some q := fun u m hu q hq e => by
    obtain ⟨-, -, us, b1⟩ := row_blkZ hu hq
    obtain ⟨-, -, us2, b2⟩ := row_blkZ hr e
    exact blk_neZ b1 b2 (by decide)
  have hfr : ∀ u, u = l ∨ u = a1 ∨ u = a2 ∨ u = a3 → ∀ q, u.ownBlock = some q → w.heap.size ≤ q ∧ v'.ownBlock ≠ some q := fun u hu q hq => by
    rcases hu with rfl | hu
    · exact ⟨hl q hq, hnv _ _ h0 q hq⟩
    · refine ⟨?_, ?_⟩
      · rcases ha u hu q hq with e | e
        · exact hl q e
        · omega
      · rcases hu with rfl | rfl | rfl
        · exact hnv _ _ h1 q hq
        · exact hnv _ _ h2 q hq
        · exact hnv _ _ h3 q hq
  obtain ⟨l1, l2, l3⟩ := h.len
  let c' : Nat → Nat := fun q => if q < w.heap.size then c q else if v'.ownBlock = some q then 4 else 5
  have hc' : ∀ q, q < w.heap.size → c' q = c q := fun q hq => if_pos hq
  have hrow := h.rowK (c' := c') hK (fun q hq e => by rcases hF q hq e with e | e <;> omega) hc'
  refine ⟨c', hW, (hc' _ h.wb.lt).trans h.cw, hrow.1, hrow.2, h.walks hK (fun q hq e => by rcases hF q hq e with e | e <;> omega) hc', h.bt.kept hK (fun q hq e => by rcases hF q hq e with e | e <;> omega) hc', h.bn.more hK (fun q hq e => by rcases hF q hq e with e | e <;> omega) hc' hn hr h0 h1 h2 h3 (fun q hq => ?_) (fun u hu q hq => ?_), ⟨by omega, by omega, by simp; omega⟩, h.low.trans (hK.below (fun q e => ?_) h.big), Nat.le_trans h.big hK.size, h.lW⟩
  · rcases hvv q hq with e | e
    · rw [hc' q (h.bn.lt.1 q e)]
      exact h.bn.cr q e
    · show (if q < w.heap.size then c q else if v'.ownBlock = some q then 4 else 5) = 4
      rw [if_neg (by omega), if_pos hq]
  · obtain ⟨f1, f2⟩ := hfr u hu q hq
    show (if q < w.heap.size then c q else if v'.ownBlock = some q then 4 else 5) = 5
    rw [if_neg (by omega), if_neg f2]
  · rcases e with e | e
    · exact e ▸ h.lW
    · exact (row_blkZ h.bn.row e).1
/-- A walk went to its next leaf. -/
theorem WI.turn (h : WI lo Wb Wd bI dv hv j c wv bT bN ST SN Ps w) {i : Nat} {p : PrW} (hp : Ps[i]? = some p) (hl : PLeftW lo p w w') : ∃ c' Ps', WI lo Wb Wd bI dv hv (j + 1) c' wv bT bN ST SN Ps' w' ∧ Ps'.length = Ps.length := by
  obtain ⟨p', e1, e2, hp', hk, hf⟩ := hl
  obtain ⟨hpw, hpc⟩ := h.pa i p hp
  have hil := (List.getElem?_eq_some_iff.1 hp).1
  let c' : Nat → Nat := fun q => if q < w.heap.size then c q else 6 + i
  have hc' : ∀ q, q < w.heap.size → c' q = c q := fun q hq => if_pos hq
  have hF : ∀ q, q < w.heap.size → p.fp q → c q = 6 + i := fun q _ e => hpc q e
  have hmap : (Ps.set i p').map (fun p => (p.X, p.R)) = Ps.map fun p => (p.X, p.R) := by
    apply List.ext_getElem?
    intro n
    rw [List.getElem?_map, List.getElem?_map]
    by_cases hn : n = i
    · subst hn
      rw [List.getElem?_set_self hil, hp]
      show some (p'.X, p'.R) = some (p.X, p.R)
      rw [e1, e2]
    · rw [List.getElem?_set_ne (Ne.symm hn)]
  have hrow := h.rowK (c' := c') hk (fun q hq e => by have := hF q hq e; omega) hc'
  obtain ⟨l1, l2, l3⟩ := h.len
  refine ⟨c', Ps.set i p', ⟨blkY h.wb hk (fun e => by have := hF _ h.wb.lt e; have := h.cw; omega), (hc' _ h.wb.lt).trans h.cw, by rw [hmap, List.length_set]; exact hrow.1, hrow.2, fun n r hr => ?_, h.bt.kept hk (fun q hq e => by have := hF q hq e; omega) hc', h.bn.kept hk (fun q hq e => by have := hF q hq e; omega) hc', ⟨by rw [List.length_set]; omega, by omega, by omega⟩, h.low.trans (hk.below (fun q e => (hpw.lt e).1) h.big), Nat.le_trans h.big hk.size, h.lW⟩, List.length_set⟩
  by_cases hn : n = i
  · subst hn
    rw [List.getElem?_set_self hil] at hr
    cases hr
    refine ⟨hp', fun q hq => ?_⟩
    rcases hf q hq with e | e
    · rw [hc' q (hpw.lt e).2]
      exact hpc q e
    · exact if_neg (by omega)
  · rw [List.getElem?_set_ne (Ne.symm hn)] at hr
    obtain ⟨h1, h2⟩ := h.pa n r hr
    exact ⟨h1.kept hk (fun q hq e => by have := hF q (h1.lt hq).2 e; have := h2 q hq; omega), fun q hq => by rw [hc' q (h1.lt hq).2]; exact h2 q hq⟩
/-- A walk more. -/
theorem WI.add (h : WI lo Wb Wd bI dv hv j c wv bT bN ST SN Ps w) {V : World} {p : PrW} {g cc : Nat} (hb : Below w.heap.size w V) (hp : PW lo p V) (hpf : ∀ q, p.fp q → w.heap.size ≤ q) (hW : Blk w' Wb (wldQ bI bT bN (.slice (some ⟨g, 0, none⟩) (Ps.length + 1) cc) dv hv) 74) (hr : w'.ownsRow lo 109 2 (.slice (some ⟨g, 0, none⟩) (Ps.length + 1) cc) (Ps.length + 1) (plC ((Ps.map fun p => (p.X, p.R)) ++ [(p.X, p.R)]))) (hk : Kept (fun q => q = Wb ∨ wv.ownBlock = some q) V w') (hg : wv.ownBlock = some g ∨ V.heap.size ≤ g) :
    ∃ c', WI lo Wb Wd bI dv hv (j + 1) c' (.slice (some ⟨g, 0, none⟩) (Ps.length + 1) cc) bT bN ST SN (Ps ++ [p]) w' := by
  have hz := hb.size
  have hK : Kept (fun q => q = Wb ∨ wv.ownBlock = some q) w w' := (Kept.of_below hb).trans hk (fun q e => .inl e)
  have hF : ∀ q, q < w.heap.size → (q = Wb ∨ wv.ownBlock = some q) → c q = 1 ∨ c q = 2 := fun q _ e => by
    rcases e with e | e
    · exact .inl (e ▸ h.cw)
    · exact .inr (h.cr q e)
  have hgl : ∀ q, (Value.slice (some ⟨g, 0, none⟩) (Ps.length + 1) cc).ownBlock = some q → g = q := fun q hq => by simpa [Value.ownBlock] using hq
  have hpg : ∀ q, p.fp q → q ≠ g := fun q hq e => by
    have h1 := hpf q hq
    have h2 := (hp.lt hq).2
    rcases hg with e2 | e2
    · have := (row_blkZ h.row e2).2.1
      omega
    · omega
  obtain ⟨l1, l2, l3⟩ := h.len
  let c' : Nat → Nat := fun q => if q < w.heap.size then c q else if q = g then 2 else 6 + Ps.length
  have hc' : ∀ q, q < w.heap.size → c' q = c q := fun q hq => if_pos hq
  have hwk := h.walks (c' := c') hK (fun q hq e => by rcases hF q hq e with e | e <;> omega) hc'
  refine ⟨c', hW, (hc' _ h.wb.lt).trans h.cw, ?_, fun q hq => ?_, fun n r hr2 => ?_, h.bt.kept hK (fun q hq e => by rcases hF q hq e with e | e <;> omega) hc', h.bn.kept hK (fun q hq e => by rcases hF q hq e with e | e <;> omega) hc', ⟨by simp; omega, by omega, by omega⟩, h.low.trans (hK.below (fun q e => ?_) h.big), Nat.le_trans h.big hK.size, h.lW⟩
  · rw [List.map_append, List.length_append]
    exact hr
  · have e := hgl q hq
    subst e
    rcases hg with e2 | e2
    · rw [hc' _ (row_blkZ h.row e2).2.1]
      exact h.cr _ e2
    · show (if g < w.heap.size then c g else if g = g then 2 else 6 + Ps.length) = 2
      rw [if_neg (by omega), if_pos rfl]
  · by_cases hn : n < Ps.length
    · rw [List.getElem?_append_left hn] at hr2
      exact hwk n r hr2
    · rw [List.getElem?_append_right (by omega)] at hr2
      have h0 : n - Ps.length = 0 := by have := (List.getElem?_eq_some_iff.1 hr2).1; simp at this; omega
      rw [h0] at hr2
      cases hr2
      have hnl : n = Ps.length := by omega
      subst hnl
      refine ⟨hp.kept hk (fun q hq e => ?_), fun q hq => ?_⟩
      · have h1 := hpf q hq
        rcases e with e | e
        · have := h.wb.lt
          omega
        · have := (row_blkZ h.row e).2.1
          omega
      · have h1 := hpf q hq
        show (if q < w.heap.size then c q else if q = g then 2 else 6 + Ps.length) = 6 + Ps.length
        rw [if_neg (by omega), if_neg (hpg q hq)]
  · rcases e with e | e
    · exact e ▸ h.lW
    · exact (row_blkZ h.row e).1
end Go.Proofs.YtgaoeoijdpdjiaaGreatDoor

namespace Go.Proofs.YtgaoeoijdpdjiaaGreatDoor
open Go.RowKit
variable {lo Wb j : Nat} {Wd w w' : World} {bI dv hv wv bT bN : Value} {c : Nat → Nat} {ST SN : List Value} {Ps : List PrW}
/-- What a call of a walk leaves of the world. -/
def WQ (lo Wb : Nat) (Wd : World) (bI dv hv : Value) (j n : Nat) (wv : Value) (w' : World) : Prop := ∃ c' bT' bN' ST' SN' Ps', WI lo Wb Wd bI dv hv (j + 1) c' wv bT' bN' ST' SN' Ps' w' ∧ Ps'.length = n
def WZ (Wb : Nat) (bT bN : Value) (p : PrW) (q : Nat) : Prop := q = Wb ∨ bT.ownBlock = some q ∨ bN.ownBlock = some q ∨ p.fp q
theorem WI.tn (h : WI lo Wb Wd bI dv hv j c wv bT bN ST SN Ps w) (hT : Tn Wd) (hTB : 0 < lo) : Tn w := hT.below h.low hTB
theorem WI.calm (h : WI lo Wb Wd bI dv hv j c wv bT bN ST SN Ps w) {p : PrW} (hb : Below w.heap.size w w') : Kept (WZ Wb bT bN p) w w' ∧ w'.cell? ⟨Wb, 3, none⟩ = w.cell? ⟨Wb, 3, none⟩ ∧ WQ lo Wb Wd bI dv hv j Ps.length wv w' :=
  ⟨Kept.of_below hb, hb.cell h.wb.lt, _, _, _, _, _, _, (h.below hb).next, rfl⟩
theorem WI.keepT (h : WI lo Wb Wd bI dv hv j c wv bT bN ST SN Ps w) (hj : j ≤ 1099511627776) (p : PrW) {V : World} (hb : Below w.heap.size w V) {v : Value} {n : Nat} {xs : List Value} (hn : n ≤ 250) (hr : V.ownsRow w.heap.size 9 1 v n xs) :
    Calls Tryz.prog 113 #[.pointer (some ⟨Wb, 0, none⟩), v] V fun e w' => e = .returned (.tuple #[]) ∧ Kept (WZ Wb bT bN p) w w' ∧ w'.cell? ⟨Wb, 3, none⟩ = w.cell? ⟨Wb, 3, none⟩ ∧ WQ lo Wb Wd bI dv hv j Ps.length wv w' := by
  have hV := h.below hb
  obtain ⟨-, l2, -⟩ := h.len
  have hfr : ∀ q, v.ownBlock = some q → w.heap.size ≤ q := fun q hq => (row_blkZ hr hq).1
  refine (keepT_on lo Wb (wldQ bI bT bN wv dv hv) bT v ST n xs V hV.wb rfl hV.bt.row (owns_lower' hr h.big) (by omega) hn hV.big).mono ?_
  rintro e w' ⟨rfl, v', a1, a2, a3, y1, y2, y3, y4, y5, y6, y7, y8, y9⟩
  obtain ⟨c', z⟩ := h.text hb (by omega) hfr y1 y2 y3 y4 y5 y6 y7 (fun u hu q hq => y8 u hu q hq) y9
  refine ⟨rfl, (Kept.of_below hb).trans y7 (fun q e => ?_), ?_, c', _, _, _, _, _, z, rfl⟩
  · rcases e with e | e | e
    · exact .inl (.inl e)
    · exact .inl (.inr (.inl e))
    · exact .inr (hfr q e)
  · rw [y1.cell 3, h.wb.cell 3]
    rfl
theorem WI.keepN (h : WI lo Wb Wd bI dv hv j c wv bT bN ST SN Ps w) (hj : j ≤ 1099511627776) (p : PrW) {V : World} (hb : Below w.heap.size w V) {v : Value} {n : Nat} {xs : List Value} (hn : n ≤ 250) (hr : V.ownsRow w.heap.size 100 3 v n xs) :
    Calls Tryz.prog 116 #[.pointer (some ⟨Wb, 0, none⟩), v] V fun e w' => e = .returned (.tuple #[]) ∧ Kept (WZ Wb bT bN p) w w' ∧ w'.cell? ⟨Wb, 3, none⟩ = w.cell? ⟨Wb, 3, none⟩ ∧ WQ lo Wb Wd bI dv hv j Ps.length wv w' := by
  have hV := h.below hb
  obtain ⟨-, -, l3⟩ := h.len
  have hfr : ∀ q, v.ownBlock = some q → w.heap.size ≤ q := fun q hq => (row_blkZ hr hq).1
  refine (keepN_on lo Wb (wldQ bI bT bN wv dv hv) bN v SN n xs V hV.wb rfl hV.bn.row (owns_lower' hr h.big) (by omega) hn hV.big).mono ?_
  rintro e w' ⟨rfl, v', a1, a2, a3, y1, y2, y3, y4, y5, y6, y7, y8, y9⟩
  obtain ⟨c', z⟩ := h.node hb (by omega) hfr y1 y2 y3 y4 y5 y6 y7 (fun u hu q hq => y8 u hu q hq) y9
  refine ⟨rfl, (Kept.of_below hb).trans y7 (fun q e => ?_), ?_, c', _, _, _, _, _, z, rfl⟩
  · rcases e with e | e | e
    · exact .inl (.inl e)
    · exact .inl (.inr (.inr (.inl e)))
    · exact .inr (hfr q e)
  · rw [y1.cell 3, h.wb.cell 3]
    rfl
theorem WI.left (h : WI lo Wb Wd bI dv hv j c wv bT bN ST SN Ps w) {i : Nat} {p : PrW} (hp : Ps[i]? = some p) (hl : PLeftW lo p w w') : Kept (WZ Wb bT bN p) w w' ∧ w'.cell? ⟨Wb, 3, none⟩ = w.cell? ⟨Wb, 3, none⟩ ∧ WQ lo Wb Wd bI dv hv j Ps.length wv w' := by
  obtain ⟨c', Ps', z1, z2⟩ := h.turn hp hl
  obtain ⟨p', -, -, -, hk, -⟩ := hl
  refine ⟨hk.mono (fun q _ e => .inr (.inr (.inr e))), ?_, c', _, _, _, _, Ps', z1, z2⟩
  rw [z1.wb.cell 3, h.wb.cell 3]
/-- A call of a walk. -/
theorem walked_any (h : WI lo Wb Wd bI dv hv j c wv bT bN ST SN Ps w) (hj : j ≤ 1099511627776) (hT : Tn Wd) (hTB : 0 < lo) {i : Nat} {p : PrW} (hp : Ps[i]? = some p) (d : OpD) (h1 : 20 < d.kd) :
    Calls Tryz.prog 59 #[.pointer (some ⟨Wb, 0, none⟩), .agg #[.pointer (some ⟨p.X, 0, none⟩), .pointer (some ⟨p.R, 0, none⟩)], opV d] w fun e w' => e = .returned (.bool true) ∧ Kept (WZ Wb bT bN p) w w' ∧ w'.cell? ⟨Wb, 3, none⟩ = w.cell? ⟨Wb, 3, none⟩ ∧ WQ lo Wb Wd bI dv hv j Ps.length wv w' := by
  obtain ⟨hP, hcp⟩ := h.pa i p hp
  have hT1 := hP.x.T1
  have hT4 := hP.x.T4
  have h16 : 2 ^ p.T ≤ 16 := Nat.le_trans (Nat.pow_le_pow_right (by decide) hT4) (by decide)
  by_cases k1 : d.kd = 21
  · unfold opV opC
    rw [k1]
    refine (walked_at Wb p.X p.R d.on d.a d.b d.s d.t d.u d.l1 d.l2 d.l3 d.k1 d.k2 d.k3 d.c0 d.c1 d.c2 d.c3 d.c4 d.d0 d.d1 d.d2 d.p0 d.p1 d.p2 d.p3 (p.a : Int) w (fun V hb => wl_at (hP.below hb).x) (fun V hb => rw_at (hP.below hb).r)).mono ?_
    rintro e w' ⟨rfl, hb⟩
    exact ⟨rfl, h.calm hb⟩
  by_cases k2 : d.kd = 22
  · unfold opV opC
    rw [k2]
    exact walked_path Wb p.X p.R d.on d.a d.b d.s d.t d.u d.l1 d.l2 d.l3 d.k1 d.k2 d.k3 d.c0 d.c1 d.c2 d.c3 d.c4 d.d0 d.d1 d.d2 d.p0 d.p1 d.p2 d.p3 p.T (wlP p.tv p.T p.a) _ w (by omega) (fun V hb => wl_path (hP.below hb).x) (fun V hb => rw_path (hP.below hb).r hT4 hP.x.ha) (fun V v hb hr => h.keepT hj p hb (by omega) hr)
  by_cases k3 : d.kd = 23
  · unfold opV opC
    rw [k3]
    by_cases hr : 0 ≤ d.a ∧ d.a < (p.T : Int)
    · obtain ⟨n, hn⟩ := Int.eq_ofNat_of_zero_le hr.1
      rw [hn]
      have hnT : n < p.T := by omega
      have hlen := sk_len hT4 hP.x.ha hnT
      exact walked_stack Wb p.X p.R d.on n d.b d.s d.t d.u d.l1 d.l2 d.l3 d.k1 d.k2 d.k3 d.c0 d.c1 d.c2 d.c3 d.c4 d.d0 d.d1 d.d2 d.p0 d.p1 d.p2 d.p3 _ _ 0 _ w (by omega) (.inr rfl) (fun V hb => wl_stack (hP.below hb).x hnT) (fun V hb => rw_stack (hP.below hb).r hT4 hP.x.ha hnT) (fun V v hb hr => h.keepN hj p hb (by omega) hr)
    · have hbad : d.a < 0 ∨ (p.T : Int) ≤ d.a := by omega
      refine walked_stack Wb p.X p.R d.on d.a d.b d.s d.t d.u d.l1 d.l2 d.l3 d.k1 d.k2 d.k3 d.c0 d.c1 d.c2 d.c3 d.c4 d.d0 d.d1 d.d2 d.p0 d.p1 d.p2 d.p3 0 [] 2 _ w (by omega) (.inl rfl) (fun V hb => (wl_stack_bad (hP.below hb).x hbad).mono ?_) (fun V hb => (rw_stack_bad (hP.below hb).r hbad).mono ?_) (fun V v hb hr => h.keepN hj p hb (by omega) hr)
      · rintro e w' ⟨rfl, rfl⟩
        exact ⟨_, rfl, World.ownsRow_nil _ _ _ _, Below.refl _ _⟩
      · rintro e w' ⟨rfl, rfl⟩
        exact ⟨_, rfl, World.ownsRow_nil _ _ _ _, Below.refl _ _⟩
  by_cases k4 : d.kd = 24
  · unfold opV opC
    rw [k4]
    have hTn := h.tn hT hTB
    have ha := hP.x.ha
    by_cases hn : p.a + 1 < 2 ^ p.T
    · refine (walked_next Wb p.X p.R d.on d.a d.b d.s d.t d.u d.l1 d.l2 d.l3 d.k1 d.k2 d.k3 d.c0 d.c1 d.c2 d.c3 d.c4 d.d0 d.d1 d.d2 d.p0 d.p1 d.p2 d.p3 0 p.fp (HalfW lo p w) (PLeftW lo p w) w (fun q e => (hP.lt e).2) (fun V hb => halfW hP hb hTn hTB h.big hn) (fun V hh => wholeW hP hh hn)).mono ?_
      rintro e w' ⟨rfl, hl⟩
      exact ⟨rfl, h.left hp hl⟩
    · have hsp : p.a + 1 = 2 ^ p.T := by omega
      refine (walked_next Wb p.X p.R d.on d.a d.b d.s d.t d.u d.l1 d.l2 d.l3 d.k1 d.k2 d.k3 d.c0 d.c1 d.c2 d.c3 d.c4 d.d0 d.d1 d.d2 d.p0 d.p1 d.p2 d.p3 10 (fun _ => False) (fun V => Below w.heap.size w V) (fun V => Below w.heap.size w V) w (fun q e => e.elim) (fun V hb => (wl_spent (hP.below hb).x hsp).mono ?_) (fun V hb => (rw_spent (hP.below hb).r hT4 hsp).mono ?_)).mono ?_
      · rintro e w' ⟨rfl, hb2⟩
        exact ⟨rfl, Kept.of_below hb2, hb.trans (hb2.mono hb.size)⟩
      · rintro e w' ⟨rfl, hb2⟩
        exact ⟨rfl, hb.trans (hb2.mono hb.size)⟩
      · rintro e w' ⟨rfl, hb⟩
        exact ⟨rfl, h.calm hb⟩
  · unfold opV opC
    refine (walked_none Wb p.X p.R d.kd d.on d.a d.b d.s d.t d.u d.l1 d.l2 d.l3 d.k1 d.k2 d.k3 d.c0 d.c1 d.c2 d.c3 d.c4 d.d0 d.d1 d.d2 d.p0 d.p1 d.p2 d.p3 w (by omega)).mono ?_
    rintro e w' ⟨rfl, hb⟩
    exact ⟨rfl, h.calm hb⟩
/-- A walk is asked for, and there is one. -/
theorem wnew_yes (h : WI lo Wb Wd bI dv hv j c wv bT bN ST SN Ps w) (hj : j ≤ 1099511627776) (hT : Tn Wd) (hTB : 0 < lo) (d : OpD) (b x e f t l : Nat) (R : RSet d.c0 b x e f t l) (e1 : d.c1 = b) (e2 : d.c2 = x) (e3 : d.c3 = t) (e4 : d.c4 = l) (hp2 : d.p2 = 0) (hp3 : d.p3 = 0) (hlf : leafB t l d.p0 d.p1 0 = true) (s1 : d.d0.size = b) (s2 : d.d1.size = b) (s3 : d.d2.size = b) (hkd : d.kd = 20) :
    Calls Tryz.prog 58 #[.pointer (some ⟨Wb, 0, none⟩), opV d] w fun e w' => e = .returned (.bool true) ∧ ∃ c' wv' bT' bN' ST' SN' Ps', WI lo Wb Wd bI dv hv (j + 1) c' wv' bT' bN' ST' SN' Ps' w' ∧ Ps'.length = Ps.length + 1 := by
  obtain ⟨wa, wc, hwv⟩ := owns_shape h.row
  have hwb := h.wb
  have hrow := h.row
  rw [hwv] at hwb hrow
  have hlen := h.len.1
  unfold opV opC
  rw [hkd]
  refine (walk_yes lo Wb 20 d.on d.a d.b d.s d.t d.u d.l1 d.l2 d.l3 d.k1 d.k2 d.k3 d.c0 d.c1 d.c2 d.c3 d.c4 d.d0 d.d1 d.d2 d.p0 d.p1 d.p2 d.p3 _ _ _ _ _ wa Ps.length wc _ (fun X V => ∃ q, Wl lo X q (trV d.c0 b x t l (b * e + f) d.d0 d.d1 d.d2 d.p0 d.p1) (nodeS d.c0 b (x - 1) (b * e + f) d.d0 d.d2 d.p0 d.p1) t 0 V ∧ w.heap.size ≤ X ∧ ∀ z, q.foot z → w.heap.size ≤ z) (fun X R V => ∃ p : PrW, p.X = X ∧ p.R = R ∧ PW lo p V ∧ ∀ q, p.fp q → w.heap.size ≤ q) w hwb hrow (by omega) h.big (fun V hb => ?_) (fun X V hb hq => ?_)).mono ?_
  · rw [e1, e2, e3, e4, hp2, hp3]
    have hV := h.below hb
    refine (wl_new d.c0 b x e f t l R d.d0 d.d1 d.d2 s1 s2 s3 d.p0 d.p1 hlf lo V (hV.tn hT hTB) hV.big).mono ?_
    rintro e' w' ⟨X, q, rfl, y1, y2, y3, y4⟩
    exact ⟨X, rfl, ⟨q, y1, Nat.le_trans hb.size y2, fun z hz => Nat.le_trans hb.size (y3 z hz)⟩, y4⟩
  · obtain ⟨q, y1, y2, y3⟩ := hq
    rw [e1, e2, e3, e4, hp2, hp3]
    refine (rnw_tree d.c0 b x e f t l R d.d0 d.d1 d.d2 s1 s2 s3 d.p0 d.p1 hlf V).mono ?_
    rintro e' w' ⟨Rr, ra, rc, vs, rfl, z1, z2, z3⟩
    have hlo : lo ≤ V.heap.size := Nat.le_trans h.big hb.size
    refine ⟨Rr, rfl, ⟨⟨X, Rr, q, ra, rc, vs, d.p0, d.p1, _, _, t, 0⟩, rfl, rfl, ⟨y1.on z3, ⟨z1.b, z1.g.low' hlo⟩, ⟨_, trOk d.c0 b x e f t l R d.d0 d.d1 d.d2 d.p0 d.p1 s1 s3⟩, Nat.le_trans hlo z2, fun v hv z hz hf => ?_⟩, fun z hz => ?_⟩, z3⟩
    · have h1 := (z1.g.lt.2 v hv z hz).1
      have h2 := (y1.i.foot_lt z hf).2
      omega
    · have hbs := hb.size
      rcases hz with e | e | e | e | ⟨v, hv, e⟩
      · exact e ▸ y2
      · exact y3 z e
      · have : z = Rr := e
        omega
      · have := (z1.g.lt.1 z e).1
        omega
      · have := (z1.g.lt.2 v hv z e).1
        omega
  · rintro e' w' ⟨rfl, X, Rr, g, cc, V, y1, ⟨p, rfl, rfl, y3, y4⟩, y5, y6, y7, y8⟩
    rw [← hwv] at y7 y8
    obtain ⟨c', z⟩ := h.add y1 y3 y4 y5 y6 y7 y8
    exact ⟨rfl, c', _, _, _, _, _, _, z, by simp⟩
theorem wstep (h : WI lo Wb Wd bI dv hv j c wv bT bN ST SN Ps w) (hj : j ≤ 1099511627776) (hT : Tn Wd) (hTB : 0 < lo) (d : OpD) (ok : OpOk Wd d) (h1 : 20 ≤ d.kd) (h2 : d.kd < 30) :
    Calls Tryz.prog 32 #[.pointer (some ⟨Wb, 0, none⟩), opV d] w fun e w' => e = .returned (.bool true) ∧ ∃ c' wv' bT' bN' ST' SN' Ps', WI lo Wb Wd bI dv hv (j + 1) c' wv' bT' bN' ST' SN' Ps' w' ∧ (20 < d.kd → Ps'.length = Ps.length) := by
  have hlen := h.len.1
  by_cases hk : d.kd = 20
  · have hop : opV d = opV { d with kd := 20 } := by rw [← hk]
    rw [hop]
    unfold opV opC
    dsimp only
    refine lstep_walk Wb d.on d.a d.b d.s d.t d.u d.l1 d.l2 d.l3 d.k1 d.k2 d.k3 d.c0 d.c1 d.c2 d.c3 d.c4 d.d0 d.d1 d.d2 d.p0 d.p1 d.p2 d.p3 _ _ _ wv dv hv _ w h.wb (fun V hb => ?_)
    have hV := h.below hb
    rcases nw_cases d.c0 d.c1 d.c2 d.c3 d.c4 d.d0 d.d1 d.d2 d.p0 d.p1 d.p2 d.p3 with ⟨er, hx, hr⟩ | ⟨b, x, e, f, t, l, R, e1, e2, e3, e4, hp2, hp3, hlf, s1, s2, s3⟩
    · refine (walk_no Wb 20 d.on d.a d.b d.s d.t d.u d.l1 d.l2 d.l3 d.k1 d.k2 d.k3 d.c0 d.c1 d.c2 d.c3 d.c4 d.d0 d.d1 d.d2 d.p0 d.p1 d.p2 d.p3 er V (fun V' hb' => hx V' ((hV.below hb').tn hT hTB)) (fun V' _ => hr V')).mono ?_
      rintro e w' ⟨rfl, hb2⟩
      exact ⟨rfl, c, wv, bT, bN, ST, SN, Ps, (hV.below hb2).next, fun _ => rfl⟩
    · have hy := wnew_yes hV hj hT hTB { d with kd := 20 } b x e f t l R e1 e2 e3 e4 hp2 hp3 hlf s1 s2 s3 rfl
      unfold opV opC at hy
      dsimp only at hy
      refine hy.mono ?_
      rintro e w' ⟨rfl, c', wv', bT', bN', ST', SN', Ps', z, -⟩
      exact ⟨rfl, c', wv', bT', bN', ST', SN', Ps', z, fun h => by omega⟩
  · by_cases hp : 0 < Ps.length
    · obtain ⟨g, wc, hwv, _, _⟩ := h.row.form hp
      have hwb := h.wb
      have hrow := h.row
      rw [hwv] at hwb hrow
      have hpz := pickZ_bd d.on Ps.length (by omega)
      obtain ⟨i, hi⟩ := Int.eq_ofNat_of_zero_le hpz.1
      obtain ⟨p, hpp⟩ : ∃ p, Ps[i]? = some p := ⟨_, List.getElem?_eq_getElem (by omega)⟩
      obtain ⟨hP, hcp⟩ := h.pa i p hpp
      have hg := h.cr g (by rw [hwv]; rfl)
      have hwk := fun (V : World) (hb : Below w.heap.size w V) => walked_any (h.below hb) hj hT hTB hpp d (by omega)
      unfold opV opC at hwk
      unfold opV opC
      refine (lstep_walked lo Wb d.kd d.on d.a d.b d.s d.t d.u d.l1 d.l2 d.l3 d.k1 d.k2 d.k3 d.c0 d.c1 d.c2 d.c3 d.c4 d.d0 d.d1 d.d2 d.p0 d.p1 d.p2 d.p3 _ _ _ dv hv g Ps.length wc i p.X p.R _ (WZ Wb bT bN p) (fun w' => WQ lo Wb Wd bI dv hv j Ps.length wv w') w (fun q e => ?_) hwb hrow (by omega) (by omega) (by omega) ok.on.1 ok.on.2 hi (by omega) (by rw [List.getElem?_map, hpp]; rfl) hwk).mono ?_
      · rcases e with e | e | e | e
        · exact ⟨e ▸ h.wb.lt, fun e2 => by have := h.cw; rw [← e, e2] at this; omega⟩
        · exact ⟨h.bt.lt.1 q e, fun e2 => by have := h.bt.cr q e; rw [e2] at this; omega⟩
        · exact ⟨h.bn.lt.1 q e, fun e2 => by have := h.bn.cr q e; rw [e2] at this; omega⟩
        · exact ⟨(hP.lt e).2, fun e2 => by have := hcp q e; rw [e2] at this; omega⟩
      · rintro e w' ⟨rfl, c', bT', bN', ST', SN', Ps', z1, z2⟩
        exact ⟨rfl, c', wv, bT', bN', ST', SN', Ps', z1, fun _ => z2⟩
    · have h0 : Ps.length = 0 := by omega
      obtain ⟨wa, wc, hwv⟩ := owns_shape h.row
      have hwb := h.wb
      rw [hwv, h0] at hwb
      unfold opV opC
      refine (lstep_wnone Wb d.kd d.on d.a d.b d.s d.t d.u d.l1 d.l2 d.l3 d.k1 d.k2 d.k3 d.c0 d.c1 d.c2 d.c3 d.c4 d.d0 d.d1 d.d2 d.p0 d.p1 d.p2 d.p3 _ _ _ dv hv wa wc w hwb (by omega) (by omega)).mono ?_
      rintro e w' ⟨rfl, hb⟩
      exact ⟨rfl, c, wv, bT, bN, ST, SN, Ps, (h.below hb).next, fun _ => rfl⟩
end Go.Proofs.YtgaoeoijdpdjiaaGreatDoor

namespace Go.Proofs.YtgaoeoijdpdjiaaGreatDoor
open Go.RowKit
def opW (kd c0 c1 c2 c3 c4 : Int) (d0 d1 d2 : ByteArray) : OpD := ⟨kd, 0, 0, 0, ⟨#[]⟩, ⟨#[]⟩, ⟨#[]⟩, none, 0, 0, [], none, 0, 0, [], c0, c1, c2, c3, c4, d0, d1, d2, 0, 0, 0, 0⟩
theorem opW_ok (w : World) (kd : Int) (h1 : I64 kd) : OpOk w (opW kd 0 0 0 0 0 ⟨#[]⟩ ⟨#[]⟩ ⟨#[]⟩) := by
  have z : I64 0 := ⟨by decide, by decide⟩
  have e : (⟨#[]⟩ : ByteArray).size ≤ maxLen := by decide
  exact ⟨h1, z, z, z, e, e, e, .inl ⟨rfl, rfl, rfl, rfl⟩, Nat.zero_le _, fun y hy => by simp [opW] at hy, .inl ⟨rfl, rfl, rfl, rfl⟩, Nat.zero_le _, z, z, z, z, z, e, e, e, z, z, z, z⟩
theorem wi_new {Wb : Nat} {Wd w : World} (hb : Below Wd.heap.size Wd w) (hW : Blk w Wb wldC 74) (hl : Wd.heap.size ≤ Wb) : WI Wd.heap.size Wb Wd (.slice none 0 0) (.slice none 0 0) (.slice none 0 0) 0 (fun _ => 1) (.slice none 0 0) (.slice none 0 0) (.slice none 0 0) [] [] [] w :=
  ⟨hW, rfl, World.ownsRow_nil _ _ _ _, fun q e => by simp [Value.ownBlock] at e, fun i p e => by simp at e, BkI.nil _ _ _ _ _ _ _ _, BkI.nil _ _ _ _ _ _ _ _, ⟨Nat.le_refl _, Nat.le_refl _, Nat.le_refl _⟩, hb, hb.size, hl⟩
theorem rset_beg : RSet 2 4 4 4 3 1 1 := ⟨.inl ⟨rfl, rfl, rfl, rfl⟩, .inr rfl, by decide, by decide, by decide, by decide, by decide⟩
set_option maxRecDepth 20000 in
set_option maxHeartbeats 4000000 in
theorem begins_walks (w : World) (hT : Tn w) : Calls Tryz.prog 31 #[.int .i64 20, .int .i64 24] w fun e w' => e = .returned (.bool true) ∧ Below w.heap.size w w' := by
  obtain ⟨W0, hW⟩ : ∃ W0, ((w.alloc (.cells #[.slice none 0 0, .slice none 0 0, .slice none 0 0, .slice none 0 0, .slice none 0 0, .slice none 0 0] 74)).alloc (.cells #[.int .i64 2, .int .i64 4, .int .i64 4, .int .i64 1, .int .i64 1] 23)).alloc (.cells #[.string ⟨#[97, 97, 97, 97]⟩, .string ⟨#[98, 98, 98, 98]⟩, .string ⟨#[99, 99, 99, 99]⟩] 25) = W0 := ⟨_, rfl⟩
  have HB := hide (show Below w.heap.size w W0 by subst hW; exact (((Below.refl _ _).alloc (Nat.le_refl _) _).alloc (by simp) _).alloc (by simp <;> omega) _)
  have H0 := hide (wi_new HB.out (show Blk W0 w.heap.size wldC 74 by rw [← hW]; exact ((Blk.new w wldC _).alloc _).alloc _) (Nat.le_refl _))
  have hTB := hT.pos
  have hS1 : Calls Tryz.prog 32 #[.pointer (some ⟨w.heap.size, 0, none⟩), opV (opW 20 2 4 4 1 1 ⟨#[97, 97, 97, 97]⟩ ⟨#[98, 98, 98, 98]⟩ ⟨#[99, 99, 99, 99]⟩)] W0 fun e w' => e = .returned (.bool true) ∧ ∃ c' wv' bT' bN' ST' SN' Ps', WI w.heap.size w.heap.size w (.slice none 0 0) (.slice none 0 0) (.slice none 0 0) (0 + 1) c' wv' bT' bN' ST' SN' Ps' w' ∧ Ps'.length = 1 := by
    unfold opV opC opW
    dsimp only
    refine lstep_walk w.heap.size 0 0 0 _ _ _ _ _ _ _ _ _ _ _ _ _ _ _ _ _ _ _ _ _ _ _ _ _ _ _ _ W0 H0.out.wb (fun V hb => ?_)
    have hy := wnew_yes (H0.out.below hb) (by decide) hT hTB (opW 20 2 4 4 1 1 ⟨#[97, 97, 97, 97]⟩ ⟨#[98, 98, 98, 98]⟩ ⟨#[99, 99, 99, 99]⟩) 4 4 4 3 1 1 rset_beg rfl rfl rfl rfl rfl rfl (by decide) rfl rfl rfl rfl
    exact hy
  unfold opV opC opW at hS1
  dsimp only at hS1
  have HS1 := hide hS1
  have HTT := hide hT
  have HTP := hide hTB
  have HWE := hide hW
  clear hS1 hW hT hTB
  go_enter Tryz.func31, Tryz.ntmps31
  go_wp2_with fail
  rw [HWE.out]
  refine HS1.out.mono ?_
  rintro e w1 ⟨rfl, c1, wv1, bT1, bN1, ST1, SN1, Ps1, h1, l1⟩
  have hS2 := wstep h1 (by decide) HTT.out HTP.out (opW 24 0 0 0 0 0 ⟨#[]⟩ ⟨#[]⟩ ⟨#[]⟩) (opW_ok w 24 ⟨by decide, by decide⟩) (by decide) (by decide)
  unfold opV opC opW at hS2
  dsimp only at hS2
  have HS2 := hide hS2
  have HL1 := hide l1
  clear hS2 h1 l1
  go_wp2_with fail
  refine HS2.out.mono ?_
  rintro e w2 ⟨rfl, c2, wv2, bT2, bN2, ST2, SN2, Ps2, h2, l2⟩
  have hS3 := wstep h2 (by decide) HTT.out HTP.out (opW 22 0 0 0 0 0 ⟨#[]⟩ ⟨#[]⟩ ⟨#[]⟩) (opW_ok w 22 ⟨by decide, by decide⟩) (by decide) (by decide)
  unfold opV opC opW at hS3
  dsimp only at hS3
  have HS3 := hide hS3
  have HL2 := hide l2
  clear hS3 h2 l2
  go_wp2_with fail
  refine HS3.out.mono ?_
  rintro e w3 ⟨rfl, c3, wv3, bT3, bN3, ST3, SN3, Ps3, h3, l3⟩
  have hlen : Ps3.length = 1 := by
    rw [l3 (by decide), HL2.out (by decide), HL1.out]
  obtain ⟨da, dc, hdv⟩ := owns_shape h3.row
  have k3 : w3.cell? ⟨w.heap.size, 3, none⟩ = some (.slice da 1 dc) := by
    have := h3.wb.cell 3
    rw [hdv, hlen] at this
    exact this
  have HLW := hide h3.low
  clear h3 l3 hlen hdv
  go_wp2
  go_ret
  exact ⟨rfl, HLW.out⟩
theorem mkT_len (i : Nat) : (mkT i).length = 1 := rfl
theorem mkN_len (i : Nat) : (mkN i).length = 3 := rfl
/-- A script of walks: every answer is the document's. -/
theorem plays_walks (v : Value) (L : List OpD) (w : World) (hT : Tn w) (hv : ScriptQ w v L) (hl : L.length ≤ 1099511627776) :
    Calls Tryz.prog 10 #[v, .int .i64 20, .int .i64 24] w fun e w' => e = .returned (.bool true) ∧ Below w.heap.size w w' := by
  have hTB := hT.pos
  refine plays_on v L 20 24 (fun j Wb V => ∃ c wv bT bN ST SN Ps, WI w.heap.size Wb w (.slice none 0 0) (.slice none 0 0) (.slice none 0 0) (min j L.length) c wv bT bN ST SN Ps V) w hv hl (begins_walks w hT) ?_ ?_ ?_ ?_ ?_ ?_
  · intro V Wb V' hb e hW hb2
    rw [Nat.zero_min]
    exact ⟨_, _, _, _, _, _, _, wi_new (hb.trans (hb2.mono hb.size)) hW (by rw [e]; exact hb.size)⟩
  · rintro j d Wb V hj hd ok h1 h2 ⟨c, wv, bT, bN, ST, SN, Ps, h⟩
    refine (wstep h (by omega) hT hTB d ok h1 (by omega)).mono ?_
    rintro e w' ⟨rfl, c', wv', bT', bN', ST', SN', Ps', z, _⟩
    rw [show min j L.length + 1 = min (j + 1) L.length by omega] at z
    exact ⟨rfl, c', wv', bT', bN', ST', SN', Ps', z⟩
  · rintro j Wb V ⟨c, wv, bT, bN, ST, SN, Ps, h⟩
    obtain ⟨-, l2, l3⟩ := h.len
    exact looks_on Wb _ _ _ _ [] ST SN V h.wb rfl rfl rfl (BkR.nil _ _) (h.bt.see mkT_len) (h.bn.see mkN_len) (by simp) (by omega) (by omega)
  · rintro j Wb V V' ⟨c, wv, bT, bN, ST, SN, Ps, h⟩ hb
    exact ⟨c, wv, bT, bN, ST, SN, Ps, h.below hb⟩
  · rintro j Wb V ⟨c, wv, bT, bN, ST, SN, Ps, h⟩
    by_cases hj : j < L.length
    · have z := h.next
      rw [show min j L.length + 1 = min (j + 1) L.length by omega] at z
      exact ⟨c, wv, bT, bN, ST, SN, Ps, z⟩
    · rw [show min j L.length = min (j + 1) L.length by omega] at h
      exact ⟨c, wv, bT, bN, ST, SN, Ps, h⟩
  · rintro j Wb V ⟨c, wv, bT, bN, ST, SN, Ps, h⟩
    exact h.low
end Go.Proofs.YtgaoeoijdpdjiaaGreatDoor
