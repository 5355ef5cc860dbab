/-
  The statement's own chains is true at every input. The statement's own nodes is true at every input.
-/
import Derived.Test.YtgaoeoijdpdjiaaGreatDoorPart19
import Derived.Test.YtgaoeoijdpdjiaaGreatDoorPart45
import Derived.Test.YtgaoeoijdpdjiaaGreatDoorPart39
import Derived.Test.YtgaoeoijdpdjiaaGreatDoorPart40
import Derived.Test.YtgaoeoijdpdjiaaGreatDoorPart37
namespace Go.Proofs.YtgaoeoijdpdjiaaGreatDoor
open Go.RowKit

theorem chains_true (k b x t l : Int) (pub y : ByteArray) (p0 p1 p2 p3 f to : Int) (w : World) (hT : Tn w) :
    Calls Tryz.prog 8 #[.agg #[.int .i64 k, .int .i64 b, .int .i64 x, .int .i64 t, .int .i64 l], .string pub, .agg #[.int .i64 p0, .int .i64 p1, .int .i64 p2, .int .i64 p3], .int .i64 f, .int .i64 to, .string y] w fun e w' => e = .returned (.bool true) ∧ Below w.heap.size w w' := by
  cases hr : rightB k b x t l with
  | false =>
    refine chains_on k b x t l pub y p0 p1 p2 p3 f to _ _ w hT (fun V hV => schain_on k b x t l pub y p0 p1 p2 p3 f to _ _ V hV (fun V _ => tchain_set k b x t l pub y p0 p1 p2 p3 f to V (fun V => ?_))) (fun V => rchain_set k b x t l pub y p0 p1 p2 p3 f to V (fun V => ?_))
    · have h := check_any k b x t l V; rw [hr] at h; exact h
    · have h := refCheck_any k b x t l V; rw [hr] at h; exact h
  | true =>
    obtain ⟨b', x', en, g, t', l', hp, hk, rfl, rfl, rfl, rfl, h1, h2, h3, h4⟩ := pair_of_right hr
    obtain ⟨g1, g2, g3, g4, g5, g6⟩ := pair_small hp
    have HC : ∀ V : World, Calls Tryz.prog 86 #[.agg #[.int .i64 k, .int .i64 b', .int .i64 x', .int .i64 t', .int .i64 l']] V fun e w' => e = .returned (.int .i64 0) ∧ Below V.heap.size V w' := fun V => by have h := check_any k b' x' t' l' V; rw [hr] at h; exact h
    have HR : ∀ V : World, Calls Tryz.prog 49 #[.agg #[.int .i64 k, .int .i64 b', .int .i64 x', .int .i64 t', .int .i64 l']] V fun e w' => e = .returned (.int .i64 0) ∧ Below V.heap.size V w' := fun V => by have h := refCheck_any k b' x' t' l' V; rw [hr] at h; exact h
    have HI : ∀ V : World, Calls Tryz.prog 87 #[.agg #[.int .i64 k, .int .i64 b', .int .i64 x', .int .i64 t', .int .i64 l'], .agg #[.int .i64 p0, .int .i64 p1, .int .i64 p2, .int .i64 p3]] V fun e w' => e = .returned (.bool (chainB t' l' (b' * en + g) p0 p1 p2 p3)) ∧ Below V.heap.size V w' := fun V => isChain_any k b' x' _ _ _ _ _ t' l' (b' * en + g) p0 p1 p2 p3 V h1 h2 h4 (fun V => setsMeasure_yes b' x' en g t' l' hp k V hk h1 h2 h3 h4)
    have HP : ∀ V : World, Calls Tryz.prog 51 #[.agg #[.int .i64 k, .int .i64 b', .int .i64 x', .int .i64 t', .int .i64 l'], .agg #[.int .i64 p0, .int .i64 p1, .int .i64 p2, .int .i64 p3]] V fun e w' => e = .returned (.bool (chainB t' l' (b' * en + g) p0 p1 p2 p3)) ∧ Below V.heap.size V w' := fun V => placed_any k x' _ _ _ _ _ b' t' l' (b' * en + g) p0 p1 p2 p3 V h2 h4 (fun V => refSizes_yes b' x' en g t' l' hp k V h1 h2 h3 h4)
    have ON : ∀ (cv : ByteArray) (er : Int), (∀ V : World, Tn V → Calls Tryz.prog 53 #[.agg #[.int .i64 k, .int .i64 b', .int .i64 x', .int .i64 t', .int .i64 l'], .string pub, .agg #[.int .i64 p0, .int .i64 p1, .int .i64 p2, .int .i64 p3], .int .i64 f, .int .i64 to, .string y] V fun e w' => e = .returned (.tuple #[.string cv, .int .i64 er]) ∧ Below V.heap.size V w') → (∀ V : World, Calls Tryz.prog 29 #[.agg #[.int .i64 k, .int .i64 b', .int .i64 x', .int .i64 t', .int .i64 l'], .string pub, .agg #[.int .i64 p0, .int .i64 p1, .int .i64 p2, .int .i64 p3], .int .i64 f, .int .i64 to, .string y] V fun e w' => e = .returned (.tuple #[.string cv, .int .i64 er]) ∧ Below V.heap.size V w') → Calls Tryz.prog 8 #[.agg #[.int .i64 k, .int .i64 b', .int .i64 x', .int .i64 t', .int .i64 l'], .string pub, .agg #[.int .i64 p0, .int .i64 p1, .int .i64 p2, .int .i64 p3], .int .i64 f, .int .i64 to, .string y] w fun e w' => e = .returned (.bool true) ∧ Below w.heap.size w w' := fun cv er hc hr => chains_on k b' x' t' l' pub y p0 p1 p2 p3 f to cv er w hT (fun V hV => schain_on k b' x' t' l' pub y p0 p1 p2 p3 f to cv er V hV hc) hr
    cases hc : chainB t' l' (b' * en + g) p0 p1 p2 p3 with
    | false =>
      rw [hc] at HI HP
      cases hv : allLen (b' : Int) [pub, y] with
      | false => exact ON _ _ (fun V _ => tchain_val k b' x' t' l' pub y p0 p1 p2 p3 f to V HC (values2 k b' x' t' l' pub y false hv)) (fun V => rchain_pla k b' x' t' l' pub y p0 p1 p2 p3 f to V HR HP)
      | true => exact ON _ _ (fun V _ => tchain_pla k b' x' t' l' pub y p0 p1 p2 p3 f to V HC (values2 k b' x' t' l' pub y true hv) HI) (fun V => rchain_pla k b' x' t' l' pub y p0 p1 p2 p3 f to V HR HP)
    | true =>
      rw [hc] at HI HP
      cases e1 : ((pub.size : Int) == (b' : Int)) with
      | false =>
        have hv : allLen (b' : Int) [pub, y] = false := by rw [Bool.eq_false_iff]; intro h; have := (allLen_iff _ _).1 h pub (by simp); rw [beq_eq_false_iff_ne] at e1; exact e1 this
        exact ON _ _ (fun V _ => tchain_val k b' x' t' l' pub y p0 p1 p2 p3 f to V HC (values2 k b' x' t' l' pub y false hv)) (fun V => rchain_pub k b' x' t' l' pub y p0 p1 p2 p3 f to V HR HP e1)
      | true =>
        cases e2 : ((y.size : Int) == (b' : Int)) with
        | false =>
          have hv : allLen (b' : Int) [pub, y] = false := by rw [Bool.eq_false_iff]; intro h; have := (allLen_iff _ _).1 h y (by simp); rw [beq_eq_false_iff_ne] at e2; exact e2 this
          exact ON _ _ (fun V _ => tchain_val k b' x' t' l' pub y p0 p1 p2 p3 f to V HC (values2 k b' x' t' l' pub y false hv)) (fun V => rchain_val k b' x' t' l' pub y p0 p1 p2 p3 f to V HR HP e1 e2)
        | true =>
          have s1 : (pub.size : Int) = (b' : Int) := by simpa using e1
          have s2 : (y.size : Int) = (b' : Int) := by simpa using e2
          have hv : allLen (b' : Int) [pub, y] = true := (allLen_iff _ _).2 (by intro z hz; simp at hz; rcases hz with rfl | rfl; exact s1; exact s2)
          have HV := values2 k b' x' t' l' pub y true hv
          by_cases f1 : f < 0
          · exact ON _ _ (fun V _ => tchain_fro k b' x' t' l' pub y p0 p1 p2 p3 f to V HC HV HI f1) (fun V => rchain_fro k b' x' t' l' pub y p0 p1 p2 p3 f to V HR HP e1 e2 f1)
          · by_cases f2 : to < f
            · exact ON _ _ (fun V _ => tchain_bac k b' x' t' l' pub y p0 p1 p2 p3 f to V HC HV HI (by omega) f2) (fun V => rchain_bac k b' x' t' l' pub y p0 p1 p2 p3 f to V HR HP e1 e2 (by omega) f2)
            · by_cases f3 : (x' : Int) ≤ to
              · exact ON _ _ (fun V _ => tchain_end k b' x' t' l' pub y p0 p1 p2 p3 f to V HC HV HI (by omega) (by omega) f3) (fun V => rchain_end k b' x' t' l' pub y p0 p1 p2 p3 f to V HR HP e1 e2 (by omega) (by omega) (by omega) (by omega) (by omega))
              · obtain ⟨q0, q1, q2, q3⟩ := chainB_bounds hc h2 h4 g4
                obtain ⟨F, rfl⟩ : ∃ F : Nat, f = (F : Int) := ⟨f.toNat, by omega⟩
                obtain ⟨n, hn⟩ : ∃ n : Nat, to = ((F + n : Nat) : Int) := ⟨(to - F).toNat, by omega⟩
                subst hn
                refine ON (chainS k b' pub p0 p1 p2 p3 F n y) 0 (fun V hV => tchain_yes k b' x' t' l' pub y p0 p1 p2 p3 F _ V HC HV HI (by omega) (by omega) (by omega) _ hV (fun V hV => schain_any k b' x' t' l' pub p0 p1 p2 p3 F n y V hk (by omega) (by omega) (by omega) s2 (by omega) hV)) (fun V => rchain_yes k b' x' t' l' pub y p0 p1 p2 p3 F _ V HR HP e1 e2 (by omega) (by omega) (by omega) (by omega) (by omega) _ (fun V => rchain_any k x' t' l' p0 p1 p2 p3 b' pub y F hk g1 g2 (by omega) s2 q0 q1 q2 q3 n (by omega) V))
end Go.Proofs.YtgaoeoijdpdjiaaGreatDoor

namespace Go.Proofs.YtgaoeoijdpdjiaaGreatDoor
open Go.RowKit

theorem nodes_true (k b x t l : Int) (sec rnd pub : ByteArray) (p0 p1 p2 p3 h j : Int) (w : World) (hT : Tn w) :
    Calls Tryz.prog 9 #[.agg #[.int .i64 k, .int .i64 b, .int .i64 x, .int .i64 t, .int .i64 l], .agg #[.string sec, .string rnd, .string pub], .agg #[.int .i64 p0, .int .i64 p1, .int .i64 p2, .int .i64 p3], .int .i64 h, .int .i64 j] w fun e w' => e = .returned (.bool true) ∧ Below w.heap.size w w' := by
  cases hr : rightB k b x t l with
  | false =>
    refine nodes_on k b x t l sec rnd pub p0 p1 p2 p3 h j _ _ w hT (fun V hV => snode_on k b x t l sec rnd pub p0 p1 p2 p3 h j _ _ V hV (fun V hV => tnode_err k b x t l sec rnd pub p0 p1 p2 p3 h j 1 V hV (fun V _ => new_set k b x t l _ _ _ _ _ _ sec rnd pub p0 p1 p2 p3 V (fun V => setsMeasure_no k b x t l V hr)) (Or.inl rfl))) (fun V => rnode_set k b x t l sec rnd pub p0 p1 p2 p3 h j V (fun V => ?_))
    have h := refCheck_any k b x t l V; rw [hr] at h; exact h
  | true =>
    obtain ⟨b', x', e, g, t', l', hp, hk, rfl, rfl, rfl, rfl, h1, h2, h3, h4⟩ := pair_of_right hr
    have hpr := hp
    obtain ⟨g1, g2, g3, g4, g5, g6⟩ := pair_small hp
    have HR : ∀ V : World, Calls Tryz.prog 49 #[.agg #[.int .i64 k, .int .i64 b', .int .i64 x', .int .i64 t', .int .i64 l']] V fun e w' => e = .returned (.int .i64 0) ∧ Below V.heap.size V w' := fun V => by have h := refCheck_any k b' x' t' l' V; rw [hr] at h; exact h
    have HM := fun V : World => setsMeasure_yes b' x' e g t' l' hp k V hk h1 h2 h3 h4
    have HZ := fun V : World => refSizes_yes b' x' e g t' l' hp k V h1 h2 h3 h4
    have HSD := fun V : World => seedsRight_any k b' x' t' l' sec rnd pub V
    have HSR := fun V : World => seeded_any k b' x' t' l' sec rnd pub V
    have HIT := fun V : World => isTree_any k b' x' t' l' p0 p1 p2 p3 V h1 h2 h4
    have HPL := fun V : World => placed_any k x' _ _ _ _ _ b' t' l' (b' * e + g) p0 p1 p2 p3 V h2 h4 HZ
    have ON : ∀ (cv : ByteArray) (er : Int), (∀ V : World, Tn V → Calls Tryz.prog 41 #[.agg #[.int .i64 k, .int .i64 b', .int .i64 x', .int .i64 t', .int .i64 l'], .agg #[.string sec, .string rnd, .string pub], .agg #[.int .i64 p0, .int .i64 p1, .int .i64 p2, .int .i64 p3], .int .i64 h, .int .i64 j] V fun e w' => e = .returned (.tuple #[.string cv, .int .i64 er]) ∧ Below V.heap.size V w') → (∀ V : World, Calls Tryz.prog 30 #[.agg #[.int .i64 k, .int .i64 b', .int .i64 x', .int .i64 t', .int .i64 l'], .agg #[.string sec, .string rnd, .string pub], .agg #[.int .i64 p0, .int .i64 p1, .int .i64 p2, .int .i64 p3], .int .i64 h, .int .i64 j] V fun e w' => e = .returned (.tuple #[.string cv, .int .i64 er]) ∧ Below V.heap.size V w') → Calls Tryz.prog 9 #[.agg #[.int .i64 k, .int .i64 b', .int .i64 x', .int .i64 t', .int .i64 l'], .agg #[.string sec, .string rnd, .string pub], .agg #[.int .i64 p0, .int .i64 p1, .int .i64 p2, .int .i64 p3], .int .i64 h, .int .i64 j] w fun e w' => e = .returned (.bool true) ∧ Below w.heap.size w w' := fun cv er hc hr => nodes_on k b' x' t' l' sec rnd pub p0 p1 p2 p3 h j cv er w hT (fun V hV => snode_on k b' x' t' l' sec rnd pub p0 p1 p2 p3 h j cv er V hV hc) hr
    cases hs : seedsB b' sec rnd pub with
    | false =>
      rw [hs] at HSD HSR
      exact ON _ _ (fun V hV => tnode_err k b' x' t' l' sec rnd pub p0 p1 p2 p3 h j 2 V hV (fun V _ => new_see k b' x' t' l' _ _ _ _ _ _ sec rnd pub p0 p1 p2 p3 V HM HSD) (Or.inr rfl)) (fun V => rnode_see k b' x' t' l' sec rnd pub p0 p1 p2 p3 h j V HR HSR _ HPL)
    | true =>
      rw [hs] at HSD HSR
      obtain ⟨s1, s2, s3⟩ := seedsB_size hs
      cases ht : ((leafB t' l' p0 p1 p2 && p3 == 0) && p2 == 0) with
      | false =>
        rw [ht] at HIT
        have HE := fun (V : World) (hV : Tn V) => tnode_err k b' x' t' l' sec rnd pub p0 p1 p2 p3 h j 2 V hV (fun V _ => new_pla k b' x' t' l' _ _ _ _ _ _ sec rnd pub p0 p1 p2 p3 V HM HSD HIT) (Or.inr rfl)
        cases hc : chainB t' l' (b' * e + g) p0 p1 p2 p3 with
        | false =>
          rw [hc] at HPL
          exact ON _ _ HE (fun V => rnode_pla k b' x' t' l' sec rnd pub p0 p1 p2 p3 h j V HR HSR HPL)
        | true =>
          rw [hc] at HPL
          cases z2 : (p2 == 0) with
          | false => exact ON _ _ HE (fun V => rnode_lea k b' x' t' l' sec rnd pub p0 p1 p2 p3 h j V HR HSR HPL z2)
          | true =>
            cases z3 : (p3 == 0) with
            | false => exact ON _ _ HE (fun V => rnode_cha k b' x' t' l' sec rnd pub p0 p1 p2 p3 h j V HR HSR HPL z2 z3)
            | true =>
              unfold chainB at hc
              rw [z2, z3] at ht
              simp at ht hc
              rw [ht] at hc
              simp at hc
      | true =>
        rw [ht] at HIT
        have ht' := ht
        simp only [Bool.and_eq_true] at ht'
        obtain ⟨⟨hl, z3⟩, z2⟩ := ht'
        have hp3 : p3 = 0 := by simpa using z3
        have hp2 : p2 = 0 := by simpa using z2
        have hc : chainB t' l' (b' * e + g) p0 p1 p2 p3 = true := by
          unfold chainB
          rw [hl, hp3]
          simp; omega
        obtain ⟨q0, q1, q2, q3⟩ := chainB_bounds hc h2 h4 g4
        rw [hc] at HPL
        have HN := fun V : World => new_yes k b' x' t' l' _ _ _ _ _ _ sec rnd pub p0 p1 p2 p3 V HM HSD HIT
        have HH := fun V : World => has_any k b' x' t' l' (b' * e + g) sec rnd pub p0 p1 p2 p3 h j V h1 h2
        have OUT : decide (0 ≤ h ∧ h ≤ (t' : Int) ∧ 0 ≤ j ∧ j < ((2 ^ (t' - h.toNat) : Nat) : Int)) = false → ∀ V : World, Tn V → Calls Tryz.prog 41 #[.agg #[.int .i64 k, .int .i64 b', .int .i64 x', .int .i64 t', .int .i64 l'], .agg #[.string sec, .string rnd, .string pub], .agg #[.int .i64 p0, .int .i64 p1, .int .i64 p2, .int .i64 p3], .int .i64 h, .int .i64 j] V fun e w' => e = .returned (.tuple #[.string ⟨#[]⟩, .int .i64 2]) ∧ Below V.heap.size V w' := fun hd V hV => tnode_out k b' x' t' l' _ sec rnd pub p0 p1 p2 p3 h j V hV (fun V _ => HN V) (fun V => by have h := HH V; rw [hd] at h; exact h)
        by_cases f1 : h < 0
        · exact ON _ _ (OUT (decide_eq_false (fun h => by omega))) (fun V => rnode_low k b' x' t' l' sec rnd pub p0 p1 p2 p3 h j V HR HSR HPL z2 z3 f1)
        · by_cases f2 : (t' : Int) < h
          · exact ON _ _ (OUT (decide_eq_false (fun h => by omega))) (fun V => rnode_top k b' x' t' l' sec rnd pub p0 p1 p2 p3 h j V HR HSR HPL z2 z3 (by omega) f2)
          · by_cases f3 : j < 0
            · exact ON _ _ (OUT (decide_eq_false (fun h => by omega))) (fun V => rnode_neg k b' x' t' l' sec rnd pub p0 p1 p2 p3 h j V HR HSR HPL z2 z3 (by omega) (by omega) f3)
            · obtain ⟨n, rfl⟩ : ∃ n : Nat, h = (n : Int) := ⟨h.toNat, by omega⟩
              have hpw : 2 ^ (t' - n) ≤ 65536 := Nat.le_trans (Nat.pow_le_pow_right (by decide) (show t' - n ≤ 4 by omega)) (by decide)
              have HPW : ∀ V : World, Calls Tryz.prog 55 #[.int .i64 2, .int .i64 ((t' : Int) - (n : Int))] V fun e w' => e = .returned (.int .i64 ((2 ^ (t' - n) : Nat) : Int)) ∧ w' = V := fun V => by
                have hq := power_any 2 (t' - n) V (by decide) (by omega) hpw (by decide)
                rw [show ((t' - n : Nat) : Int) = (t' : Int) - (n : Int) by omega] at hq
                exact hq
              by_cases f4 : ((2 ^ (t' - n) : Nat) : Int) ≤ j
              · exact ON _ _ (OUT (decide_eq_false (fun h => by rw [Int.toNat_natCast] at h; exact absurd h.2.2.2 (Int.not_lt.2 f4)))) (fun V => rnode_far k b' x' t' l' sec rnd pub p0 p1 p2 p3 n j V HR HSR HPL z2 z3 (by omega) (by omega) (by omega) _ HPW (by omega) (by omega) f4)
              · obtain ⟨m, rfl⟩ : ∃ m : Nat, j = (m : Int) := ⟨j.toNat, by omega⟩
                have hm : m + 1 ≤ 2 ^ (t' - n) := by have : (m : Int) < ((2 ^ (t' - n) : Nat) : Int) := Int.not_le.1 f4; omega
                have hmn : (m + 1) * 2 ^ n ≤ 16 := by
                  have a1 : (m + 1) * 2 ^ n ≤ 2 ^ (t' - n) * 2 ^ n := Nat.mul_le_mul_right _ hm
                  rw [← Nat.pow_add, show t' - n + n = t' by omega] at a1
                  exact Nat.le_trans a1 (Nat.le_trans (Nat.pow_le_pow_right (by decide) h2) (by decide))
                have hwd : (x' : Int) = ((x' - 1 : Nat) : Int) + 1 := by omega
                refine ON (nodeS k b' (x' - 1) (b' * e + g) sec pub p0 p1 n m) 0 (fun V hV => tnode_yes k b' x' t' l' _ sec rnd pub p0 p1 p2 p3 n m V hV (fun V _ => HN V) (fun V => by have h := HH V; rw [decide_eq_true (by rw [Int.toNat_natCast]; exact ⟨by omega, by omega, by omega, Int.not_le.1 f4⟩)] at h; exact h) _ (fun V hV => node_any k b' x' t' l' sec rnd pub p0 p1 p2 p3 (b' * e + g) (x' - 1) hk (by omega) (by omega) (by omega) (by omega) g3 g4 (ch4_of hpr) (by omega) hwd n (by omega) m hmn V hV)) (fun V => rnode_yes k b' x' t' l' sec rnd pub p0 p1 p2 p3 n m V HR HSR HPL z2 z3 (by omega) (by omega) (by omega) _ HPW (by omega) (by omega) (Int.not_le.1 f4) _ (fun V => rnode_any k x' t' l' p0 p1 p2 p3 _ _ _ _ _ b' sec rnd pub (b' * e + g) (x' - 1) hk g1 g2 (by omega) (by omega) g3 g4 (by omega) hwd q0 q1 HZ n (by omega) m hmn V))
end Go.Proofs.YtgaoeoijdpdjiaaGreatDoor
