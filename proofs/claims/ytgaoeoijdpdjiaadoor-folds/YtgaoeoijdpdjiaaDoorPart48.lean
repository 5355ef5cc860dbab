/-
  Fold and Climb: the program answers as the document does. Fold and Climb: the program answers as the document does.
-/
import Derived.Test.YtgaoeoijdpdjiaaDoorPart21
import Derived.Test.YtgaoeoijdpdjiaaDoorPart44
import Derived.Test.YtgaoeoijdpdjiaaDoorPart37
import Derived.Test.YtgaoeoijdpdjiaaDoorPart47
import Derived.Test.YtgaoeoijdpdjiaaDoorPart43
namespace Go.Proofs.YtgaoeoijdpdjiaaDoor
open Go.RowKit

theorem leaf_chain (lf q3 : Bool) (ch : Nat) (p3 : Int) (h : 1 ≤ ch) (hq : (p3 == 0) = q3) (r : Bool) : ((lf && decide (0 ≤ p3 ∧ p3 < (ch : Int))) && (q3 && r)) = ((lf && q3) && r) := by
  cases q3 with
  | false => simp
  | true =>
    have : p3 = 0 := by simpa using hq
    subst this
    have : decide ((0 : Int) ≤ 0 ∧ (0 : Int) < (ch : Int)) = true := by simp; omega
    rw [this]; simp

theorem foldBoth (k b x t l : Int) (pub : ByteArray) (p0 p1 p2 p3 : Int) (xs : List ByteArray) (hN : xs.length ≤ 8796093022208) : ∃ (cv : ByteArray) (er : Int), (∀ (V : World) (sp : Option Addr) (n c : Nat), StrsAt V sp n c xs → Tn V → Calls Tryd.prog 41 #[.agg #[.int .i64 k, .int .i64 b, .int .i64 x, .int .i64 t, .int .i64 l], .string pub, .agg #[.int .i64 p0, .int .i64 p1, .int .i64 p2, .int .i64 p3], .slice sp n c] V fun e w' => e = .returned (.tuple #[.string cv, .int .i64 er]) ∧ Below V.heap.size V w') ∧ (∀ (V : World) (sp : Option Addr) (n c : Nat), StrsAt V sp n c xs → Calls Tryd.prog 25 #[.agg #[.int .i64 k, .int .i64 b, .int .i64 x, .int .i64 t, .int .i64 l], .string pub, .agg #[.int .i64 p0, .int .i64 p1, .int .i64 p2, .int .i64 p3], .slice sp n c] V fun e w' => e = .returned (.tuple #[.string cv, .int .i64 er]) ∧ Below V.heap.size V w') := by
  cases hr : rightB k b x t l with
  | false =>
    refine ⟨⟨#[]⟩, 1, fun V sp n c _ _ => fT_set k b x t l 0 0 0 0 0 0 pub p0 p1 p2 p3 sp n c V (fun V => ?_), fun V sp n c _ => fR_set k b x t l pub p0 p1 p2 p3 sp n c V (fun V => ?_)⟩
    · exact setsMeasure_no k b x t l V hr
    · have h := refCheck_any k b x t l V; rw [hr] at h; exact h
  | true =>
    obtain ⟨b', x', en, g, t', l', hp, hk, rfl, rfl, rfl, rfl, h1, h2, h3, h4⟩ := pair_of_right hr
    obtain ⟨g1, g2, g3, g4, g5, g6⟩ := pairF_small hp
    have HC : ∀ V : World, Calls Tryd.prog 66 #[.agg #[.int .i64 k, .int .i64 b', .int .i64 x', .int .i64 t', .int .i64 l']] V fun e w' => e = .returned (.int .i64 0) ∧ Below V.heap.size V w' := fun V => by have h := check_any k b' x' t' l' V; rw [hr] at h; exact h
    have HR : ∀ V : World, Calls Tryd.prog 42 #[.agg #[.int .i64 k, .int .i64 b', .int .i64 x', .int .i64 t', .int .i64 l']] V fun e w' => e = .returned (.int .i64 0) ∧ Below V.heap.size V w' := fun V => by have h := refCheck_any k b' x' t' l' V; rw [hr] at h; exact h
    have HM := fun V : World => setsMeasure_yes b' x' en g t' l' hp k V hk h1 h2 h3 h4
    have HZ := fun V : World => refSizes_yes b' x' en g t' l' hp k V h1 h2 h3 h4
    have HI := fun V : World => isLeaf_any k b' x' t' l' p0 p1 p2 p3 V h1 h2 h4
    have HP := fun V : World => placed_any k x' _ _ _ _ _ b' t' l' (b' * en + g) p0 p1 p2 p3 V h2 h4 HZ
    unfold chainB at HP
    cases hq : ((pub.size : Int) == (b' : Int) && ((leafB t' l' p0 p1 p2 && p3 == 0) && ((xs.length : Int) == ((b' * en + g : Nat) : Int) && allLen b' xs))) with
    | false =>
      refine ⟨⟨#[]⟩, 2, fun V sp n c h _ => fT_no k b' x' t' l' _ _ _ _ _ _ pub p0 p1 p2 p3 sp n c V _ _ (allLen b' xs) HM (fun V B hB => values1 k b' x' t' l' pub V B hB) HI (fun V hb => vals_any k b' x' t' l' sp n c xs V (h.on hb) hN) ?_, fun V sp n c h => fR_no k b' x' t' l' _ _ _ _ _ _ pub p0 p1 p2 p3 sp n c V _ _ HR HZ HP (fun V hb => rvals_any k b' x' t' l' _ sp n c xs V (h.on hb) hN) ?_⟩
      · rw [h.len]; exact hq
      · rw [leaf_chain _ _ _ _ g3 rfl]
        rw [← hq, Bool.beq_eq_decide_eq ((xs.length : Int))]
        cases leafB t' l' p0 p1 p2 <;> cases (p3 == 0) <;> cases ((pub.size : Int) == (b' : Int)) <;> cases allLen b' xs <;> simp
    | true =>
      simp only [Bool.and_eq_true] at hq
      obtain ⟨e4, ⟨hl, e3⟩, e6, hv⟩ := hq
      have s1 : (pub.size : Int) = (b' : Int) := by simpa using e4
      have s3 : p3 = 0 := by simpa using e3
      have s6 : xs.length = b' * en + g := by have : (xs.length : Int) = ((b' * en + g : Nat) : Int) := by simpa using e6
                                              omega
      have hcb : chainB t' l' (b' * en + g) p0 p1 p2 p3 = true := by unfold chainB; rw [hl, s3]; simp; omega
      obtain ⟨q0, q1, q2, q3⟩ := chainF_bounds hcb h2 h4 g4
      have hxs := (allLen_iff (b' : Int) xs).1 hv
      rw [hl, e3] at HI
      have HP' : ∀ V : World, Calls Tryd.prog 44 #[.agg #[.int .i64 k, .int .i64 b', .int .i64 x', .int .i64 t', .int .i64 l'], .agg #[.int .i64 p0, .int .i64 p1, .int .i64 p2, .int .i64 p3]] V fun e w' => e = .returned (.bool true) ∧ Below V.heap.size V w' := fun V => by have h := HP V; unfold chainB at hcb; rw [hcb] at h; exact h
      refine ⟨foldS k b' pub p0 p1 p2 6 0 xs, 0, fun V sp n c h hT => fT_yes k b' x' t' l' _ _ _ _ _ _ pub p0 p1 p2 p3 sp n c _ V HM (fun V B hB => ?_) HI (by rw [h.len]; exact e6) (fun V hb => ?_) (fun V hb hV => ?_) hT, fun V sp n c h => fR_yes k b' x' t' l' _ _ _ _ _ _ pub p0 p1 p2 p3 sp n c _ V HR HZ HP' (fun V hb => ?_) e3 e4 (fun V hb => ?_)⟩
      · have h := values1 k b' x' t' l' pub V B hB; rw [e4] at h; exact h
      · have h' := vals_any k b' x' t' l' sp n c xs V (h.on hb) hN; rw [hv] at h'; exact h'
      · rcases h.on hb with ⟨_, _, _, rfl⟩ | ⟨_, _, _, rfl⟩ | ⟨bk, o, rfl, rfl, u1, u2, u3⟩
        · simp at s6; omega
        · simp at s6; omega
        · exact sfold_any k b' x' t' l' pub p0 p1 p2 p3 bk o c xs V u3 u2 u1 (by omega) (by omega) hk (by omega) (by omega) (by omega) hxs hV
      · have h' := rvals_any k b' x' t' l' ((b' * en + g : Nat) : Int) sp n c xs V (h.on hb) hN
        rw [hv, show decide ((xs.length : Int) = ((b' * en + g : Nat) : Int)) = true by simp [s6]] at h'; exact h'
      · rcases h.on hb with ⟨_, _, _, rfl⟩ | ⟨_, _, _, rfl⟩ | ⟨bk, o, rfl, rfl, u1, u2, u3⟩
        · simp at s6; omega
        · simp at s6; omega
        · exact rfold_any k x' t' l' p0 p1 p2 p3 b' pub hk g1 g2 (by omega) q0 q1 q2 6 0 bk o c xs V (by omega) u3 u2 u1 (by omega) (by omega) (by omega) hxs

end Go.Proofs.YtgaoeoijdpdjiaaDoor

namespace Go.Proofs.YtgaoeoijdpdjiaaDoor
open Go.RowKit

theorem leaf_chainC (lf q3 : Bool) (ch : Nat) (p3 : Int) (h : 1 ≤ ch) (hq : (p3 == 0) = q3) (r : Bool) : ((lf && decide (0 ≤ p3 ∧ p3 < (ch : Int))) && (q3 && r)) = ((lf && q3) && r) := by
  cases q3 with
  | false => simp
  | true =>
    have : p3 = 0 := by simpa using hq
    subst this
    have : decide ((0 : Int) ≤ 0 ∧ (0 : Int) < (ch : Int)) = true := by simp; omega
    rw [this]; simp

theorem climbBoth (k b x t l : Int) (pub y : ByteArray) (p0 p1 p2 p3 : Int) (xs : List ByteArray) (hN : xs.length ≤ 8796093022208) : ∃ (cv : ByteArray) (er : Int), (∀ (V : World) (sp : Option Addr) (n c : Nat), StrsAt V sp n c xs → Tn V → Calls Tryd.prog 47 #[.agg #[.int .i64 k, .int .i64 b, .int .i64 x, .int .i64 t, .int .i64 l], .string pub, .agg #[.int .i64 p0, .int .i64 p1, .int .i64 p2, .int .i64 p3], .string y, .slice sp n c] V fun e w' => e = .returned (.tuple #[.string cv, .int .i64 er]) ∧ Below V.heap.size V w') ∧ (∀ (V : World) (sp : Option Addr) (n c : Nat), StrsAt V sp n c xs → Calls Tryd.prog 28 #[.agg #[.int .i64 k, .int .i64 b, .int .i64 x, .int .i64 t, .int .i64 l], .string pub, .agg #[.int .i64 p0, .int .i64 p1, .int .i64 p2, .int .i64 p3], .string y, .slice sp n c] V fun e w' => e = .returned (.tuple #[.string cv, .int .i64 er]) ∧ Below V.heap.size V w') := by
  cases hr : rightB k b x t l with
  | false =>
    refine ⟨⟨#[]⟩, 1, fun V sp n c _ _ => cT_set k b x t l pub y p0 p1 p2 p3 sp n c V (fun V => ?_), fun V sp n c _ => cR_set k b x t l pub y p0 p1 p2 p3 sp n c V (fun V => ?_)⟩
    · have h := check_any k b x t l V; rw [hr] at h; exact h
    · have h := refCheck_any k b x t l V; rw [hr] at h; exact h
  | true =>
    obtain ⟨b', x', en, g, t', l', hp, hk, rfl, rfl, rfl, rfl, h1, h2, h3, h4⟩ := pair_of_right hr
    obtain ⟨g1, g2, g3, g4, g5, g6⟩ := pairF_small hp
    have HC : ∀ V : World, Calls Tryd.prog 66 #[.agg #[.int .i64 k, .int .i64 b', .int .i64 x', .int .i64 t', .int .i64 l']] V fun e w' => e = .returned (.int .i64 0) ∧ Below V.heap.size V w' := fun V => by have h := check_any k b' x' t' l' V; rw [hr] at h; exact h
    have HR : ∀ V : World, Calls Tryd.prog 42 #[.agg #[.int .i64 k, .int .i64 b', .int .i64 x', .int .i64 t', .int .i64 l']] V fun e w' => e = .returned (.int .i64 0) ∧ Below V.heap.size V w' := fun V => by have h := refCheck_any k b' x' t' l' V; rw [hr] at h; exact h
    have HZ := fun V : World => refSizes_yes b' x' en g t' l' hp k V h1 h2 h3 h4
    have HI := fun V : World => isLeaf_any k b' x' t' l' p0 p1 p2 p3 V h1 h2 h4
    have HP := fun V : World => placed_any k x' _ _ _ _ _ b' t' l' (b' * en + g) p0 p1 p2 p3 V h2 h4 HZ
    unfold chainB at HP
    cases hq : (((pub.size : Int) == (b' : Int) && (y.size : Int) == (b' : Int)) && ((leafB t' l' p0 p1 p2 && p3 == 0) && ((xs.length : Int) == (t' : Int) && allLen b' xs))) with
    | false =>
      refine ⟨⟨#[]⟩, 2, fun V sp n c h _ => cT_no k b' x' t' l' pub y p0 p1 p2 p3 sp n c V _ _ (allLen b' xs) HC (fun V B hB => values2B k b' x' t' l' pub y V B hB) HI (fun V hb => vals_any k b' x' t' l' sp n c xs V (h.on hb) hN) ?_, fun V sp n c h => cR_no k b' x' t' l' pub y p0 p1 p2 p3 sp n c V _ _ HR HP (fun V hb => rvals_any k b' x' t' l' _ sp n c xs V (h.on hb) hN) ?_⟩
      · rw [h.len]; exact hq
      · rw [leaf_chainC _ _ _ _ g3 rfl]
        rw [← hq, Bool.beq_eq_decide_eq ((xs.length : Int))]
        cases leafB t' l' p0 p1 p2 <;> cases (p3 == 0) <;> cases ((pub.size : Int) == (b' : Int)) <;> cases ((y.size : Int) == (b' : Int)) <;> cases allLen b' xs <;> simp
    | true =>
      simp only [Bool.and_eq_true] at hq
      obtain ⟨⟨e4, e5⟩, ⟨hl, e3⟩, e6, hv⟩ := hq
      have s1 : (pub.size : Int) = (b' : Int) := by simpa using e4
      have s2 : (y.size : Int) = (b' : Int) := by simpa using e5
      have s3 : p3 = 0 := by simpa using e3
      have s6 : xs.length = t' := by have : (xs.length : Int) = (t' : Int) := by simpa using e6
                                     omega
      have hcb : chainB t' l' (b' * en + g) p0 p1 p2 p3 = true := by unfold chainB; rw [hl, s3]; simp; omega
      obtain ⟨q0, q1, q2, q3⟩ := chainF_bounds hcb h2 h4 g4
      have q2b : p2 < 16 := by
        unfold leafB at hl
        simp only [Bool.and_eq_true, decide_eq_true_eq] at hl
        have e2 : 2 ^ t' ≤ 2 ^ 4 := Nat.pow_le_pow_right (by decide) h2
        obtain ⟨_, _, _, c1⟩ := hl
        generalize 2 ^ t' = v at e2 c1
        omega
      obtain ⟨F, hF⟩ : ∃ F : Nat, p2 = (F : Int) := ⟨p2.toNat, by omega⟩
      have hxs := (allLen_iff (b' : Int) xs).1 hv
      rw [hl, e3] at HI
      have HP' : ∀ V : World, Calls Tryd.prog 44 #[.agg #[.int .i64 k, .int .i64 b', .int .i64 x', .int .i64 t', .int .i64 l'], .agg #[.int .i64 p0, .int .i64 p1, .int .i64 p2, .int .i64 p3]] V fun e w' => e = .returned (.bool true) ∧ Below V.heap.size V w' := fun V => by have h := HP V; unfold chainB at hcb; rw [hcb] at h; exact h
      have ec : climbS k b' pub p0 p1 F xs y xs.length = climbS k b' pub p0 p1 F xs y t' := by rw [s6]
      refine ⟨climbS k b' pub p0 p1 F xs y xs.length, 0, fun V sp n c h hT => cT_yes k b' x' t' l' pub y p0 p1 p2 p3 sp n c _ V HC (fun V B hB => ?_) HI (by rw [h.len]; exact e6) (fun V hb => ?_) (fun V hb hV => ?_) hT, fun V sp n c h => cR_yes k b' x' t' l' pub y p0 p1 p2 p3 sp n c _ V HR HP' (fun V hb => ?_) e3 e4 e5 (fun V hb => ?_)⟩
      · have h := values2B k b' x' t' l' pub y V B hB; rw [e4, e5] at h; exact h
      · have h' := vals_any k b' x' t' l' sp n c xs V (h.on hb) hN; rw [hv] at h'; exact h'
      · rcases h.on hb with ⟨_, _, _, rfl⟩ | ⟨_, _, _, rfl⟩ | ⟨bk, o, rfl, rfl, u1, u2, u3⟩
        · simp at s6; omega
        · simp at s6; omega
        · have h' := sclimb_any k b' x' t' l' pub p0 p1 p3 F bk o c xs y V u3 u2 (by omega) (by omega) hk (by omega) (by omega) (by omega) s2 hxs hV
          rw [hF]; exact h'
      · have h' := rvals_any k b' x' t' l' (t' : Int) sp n c xs V (h.on hb) hN
        rw [hv, show decide ((xs.length : Int) = (t' : Int)) = true by simp [s6]] at h'; exact h'
      · rcases h.on hb with ⟨_, _, _, rfl⟩ | ⟨_, _, _, rfl⟩ | ⟨bk, o, rfl, rfl, u1, u2, u3⟩
        · simp at s6; omega
        · simp at s6; omega
        · have h' := rclimb_any k x' t' l' p0 p1 p3 F b' bk o c pub y xs hk g1 g2 (by omega) s2 hxs (by omega) q0 q1 t' h2 (by omega) V u3 u2
          rw [hF, ec]; exact h'

end Go.Proofs.YtgaoeoijdpdjiaaDoor
