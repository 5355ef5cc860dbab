/-
  Verify: the program and the document answer alike, at every key, message and signature.
-/
import Derived.Test.YtgaoeoijdpdjiabGreatDoorPart47
namespace Go.Proofs.YtgaoeoijdpdjiabGreatDoor
open Go.RowKit

/-- Both answer alike. -/
def VerSame (key msg sig : ByteArray) (e : Int) : Prop :=
  (∀ V : World, Tn V → Calls Tryz.prog 44 #[.string key, .string msg, .string sig] V fun r w' => r = .returned (.int .i64 e) ∧ Below V.heap.size V w') ∧
  (∀ V : World, Calls Tryz.prog 45 #[.string key, .string msg, .string sig] V fun r w' => r = .returned (.int .i64 e) ∧ Below V.heap.size V w')

theorem verify_same (key msg sig : ByteArray) : ∃ e, VerSame key msg sig e := by
  by_cases h5 : key.size < 5
  · exact ⟨11, fun V _ => sVerify_on key msg sig 11 V (verify_key key msg sig V (fun V => keyIn_short key V h5)), fun V => refVerify_key key msg sig V (fun V => keyed_short key V h5)⟩
  · have HST := fun V : World => setIn_any key V (by omega)
    have HKS := fun (a0 a1 a2 a3 a4 a5 er : Int) (V : World) => keyed_set a0 a1 a2 a3 a4 a5 er key V (by omega)
    have HKL := fun (a0 a1 a2 a3 a4 a5 : Int) (V : World) => keyed_len a0 a1 a2 a3 a4 a5 key V (by omega)
    have HKY := fun (a0 a1 a2 a3 a4 a5 : Int) (V : World) => keyed_yes a0 a1 a2 a3 a4 a5 key V (by omega)
    generalize ((byt key 0 : Nat) : Int) = k at HST HKS HKL HKY
    generalize ((byt key 1 : Nat) : Int) = b at HST HKS HKL HKY
    generalize ((byt key 2 : Nat) : Int) = x at HST HKS HKL HKY
    generalize ((byt key 3 : Nat) : Int) = t at HST HKS HKL HKY
    generalize ((byt key 4 : Nat) : Int) = l at HST HKS HKL HKY
    cases hr : rightB k b x t l with
    | false => exact ⟨11, fun V _ => sVerify_on key msg sig 11 V (verify_key key msg sig V (fun V => keyIn_set k b x t l 0 0 0 0 0 0 1 key V (by omega) (by decide) HST (fun V => setsMeasure_no k b x t l V hr))), fun V => refVerify_key key msg sig V (fun V => HKS 0 0 0 0 0 0 1 V (by decide) (fun V => refMeasure_no k b x t l V hr))⟩
    | true =>
      obtain ⟨b', x', e, f, t', l', hp, hk, rfl, rfl, rfl, rfl, t1, t2, t3, t4⟩ := pair_of_right hr
      have R : RSet k b' x' e f t' l' := ⟨hp, hk, t1, t2, t3, t4, hr⟩
      obtain ⟨g1, g2, g3, g4, g5, g6⟩ := pair_small hp
      have HM := fun V : World => measure_nat k b' x' e f t' l' R V
      have HMR := fun V : World => refMeasure_yes k b' x' t' l' _ _ _ _ _ _ V hr (fun V => sizes_nat k b' x' e f t' l' R V)
      by_cases hz : key.size = 5 + 2 * b'
      · have HK := fun V : World => keyIn_yes k b' x' t' l' _ _ _ _ _ ((5 + 2 * b' : Nat) : Int) b' key V rfl (by omega) hz (by rw [hz]) HST HM
        have HKD := fun V : World => HKY _ _ _ _ _ ((5 + 2 * b' : Nat) : Int) V (by rw [hz]) HMR
        have s1 : (key.extract 5 (5 + b')).size = b' := by rw [ByteArray.size_extract]; omega
        have s2 : (key.extract (5 + b') key.size).size = b' := by rw [ByteArray.size_extract]; omega
        have hs1 : ∀ wx, (Instr.slice 9 (.string key) (some (.int .i64 5)) (some (.int .i64 (5 + (b' : Int)))) none).run Tryz.prog wx = .ok (.string (key.extract 5 (5 + b'))) wx := fun wx => by
          have h := sliceV key 5 (5 + b') (by omega) (by omega) wx
          rw [Int.natCast_add] at h
          exact h
        have hs2 : ∀ wx, (Instr.slice 9 (.string key) (some (.int .i64 (5 + (b' : Int)))) none none).run Tryz.prog wx = .ok (.string (key.extract (5 + b') key.size)) wx := fun wx => by
          have h := sliceVE key (5 + b') (by omega) wx
          rw [Int.natCast_add] at h
          exact h
        generalize key.extract 5 (5 + b') = root at *
        generalize key.extract (5 + b') key.size = pub at *
        by_cases hm : msg.size ≤ 200
        · by_cases hok : sig.size = 4 + b' + l' * (b' * e + f + t') * b' ∧ valN sig 0 4 < 2 ^ (t' * l')
          · obtain ⟨hz2, hi⟩ := hok
            have hpw : 2 ^ (t' * l') ≤ 4096 := Nat.le_trans (Nat.pow_le_pow_right (by decide) (Nat.mul_le_mul t2 t4)) (by decide)
            have hcl := cutS_length (sig.extract (4 + b') sig.size) b' (l' * (b' * e + f + t'))
            have hcs := cutS_size (sig.extract (4 + b') sig.size) b' (l' * (b' * e + f + t')) (by rw [ByteArray.size_extract]; omega)
            have hrz : ((sig.extract 4 (4 + b')).size : Int) = b' := by rw [ByteArray.size_extract]; omega
            have HSP := fun V : World => splitY k b' x' e f t' l' R sig hz2 hi V
            have HRB := fun (V : World) (g : Nat) (hV : Tn V) (hk' : Blk V g ((cutS (sig.extract (4 + b') sig.size) b' (l' * (b' * e + f + t'))).map Value.string) 9) => sigRootBy_any k b' x' e f t' l' (b' * e + f) (valN sig 0 4) hp rfl pub root (sig.extract 4 (4 + b')) msg g 0 (l' * (b' * e + f + t')) (l' * (b' * e + f + t')) _ V hk t1 t2 t3 t4 (by omega) (by omega) (by omega) hrz hm hcl rfl (Nat.le_refl _) hcs hk'.lt (fun j y hj => by
              rw [Nat.zero_add, hk'.cell, List.getElem?_map, hj]; rfl) hV
            by_cases hroot : layS k b' x' e f t' (b' * e + f) pub (valN sig 0 4) (cutS (sig.extract (4 + b') sig.size) b' (l' * (b' * e + f + t'))) (mixS k b' (sig.extract 4 (4 + b')) root pub (valN sig 0 4 : Nat) msg) l' = root
            · have HRB' := HRB
              rw [hroot] at HRB'
              exact ⟨0, fun V hV => sVerify_on key msg sig 0 V (verify_yes k b' x' t' l' _ _ _ _ _ _ _ _ _ V hm hV HK HSP HRB'), fun V => refVerifyY k b' x' e f t' l' R key msg sig root pub s1 s2 hm hz2 hi 0 (.inl ⟨hroot, rfl⟩) HKD hs1 hs2 V⟩
            · have hne := toList_neW hroot
              exact ⟨13, fun V hV => sVerify_on key msg sig 13 V (verify_no k b' x' t' l' _ _ _ _ _ _ _ _ _ _ V hm hV hne HK HSP HRB), fun V => refVerifyY k b' x' e f t' l' R key msg sig root pub s1 s2 hm hz2 hi 13 (.inr ⟨hne, rfl⟩) HKD hs1 hs2 V⟩
          · have hno : sig.size ≠ 4 + b' + l' * (b' * e + f + t') * b' ∨ ¬ valN sig 0 4 < 2 ^ (t' * l') := by
              by_cases hz2 : sig.size = 4 + b' + l' * (b' * e + f + t') * b'
              · exact .inr (fun hi => hok ⟨hz2, hi⟩)
              · exact .inl hz2
            exact ⟨12, fun V _ => sVerify_on key msg sig 12 V (verify_form k b' x' t' l' 12 _ _ _ _ _ V hm (by decide) HK (fun V => splitN k b' x' e f t' l' R sig hno V)), fun V => refVerify_form k b' x' t' l' 12 key msg sig V hm (by decide) HKD (fun V => refSplitN k b' x' e f t' l' R sig hno V)⟩
        · exact ⟨3, fun V _ => sVerify_on key msg sig 3 V (verify_long k b' x' t' l' _ _ _ _ _ V (by omega) HK), fun V => refVerify_long k b' x' t' l' key msg sig V (by omega) HKD⟩
      · exact ⟨11, fun V _ => sVerify_on key msg sig 11 V (verify_key key msg sig V (fun V => keyIn_len k b' x' t' l' _ _ _ _ _ ((5 + 2 * b' : Nat) : Int) key V (by omega) (by omega) HST HM)), fun V => refVerify_key key msg sig V (fun V => HKL _ _ _ _ _ ((5 + 2 * b' : Nat) : Int) V (by omega) HMR)⟩

theorem verifies_any (key msg sig : ByteArray) (w : World) (hT : Tn w) :
    Calls Tryz.prog 12 #[.string key, .string msg, .string sig] w fun r w' => r = .returned (.bool true) ∧ Below w.heap.size w w' := by
  obtain ⟨e, h1, h2⟩ := verify_same key msg sig
  exact verifies_on key msg sig e w hT h1 h2
end Go.Proofs.YtgaoeoijdpdjiabGreatDoor
