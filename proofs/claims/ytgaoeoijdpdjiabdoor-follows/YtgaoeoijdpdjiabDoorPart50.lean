/-
  The statement Follows answers true.
-/
import Derived.Test.YtgaoeoijdpdjiabDoorPart49
namespace Go.Proofs.YtgaoeoijdpdjiabDoor
open Go.RowKit

theorem toList_ne {a b : ByteArray} (h : a ≠ b) : ¬ a.toList = b.toList := by
  intro e
  rw [ByteArray.toList_eq, ByteArray.toList_eq] at e
  exact h (ByteArray.ext (Array.toList_inj.1 e))

theorem zero_byt (n k : Nat) : byt (someB ⟨#[]⟩ n) k = 0 := by
  unfold byt
  rw [List.getD_eq_getElem?_getD, List.getElem?_map]
  cases h : (someB ⟨#[]⟩ n).data.toList[k]? with
  | none => rfl
  | some u =>
    have hm := List.mem_of_getElem? h
    simp only [someB, List.mem_map] at hm
    obtain ⟨v, hv, rfl⟩ := hm
    simp only [someL, List.mem_map, List.mem_range] at hv
    obtain ⟨i, _, rfl⟩ := hv
    rw [byt_end _ _ (Nat.zero_le _)]
    rfl
theorem zero_val (n : Nat) : valN (someB ⟨#[]⟩ n) 0 4 = 0 := by simp [valN, zero_byt]

theorem blankY (k : Int) (b x e f t l : Nat) (R : RSet k b x e f t l) (w : World) (hT : Tn w) :
    Calls Tryd.prog 7 #[.agg #[.int .i64 k, .int .i64 b, .int .i64 x, .int .i64 t, .int .i64 l]] w fun r w' => r = .returned (.bool true) ∧ Below w.heap.size w w' := by
  obtain ⟨g1, g2, g3, g4, g5, g6⟩ := pair_small R.pr
  obtain ⟨hb, hx⟩ := pairB R.pr
  have r2 := R.t2
  have r4 := R.l2
  have h36 : b * e + f ≤ 36 := by rcases R.pr with ⟨rfl, rfl, rfl, rfl⟩ | ⟨rfl, rfl, rfl, rfl⟩ | ⟨rfl, rfl, rfl, rfl⟩ | ⟨rfl, rfl, rfl, rfl⟩ <;> decide
  have hN : l * (b * e + f + t) ≤ 3 * 40 := Nat.mul_le_mul r4 (by omega)
  have hNb : l * (b * e + f + t) * b ≤ 120 * 8 := Nat.mul_le_mul hN (by omega)
  have hp2 : 0 < 2 ^ (t * l) := Nat.two_pow_pos _
  obtain ⟨zs, hzs⟩ : ∃ zs, someB ⟨#[]⟩ (4 + b + l * (b * e + f + t) * b) = zs := ⟨_, rfl⟩
  have hz : zs.size = 4 + b + l * (b * e + f + t) * b := by rw [← hzs, someB_size]
  have hv : valN zs 0 4 = 0 := by rw [← hzs, zero_val]
  have hi : valN zs 0 4 < 2 ^ (t * l) := by omega
  have hcs := cutS_size (zs.extract (4 + b) zs.size) b (l * (b * e + f + t)) (by rw [ByteArray.size_extract]; omega)
  have hcl := cutS_length (zs.extract (4 + b) zs.size) b (l * (b * e + f + t))
  refine blank_on k b x t l ((b * e + f : Nat) : Int) ((4 + b : Nat) : Int) ((b * e + f + t : Nat) : Int) ((l * (b * e + f + t) * b : Nat) : Int) ((4 + b + l * (b * e + f + t) * b : Nat) : Int) (l * (b * e + f + t)) zs (zs.extract 4 (4 + b)) (cutS (zs.extract (4 + b) zs.size) b (l * (b * e + f + t))) w hT (by rw [ByteArray.size_extract]; omega) (by rw [IntKind.wrap_i64] <;> omega) (by rw [← Int.natCast_add, IntKind.wrap_i64] <;> omega) (by rw [← Int.natCast_mul, IntKind.wrap_i64] <;> omega) (by rw [← Int.natCast_mul, IntKind.wrap_i64] <;> omega) (by rw [← Int.natCast_add, IntKind.wrap_i64] <;> omega) (fun V hV => knows_any V hV) ?_ ?_ ?_ ?_ ?_
  · intro V
    have h := keepChains_any b x k t l V hb hx
    rw [chains_pair R.pr] at h
    exact h
  · intro V
    have h := someN_any ⟨#[]⟩ (4 + b + l * (b * e + f + t) * b) V (by unfold maxLen; exact Nat.zero_le _) (by omega)
    rw [hzs] at h
    exact h
  · intro V
    have h := sSplit_on k b x t l _ _ _ _ _ _ V (fun V => splitY k b x e f t l R zs hz hi V)
    rw [hv] at h
    exact h
  · intro V g hk
    refine sized_any k b x t l g 0 _ _ _ V hcl (by omega) hcs hk.lt (fun j y hj => ?_)
    rw [Nat.zero_add, hk.cell, List.getElem?_map, hj]
    rfl
  · intro V g hk
    have h := joinY k b x e f t l R zs g hz hi V hk
    rw [hv] at h
    exact h

theorem follows_true (k0 b0 x0 t0 l0 : Int) (r0 u0 m0 sig : ByteArray) (w : World) (hT : Tn w) (i0 : Int64 k0) (i1 : Int64 b0) (i2 : Int64 x0) (i3 : Int64 t0) (i4 : Int64 l0) (m1 : r0.size ≤ maxLen) (m2 : u0.size ≤ maxLen) :
    Calls Tryd.prog 3 #[.agg #[.int .i64 k0, .int .i64 b0, .int .i64 x0, .int .i64 t0, .int .i64 l0], .string r0, .string u0, .string m0, .string sig] w fun e w' => e = .returned (.bool true) ∧ Below w.heap.size w w' := by
  obtain ⟨k, b, x, e, f, t, l, R, ek, eb, ex, et, el⟩ := fit_set k0 b0 x0 t0 l0
  obtain ⟨g1, g2, g3, g4, g5, g6⟩ := pair_small R.pr
  obtain ⟨hb, hx⟩ := pairB R.pr
  have hk := R.kk
  have r1 := R.t1
  have r2 := R.t2
  have r3 := R.l1
  have r4 := R.l2
  have h36 : b * e + f ≤ 36 := by rcases R.pr with ⟨rfl, rfl, rfl, rfl⟩ | ⟨rfl, rfl, rfl, rfl⟩ | ⟨rfl, rfl, rfl, rfl⟩ | ⟨rfl, rfl, rfl, rfl⟩ <;> decide
  have hN : l * (b * e + f + t) ≤ 3 * 40 := Nat.mul_le_mul r4 (by omega)
  have hp2 : 2 ^ (t * l) ≤ 4096 := Nat.le_trans (Nat.pow_le_pow_right (by decide) (Nat.mul_le_mul r2 r4)) (by decide)
  have sr : (someB r0 b).size = b := someB_size r0 b
  have su : (someB u0 b).size = b := someB_size u0 b
  have sm := upS_size m0 200
  have HF : ∀ V : World, Calls Tryd.prog 4 #[.agg #[.int .i64 k0, .int .i64 b0, .int .i64 x0, .int .i64 t0, .int .i64 l0]] V fun e w' => e = .returned (.agg #[.int .i64 k, .int .i64 b, .int .i64 x, .int .i64 t, .int .i64 l]) ∧ Below V.heap.size V w' := fun V => by
    have h := fit_any k0 b0 x0 t0 l0 V i0 i1 i2 i3 i4
    rw [ek, eb, ex, et, el] at h
    exact h
  have HS1 := fun V : World => someN_any r0 b V m1 (by omega)
  have HS2 := fun V : World => someN_any u0 b V m2 (by omega)
  have HU := fun V : World => upTo_any m0 200 V
  have HB := fun (V : World) (hV : Tn V) => blankY k b x e f t l R V hV
  have HK := fun V : World => keyY k b x e f t l R (someB r0 b) (someB u0 b) sr su V
  by_cases hok : sig.size = 4 + b + l * (b * e + f + t) * b ∧ valN sig 0 4 < 2 ^ (t * l)
  · obtain ⟨hz, hi⟩ := hok
    have hcs := cutS_size (sig.extract (4 + b) sig.size) b (l * (b * e + f + t)) (by rw [ByteArray.size_extract]; omega)
    have hcl := cutS_length (sig.extract (4 + b) sig.size) b (l * (b * e + f + t))
    have hrz : ((sig.extract 4 (4 + b)).size : Int) = b := by rw [ByteArray.size_extract]; omega
    have HSP := fun V : World => splitY k b x e f t l R sig hz hi V
    have HSPs := fun V : World => sSplit_on k b x t l _ _ _ _ _ _ V HSP
    have HJN := fun (V : World) (g : Nat) (hk : Blk V g ((cutS (sig.extract (4 + b) sig.size) b (l * (b * e + f + t))).map Value.string) 9) => joinY k b x e f t l R sig g hz hi V hk
    have HTO := fun V : World => keepTotal_any k b x t l V r2 r4
    have HTP := fun (V : World) (g : Nat) (hV : Tn V) (hk : Blk V g ((cutS (sig.extract (4 + b) sig.size) b (l * (b * e + f + t))).map Value.string) 9) => topY k b x e f t l R (someB r0 b) (someB u0 b) (upS m0 200) (sig.extract 4 (4 + b)) (valN sig 0 4) g (l * (b * e + f + t)) _ hi (by omega) (by omega) hrz sm rfl hcl hcs V hk hV
    have HRB := fun (V : World) (g : Nat) (hV : Tn V) (hk : Blk V g ((cutS (sig.extract (4 + b) sig.size) b (l * (b * e + f + t))).map Value.string) 9) => sigRootBy_any k b x e f t l (b * e + f) (valN sig 0 4) R.pr rfl (someB u0 b) (someB r0 b) (sig.extract 4 (4 + b)) (upS m0 200) g 0 (l * (b * e + f + t)) (l * (b * e + f + t)) _ V R.kk r1 r2 r3 r4 (by omega) (by omega) (by omega) hrz sm hcl rfl (Nat.le_refl _) hcs hk.lt (fun j y hj => by
      rw [Nat.zero_add, hk.cell, List.getElem?_map, hj]; rfl) hV
    have hms := layS_size k b x e f t (b * e + f) (someB u0 b) (valN sig 0 4) (cutS (sig.extract (4 + b) sig.size) b (l * (b * e + f + t))) (mixS k b (sig.extract 4 (4 + b)) (someB r0 b) (someB u0 b) (valN sig 0 4 : Nat) (upS m0 200)) R.kk (by omega) (by omega) (by omega) g3 l hcl hcs (mixS_size _ _ _ _ _ _ _ R.kk (by omega) (by omega) (by omega) (by omega) (by omega) sm) l (Nat.le_refl _)
    by_cases hroot : layS k b x e f t (b * e + f) (someB u0 b) (valN sig 0 4) (cutS (sig.extract (4 + b) sig.size) b (l * (b * e + f + t))) (mixS k b (sig.extract 4 (4 + b)) (someB r0 b) (someB u0 b) (valN sig 0 4 : Nat) (upS m0 200)) l = someB r0 b
    · rw [hroot] at HTP HRB
      exact follows_yes k0 b0 x0 t0 l0 k b x t l r0 u0 m0 sig (someB r0 b) (someB u0 b) (upS m0 200) _ _ _ _ _ w hT (by omega) (by omega) (by omega) (by omega) (by omega) (by omega) (by omega) (by omega) (by omega) HF HS1 HS2 HU HB (fun V hV => sVerify_on _ _ _ _ V (verify_yes k b x t l _ _ _ _ _ _ _ _ _ V sm hV HK HSP HRB)) HSPs HJN HTO HTP
    · have hne := toList_ne hroot
      exact follows_no k0 b0 x0 t0 l0 k b x t l r0 u0 m0 sig (someB r0 b) (someB u0 b) (upS m0 200) _ _ _ _ _ _ w hT (by omega) (by omega) (by omega) (by omega) (by omega) (by omega) (by omega) hne (not_empty hms (by omega)) (by omega) (by omega) HF HS1 HS2 HU HB (fun V hV => sVerify_on _ _ _ _ V (verify_no k b x t l _ _ _ _ _ _ _ _ _ _ V sm hV hne HK HSP HRB)) HSPs HJN HTO HTP
  · have HSN := fun V : World => splitN k b x e f t l R sig (by
      by_cases hz : sig.size = 4 + b + l * (b * e + f + t) * b
      · exact .inr (fun hi => hok ⟨hz, hi⟩)
      · exact .inl hz) V
    exact follows_form k0 b0 x0 t0 l0 k b x t l r0 u0 m0 sig (someB r0 b) (someB u0 b) (upS m0 200) w hT (by omega) (by omega) (by omega) (by omega) (by omega) (by omega) (by omega) HF HS1 HS2 HU HB (fun V hV => sVerify_on _ _ _ _ V (verify_form k b x t l 12 _ _ _ _ _ V sm (by decide) HK HSN)) (fun V => sSplit_no k b x t l 12 sig V HSN)
end Go.Proofs.YtgaoeoijdpdjiabDoor
