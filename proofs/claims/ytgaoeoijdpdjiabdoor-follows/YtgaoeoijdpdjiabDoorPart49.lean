/-
  The statement's top and blank where all is right; the statement Follows answers true.
-/
import Derived.Test.YtgaoeoijdpdjiabDoorPart48
namespace Go.Proofs.YtgaoeoijdpdjiabDoor
open Go.RowKit

theorem leaf_of_index (t l q idx : Nat) (hq : q < l) (hi : idx < 2 ^ (t * l)) : leafB t l q ((idx / 2 ^ (t * q) / 2 ^ t : Nat) : Int) ((idx / 2 ^ (t * q) % 2 ^ t : Nat) : Int) = true := by
  unfold leafB
  rw [Int.toNat_natCast]
  simp only [Bool.and_eq_true, decide_eq_true_eq]
  have h1 : idx / 2 ^ (t * q) / 2 ^ t < 2 ^ (t * (l - 1 - q)) := by
    rw [Nat.div_div_eq_div_mul, ← Nat.pow_add]
    refine Nat.div_lt_of_lt_mul ?_
    rw [← Nat.pow_add, show t * q + t + t * (l - 1 - q) = t * l by
      have : l = q + 1 + (l - 1 - q) := by omega
      conv => rhs; rw [this]
      rw [Nat.mul_add, Nat.mul_add, Nat.mul_one]]
    exact hi
  have h2 : idx / 2 ^ (t * q) % 2 ^ t < 2 ^ t := Nat.mod_lt _ (Nat.two_pow_pos t)
  generalize idx / 2 ^ (t * q) / 2 ^ t = A at *
  generalize idx / 2 ^ (t * q) % 2 ^ t = C at *
  generalize 2 ^ (t * (l - 1 - q)) = M at *
  generalize 2 ^ t = L at *
  omega

theorem topY (k : Int) (b x e f t l : Nat) (R : RSet k b x e f t l) (root pub msg rnd : ByteArray) (idx g N : Nat) (ps : List ByteArray) (hi : idx < 2 ^ (t * l)) (s1 : (root.size : Int) = b) (s2 : (pub.size : Int) = b) (s3 : (rnd.size : Int) = b) (s4 : msg.size ≤ 200) (hN : N = l * (b * e + f + t)) (hn : ps.length = N) (hps : ∀ y ∈ ps, (y.size : Int) = b) (w : World) (hk : Blk w g (ps.map Value.string) 9) (hT : Tn w) :
    Calls Tryd.prog 13 #[.agg #[.int .i64 k, .int .i64 b, .int .i64 x, .int .i64 t, .int .i64 l], .string root, .string pub, .string msg, .agg #[.int .i64 idx, .string rnd, .slice (some ⟨g, 0, none⟩) N N]] w fun r w' => r = .returned (.string (layS k b x e f t (b * e + f) pub idx ps (mixS k b rnd root pub idx msg) l)) ∧ Below w.heap.size w w' := by
  obtain ⟨g1, g2, g3, g4, g5, g6⟩ := pair_small R.pr
  obtain ⟨hb, hx⟩ := pairB R.pr
  have r1 := R.t1
  have r2 := R.t2
  have r3 := R.l1
  have r4 := R.l2
  have hpw : 2 ^ (t * l) ≤ 4096 := Nat.le_trans (Nat.pow_le_pow_right (by decide) (Nat.mul_le_mul r2 r4)) (by decide)
  have hidx : idx ≤ 100000 := by omega
  have hL1 : 1 ≤ 2 ^ t := Nat.one_le_two_pow
  have hL2 : 2 ^ t ≤ 16 := Nat.le_trans (Nat.pow_le_pow_right (by decide) r2) (by decide)
  have hm0 := mixS_size k b rnd root pub idx msg R.kk (by omega) (by omega) (by omega) (by omega) (by omega) s4
  have hls := layS_size k b x e f t (b * e + f) pub idx ps (mixS k b rnd root pub idx msg) R.kk (by omega) (by omega) (by omega) g3 l (by omega) hps hm0
  have hcell : ∀ (j : Nat) y, ps[j]? = some y → w.cell? ⟨g, 0 + j, none⟩ = some (.string y) := fun j y hj => by
    rw [Nat.zero_add, hk.cell, List.getElem?_map, hj]
    rfl
  refine top_on k b x t idx l (b * e + f + t) N g 0 N (2 ^ t) root pub msg rnd (b * e + f) (fun q => layS k b x e f t (b * e + f) pub idx ps (mixS k b rnd root pub idx msg) q) (fun q => idx / 2 ^ (t * q)) w hT r4 (by rw [Int.natCast_add (b * e + f) t]) (by omega) hN (Nat.le_refl _) (by omega) (by simp) ?_ (fun q => Nat.le_trans (Nat.div_le_self _ _) hidx) hL1 hL2 (by omega) (by omega) (by omega) (by omega) s4 (by omega) (fun q hq => hls q hq) ?_ ?_ ?_ ?_
  · intro q
    show idx / 2 ^ (t * (q + 1)) = idx / 2 ^ (t * q) / 2 ^ t
    rw [Nat.div_div_eq_div_mul, ← Nat.pow_add, Nat.mul_add, Nat.mul_one]
  · intro V
    have h := keepChains_any b x k t l V hb hx
    rw [chains_pair R.pr] at h
    exact h
  · intro V
    exact keepLeaves_any k b x l t V r1 r2
  · intro V hV
    have h := tagged_any k b x t l 6 (rnd ++ root ++ pub ++ numB 4 idx ++ msg) V R.kk (by omega) (by omega) (by simp only [ByteArray.size_append, numB_size]; omega) (by omega) (by omega) hV
    rw [show hv k b (numB 1 6 ++ (rnd ++ root ++ pub ++ numB 4 idx ++ msg)) = mixS k b rnd root pub idx msg by unfold mixS; simp only [ByteArray.append_assoc]] at h
    exact h
  · intro q hq V hV hbV
    have hqE : (q + 1) * (b * e + f + t) ≤ l * (b * e + f + t) := Nat.mul_le_mul_right _ hq
    rw [Nat.add_mul, Nat.one_mul] at hqE
    have h := layerY k b x e f t l R pub (layS k b x e f t (b * e + f) pub idx ps (mixS k b rnd root pub idx msg) q) q ((idx / 2 ^ (t * q) / 2 ^ t : Nat) : Int) (idx / 2 ^ (t * q) % 2 ^ t) g (0 + q * (b * e + f + t)) (N - q * (b * e + f + t)) (b * e + f + t) ((ps.drop (q * (b * e + f + t))).take (b * e + f)) ((ps.drop (q * (b * e + f + t) + (b * e + f))).take t) (leaf_of_index t l q idx hq hi) s2 (hls q (by omega)) (by rw [List.length_take, List.length_drop]; omega) (by rw [List.length_take, List.length_drop]; omega) (fun y hy => hps y (List.mem_of_mem_drop (List.mem_of_mem_take hy))) (fun y hy => hps y (List.mem_of_mem_drop (List.mem_of_mem_take hy))) rfl (by omega) (by
        have : idx / 2 ^ (t * q) % 2 ^ t < 2 ^ t := Nat.mod_lt _ (Nat.two_pow_pos t)
        omega) V (Nat.lt_of_lt_of_le hk.lt hbV.size) (by
        intro j y hj
        rw [List.getElem?_take] at hj
        split at hj
        · rw [List.getElem?_drop] at hj
          rw [Nat.add_assoc]
          exact (hbV.cell (p := ⟨g, 0 + (q * (b * e + f + t) + j), none⟩) hk.lt).trans (hcell _ y hj)
        · cases hj) (by
        intro j y hj
        rw [List.getElem?_take] at hj
        split at hj
        · rw [List.getElem?_drop] at hj
          rw [show 0 + q * (b * e + f + t) + (b * e + f) + j = 0 + (q * (b * e + f + t) + (b * e + f) + j) by omega]
          exact (hbV.cell (p := ⟨g, 0 + (q * (b * e + f + t) + (b * e + f) + j), none⟩) hk.lt).trans (hcell _ y hj)
        · cases hj) hV
    exact h

/-- Join of what Split has made. -/
theorem joinY (k : Int) (b x e f t l : Nat) (R : RSet k b x e f t l) (sig : ByteArray) (g : Nat) (hs : sig.size = 4 + b + l * (b * e + f + t) * b) (hi : valN sig 0 4 < 2 ^ (t * l)) (w : World) (hk : Blk w g ((cutS (sig.extract (4 + b) sig.size) b (l * (b * e + f + t))).map Value.string) 9) :
    Calls Tryd.prog 11 #[.agg #[.int .i64 k, .int .i64 b, .int .i64 x, .int .i64 t, .int .i64 l], .agg #[.int .i64 ((valN sig 0 4 : Nat) : Int), .string (sig.extract 4 (4 + b)), .slice (some ⟨g, 0, none⟩) (l * (b * e + f + t)) (l * (b * e + f + t))]] w fun r w' => r = .returned (.tuple #[.string sig, .int .i64 0]) ∧ Below w.heap.size w w' := by
  obtain ⟨g1, g2, g3, g4, g5, g6⟩ := pair_small R.pr
  obtain ⟨hb, hx⟩ := pairB R.pr
  have r2 := R.t2
  have r4 := R.l2
  have h36 : b * e + f ≤ 36 := by rcases R.pr with ⟨rfl, rfl, rfl, rfl⟩ | ⟨rfl, rfl, rfl, rfl⟩ | ⟨rfl, rfl, rfl, rfl⟩ | ⟨rfl, rfl, rfl, rfl⟩ <;> decide
  have hN : l * (b * e + f + t) ≤ 3 * 40 := Nat.mul_le_mul r4 (by omega)
  have hNb : l * (b * e + f + t) * b ≤ 120 * 8 := Nat.mul_le_mul hN (by omega)
  have hcs := cutS_size (sig.extract (4 + b) sig.size) b (l * (b * e + f + t)) (by rw [ByteArray.size_extract]; omega)
  have hcl := cutS_length (sig.extract (4 + b) sig.size) b (l * (b * e + f + t))
  have hcz := cat_cut_size sig b _ hs
  have hrz : (sig.extract 4 (4 + b)).size = b := by rw [ByteArray.size_extract]; omega
  have hsp := sig_parts sig b _ hs
  refine sJoin_on k b x t l _ 0 _ sig _ _ _ w (fun V hbV => ?_)
  have hkV := hk.below hbV hk.lt
  have h := join_yes k b x t l _ _ ((b * e + f : Nat) : Int) _ _ _ ((valN sig 0 4 : Nat) : Int) (l * (b * e + f + t)) g (l * (b * e + f + t)) (sig.extract 4 (4 + b)) (cat (cutS (sig.extract (4 + b) sig.size) b (l * (b * e + f + t)))) V (by rw [IntKind.wrap_i64] <;> omega) (by
      rw [← Int.natCast_add, ← Int.natCast_mul, IntKind.wrap_i64] <;> omega) (by omega) (by omega) (fun V => measure_nat k b x e f t l R V) (fun V => by
      have h := isIndex_on k b x t l ((valN sig 0 4 : Nat) : Int) _ _ _ _ _ _ V (fun V => measure_nat k b x e f t l R V)
      rw [decide_eq_true (by omega)] at h
      exact h) (fun V B hB => by
      have h := values1 k b x t l (sig.extract 4 (4 + b)) V B hB
      rw [show (((sig.extract 4 (4 + b)).size : Int) == (b : Int)) = true by rw [hrz]; simp] at h
      exact h) (fun V' hb' => by
      have h := valuesRight_some k b x t l g 0 (l * (b * e + f + t)) (cutS (sig.extract (4 + b) sig.size) b (l * (b * e + f + t))) V' (fun j y hj => by
        rw [Nat.zero_add, (hkV.below hb' hkV.lt).cell, List.getElem?_map, hj]; rfl) (Nat.lt_of_lt_of_le hkV.lt hb'.size) (by omega)
      rw [(allLen_iff (b : Int) _).2 hcs, hcl] at h
      exact h) (fun V' hb' => by
      have h := join_any g 0 (l * (b * e + f + t)) (cutS (sig.extract (4 + b) sig.size) b (l * (b * e + f + t))) V' (fun j y hj => by
        rw [Nat.zero_add, (hkV.below hb' hkV.lt).cell, List.getElem?_map, hj]; rfl) (Nat.lt_of_lt_of_le hkV.lt hb'.size) (by omega) (by omega) (by omega)
      rw [hcl] at h
      exact h)
  rw [hsp] at h
  exact h
end Go.Proofs.YtgaoeoijdpdjiabDoor
