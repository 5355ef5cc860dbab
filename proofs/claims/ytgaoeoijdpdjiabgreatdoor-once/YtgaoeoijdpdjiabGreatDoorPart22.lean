/-
  How far a signer is; its key. The signature of a message under an index; Verify knows it.
-/
import Derived.Test.YtgaoeoijdpdjiabGreatDoorPart3
import Derived.Test.YtgaoeoijdpdjiabGreatDoorPart14
import Derived.Test.YtgaoeoijdpdjiabGreatDoorPart21
import Derived.Test.YtgaoeoijdpdjiabGreatDoorPart17
import Derived.Test.YtgaoeoijdpdjiabGreatDoorPart20
import Derived.Test.YtgaoeoijdpdjiabGreatDoorPart15
namespace Go.Proofs.YtgaoeoijdpdjiabGreatDoor
open Go.RowKit

/-- A signer's cells. -/
def sgC (D : Nat) (tm : Int) (k b x t l : Int) (root pub sec rnd : ByteArray) (tot bat nx q bd : Int) (id : ByteArray) (ov : Bool) : List Value :=
  [.pointer (some ⟨D, 0, none⟩), .int .i64 tm, .int .i64 k, .int .i64 b, .int .i64 x, .int .i64 t, .int .i64 l, .string root, .string pub, .string sec, .string rnd, .string pub, .int .i64 tot, .int .i64 bat, .int .i64 nx, .int .i64 q, .int .i64 bd, .string id, .bool ov]

set_option maxRecDepth 20000 in
set_option maxHeartbeats 2000000 in
theorem state_on (S D : Nat) (tm k b x t l : Int) (root pub sec rnd : ByteArray) (tot bat nx q bd : Int) (id : ByteArray) (w : World) (hB : Blk w S (sgC D tm k b x t l root pub sec rnd tot bat nx q bd id false) 188) (hD : D < w.heap.size) (h5 : w.cell? ⟨D, 5, none⟩ = some (.int .i64 tm)) :
    Calls Tryz.prog 71 #[.pointer (some ⟨S, 0, none⟩)] w fun e w' => e = .returned (.agg #[.int .i64 nx, .int .i64 bd, .int .i64 q, .bool false]) ∧ Below w.heap.size w w' := by
  obtain ⟨W0, hW⟩ : ∃ W0, w.alloc (.cells #[.int .i64 0, .int .i64 0, .int .i64 0, .bool false] 79) = W0 := ⟨_, rfl⟩
  have HB := hide (show Below w.heap.size w W0 by subst hW; exact (Below.refl _ _).alloc (Nat.le_refl _) _)
  have HSB := hide (hB.on HB.out)
  have hz : w.heap.size < W0.heap.size := by subst hW; simp
  have HK := hide (show Blk W0 w.heap.size [.int .i64 0, .int .i64 0, .int .i64 0, .bool false] 79 by rw [← hW]; exact Blk.new w _ _)
  have HO := hide (fun (V : World) (h : Below W0.heap.size W0 V) => (by
    have q := HSB.out.on h
    exact isOver_no S D tm V q.lt (Nat.lt_of_lt_of_le hD (Nat.le_trans HB.out.size h.size)) (q.cell 0) (q.cell 1) (q.cell 18) ((h.cell (p := ⟨D, 5, none⟩) (Nat.lt_of_lt_of_le hD HB.out.size)).trans ((HB.out.cell (p := ⟨D, 5, none⟩) hD).trans h5)) : Calls Tryz.prog 114 #[.pointer (some ⟨S, 0, none⟩)] V fun e w' => e = .returned (.bool false) ∧ Below V.heap.size V w'))
  have HSL := hide hB.lt
  have HS5 := hide (fun (V : World) (h : Below w.heap.size W0 V) => (by
    have q1 := HSB.out.below h HSL.out
    exact ⟨q1.cell 14, q1.cell 15, q1.cell 16⟩ : V.cell? ⟨S, 14, none⟩ = some (.int .i64 nx) ∧ V.cell? ⟨S, 15, none⟩ = some (.int .i64 q) ∧ V.cell? ⟨S, 16, none⟩ = some (.int .i64 bd)))
  have HS := hide (fun (V : World) (h : Below W0.heap.size W0 V) => HS5.out V (h.mono HB.out.size))
  have HWE := hide hW
  have HZ := hide hz
  clear hW hB hD h5 hz
  go_enter Tryz.func71, Tryz.ntmps71
  go_wp2_with fail
  rw [HWE.out]
  refine wp_region_held_drew (S := fun V => V.cell? ⟨S, 14, none⟩ = some (.int .i64 nx) ∧ V.cell? ⟨S, 15, none⟩ = some (.int .i64 q) ∧ V.cell? ⟨S, 16, none⟩ = some (.int .i64 bd)) (by kernel_rfl) (HS.out _ ((Below.refl W0.heap.size W0).drew)) (fun hHeld => ?_)
  refine tk 0 hHeld (h := ?_)
  refine tk 1 hHeld (h := ?_)
  refine tk 2 hHeld (h := ?_)
  refine tk 3 hHeld (h := ?_)
  refine tk 4 hHeld (h := ?_)
  refine tk 5 hHeld (h := ?_)
  refine tk 6 hHeld (h := ?_)
  refine tk 7 hHeld (h := ?_)
  refine tk 8 hHeld (h := ?_)
  refine tk 9 hHeld (h := ?_)
  refine tk 10 hHeld (h := ?_)
  refine tk 11 hHeld (h := ?_)
  refine tk 12 hHeld (h := ?_)
  refine tk 13 hHeld (h := ?_)
  refine tk 14 hHeld (h := ?_)
  refine wpAnyH_ready (rs := [15]) (by kernel_rfl) (by simp) ?_
  refine AllReadyH.cons (o := ?oa15) ?hoa15 (fun K hK => ?hsa15) AllReadyH.nil
  case hoa15 => (simp only [List.getElem?_toArray, List.getElem?_cons_succ, List.getElem?_cons_zero]; rfl)
  go_simp
  go_at_call 114
  refine (HO.out _ (Below.refl W0.heap.size W0).drew).mono ?_
  rintro e w4 ⟨rfl, hb4⟩
  have HB4 := hide (heldB (Below.refl W0.heap.size W0).drew hb4 (Nat.le_refl _))
  have HK4 := hide (HK.out.on HB4.out)
  clear hb4
  try go_wp2_with fail
  refine hK.out _ _ (HS.out _ (HB4.out)) (fun hHeld => ?_)
  clear hK K
  try simp only [Act.put, List.setIfInBounds_toArray, List.set_cons_zero, List.set_cons_succ]
  refine tk 16 hHeld (h := ?_)
  have r0 := HK4.out.cell 0
  have f0 := HK4.out.free 0
  have r1 := HK4.out.cell 1
  have f1 := HK4.out.free 1
  have r2 := HK4.out.cell 2
  have f2 := HK4.out.free 2
  have r3 := HK4.out.cell 3
  have f3 := HK4.out.free 3
  simp only [List.getElem?_cons_zero, List.getElem?_cons_succ] at r0 r1 r2 r3
  refine wpAnyH_ready (rs := [17]) (by kernel_rfl) (by simp) ?_
  refine AllReadyH.cons (o := ?oa17) ?hoa17 (fun K hK => ?hsa17) AllReadyH.nil
  case hoa17 => (simp only [List.getElem?_toArray, List.getElem?_cons_succ, List.getElem?_cons_zero]; rfl)
  go_simp
  refine hK.out _ _ (HS5.out _ (((((HB4.out.mono (Nat.le_of_lt HZ.out)).setCell (p := ⟨w.heap.size, 0, none⟩) (Nat.le_refl _) _).setCell (p := ⟨w.heap.size, 1, none⟩) (Nat.le_refl _) _).setCell (p := ⟨w.heap.size, 2, none⟩) (Nat.le_refl _) _).setCell (p := ⟨w.heap.size, 3, none⟩) (Nat.le_refl _) _)) (fun hHeld => ?_)
  clear hK K
  try simp only [Act.put, List.setIfInBounds_toArray, List.set_cons_zero, List.set_cons_succ]
  refine wpAnyH_done (by kernel_rfl) ?_ _
  have HK9 := hide ((((HK4.out.set 0 (.int .i64 nx)).set 1 (.int .i64 bd)).set 2 (.int .i64 q)).set 3 (.bool false))
  have v0 := HK9.out.cell 0
  have v1 := HK9.out.cell 1
  have v2 := HK9.out.cell 2
  have v3 := HK9.out.cell 3
  have HB9 := hide (HB.out.trans (((((HB4.out.mono (Nat.le_of_lt HZ.out)).setCell (p := ⟨w.heap.size, 0, none⟩) (Nat.le_refl _) (.int .i64 nx)).setCell (p := ⟨w.heap.size, 1, none⟩) (Nat.le_refl _) (.int .i64 bd)).setCell (p := ⟨w.heap.size, 2, none⟩) (Nat.le_refl _) (.int .i64 q)).setCell (p := ⟨w.heap.size, 3, none⟩) (Nat.le_refl _) (.bool false)))
  clear r0 r1 r2 r3 f0 f1 f2 f3 hHeld
  generalize (((w4.setCell ⟨w.heap.size, 0, none⟩ (.int .i64 nx)).setCell ⟨w.heap.size, 1, none⟩ (.int .i64 bd)).setCell ⟨w.heap.size, 2, none⟩ (.int .i64 q)).setCell ⟨w.heap.size, 3, none⟩ (.bool false) = W9 at v0 v1 v2 v3 HB9 ⊢
  simp only [List.getElem?_cons_zero, List.getElem?_cons_succ, List.set_cons_zero, List.set_cons_succ] at v0 v1 v2 v3
  go_wp2
  refine bodyPost_ret (v := .agg #[.int .i64 nx, .int .i64 bd, .int .i64 q, .bool false]) (by simp [results, Tryz.results71, go_sem, v0, v1, v2, v3]) rfl ⟨rfl, ?_⟩
  exact HB9.out
set_option maxRecDepth 20000 in
theorem key_on (S D : Nat) (tm k b x t l : Int) (root pub sec rnd : ByteArray) (tot bat nx q bd : Int) (id : ByteArray) (ov : Bool) (w : World) (hB : Blk w S (sgC D tm k b x t l root pub sec rnd tot bat nx q bd id ov) 188) (z1 : root.size ≤ 16) (z2 : pub.size ≤ 16) :
    Calls Tryz.prog 98 #[.pointer (some ⟨S, 0, none⟩)] w fun e w' => e = .returned (.string (headS k b x t l ++ root ++ pub)) ∧ Below w.heap.size w w' := by
  have HK := hide (keyText_any k b x t l root pub w z1 z2)
  have c2 : w.cell? ⟨S, 2, none⟩ = some (.int .i64 k) := hB.cell 2
  have c3 : w.cell? ⟨S, 3, none⟩ = some (.int .i64 b) := hB.cell 3
  have c4 : w.cell? ⟨S, 4, none⟩ = some (.int .i64 x) := hB.cell 4
  have c5 : w.cell? ⟨S, 5, none⟩ = some (.int .i64 t) := hB.cell 5
  have c6 : w.cell? ⟨S, 6, none⟩ = some (.int .i64 l) := hB.cell 6
  have c7 : w.cell? ⟨S, 7, none⟩ = some (.string root) := hB.cell 7
  have c8 : w.cell? ⟨S, 8, none⟩ = some (.string pub) := hB.cell 8
  clear hB
  generalize headS k b x t l ++ root ++ pub = z at HK ⊢
  go_enter Tryz.func98, Tryz.ntmps98
  go_wp2_with fail
  refine HK.out.mono ?_
  rintro e w1 ⟨rfl, hb1⟩
  have HB1 := hide hb1
  clear hb1
  go_wp2
  go_ret
  exact ⟨rfl, HB1.out⟩
end Go.Proofs.YtgaoeoijdpdjiabGreatDoor

namespace Go.Proofs.YtgaoeoijdpdjiabGreatDoor
open Go.RowKit

theorem tree_of_index (t l q idx : Nat) (hq : q < l) (hi : idx < 2 ^ (t * l)) : leafB t l q ((idx / 2 ^ (t * q) / 2 ^ t : Nat) : Int) 0 = true := by
  unfold leafB
  rw [Int.toNat_natCast]
  simp only [Bool.and_eq_true, decide_eq_true_eq]
  have h1 : idx / 2 ^ (t * q) / 2 ^ t < 2 ^ (t * (l - 1 - q)) := by
    rw [Nat.div_div_eq_div_mul, ← Nat.pow_add]
    refine Nat.div_lt_of_lt_mul ?_
    rw [← Nat.pow_add, show t * q + t + t * (l - 1 - q) = t * l by
      have : l = q + 1 + (l - 1 - q) := by omega
      conv => rhs; rw [this]
      rw [Nat.mul_add, Nat.mul_add, Nat.mul_one]]
    exact hi
  have h2 : 0 < 2 ^ t := Nat.two_pow_pos t
  generalize idx / 2 ^ (t * q) / 2 ^ t = A at *
  generalize 2 ^ (t * (l - 1 - q)) = M at *
  generalize 2 ^ t = L at *
  omega
theorem rowz_cell {w : World} {g : Nat} {D : List Nat} (h : RowZ w g (D.map Int.ofNat)) (j d : Nat) (hj : D[j]? = some d) : w.cell? ⟨g, j, none⟩ = some (.int .i64 (d : Nat)) := by
  have hl : j < D.length := (List.getElem?_eq_some_iff.1 hj).1
  rw [h.cell (by simpa using hl), List.getElem?_map, hj]
  rfl
theorem cat_lenS (b : Nat) : ∀ xs : List ByteArray, (∀ y ∈ xs, (y.size : Int) = b) → (cat xs).size = xs.length * b
  | [], _ => by rw [List.length_nil, Nat.zero_mul]; rfl
  | x :: xs, h => by
    have h1 := h x (by simp)
    rw [cat, ByteArray.size_append, cat_lenS b xs (fun y hy => h y (by simp [hy])), List.length_cons, Nat.add_mul, Nat.one_mul]
    omega

/-- What stands in a signature ahead of its parts. -/
def rvS (k : Int) (b : Nat) (rnd : ByteArray) (idx : Nat) : ByteArray := hv k b (numB 1 5 ++ (rnd ++ numB 4 idx))
/-- The root in a key. -/
def rootK (k : Int) (b x t ch l : Nat) (sec pub : ByteArray) : ByteArray := nodeS k b (x - 1) ch sec pub ((l : Int) - 1) 0 t 0
/-- A signature. -/
def sigS (k : Int) (b x e f t l : Nat) (sec rnd pub msg : ByteArray) (idx : Nat) : ByteArray :=
  numB 4 idx ++ rvS k b rnd idx ++ cat (psQ (sV k b x e f t (b * e + f) sec pub idx (mixS k b (rvS k b rnd idx) (rootK k b x t (b * e + f) l sec pub) pub idx msg)) (sP k b x t (b * e + f) sec pub idx) l)

theorem rvS_size (k : Int) (b : Nat) (rnd : ByteArray) (idx : Nat) (hk : k = 1 ∨ k = 2) (h1 : 1 ≤ b) (h2 : b ≤ 16) (hs : rnd.size ≤ 16) : (rvS k b rnd idx).size = b := by
  have h := hv_size k b (numB 1 5 ++ (rnd ++ numB 4 idx)) hk (by omega) (by omega) (by simp only [ByteArray.size_append, numB_size]; omega)
  unfold rvS
  omega
theorem rootK_size (k : Int) (b x t ch l : Nat) (sec pub : ByteArray) (hk : k = 1 ∨ k = 2) (h1 : 1 ≤ b) (h2 : b ≤ 16) (hs : sec.size ≤ 16) (hp : pub.size ≤ 16) (hc : 1 ≤ ch) : (rootK k b x t ch l sec pub).size = b := by
  have h := nodeS_size k b (x - 1) ch sec pub ((l : Int) - 1) 0 hk (by omega) (by omega) hs hp hc t 0
  unfold rootK
  omega

theorem seedsY (k : Int) (b x t l : Nat) (sec rnd pub : ByteArray) (s1 : sec.size = b) (s2 : rnd.size = b) (s3 : pub.size = b) (V : World) :
    Calls Tryz.prog 265 #[.agg #[.int .i64 k, .int .i64 b, .int .i64 x, .int .i64 t, .int .i64 l], .agg #[.string sec, .string rnd, .string pub]] V fun e w' => e = .returned (.bool true) ∧ Below V.heap.size V w' := by
  have h := seedsRight_any k b x t l sec rnd pub V
  rw [show seedsB b sec rnd pub = true from (allLen_iff (b : Int) _).2 (by
    intro y hy
    simp only [List.mem_cons, List.not_mem_nil, or_false] at hy
    rcases hy with rfl | rfl | rfl <;> omega)] at h
  exact h
/-- A tree of the set. -/
theorem newY (k : Int) (b x e f t l : Nat) (R : RSet k b x e f t l) (sec rnd pub : ByteArray) (s1 : sec.size = b) (s2 : rnd.size = b) (s3 : pub.size = b) (p0 p1 : Int) (hl : leafB t l p0 p1 0 = true) (V : World) :
    Calls Tryz.prog 208 #[.agg #[.int .i64 k, .int .i64 b, .int .i64 x, .int .i64 t, .int .i64 l], .agg #[.string sec, .string rnd, .string pub], .agg #[.int .i64 p0, .int .i64 p1, .int .i64 0, .int .i64 0]] V fun e' w' => e' = .returned (.tuple #[.agg #[.int .i64 k, .int .i64 b, .int .i64 x, .int .i64 t, .int .i64 l, .string sec, .string rnd, .string pub, .int .i64 p0, .int .i64 p1, .int .i64 0, .int .i64 0, .int .i64 ((b * e + f : Nat) : Int)], .int .i64 0]) ∧ Below V.heap.size V w' :=
  new_yes k b x t l _ _ _ _ _ _ sec rnd pub p0 p1 0 0 V (fun V => measure_nat k b x e f t l R V) (fun V => seedsY k b x t l sec rnd pub s1 s2 s3 V) (fun V => by
    have h := isTree_any k b x t l p0 p1 0 0 V R.t1 R.t2 R.l2
    rw [hl] at h
    exact h)
set_option maxRecDepth 20000 in
/-- The key of a set and of seeds. -/
theorem ofY (k : Int) (b x e f t l : Nat) (R : RSet k b x e f t l) (sec rnd pub : ByteArray) (s1 : sec.size = b) (s2 : rnd.size = b) (s3 : pub.size = b) (w : World) (hT : Tn w) :
    Calls Tryz.prog 178 #[.agg #[.int .i64 k, .int .i64 b, .int .i64 x, .int .i64 t, .int .i64 l], .agg #[.string sec, .string rnd, .string pub]] w fun e' w' => e' = .returned (.tuple #[.agg #[.int .i64 k, .int .i64 b, .int .i64 x, .int .i64 t, .int .i64 l, .string (rootK k b x t (b * e + f) l sec pub), .string pub], .int .i64 0]) ∧ Below w.heap.size w w' := by
  obtain ⟨g1, g2, g3, g4, g5, g6⟩ := pair_small R.pr
  have r3 := R.l1
  have r4 := R.l2
  have hl0 : leafB t l ((l : Int) - 1) 0 0 = true := by
    have h := tree_of_index t l (l - 1) 0 (by omega) (Nat.two_pow_pos _)
    rw [Nat.zero_div, Nat.zero_div, show (((l - 1 : Nat)) : Int) = (l : Int) - 1 by omega] at h
    exact h
  exact keysOf_on k b x t l _ _ _ _ _ sec rnd pub (rootK k b x t (b * e + f) l sec pub) w (by rw [IntKind.wrap_i64] <;> omega) hT (fun V => newY k b x e f t l R sec rnd pub s1 s2 s3 _ _ hl0 V) (fun V hV => troot_any k b x l t sec rnd pub _ _ _ _ (b * e + f) (x - 1) V R.kk (by omega) (by omega) (by omega) (by omega) g3 g4 (ch4_of R.pr) (by omega) (by omega) R.t2 hV)

set_option maxRecDepth 20000 in
set_option maxHeartbeats 2000000 in
/-- Sign makes the signature. -/
theorem signY (k : Int) (b x e f t l : Nat) (R : RSet k b x e f t l) (sec rnd pub msg : ByteArray) (idx : Nat) (s1 : sec.size = b) (s2 : rnd.size = b) (s3 : pub.size = b) (s4 : msg.size ≤ 200) (hi : idx < 2 ^ (t * l)) (w : World) (hT : Tn w) :
    Calls Tryz.prog 171 #[.agg #[.int .i64 k, .int .i64 b, .int .i64 x, .int .i64 t, .int .i64 l, .string (rootK k b x t (b * e + f) l sec pub), .string pub], .agg #[.string sec, .string rnd, .string pub], .int .i64 idx, .string msg] w fun e' w' => e' = .returned (.string (sigS k b x e f t l sec rnd pub msg idx)) ∧ Below w.heap.size w w' := by
  obtain ⟨g1, g2, g3, g4, g5, g6⟩ := pair_small R.pr
  obtain ⟨hb, hx⟩ := pairB R.pr
  have r1 := R.t1
  have r2 := R.t2
  have r3 := R.l1
  have r4 := R.l2
  have hk := R.kk
  have h36 : b * e + f ≤ 36 := by rcases R.pr with ⟨rfl, rfl, rfl, rfl⟩ | ⟨rfl, rfl, rfl, rfl⟩ | ⟨rfl, rfl, rfl, rfl⟩ | ⟨rfl, rfl, rfl, rfl⟩ <;> decide
  have hN2 : l * (b * e + f + t) ≤ 3 * 40 := Nat.mul_le_mul r4 (by omega)
  have hpw : 2 ^ (t * l) ≤ 4096 := Nat.le_trans (Nat.pow_le_pow_right (by decide) (Nat.mul_le_mul r2 r4)) (by decide)
  have hrv := rvS_size k b rnd idx hk g1 g2 (by omega)
  have hrk := rootK_size k b x t (b * e + f) l sec pub hk g1 g2 (by omega) (by omega) g3
  have hm0 := mixS_size k b (rvS k b rnd idx) (rootK k b x t (b * e + f) l sec pub) pub idx msg hk (by omega) (by omega) (by omega) (by omega) (by omega) s4
  have hF := sM_facts k b x e f t (b * e + f) sec pub idx _ R.pr rfl hk (by omega) (by omega) hm0
  have hvl := sV_length k b x e f t (b * e + f) sec pub idx _ R.pr rfl hk (by omega) (by omega) hm0
  have hpl := sP_length k b x t (b * e + f) sec pub idx
  have hps := psQ_size k b x e f t (b * e + f) sec pub idx (mixS k b (rvS k b rnd idx) (rootK k b x t (b * e + f) l sec pub) pub idx msg) R.pr rfl hk (by omega) (by omega) l
  have hsz := sVP_size k b x e f t (b * e + f) sec pub idx (mixS k b (rvS k b rnd idx) (rootK k b x t (b * e + f) l sec pub) pub idx msg) R.pr rfl hk (by omega) (by omega)
  have hdx : ∀ q, ∀ d ∈ sD k b x e f t (b * e + f) sec pub idx (mixS k b (rvS k b rnd idx) (rootK k b x t (b * e + f) l sec pub) pub idx msg) q, d < x := fun q => digitsN_lt x e f _ (by omega)
  have hql := psQ_length _ _ _ _ hvl hpl l
  have hq2 : ∀ q, idx / 2 ^ (t * q) % 2 ^ t < 2 ^ t := fun q => Nat.mod_lt _ (Nat.two_pow_pos t)
  have h16 : 2 ^ t ≤ 16 := Nat.le_trans (Nat.pow_le_pow_right (by decide) r2) (by decide)
  refine sign_on k b x t l (b * e + f) idx _ sec rnd pub msg (rvS k b rnd idx) (sigS k b x e f t l sec rnd pub msg idx) (sM k b x e f t (b * e + f) sec pub idx (mixS k b (rvS k b rnd idx) (rootK k b x t (b * e + f) l sec pub) pub idx msg)) (fun q => idx / 2 ^ (t * q) / 2 ^ t) (fun q => idx / 2 ^ (t * q) % 2 ^ t) (sD k b x e f t (b * e + f) sec pub idx (mixS k b (rvS k b rnd idx) (rootK k b x t (b * e + f) l sec pub) pub idx msg)) (sV k b x e f t (b * e + f) sec pub idx (mixS k b (rvS k b rnd idx) (rootK k b x t (b * e + f) l sec pub) pub idx msg)) (sP k b x t (b * e + f) sec pub idx) w hT r3 r4 g3 (by omega) r2 hvl hpl ?_ ?_ ?_ ?_ ?_ ?_ ?_ ?_ ?_
  · intro V hV
    have q := value_any k b x t l 5 V.heap.size 0 2 [rnd, numB 4 idx] (V.alloc (.cells #[.string rnd, .string (numB 4 idx)] 9)) (by
      intro j y hj
      match j, hj with
      | 0, hj => simp at hj; subst hj; simp [go_sem]
      | 1, hj => simp at hj; subst hj; simp [go_sem]) (by simp) (by simp) (by simp) hk (by omega) (by omega) (by rw [cat_size]; simp [numB_size]; omega) (hV.alloc _)
    simp only [cat, append_empty, List.length_cons, List.length_nil, Nat.reduceAdd] at q
    exact q
  · intro V hV
    exact mixed_any k b x t l idx _ pub _ msg (.slice none 0 0) V hk (by omega) (by omega) (by omega) (by omega) (by omega) s4 hV
  · intro q hq V
    exact signing_any k b x l t q idx V r1 r2 (by omega) (by omega)
  · intro q hq V
    exact newY k b x e f t l R sec rnd pub s1 s2 s3 _ _ (tree_of_index t l q idx hq hi) V
  · intro q hq V
    have h0 := (hF q).1
    have hsd : sD k b x e f t (b * e + f) sec pub idx (mixS k b (rvS k b rnd idx) (rootK k b x t (b * e + f) l sec pub) pub idx msg) q = digitsN x e f (bytesN (sM k b x e f t (b * e + f) sec pub idx (mixS k b (rvS k b rnd idx) (rootK k b x t (b * e + f) l sec pub) pub idx msg) q)) := rfl
    rw [hsd]
    clear hsd
    generalize sM k b x e f t (b * e + f) sec pub idx (mixS k b (rvS k b rnd idx) (rootK k b x t (b * e + f) l sec pub) pub idx msg) q = mq at h0 ⊢
    exact setsDigits_any b x e f R.pr k t l mq V hk (by omega) (by omega) (by omega) (by omega) (by omega)
  · intro q hq V g hV hrow
    have hdl := (hF q).2
    have hd1 := hdx q
    have hsv : sV k b x e f t (b * e + f) sec pub idx (mixS k b (rvS k b rnd idx) (rootK k b x t (b * e + f) l sec pub) pub idx msg) q = revS k b sec pub q ((idx / 2 ^ (t * q) / 2 ^ t : Nat) : Int) ((idx / 2 ^ (t * q) % 2 ^ t : Nat) : Int) (sD k b x e f t (b * e + f) sec pub idx (mixS k b (rvS k b rnd idx) (rootK k b x t (b * e + f) l sec pub) pub idx msg) q) (sD k b x e f t (b * e + f) sec pub idx (mixS k b (rvS k b rnd idx) (rootK k b x t (b * e + f) l sec pub) pub idx msg) q).length := rfl
    rw [hsv]
    clear hsv
    generalize sD k b x e f t (b * e + f) sec pub idx (mixS k b (rvS k b rnd idx) (rootK k b x t (b * e + f) l sec pub) pub idx msg) q = D at hdl hd1 hrow ⊢
    have h := reveal_any k b x t l sec rnd pub q ((idx / 2 ^ (t * q) / 2 ^ t : Nat) : Int) 0 0 ((b * e + f : Nat) : Int) ((idx / 2 ^ (t * q) % 2 ^ t : Nat) : Int) g 0 (b * e + f) D V hk (by omega) (by omega) (by omega) (by omega) (by rw [hdl]; exact g4) (fun d hd => by have := hd1 d hd; omega) hrow.lt (fun j d hj => by rw [Nat.zero_add]; exact rowz_cell hrow j d hj) hV
    rw [hdl] at h ⊢
    refine h.mono ?_
    rintro e' w' ⟨rfl, h2, h3⟩
    exact ⟨_, rfl, by omega, h2, h3⟩
  · intro q hq V hV
    have hsp : sP k b x t (b * e + f) sec pub idx q = pathS k b (x - 1) (b * e + f) sec pub q ((idx / 2 ^ (t * q) / 2 ^ t : Nat) : Int) (idx / 2 ^ (t * q) % 2 ^ t) t := rfl
    rw [hsp]
    clear hsp
    have h := tpath_any k b x l t (idx / 2 ^ (t * q) % 2 ^ t) sec rnd pub q ((idx / 2 ^ (t * q) / 2 ^ t : Nat) : Int) 0 0 (b * e + f) (x - 1) V hk (by omega) (by omega) (by omega) (by omega) g3 g4 (ch4_of R.pr) (by omega) (by omega) r2 (hq2 q) hV
    refine h.mono ?_
    rintro e' w' ⟨rfl, h2, h3⟩
    exact ⟨_, rfl, by omega, h2, h3⟩
  · intro q hq V gd gv gp hV hrow hkv hkp
    have hdl := (hF q).2
    have hd1 := hdx q
    have hv1 := hvl q
    have hp1 := hpl q
    have hz1 := (hsz q).1
    have hz2 := (hsz q).2
    have hMq : sM k b x e f t (b * e + f) sec pub idx (mixS k b (rvS k b rnd idx) (rootK k b x t (b * e + f) l sec pub) pub idx msg) (q + 1) = rootS k b x pub q ((idx / 2 ^ (t * q) / 2 ^ t : Nat) : Int) (idx / 2 ^ (t * q) % 2 ^ t) (sD k b x e f t (b * e + f) sec pub idx (mixS k b (rvS k b rnd idx) (rootK k b x t (b * e + f) l sec pub) pub idx msg) q) (sV k b x e f t (b * e + f) sec pub idx (mixS k b (rvS k b rnd idx) (rootK k b x t (b * e + f) l sec pub) pub idx msg) q) (sP k b x t (b * e + f) sec pub idx q) := rfl
    rw [hMq]
    clear hMq
    generalize sD k b x e f t (b * e + f) sec pub idx (mixS k b (rvS k b rnd idx) (rootK k b x t (b * e + f) l sec pub) pub idx msg) q = D at hdl hd1 hrow ⊢
    generalize sV k b x e f t (b * e + f) sec pub idx (mixS k b (rvS k b rnd idx) (rootK k b x t (b * e + f) l sec pub) pub idx msg) q = VV at hv1 hz1 hkv ⊢
    generalize sP k b x t (b * e + f) sec pub idx q = PP at hp1 hz2 hkp ⊢
    have h := rootBy_any k b t l x pub q ((idx / 2 ^ (t * q) / 2 ^ t : Nat) : Int) 0 (idx / 2 ^ (t * q) % 2 ^ t) gd 0 (b * e + f) gv 0 (b * e + f) gp 0 t D VV PP V hk (by omega) (by omega) (by omega) g6 (by have := hq2 q; omega) (by rw [hv1]; exact g3) (by rw [hv1]; exact g4) (by rw [hdl, hv1]) hd1 hz1 (by rw [hp1]; omega) hz2 hrow.lt (fun j d hj => by rw [Nat.zero_add]; exact rowz_cell hrow j d hj) hkv.lt (fun j y hj => by rw [Nat.zero_add, hkv.cell, List.getElem?_map, hj]; rfl) hkp.lt (fun j y hj => by rw [Nat.zero_add, hkp.cell, List.getElem?_map, hj]; rfl) hV
    rw [hv1, hp1] at h
    exact h
  · intro V g c hg hc hce
    rw [hql] at hc ⊢
    have h := join_yes k b x t l _ _ ((b * e + f : Nat) : Int) _ _ _ (idx : Int) (l * (b * e + f + t)) g c (rvS k b rnd idx) (cat (psQ (sV k b x e f t (b * e + f) sec pub idx (mixS k b (rvS k b rnd idx) (rootK k b x t (b * e + f) l sec pub) pub idx msg)) (sP k b x t (b * e + f) sec pub idx) l)) V (by rw [IntKind.wrap_i64] <;> omega) (by
        rw [← Int.natCast_add, ← Int.natCast_mul, IntKind.wrap_i64] <;> omega) (by omega) (by
        have hnb : l * (b * e + f + t) * b ≤ 120 * 8 := Nat.mul_le_mul hN2 (by omega)
        rw [cat_lenS b _ hps, hql]; omega) (fun V => measure_nat k b x e f t l R V) (fun V => by
        have h := isIndex_on k b x t l (idx : Int) _ _ _ _ _ _ V (fun V => measure_nat k b x e f t l R V)
        rw [decide_eq_true (by omega)] at h
        exact h) (fun V B hB => by
        have h := values1 k b x t l (rvS k b rnd idx) V B hB
        rw [show (((rvS k b rnd idx).size : Int) == (b : Int)) = true by rw [hrv]; simp] at h
        exact h) (fun V' hb' => by
        have h := valuesRight_some k b x t l g 0 c (psQ (sV k b x e f t (b * e + f) sec pub idx (mixS k b (rvS k b rnd idx) (rootK k b x t (b * e + f) l sec pub) pub idx msg)) (sP k b x t (b * e + f) sec pub idx) l) V' (fun j y hj => by
          rw [Nat.zero_add]; exact (hb'.cell (p := ⟨g, j, none⟩) hg).trans (hce j y hj)) (Nat.lt_of_lt_of_le hg hb'.size) (by omega)
        rw [(allLen_iff (b : Int) _).2 hps, hql] at h
        exact h) (fun V' hb' => by
        have hnb : l * (b * e + f + t) * b ≤ 120 * 8 := Nat.mul_le_mul hN2 (by omega)
        have h := join_any g 0 c (psQ (sV k b x e f t (b * e + f) sec pub idx (mixS k b (rvS k b rnd idx) (rootK k b x t (b * e + f) l sec pub) pub idx msg)) (sP k b x t (b * e + f) sec pub idx) l) V' (fun j y hj => by
          rw [Nat.zero_add]; exact (hb'.cell (p := ⟨g, j, none⟩) hg).trans (hce j y hj)) (Nat.lt_of_lt_of_le hg hb'.size) (by omega) (by omega) (by rw [cat_lenS b _ hps, hql]; omega)
        rw [hql] at h
        exact h)
    exact h

set_option maxRecDepth 20000 in
/-- Verify knows it. -/
theorem verY (k : Int) (b x e f t l : Nat) (R : RSet k b x e f t l) (sec rnd pub msg : ByteArray) (idx : Nat) (s1 : sec.size = b) (s2 : rnd.size = b) (s3 : pub.size = b) (s4 : msg.size ≤ 200) (hi : idx < 2 ^ (t * l)) (w : World) (hT : Tn w) :
    Calls Tryz.prog 44 #[.string (headS k b x t l ++ rootK k b x t (b * e + f) l sec pub ++ pub), .string msg, .string (sigS k b x e f t l sec rnd pub msg idx)] w fun e' w' => e' = .returned (.int .i64 0) ∧ Below w.heap.size w w' := by
  obtain ⟨g1, g2, g3, g4, g5, g6⟩ := pair_small R.pr
  obtain ⟨hb, hx⟩ := pairB R.pr
  have r1 := R.t1
  have r2 := R.t2
  have r3 := R.l1
  have r4 := R.l2
  have hk := R.kk
  have hpw : 2 ^ (t * l) ≤ 4096 := Nat.le_trans (Nat.pow_le_pow_right (by decide) (Nat.mul_le_mul r2 r4)) (by decide)
  have hrv := rvS_size k b rnd idx hk g1 g2 (by omega)
  have hrk := rootK_size k b x t (b * e + f) l sec pub hk g1 g2 (by omega) (by omega) g3
  have hm0 := mixS_size k b (rvS k b rnd idx) (rootK k b x t (b * e + f) l sec pub) pub idx msg hk (by omega) (by omega) (by omega) (by omega) (by omega) s4
  have hvl := sV_length k b x e f t (b * e + f) sec pub idx _ R.pr rfl hk (by omega) (by omega) hm0
  have hpl := sP_length k b x t (b * e + f) sec pub idx
  have hps := psQ_size k b x e f t (b * e + f) sec pub idx (mixS k b (rvS k b rnd idx) (rootK k b x t (b * e + f) l sec pub) pub idx msg) R.pr rfl hk (by omega) (by omega) l
  have hql := psQ_length _ _ _ _ hvl hpl l
  have hlay := lay_sM k b x e f t (b * e + f) sec pub idx _ R.pr rfl hk (by omega) (by omega) hm0 l l (Nat.le_refl _)
  have hlast := sM_last k b x e f t (b * e + f) sec pub idx _ R.pr rfl hk (by omega) (by omega) hm0 l r3 hi
  obtain ⟨z1, z2, z3, z4⟩ := sig_bytes idx b (by omega) (rvS k b rnd idx) hrv _ hps (cat_lenS b _ hps)
  rw [show numB 4 idx ++ rvS k b rnd idx ++ cat (psQ (sV k b x e f t (b * e + f) sec pub idx (mixS k b (rvS k b rnd idx) (rootK k b x t (b * e + f) l sec pub) pub idx msg)) (sP k b x t (b * e + f) sec pub idx) l) = sigS k b x e f t l sec rnd pub msg idx from rfl] at z1 z2 z3 z4
  rw [hql] at z1 z4
  have HSP := fun V : World => splitY k b x e f t l R (sigS k b x e f t l sec rnd pub msg idx) z1 (by rw [z2]; exact hi) V
  rw [z2, z3, z4] at HSP
  refine sVerify_on _ _ _ 0 w (verify_yes k b x t l (idx : Int) _ _ _ _ _ _ _ _ w s4 hT (fun V => keyY k b x e f t l R _ pub hrk s3 V) HSP (fun V g hV hk' => ?_))
  have h := sigRootBy_any k b x e f t l (b * e + f) idx R.pr rfl pub (rootK k b x t (b * e + f) l sec pub) (rvS k b rnd idx) msg g 0 (l * (b * e + f + t)) (l * (b * e + f + t)) _ V hk r1 r2 r3 r4 (by omega) (by omega) (by omega) (by omega) s4 hql rfl (Nat.le_refl _) hps hk'.lt (fun j y hj => by
    rw [Nat.zero_add, hk'.cell, List.getElem?_map, hj]; rfl) hV
  rw [hlay, hlast] at h
  exact h
end Go.Proofs.YtgaoeoijdpdjiabGreatDoor
