/-
  What Sign makes leads to the root of the key. A set that is right. The program's Split, where it takes a text and where it refuses it. The signature of a message under an index; Verify knows it. What fit makes of any numbers: a set that is right.
-/
import Derived.Test.YtgaoeoijdpdjiabGreatDoorPart37
import Derived.Test.YtgaoeoijdpdjiabGreatDoorPart36
import Derived.Test.YtgaoeoijdpdjiabGreatDoorPart26
import Derived.Test.YtgaoeoijdpdjiabGreatDoorPart27
import Derived.Test.YtgaoeoijdpdjiabGreatDoorPart21
import Derived.Test.YtgaoeoijdpdjiabGreatDoorPart30
import Derived.Test.YtgaoeoijdpdjiabGreatDoorPart6
import Derived.Test.YtgaoeoijdpdjiabGreatDoorPart25
import Derived.Test.YtgaoeoijdpdjiabGreatDoorPart28
import Derived.Test.YtgaoeoijdpdjiabGreatDoorPart12
import Derived.Test.YtgaoeoijdpdjiabGreatDoorPart4
import Derived.Test.YtgaoeoijdpdjiabGreatDoorPart33
import Derived.Test.YtgaoeoijdpdjiabGreatDoorPart35
import Derived.Test.YtgaoeoijdpdjiabGreatDoorPart17
import Derived.Test.YtgaoeoijdpdjiabGreatDoorPart23
namespace Go.Proofs.YtgaoeoijdpdjiabGreatDoor
open Go.RowKit
/-! A signature's layers -/
/-- What the layers sign. -/
def sM (k : Int) (b x e f t ch : Nat) (sec pub : ByteArray) (idx : Nat) (m0 : ByteArray) : Nat → ByteArray
  | 0 => m0
  | q + 1 => rootS k b x pub q ((idx / 2 ^ (t * q) / 2 ^ t : Nat) : Int) (idx / 2 ^ (t * q) % 2 ^ t) (digitsN x e f (bytesN (sM k b x e f t ch sec pub idx m0 q))) (revS k b sec pub q ((idx / 2 ^ (t * q) / 2 ^ t : Nat) : Int) ((idx / 2 ^ (t * q) % 2 ^ t : Nat) : Int) (digitsN x e f (bytesN (sM k b x e f t ch sec pub idx m0 q))) (digitsN x e f (bytesN (sM k b x e f t ch sec pub idx m0 q))).length) (pathS k b (x - 1) ch sec pub q ((idx / 2 ^ (t * q) / 2 ^ t : Nat) : Int) (idx / 2 ^ (t * q) % 2 ^ t) t)
def sD (k : Int) (b x e f t ch : Nat) (sec pub : ByteArray) (idx : Nat) (m0 : ByteArray) (q : Nat) : List Nat := digitsN x e f (bytesN (sM k b x e f t ch sec pub idx m0 q))
def sV (k : Int) (b x e f t ch : Nat) (sec pub : ByteArray) (idx : Nat) (m0 : ByteArray) (q : Nat) : List ByteArray := revS k b sec pub q ((idx / 2 ^ (t * q) / 2 ^ t : Nat) : Int) ((idx / 2 ^ (t * q) % 2 ^ t : Nat) : Int) (sD k b x e f t ch sec pub idx m0 q) (sD k b x e f t ch sec pub idx m0 q).length
def sP (k : Int) (b x t ch : Nat) (sec pub : ByteArray) (idx : Nat) (q : Nat) : List ByteArray := pathS k b (x - 1) ch sec pub q ((idx / 2 ^ (t * q) / 2 ^ t : Nat) : Int) (idx / 2 ^ (t * q) % 2 ^ t) t
theorem sM_facts (k : Int) (b x e f t ch : Nat) (sec pub : ByteArray) (idx : Nat) (m0 : ByteArray) (hp : Pair b x e f) (hch : ch = b * e + f) (hk : k = 1 ∨ k = 2) (zs : sec.size ≤ 16) (zp : pub.size ≤ 16) (hm : (m0.size : Int) = b) : ∀ q, ((sM k b x e f t ch sec pub idx m0 q).size : Int) = b ∧ (sD k b x e f t ch sec pub idx m0 q).length = ch := by
  obtain ⟨g1, g2, g3, g4, g5, g6⟩ := pair_small hp
  have dl : ∀ m : ByteArray, (m.size : Int) = b → (digitsN x e f (bytesN m)).length = ch := fun m h => by
    rw [digitsN_length, bytesN_length, hch]
    congr 2
    omega
  intro q
  induction q with
  | zero => exact ⟨hm, dl _ hm⟩
  | succ q ih =>
    have hs : ((sM k b x e f t ch sec pub idx m0 (q + 1)).size : Int) = b := by
      rw [sM]
      refine rootS_size k b x pub q _ _ _ _ _ hk (by omega) (by omega) zp ?_ (revS_size k b sec pub q _ _ _ _ hk (by omega) (by omega) zs zp) ?_
      · rw [revS_length, dl _ ih.1, hch]; exact g3
      · intro y hy
        simp only [pathS, List.mem_map] at hy
        obtain ⟨h, _, rfl⟩ := hy
        exact nodeS_size k b (x - 1) ch sec pub _ _ hk (by omega) (by omega) zs zp (by rw [hch]; exact g3) _ _
    exact ⟨hs, dl _ hs⟩
theorem sV_length (k : Int) (b x e f t ch : Nat) (sec pub : ByteArray) (idx : Nat) (m0 : ByteArray) (hp : Pair b x e f) (hch : ch = b * e + f) (hk : k = 1 ∨ k = 2) (zs : sec.size ≤ 16) (zp : pub.size ≤ 16) (hm : (m0.size : Int) = b) (q : Nat) : (sV k b x e f t ch sec pub idx m0 q).length = ch := by
  rw [sV, revS_length]
  exact (sM_facts k b x e f t ch sec pub idx m0 hp hch hk zs zp hm q).2
theorem sP_length (k : Int) (b x t ch : Nat) (sec pub : ByteArray) (idx : Nat) (q : Nat) : (sP k b x t ch sec pub idx q).length = t := by rw [sP, pathS_length]
theorem sVP_size (k : Int) (b x e f t ch : Nat) (sec pub : ByteArray) (idx : Nat) (m0 : ByteArray) (hp : Pair b x e f) (hch : ch = b * e + f) (hk : k = 1 ∨ k = 2) (zs : sec.size ≤ 16) (zp : pub.size ≤ 16) (q : Nat) : (∀ y ∈ sV k b x e f t ch sec pub idx m0 q, (y.size : Int) = b) ∧ ∀ y ∈ sP k b x t ch sec pub idx q, (y.size : Int) = b := by
  obtain ⟨g1, g2, g3, g4, g5, g6⟩ := pair_small hp
  refine ⟨revS_size k b sec pub q _ _ _ _ hk (by omega) (by omega) zs zp, fun y hy => ?_⟩
  simp only [sP, pathS, List.mem_map] at hy
  obtain ⟨h, _, rfl⟩ := hy
  exact nodeS_size k b (x - 1) ch sec pub _ _ hk (by omega) (by omega) zs zp (by rw [hch]; exact g3) _ _
theorem psQ_size (k : Int) (b x e f t ch : Nat) (sec pub : ByteArray) (idx : Nat) (m0 : ByteArray) (hp : Pair b x e f) (hch : ch = b * e + f) (hk : k = 1 ∨ k = 2) (zs : sec.size ≤ 16) (zp : pub.size ≤ 16) : ∀ q, ∀ y ∈ psQ (sV k b x e f t ch sec pub idx m0) (sP k b x t ch sec pub idx) q, (y.size : Int) = b := by
  intro q
  induction q with
  | zero => intro y hy; simp [psQ] at hy
  | succ q ih =>
    intro y hy
    rw [psQ, List.mem_append, List.mem_append] at hy
    obtain ⟨h1, h2⟩ := sVP_size k b x e f t ch sec pub idx m0 hp hch hk zs zp q
    rcases hy with (hy | hy) | hy
    · exact ih y hy
    · exact h1 y hy
    · exact h2 y hy
end Go.Proofs.YtgaoeoijdpdjiabGreatDoor

namespace Go.Proofs.YtgaoeoijdpdjiabGreatDoor
open Go.RowKit
/-- A set that is right, as its pair of numbers. -/
structure RSet (k : Int) (b x e f t l : Nat) : Prop where
  pr : Pair b x e f
  kk : k = 1 ∨ k = 2
  t1 : 1 ≤ t
  t2 : t ≤ 4
  l1 : 1 ≤ l
  l2 : l ≤ 3
  r : rightB k b x t l = true
theorem pairB {b x e f : Nat} (h : Pair b x e f) : (b = 4 ∨ b = 8) ∧ (x = 4 ∨ x = 16) := by
  unfold Pair at h
  omega
end Go.Proofs.YtgaoeoijdpdjiabGreatDoor

namespace Go.Proofs.YtgaoeoijdpdjiabGreatDoor
open Go.RowKit
/-- Of a set that is right: what Measure tells. -/
theorem measure_nat (k : Int) (b x e f t l : Nat) (R : RSet k b x e f t l) (V : World) :
    Calls Tryz.prog 155 #[.agg #[.int .i64 k, .int .i64 b, .int .i64 x, .int .i64 t, .int .i64 l]] V fun r w' => r = .returned (.tuple #[.agg #[.int .i64 ((b * e : Nat) : Int), .int .i64 f, .int .i64 ((b * e + f : Nat) : Int), .int .i64 ((2 ^ (t * l) : Nat) : Int), .int .i64 ((4 + b + l * (b * e + f + t) * b : Nat) : Int), .int .i64 ((5 + 2 * b : Nat) : Int)], .int .i64 0]) ∧ Below V.heap.size V w' := by
  have h := setsMeasure_yes b x e f t l R.pr k V R.kk R.t1 R.t2 R.l1 R.l2
  rw [sigZ_nat R.pr, totalZ_nat] at h
  exact h
end Go.Proofs.YtgaoeoijdpdjiabGreatDoor

namespace Go.Proofs.YtgaoeoijdpdjiabGreatDoor
open Go.RowKit
theorem tree_of_index (t l q idx : Nat) (hq : q < l) (hi : idx < 2 ^ (t * l)) : leafB t l q ((idx / 2 ^ (t * q) / 2 ^ t : Nat) : Int) 0 = true := by
  unfold leafB
  rw [Int.toNat_natCast]
  simp only [Bool.and_eq_true, decide_eq_true_eq]
  have h1 : idx / 2 ^ (t * q) / 2 ^ t < 2 ^ (t * (l - 1 - q)) := by
    rw [Nat.div_div_eq_div_mul, ← Nat.pow_add]
    refine Nat.div_lt_of_lt_mul ?_
    rw [← Nat.pow_add, show t * q + t + t * (l - 1 - q) = t * l by
      have : l = q + 1 + (l - 1 - q) := by omega
      conv => rhs; rw [this]
      rw [Nat.mul_add, Nat.mul_add, Nat.mul_one]]
    exact hi
  have h2 : 0 < 2 ^ t := Nat.two_pow_pos t
  generalize idx / 2 ^ (t * q) / 2 ^ t = A at *
  generalize 2 ^ (t * (l - 1 - q)) = M at *
  generalize 2 ^ t = L at *
  omega
theorem rowz_cell {w : World} {g : Nat} {D : List Nat} (h : RowZ w g (D.map Int.ofNat)) (j d : Nat) (hj : D[j]? = some d) : w.cell? ⟨g, j, none⟩ = some (.int .i64 (d : Nat)) := by
  have hl : j < D.length := (List.getElem?_eq_some_iff.1 hj).1
  rw [h.cell (by simpa using hl), List.getElem?_map, hj]
  rfl
theorem cat_lenS (b : Nat) : ∀ xs : List ByteArray, (∀ y ∈ xs, (y.size : Int) = b) → (cat xs).size = xs.length * b
  | [], _ => by rw [List.length_nil, Nat.zero_mul]; rfl
  | x :: xs, h => by
    have h1 := h x (by simp)
    rw [cat, ByteArray.size_append, cat_lenS b xs (fun y hy => h y (by simp [hy])), List.length_cons, Nat.add_mul, Nat.one_mul]
    omega
/-- What stands in a signature ahead of its parts. -/
def rvS (k : Int) (b : Nat) (rnd : ByteArray) (idx : Nat) : ByteArray := hv k b (numB 1 5 ++ (rnd ++ numB 4 idx))
/-- The root in a key. -/
def rootK (k : Int) (b x t ch l : Nat) (sec pub : ByteArray) : ByteArray := nodeS k b (x - 1) ch sec pub ((l : Int) - 1) 0 t 0
/-- A signature. -/
def sigS (k : Int) (b x e f t l : Nat) (sec rnd pub msg : ByteArray) (idx : Nat) : ByteArray :=
  numB 4 idx ++ rvS k b rnd idx ++ cat (psQ (sV k b x e f t (b * e + f) sec pub idx (mixS k b (rvS k b rnd idx) (rootK k b x t (b * e + f) l sec pub) pub idx msg)) (sP k b x t (b * e + f) sec pub idx) l)
theorem rvS_size (k : Int) (b : Nat) (rnd : ByteArray) (idx : Nat) (hk : k = 1 ∨ k = 2) (h1 : 1 ≤ b) (h2 : b ≤ 16) (hs : rnd.size ≤ 16) : (rvS k b rnd idx).size = b := by
  have h := hv_size k b (numB 1 5 ++ (rnd ++ numB 4 idx)) hk (by omega) (by omega) (by simp only [ByteArray.size_append, numB_size]; omega)
  unfold rvS
  omega
theorem rootK_size (k : Int) (b x t ch l : Nat) (sec pub : ByteArray) (hk : k = 1 ∨ k = 2) (h1 : 1 ≤ b) (h2 : b ≤ 16) (hs : sec.size ≤ 16) (hp : pub.size ≤ 16) (hc : 1 ≤ ch) : (rootK k b x t ch l sec pub).size = b := by
  have h := nodeS_size k b (x - 1) ch sec pub ((l : Int) - 1) 0 hk (by omega) (by omega) hs hp hc t 0
  unfold rootK
  omega
theorem seedsY (k : Int) (b x t l : Nat) (sec rnd pub : ByteArray) (s1 : sec.size = b) (s2 : rnd.size = b) (s3 : pub.size = b) (V : World) :
    Calls Tryz.prog 265 #[.agg #[.int .i64 k, .int .i64 b, .int .i64 x, .int .i64 t, .int .i64 l], .agg #[.string sec, .string rnd, .string pub]] V fun e w' => e = .returned (.bool true) ∧ Below V.heap.size V w' := by
  have h := seedsRight_any k b x t l sec rnd pub V
  rw [show seedsB b sec rnd pub = true from (allLen_iff (b : Int) _).2 (by
    intro y hy
    simp only [List.mem_cons, List.not_mem_nil, or_false] at hy
    rcases hy with rfl | rfl | rfl <;> omega)] at h
  exact h
/-- A tree of the set. -/
theorem newY (k : Int) (b x e f t l : Nat) (R : RSet k b x e f t l) (sec rnd pub : ByteArray) (s1 : sec.size = b) (s2 : rnd.size = b) (s3 : pub.size = b) (p0 p1 : Int) (hl : leafB t l p0 p1 0 = true) (V : World) :
    Calls Tryz.prog 208 #[.agg #[.int .i64 k, .int .i64 b, .int .i64 x, .int .i64 t, .int .i64 l], .agg #[.string sec, .string rnd, .string pub], .agg #[.int .i64 p0, .int .i64 p1, .int .i64 0, .int .i64 0]] V fun e' w' => e' = .returned (.tuple #[.agg #[.int .i64 k, .int .i64 b, .int .i64 x, .int .i64 t, .int .i64 l, .string sec, .string rnd, .string pub, .int .i64 p0, .int .i64 p1, .int .i64 0, .int .i64 0, .int .i64 ((b * e + f : Nat) : Int)], .int .i64 0]) ∧ Below V.heap.size V w' :=
  new_yes k b x t l _ _ _ _ _ _ sec rnd pub p0 p1 0 0 V (fun V => measure_nat k b x e f t l R V) (fun V => seedsY k b x t l sec rnd pub s1 s2 s3 V) (fun V => by
    have h := isTree_any k b x t l p0 p1 0 0 V R.t1 R.t2 R.l2
    rw [hl] at h
    exact h)
set_option maxRecDepth 20000 in
/-- The key of a set and of seeds. -/
theorem ofY (k : Int) (b x e f t l : Nat) (R : RSet k b x e f t l) (sec rnd pub : ByteArray) (s1 : sec.size = b) (s2 : rnd.size = b) (s3 : pub.size = b) (w : World) (hT : Tn w) :
    Calls Tryz.prog 178 #[.agg #[.int .i64 k, .int .i64 b, .int .i64 x, .int .i64 t, .int .i64 l], .agg #[.string sec, .string rnd, .string pub]] w fun e' w' => e' = .returned (.tuple #[.agg #[.int .i64 k, .int .i64 b, .int .i64 x, .int .i64 t, .int .i64 l, .string (rootK k b x t (b * e + f) l sec pub), .string pub], .int .i64 0]) ∧ Below w.heap.size w w' := by
  obtain ⟨g1, g2, g3, g4, g5, g6⟩ := pair_small R.pr
  have r3 := R.l1
  have r4 := R.l2
  have hl0 : leafB t l ((l : Int) - 1) 0 0 = true := by
    have h := tree_of_index t l (l - 1) 0 (by omega) (Nat.two_pow_pos _)
    rw [Nat.zero_div, Nat.zero_div, show (((l - 1 : Nat)) : Int) = (l : Int) - 1 by omega] at h
    exact h
  exact keysOf_on k b x t l _ _ _ _ _ sec rnd pub (rootK k b x t (b * e + f) l sec pub) w (by rw [IntKind.wrap_i64] <;> omega) hT (fun V => newY k b x e f t l R sec rnd pub s1 s2 s3 _ _ hl0 V) (fun V hV => troot_any k b x l t sec rnd pub _ _ _ _ (b * e + f) (x - 1) V R.kk (by omega) (by omega) (by omega) (by omega) g3 g4 (ch4_of R.pr) (by omega) (by omega) R.t2 hV)
set_option maxRecDepth 20000 in
set_option maxHeartbeats 2000000 in
/-- Sign makes the signature. -/
theorem signY (k : Int) (b x e f t l : Nat) (R : RSet k b x e f t l) (sec rnd pub msg : ByteArray) (idx : Nat) (s1 : sec.size = b) (s2 : rnd.size = b) (s3 : pub.size = b) (s4 : msg.size ≤ 200) (hi : idx < 2 ^ (t * l)) (w : World) (hT : Tn w) :
    Calls Tryz.prog 171 #[.agg #[.int .i64 k, .int .i64 b, .int .i64 x, .int .i64 t, .int .i64 l, .string (rootK k b x t (b * e + f) l sec pub), .string pub], .agg #[.string sec, .string rnd, .string pub], .int .i64 idx, .string msg] w fun e' w' => e' = .returned (.string (sigS k b x e f t l sec rnd pub msg idx)) ∧ Below w.heap.size w w' := by
  obtain ⟨g1, g2, g3, g4, g5, g6⟩ := pair_small R.pr
  obtain ⟨hb, hx⟩ := pairB R.pr
  have r1 := R.t1
  have r2 := R.t2
  have r3 := R.l1
  have r4 := R.l2
  have hk := R.kk
  have h36 : b * e + f ≤ 36 := by rcases R.pr with ⟨rfl, rfl, rfl, rfl⟩ | ⟨rfl, rfl, rfl, rfl⟩ | ⟨rfl, rfl, rfl, rfl⟩ | ⟨rfl, rfl, rfl, rfl⟩ <;> decide
  have hN2 : l * (b * e + f + t) ≤ 3 * 40 := Nat.mul_le_mul r4 (by omega)
  have hpw : 2 ^ (t * l) ≤ 4096 := Nat.le_trans (Nat.pow_le_pow_right (by decide) (Nat.mul_le_mul r2 r4)) (by decide)
  have hrv := rvS_size k b rnd idx hk g1 g2 (by omega)
  have hrk := rootK_size k b x t (b * e + f) l sec pub hk g1 g2 (by omega) (by omega) g3
  have hm0 := mixS_size k b (rvS k b rnd idx) (rootK k b x t (b * e + f) l sec pub) pub idx msg hk (by omega) (by omega) (by omega) (by omega) (by omega) s4
  have hF := sM_facts k b x e f t (b * e + f) sec pub idx _ R.pr rfl hk (by omega) (by omega) hm0
  have hvl := sV_length k b x e f t (b * e + f) sec pub idx _ R.pr rfl hk (by omega) (by omega) hm0
  have hpl := sP_length k b x t (b * e + f) sec pub idx
  have hps := psQ_size k b x e f t (b * e + f) sec pub idx (mixS k b (rvS k b rnd idx) (rootK k b x t (b * e + f) l sec pub) pub idx msg) R.pr rfl hk (by omega) (by omega) l
  have hsz := sVP_size k b x e f t (b * e + f) sec pub idx (mixS k b (rvS k b rnd idx) (rootK k b x t (b * e + f) l sec pub) pub idx msg) R.pr rfl hk (by omega) (by omega)
  have hdx : ∀ q, ∀ d ∈ sD k b x e f t (b * e + f) sec pub idx (mixS k b (rvS k b rnd idx) (rootK k b x t (b * e + f) l sec pub) pub idx msg) q, d < x := fun q => digitsN_lt x e f _ (by omega)
  have hql := psQ_length _ _ _ _ hvl hpl l
  have hq2 : ∀ q, idx / 2 ^ (t * q) % 2 ^ t < 2 ^ t := fun q => Nat.mod_lt _ (Nat.two_pow_pos t)
  have h16 : 2 ^ t ≤ 16 := Nat.le_trans (Nat.pow_le_pow_right (by decide) r2) (by decide)
  refine sign_on k b x t l (b * e + f) idx _ sec rnd pub msg (rvS k b rnd idx) (sigS k b x e f t l sec rnd pub msg idx) (sM k b x e f t (b * e + f) sec pub idx (mixS k b (rvS k b rnd idx) (rootK k b x t (b * e + f) l sec pub) pub idx msg)) (fun q => idx / 2 ^ (t * q) / 2 ^ t) (fun q => idx / 2 ^ (t * q) % 2 ^ t) (sD k b x e f t (b * e + f) sec pub idx (mixS k b (rvS k b rnd idx) (rootK k b x t (b * e + f) l sec pub) pub idx msg)) (sV k b x e f t (b * e + f) sec pub idx (mixS k b (rvS k b rnd idx) (rootK k b x t (b * e + f) l sec pub) pub idx msg)) (sP k b x t (b * e + f) sec pub idx) w hT r3 r4 g3 (by omega) r2 hvl hpl ?_ ?_ ?_ ?_ ?_ ?_ ?_ ?_ ?_
  · intro V hV
    have q := value_any k b x t l 5 V.heap.size 0 2 [rnd, numB 4 idx] (V.alloc (.cells #[.string rnd, .string (numB 4 idx)] 9)) (by
      intro j y hj
      match j, hj with
      | 0, hj => simp at hj; subst hj; simp [go_sem]
      | 1, hj => simp at hj; subst hj; simp [go_sem]) (by simp) (by simp) (by simp) hk (by omega) (by omega) (by rw [cat_size]; simp [numB_size]; omega) (hV.alloc _)
    simp only [cat, append_empty, List.length_cons, List.length_nil, Nat.reduceAdd] at q
    exact q
  · intro V hV
    exact mixed_any k b x t l idx _ pub _ msg (.slice none 0 0) V hk (by omega) (by omega) (by omega) (by omega) (by omega) s4 hV
  · intro q hq V
    exact signing_any k b x l t q idx V r1 r2 (by omega) (by omega)
  · intro q hq V
    exact newY k b x e f t l R sec rnd pub s1 s2 s3 _ _ (tree_of_index t l q idx hq hi) V
  · intro q hq V
    have h0 := (hF q).1
    have hsd : sD k b x e f t (b * e + f) sec pub idx (mixS k b (rvS k b rnd idx) (rootK k b x t (b * e + f) l sec pub) pub idx msg) q = digitsN x e f (bytesN (sM k b x e f t (b * e + f) sec pub idx (mixS k b (rvS k b rnd idx) (rootK k b x t (b * e + f) l sec pub) pub idx msg) q)) := rfl
    rw [hsd]
    clear hsd
    generalize sM k b x e f t (b * e + f) sec pub idx (mixS k b (rvS k b rnd idx) (rootK k b x t (b * e + f) l sec pub) pub idx msg) q = mq at h0 ⊢
    exact setsDigits_any b x e f R.pr k t l mq V hk (by omega) (by omega) (by omega) (by omega) (by omega)
  · intro q hq V g hV hrow
    have hdl := (hF q).2
    have hd1 := hdx q
    have hsv : sV k b x e f t (b * e + f) sec pub idx (mixS k b (rvS k b rnd idx) (rootK k b x t (b * e + f) l sec pub) pub idx msg) q = revS k b sec pub q ((idx / 2 ^ (t * q) / 2 ^ t : Nat) : Int) ((idx / 2 ^ (t * q) % 2 ^ t : Nat) : Int) (sD k b x e f t (b * e + f) sec pub idx (mixS k b (rvS k b rnd idx) (rootK k b x t (b * e + f) l sec pub) pub idx msg) q) (sD k b x e f t (b * e + f) sec pub idx (mixS k b (rvS k b rnd idx) (rootK k b x t (b * e + f) l sec pub) pub idx msg) q).length := rfl
    rw [hsv]
    clear hsv
    generalize sD k b x e f t (b * e + f) sec pub idx (mixS k b (rvS k b rnd idx) (rootK k b x t (b * e + f) l sec pub) pub idx msg) q = D at hdl hd1 hrow ⊢
    have h := reveal_any k b x t l sec rnd pub q ((idx / 2 ^ (t * q) / 2 ^ t : Nat) : Int) 0 0 ((b * e + f : Nat) : Int) ((idx / 2 ^ (t * q) % 2 ^ t : Nat) : Int) g 0 (b * e + f) D V hk (by omega) (by omega) (by omega) (by omega) (by rw [hdl]; exact g4) (fun d hd => by have := hd1 d hd; omega) hrow.lt (fun j d hj => by rw [Nat.zero_add]; exact rowz_cell hrow j d hj) hV
    rw [hdl] at h ⊢
    refine h.mono ?_
    rintro e' w' ⟨rfl, h2, h3⟩
    exact ⟨_, rfl, by omega, h2, h3⟩
  · intro q hq V hV
    have hsp : sP k b x t (b * e + f) sec pub idx q = pathS k b (x - 1) (b * e + f) sec pub q ((idx / 2 ^ (t * q) / 2 ^ t : Nat) : Int) (idx / 2 ^ (t * q) % 2 ^ t) t := rfl
    rw [hsp]
    clear hsp
    have h := tpath_any k b x l t (idx / 2 ^ (t * q) % 2 ^ t) sec rnd pub q ((idx / 2 ^ (t * q) / 2 ^ t : Nat) : Int) 0 0 (b * e + f) (x - 1) V hk (by omega) (by omega) (by omega) (by omega) g3 g4 (ch4_of R.pr) (by omega) (by omega) r2 (hq2 q) hV
    refine h.mono ?_
    rintro e' w' ⟨rfl, h2, h3⟩
    exact ⟨_, rfl, by omega, h2, h3⟩
  · intro q hq V gd gv gp hV hrow hkv hkp
    have hdl := (hF q).2
    have hd1 := hdx q
    have hv1 := hvl q
    have hp1 := hpl q
    have hz1 := (hsz q).1
    have hz2 := (hsz q).2
    have hMq : sM k b x e f t (b * e + f) sec pub idx (mixS k b (rvS k b rnd idx) (rootK k b x t (b * e + f) l sec pub) pub idx msg) (q + 1) = rootS k b x pub q ((idx / 2 ^ (t * q) / 2 ^ t : Nat) : Int) (idx / 2 ^ (t * q) % 2 ^ t) (sD k b x e f t (b * e + f) sec pub idx (mixS k b (rvS k b rnd idx) (rootK k b x t (b * e + f) l sec pub) pub idx msg) q) (sV k b x e f t (b * e + f) sec pub idx (mixS k b (rvS k b rnd idx) (rootK k b x t (b * e + f) l sec pub) pub idx msg) q) (sP k b x t (b * e + f) sec pub idx q) := rfl
    rw [hMq]
    clear hMq
    generalize sD k b x e f t (b * e + f) sec pub idx (mixS k b (rvS k b rnd idx) (rootK k b x t (b * e + f) l sec pub) pub idx msg) q = D at hdl hd1 hrow ⊢
    generalize sV k b x e f t (b * e + f) sec pub idx (mixS k b (rvS k b rnd idx) (rootK k b x t (b * e + f) l sec pub) pub idx msg) q = VV at hv1 hz1 hkv ⊢
    generalize sP k b x t (b * e + f) sec pub idx q = PP at hp1 hz2 hkp ⊢
    have h := rootBy_any k b t l x pub q ((idx / 2 ^ (t * q) / 2 ^ t : Nat) : Int) 0 (idx / 2 ^ (t * q) % 2 ^ t) gd 0 (b * e + f) gv 0 (b * e + f) gp 0 t D VV PP V hk (by omega) (by omega) (by omega) g6 (by have := hq2 q; omega) (by rw [hv1]; exact g3) (by rw [hv1]; exact g4) (by rw [hdl, hv1]) hd1 hz1 (by rw [hp1]; omega) hz2 hrow.lt (fun j d hj => by rw [Nat.zero_add]; exact rowz_cell hrow j d hj) hkv.lt (fun j y hj => by rw [Nat.zero_add, hkv.cell, List.getElem?_map, hj]; rfl) hkp.lt (fun j y hj => by rw [Nat.zero_add, hkp.cell, List.getElem?_map, hj]; rfl) hV
    rw [hv1, hp1] at h
    exact h
  · intro V g c hg hc hce
    rw [hql] at hc ⊢
    have h := join_yes k b x t l _ _ ((b * e + f : Nat) : Int) _ _ _ (idx : Int) (l * (b * e + f + t)) g c (rvS k b rnd idx) (cat (psQ (sV k b x e f t (b * e + f) sec pub idx (mixS k b (rvS k b rnd idx) (rootK k b x t (b * e + f) l sec pub) pub idx msg)) (sP k b x t (b * e + f) sec pub idx) l)) V (by rw [IntKind.wrap_i64] <;> omega) (by
        rw [← Int.natCast_add, ← Int.natCast_mul, IntKind.wrap_i64] <;> omega) (by omega) (by
        have hnb : l * (b * e + f + t) * b ≤ 120 * 8 := Nat.mul_le_mul hN2 (by omega)
        rw [cat_lenS b _ hps, hql]; omega) (fun V => measure_nat k b x e f t l R V) (fun V => by
        have h := isIndex_on k b x t l (idx : Int) _ _ _ _ _ _ V (fun V => measure_nat k b x e f t l R V)
        rw [decide_eq_true (by omega)] at h
        exact h) (fun V B hB => by
        have h := values1 k b x t l (rvS k b rnd idx) V B hB
        rw [show (((rvS k b rnd idx).size : Int) == (b : Int)) = true by rw [hrv]; simp] at h
        exact h) (fun V' hb' => by
        have h := valuesRight_some k b x t l g 0 c (psQ (sV k b x e f t (b * e + f) sec pub idx (mixS k b (rvS k b rnd idx) (rootK k b x t (b * e + f) l sec pub) pub idx msg)) (sP k b x t (b * e + f) sec pub idx) l) V' (fun j y hj => by
          rw [Nat.zero_add]; exact (hb'.cell (p := ⟨g, j, none⟩) hg).trans (hce j y hj)) (Nat.lt_of_lt_of_le hg hb'.size) (by omega)
        rw [(allLen_iff (b : Int) _).2 hps, hql] at h
        exact h) (fun V' hb' => by
        have hnb : l * (b * e + f + t) * b ≤ 120 * 8 := Nat.mul_le_mul hN2 (by omega)
        have h := join_any g 0 c (psQ (sV k b x e f t (b * e + f) sec pub idx (mixS k b (rvS k b rnd idx) (rootK k b x t (b * e + f) l sec pub) pub idx msg)) (sP k b x t (b * e + f) sec pub idx) l) V' (fun j y hj => by
          rw [Nat.zero_add]; exact (hb'.cell (p := ⟨g, j, none⟩) hg).trans (hce j y hj)) (Nat.lt_of_lt_of_le hg hb'.size) (by omega) (by omega) (by rw [cat_lenS b _ hps, hql]; omega)
        rw [hql] at h
        exact h)
    exact h
end Go.Proofs.YtgaoeoijdpdjiabGreatDoor

namespace Go.Proofs.YtgaoeoijdpdjiabGreatDoor
open Go.RowKit
/-- A set that fit makes, as its pair of numbers. -/
theorem fit_set (k0 b0 x0 t0 l0 : Int) : ∃ (k : Int) (b x e f t l : Nat), RSet k b x e f t l ∧ pickZ k0 2 + 1 = k ∧ 4 + 4 * pickZ b0 2 = (b : Int) ∧ 4 + 12 * pickZ x0 2 = (x : Int) ∧ pickZ t0 4 + 1 = (t : Int) ∧ pickZ l0 3 + 1 = (l : Int) := by
  have p1 := pickZ_bd k0 2 (by omega)
  have p2 := pickZ_bd b0 2 (by omega)
  have p3 := pickZ_bd x0 2 (by omega)
  have p4 := pickZ_bd t0 4 (by omega)
  have p5 := pickZ_bd l0 3 (by omega)
  obtain ⟨t, ht⟩ : ∃ t : Nat, pickZ t0 4 + 1 = (t : Int) := ⟨(pickZ t0 4 + 1).toNat, by omega⟩
  obtain ⟨l, hl⟩ : ∃ l : Nat, pickZ l0 3 + 1 = (l : Int) := ⟨(pickZ l0 3 + 1).toNat, by omega⟩
  have q1 : pickZ k0 2 + 1 = 1 ∨ pickZ k0 2 + 1 = 2 := by omega
  have q2 : pickZ b0 2 = 0 ∨ pickZ b0 2 = 1 := by omega
  have q3 : pickZ x0 2 = 0 ∨ pickZ x0 2 = 1 := by omega
  have H : ∀ b x e f : Nat, Pair b x e f → (b = 4 ∨ b = 8) → (x = 4 ∨ x = 16) → RSet (pickZ k0 2 + 1) b x e f t l := fun b x e f hp hb hx => ⟨hp, q1, by omega, by omega, by omega, by omega, by unfold rightB; rw [decide_eq_true_eq]; omega⟩
  rcases q2 with q2 | q2 <;> rcases q3 with q3 | q3
  · exact ⟨_, 4, 4, 4, 3, t, l, H _ _ _ _ (by unfold Pair; omega) (by omega) (by omega), rfl, by omega, by omega, ht, hl⟩
  · exact ⟨_, 4, 16, 2, 2, t, l, H _ _ _ _ (by unfold Pair; omega) (by omega) (by omega), rfl, by omega, by omega, ht, hl⟩
  · exact ⟨_, 8, 4, 4, 4, t, l, H _ _ _ _ (by unfold Pair; omega) (by omega) (by omega), rfl, by omega, by omega, ht, hl⟩
  · exact ⟨_, 8, 16, 2, 2, t, l, H _ _ _ _ (by unfold Pair; omega) (by omega) (by omega), rfl, by omega, by omega, ht, hl⟩
end Go.Proofs.YtgaoeoijdpdjiabGreatDoor
