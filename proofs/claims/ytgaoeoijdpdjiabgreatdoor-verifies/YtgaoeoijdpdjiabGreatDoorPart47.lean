/-
  Verify: the program and the document answer alike; the statement's verifies. Join: the program and the document answer alike; the statement's joins.
-/
import Derived.Test.YtgaoeoijdpdjiabGreatDoorPart46
import Derived.Test.YtgaoeoijdpdjiabGreatDoorPart30
import Derived.Test.YtgaoeoijdpdjiabGreatDoorPart38
import Derived.Test.YtgaoeoijdpdjiabGreatDoorPart42
import Derived.Test.YtgaoeoijdpdjiabGreatDoorPart41
import Derived.Test.YtgaoeoijdpdjiabGreatDoorPart40
import Derived.Test.YtgaoeoijdpdjiabGreatDoorPart39
import Derived.Test.YtgaoeoijdpdjiabGreatDoorPart34
import Derived.Test.YtgaoeoijdpdjiabGreatDoorPart44
import Derived.Test.YtgaoeoijdpdjiabGreatDoorPart43
import Derived.Test.YtgaoeoijdpdjiabGreatDoorPart23
import Derived.Test.YtgaoeoijdpdjiabGreatDoorPart22
import Derived.Test.YtgaoeoijdpdjiabGreatDoorPart28
import Derived.Test.YtgaoeoijdpdjiabGreatDoorPart32
import Derived.Test.YtgaoeoijdpdjiabGreatDoorPart27
import Derived.Test.YtgaoeoijdpdjiabGreatDoorPart33
namespace Go.Proofs.YtgaoeoijdpdjiabGreatDoor
open Go.RowKit

theorem toList_neW {a b : ByteArray} (h : a ≠ b) : ¬ a.toList = b.toList := by
  intro e
  rw [ByteArray.toList_eq, ByteArray.toList_eq] at e
  exact h (ByteArray.ext (Array.toList_inj.1 e))

theorem natI (a : Nat) (h : a ≤ 100000) : 0 ≤ (a : Int) ∧ (a : Int) ≤ 100000 := by omega

/-- The end of a chain, from the value that stands in a signature on. -/
def evS (k b : Int) (x t ch : Nat) (pub : ByteArray) (idx : Nat) (ps : List ByteArray) (ds : Nat → List Nat) (q m : Nat) : ByteArray :=
  chainS k b pub q ((idx / 2 ^ (t * q) / 2 ^ t : Nat) : Int) ((idx / 2 ^ (t * q) % 2 ^ t : Nat) : Int) m (((ds q)[m]?.getD 0 : Nat) : Int) (x - 1 - (ds q)[m]?.getD 0) (((ps.drop (q * (ch + t))).take ch)[m]?.getD ⟨#[]⟩)

/-- The document's Verify, where key, message and form are right. -/
theorem refVerifyY (k : Int) (b x e f t l : Nat) (R : RSet k b x e f t l) (key msg sig root pub : ByteArray) (s1 : root.size = b) (s2 : pub.size = b) (hm : msg.size ≤ 200)
    (hs : sig.size = 4 + b + l * (b * e + f + t) * b) (hi : valN sig 0 4 < 2 ^ (t * l)) (r : Int)
    (hr : (layS k b x e f t (b * e + f) pub (valN sig 0 4) (cutS (sig.extract (4 + b) sig.size) b (l * (b * e + f + t))) (mixS k b (sig.extract 4 (4 + b)) root pub (valN sig 0 4 : Nat) msg) l = root ∧ r = 0) ∨ (¬ (layS k b x e f t (b * e + f) pub (valN sig 0 4) (cutS (sig.extract (4 + b) sig.size) b (l * (b * e + f + t))) (mixS k b (sig.extract 4 (4 + b)) root pub (valN sig 0 4 : Nat) msg) l).toList = root.toList ∧ r = 13))
    (hK : ∀ V : World, Calls Tryz.prog 89 #[.string key] V fun e w' => e = .returned (.tuple #[.agg #[.int .i64 k, .int .i64 b, .int .i64 x, .int .i64 t, .int .i64 l], .bool true]) ∧ Below V.heap.size V w')
    (hs1 : ∀ wx, (Instr.slice 9 (.string key) (some (.int .i64 5)) (some (.int .i64 (5 + (b : Int)))) none).run Tryz.prog wx = .ok (.string root) wx)
    (hs2 : ∀ wx, (Instr.slice 9 (.string key) (some (.int .i64 (5 + (b : Int)))) none none).run Tryz.prog wx = .ok (.string pub) wx) (w : World) :
    Calls Tryz.prog 45 #[.string key, .string msg, .string sig] w fun e w' => e = .returned (.int .i64 r) ∧ Below w.heap.size w w' := by
  obtain ⟨g1, g2, g3, g4, g5, g6⟩ := pair_small R.pr
  obtain ⟨hb, hx⟩ := pairB R.pr
  have r1 := R.t1
  have r2 := R.t2
  have r3 := R.l1
  have r4 := R.l2
  have hk := R.kk
  have hx0 : 0 < x := by omega
  have hpw : 2 ^ (t * l) ≤ 4096 := Nat.le_trans (Nat.pow_le_pow_right (by decide) (Nat.mul_le_mul r2 r4)) (by decide)
  have hz : (sig.extract 4 (4 + b)).size = b := by rw [ByteArray.size_extract]; omega
  have hcl := cutS_length (sig.extract (4 + b) sig.size) b (l * (b * e + f + t))
  have hcs := cutS_size (sig.extract (4 + b) sig.size) b (l * (b * e + f + t)) (by rw [ByteArray.size_extract]; omega)
  have HSP := fun V : World => refSplitY k b x e f t l R sig hs hi V
  have hm0 := mixS_size k b (sig.extract 4 (4 + b)) root pub (valN sig 0 4 : Nat) msg hk (by omega) (by omega) (by omega) (by omega) (by omega) hm
  generalize sig.extract 4 (4 + b) = rnd at *
  generalize cutS (sig.extract (4 + b) sig.size) b (l * (b * e + f + t)) = ps at *
  generalize valN sig 0 4 = idx at *
  have hls := layS_size k b x e f t (b * e + f) pub idx ps (mixS k b rnd root pub idx msg) hk (by omega) (by omega) (by omega) g3 l (by omega) hcs hm0
  have hHH : ∀ V : World, Calls Tryz.prog 90 #[.agg #[.int .i64 k, .int .i64 b, .int .i64 x, .int .i64 t, .int .i64 l], .int .i64 6, .string (rnd ++ root ++ pub ++ numB 4 idx ++ msg)] V fun r' w' => r' = .returned (.string (layS k b x e f t (b * e + f) pub idx ps (mixS k b rnd root pub idx msg) 0)) ∧ Below V.heap.size V w' := fun V => by
    have h := rhash_any k x t l 6 b (rnd ++ root ++ pub ++ numB 4 idx ++ msg) V hk g1 g2 (by simp only [ByteArray.size_append, numB_size]; omega) (by omega) (by omega)
    rw [show hv k b (numB 1 6 ++ (rnd ++ root ++ pub ++ numB 4 idx ++ msg)) = mixS k b rnd root pub idx msg by unfold mixS; simp only [ByteArray.append_assoc]] at h
    exact h
  have hdl : ∀ q, q ≤ l → (digitsN x e f (bytesN (layS k b x e f t (b * e + f) pub idx ps (mixS k b rnd root pub idx msg) q))).length = b * e + f := fun q hq => by
    rw [digitsN_length, bytesN_length]
    have := hls q hq
    congr 2
    omega
  have hlay : ∀ q, layS k b x e f t (b * e + f) pub idx ps (mixS k b rnd root pub idx msg) (q + 1) = rootS k b x pub q ((idx / 2 ^ (t * q) / 2 ^ t : Nat) : Int) (idx / 2 ^ (t * q) % 2 ^ t) (digitsN x e f (bytesN (layS k b x e f t (b * e + f) pub idx ps (mixS k b rnd root pub idx msg) q))) ((ps.drop (q * (b * e + f + t))).take (b * e + f)) ((ps.drop (q * (b * e + f + t) + (b * e + f))).take t) := fun q => rfl
  generalize layS k b x e f t (b * e + f) pub idx ps (mixS k b rnd root pub idx msg) = M at *
  have hE : ∀ q, q < l → q * (b * e + f + t) + (b * e + f + t) ≤ ps.length := fun q hq => by
    have h : (q + 1) * (b * e + f + t) ≤ l * (b * e + f + t) := Nat.mul_le_mul_right _ hq
    rw [Nat.add_mul, Nat.one_mul] at h
    omega
  have hq1 : ∀ q, idx / 2 ^ (t * q) / 2 ^ t ≤ 100000 := fun q => Nat.le_trans (Nat.div_le_self _ _) (Nat.le_trans (Nat.div_le_self _ _) (by omega))
  have hq2 : ∀ q, idx / 2 ^ (t * q) % 2 ^ t < 2 ^ t := fun q => Nat.mod_lt _ (Nat.two_pow_pos t)
  have ht16 : 2 ^ t ≤ 16 := Nat.le_trans (Nat.pow_le_pow_right (by decide) r2) (by decide)
  refine refVerify_on k b x t l (b * e + f) (b * e + f + t) (l * (b * e + f + t)) idx (2 ^ t) root pub rnd key msg sig ps M (fun q => digitsN x e f (bytesN (M q))) (fun q => (2 ^ t) ^ q) (fun q => idx / 2 ^ (t * q)) (fun q => idx / 2 ^ (t * q) / 2 ^ t) (fun q => idx / 2 ^ (t * q) % 2 ^ t) (evS k b x t (b * e + f) pub idx ps (fun q => digitsN x e f (bytesN (M q)))) (fun q => foldS k b pub q ((idx / 2 ^ (t * q) / 2 ^ t : Nat) : Int) ((idx / 2 ^ (t * q) % 2 ^ t : Nat) : Int) 6 0 (evs (evS k b x t (b * e + f) pub idx ps (fun q => digitsN x e f (bytesN (M q)))) q (b * e + f))) _ _ _ _ _ r w hm r4 r1 r2 g3 g4 rfl rfl g5 g6 (by omega) g2 (by omega) (by omega) (by omega) hcl (fun q hq => hdl q (by omega)) Nat.one_le_two_pow (fun q _ => Nat.one_le_pow _ _ (Nat.two_pow_pos t)) ?_ (fun q _ => rfl) ?_ hr hK HSP hs1 hs2 hHH (fun V => sizes_nat k b x e f t l R V) (fun V => leaves_any t k b x l V r2) ?_ ?_ ?_ ?_ ?_
  · intro q _
    show idx / (2 ^ t) ^ q = idx / 2 ^ (t * q)
    rw [Nat.pow_mul]
  · intro q _
    show idx / (2 ^ t) ^ (q + 1) = idx / 2 ^ (t * q) / 2 ^ t
    rw [Nat.pow_succ, ← Nat.pow_mul, Nat.div_div_eq_div_mul]
  · intro q hq V
    have hp : (2 ^ t) ^ q ≤ 65536 := by
      rw [← Nat.pow_mul]
      exact Nat.le_trans (Nat.pow_le_pow_right (by decide) (Nat.mul_le_mul r2 (Nat.le_trans hq r4))) (by decide)
    exact power_any (2 ^ t) q V ht16 (by omega) hp Nat.one_le_two_pow
  · intro q hq V
    have := hls q (by omega)
    exact refDigits_list b x e f R.pr k t l (M q) V r1 r2 r3 r4 (by omega)
  · intro q m d y hq hm' hd hy V
    have hmem : d ∈ digitsN x e f (bytesN (M q)) := List.mem_of_getElem? hd
    have hdx : d < x := digitsN_lt x e f (bytesN (M q)) hx0 d hmem
    have hyb := hcs y (List.mem_of_getElem? hy)
    have hyt : ((ps.drop (q * (b * e + f + t))).take (b * e + f))[m]? = some y := by
      rw [List.getElem?_take_of_lt hm', List.getElem?_drop]
      exact hy
    have h := rchain_any k x t l q ((idx / 2 ^ (t * q) / 2 ^ t : Nat) : Int) ((idx / 2 ^ (t * q) % 2 ^ t : Nat) : Int) m b pub y d hk g1 g2 (by omega) hyb (by omega) (natI _ (hq1 q)) (natI _ (Nat.le_trans (Nat.le_of_lt (hq2 q)) (by omega))) (by omega) (x - 1 - d) (by omega) V
    rw [show ((d + (x - 1 - d) : Nat) : Int) = (x : Int) - 1 by omega] at h
    have he : evS k b x t (b * e + f) pub idx ps (fun q => digitsN x e f (bytesN (M q))) q m = chainS k b pub q ((idx / 2 ^ (t * q) / 2 ^ t : Nat) : Int) ((idx / 2 ^ (t * q) % 2 ^ t : Nat) : Int) m (d : Nat) (x - 1 - d) y := by
      unfold evS
      rw [hd, hyt]
      rfl
    rw [he]
    exact h
  · intro q hq V gx cx hgx hcx hcells
    have hel := evs_length (evS k b x t (b * e + f) pub idx ps (fun q => digitsN x e f (bytesN (M q)))) q (b * e + f)
    have hes : ∀ y ∈ evs (evS k b x t (b * e + f) pub idx ps (fun q => digitsN x e f (bytesN (M q)))) q (b * e + f), (y.size : Int) = b := by
      intro y hy
      simp only [evs, List.mem_map, List.mem_range] at hy
      obtain ⟨i, hi', rfl⟩ := hy
      refine chainS_size k b pub _ _ _ _ _ _ _ hk (by omega) (by omega) (by omega) ?_
      have hq' := hE q hq
      rw [List.getElem?_take_of_lt hi', List.getElem?_drop, List.getElem?_eq_getElem (by omega)]
      exact hcs _ (List.getElem_mem _)
    have h := rfold_any k x t l q ((idx / 2 ^ (t * q) / 2 ^ t : Nat) : Int) ((idx / 2 ^ (t * q) % 2 ^ t : Nat) : Int) 0 b pub hk g1 g2 (by omega) (by omega) (natI _ (hq1 q)) (natI _ (Nat.le_trans (Nat.le_of_lt (hq2 q)) (by omega))) 6 0 gx 0 cx _ V (by omega) hcells hgx (by rw [hel]; exact hcx) (by rw [hel]; exact g3) (by rw [hel]; omega) (by rw [hel]; exact g4) hes
    rw [hel] at h
    exact h
  · intro q hq V g cx hg hcells
    have hq' := hE q hq
    have hpl : ((ps.drop (q * (b * e + f + t) + (b * e + f))).take t).length = t := by rw [List.length_take, List.length_drop]; omega
    have hvl : ((ps.drop (q * (b * e + f + t))).take (b * e + f)).length = b * e + f := by rw [List.length_take, List.length_drop]; omega
    have hfs := foldS_size k b pub q ((idx / 2 ^ (t * q) / 2 ^ t : Nat) : Int) ((idx / 2 ^ (t * q) % 2 ^ t : Nat) : Int) hk (by omega) (by omega) (by omega) 6 0 (endsV k b x pub q ((idx / 2 ^ (t * q) / 2 ^ t : Nat) : Int) ((idx / 2 ^ (t * q) % 2 ^ t : Nat) : Int) (digitsN x e f (bytesN (M q))) ((ps.drop (q * (b * e + f + t))).take (b * e + f)) ((ps.drop (q * (b * e + f + t))).take (b * e + f)).length) (by rw [endsV_length, hvl]; exact g3) (endsV_size k b x pub q _ _ _ _ hk (by omega) (by omega) (by omega) (fun y hy => hcs y (List.mem_of_mem_drop (List.mem_of_mem_take hy))))
    have h := rclimb_any k x t l q ((idx / 2 ^ (t * q) / 2 ^ t : Nat) : Int) 0 (idx / 2 ^ (t * q) % 2 ^ t) b g (q * (b * e + f + t) + (b * e + f)) cx pub _ ((ps.drop (q * (b * e + f + t) + (b * e + f))).take t) hk g1 g2 (by omega) hfs (fun y hy => hcs y (List.mem_of_mem_drop (List.mem_of_mem_take hy))) (Nat.le_trans (Nat.le_of_lt (hq2 q)) (by omega)) (by omega) (natI _ (hq1 q)) t r2 (by omega) V (fun j z hj => by
      rw [List.getElem?_take] at hj
      split at hj
      · rw [List.getElem?_drop] at hj
        have h := hcells _ z hj
        rw [Nat.zero_add] at h
        exact h
      · cases hj) hg
    rw [hpl] at h
    have he : M (q + 1) = climbS k b pub q ((idx / 2 ^ (t * q) / 2 ^ t : Nat) : Int) (idx / 2 ^ (t * q) % 2 ^ t) ((ps.drop (q * (b * e + f + t) + (b * e + f))).take t) (foldS k b pub q ((idx / 2 ^ (t * q) / 2 ^ t : Nat) : Int) ((idx / 2 ^ (t * q) % 2 ^ t : Nat) : Int) 6 0 (endsV k b x pub q ((idx / 2 ^ (t * q) / 2 ^ t : Nat) : Int) ((idx / 2 ^ (t * q) % 2 ^ t : Nat) : Int) (digitsN x e f (bytesN (M q))) ((ps.drop (q * (b * e + f + t))).take (b * e + f)) ((ps.drop (q * (b * e + f + t))).take (b * e + f)).length)) t := by
      rw [hlay q, rootS, hpl]
    rw [he]
    rw [hvl] at h ⊢
    exact h
end Go.Proofs.YtgaoeoijdpdjiabGreatDoor

namespace Go.Proofs.YtgaoeoijdpdjiabGreatDoor
open Go.RowKit

theorem cat_len (b : Nat) : ∀ xs : List ByteArray, (∀ y ∈ xs, (y.size : Int) = b) → (cat xs).size = xs.length * b
  | [], _ => by rw [List.length_nil, Nat.zero_mul]; rfl
  | x :: xs, h => by
    have h1 := h x (by simp)
    rw [cat, ByteArray.size_append, cat_len b xs (fun y hy => h y (by simp [hy])), List.length_cons, Nat.add_mul, Nat.one_mul]
    omega
theorem cat_take (b : Nat) (xs : List ByteArray) (h : ∀ y ∈ xs, (y.size : Int) = b) (m : Nat) : (cat (xs.take m)).size ≤ xs.length * b := by
  rw [cat_len b _ (fun y hy => h y (List.mem_of_mem_take hy)), List.length_take]
  exact Nat.mul_le_mul_right _ (Nat.min_le_right _ _)

/-- Both answer alike. -/
def JoinSame (k b x t l idx : Int) (rnd : ByteArray) (xs : List ByteArray) (cv : ByteArray) (er : Int) : Prop :=
  (∀ (V : World) (sp : Option Addr) (n c : Nat), (sp = none ∨ ∃ g, sp = some ⟨g, 0, none⟩) → StrsAt V sp n c xs → Calls Tryz.prog 41 #[.agg #[.int .i64 k, .int .i64 b, .int .i64 x, .int .i64 t, .int .i64 l], .agg #[.int .i64 idx, .string rnd, .slice sp n c]] V fun e w' => e = .returned (.tuple #[.string cv, .int .i64 er]) ∧ Below V.heap.size V w') ∧
  (∀ (V : World) (sp : Option Addr) (n c : Nat), StrsAt V sp n c xs → Calls Tryz.prog 42 #[.agg #[.int .i64 k, .int .i64 b, .int .i64 x, .int .i64 t, .int .i64 l], .agg #[.int .i64 idx, .string rnd, .slice sp n c]] V fun e w' => e = .returned (.tuple #[.string cv, .int .i64 er]) ∧ Below V.heap.size V w')

theorem join_same (k b x t l idx : Int) (rnd : ByteArray) (xs : List ByteArray) (hN : xs.length ≤ 8796093022208) : ∃ cv er, JoinSame k b x t l idx rnd xs cv er := by
  cases hr : rightB k b x t l with
  | false =>
    refine ⟨⟨#[]⟩, 1, fun V sp n c _ _ => ?_, fun V sp n c _ => ?_⟩
    · exact sJoin_on k b x t l idx 1 rnd ⟨#[]⟩ sp n c V (fun V _ => join_set k b x t l 0 0 0 0 0 0 idx sp n c rnd V 1 (by decide) (fun V => setsMeasure_no k b x t l V hr))
    · exact refJoin_set k b x t l idx 1 sp n c rnd V (by decide) (fun V => check_no k b x t l hr V)
  | true =>
    obtain ⟨b', x', e, f, t', l', hp, hk, rfl, rfl, rfl, rfl, t1, t2, t3, t4⟩ := pair_of_right hr
    have R : RSet k b' x' e f t' l' := ⟨hp, hk, t1, t2, t3, t4, hr⟩
    obtain ⟨g1, g2, g3, g4, g5, g6⟩ := pair_small hp
    obtain ⟨hb, hx⟩ := pairB hp
    have h36 : b' * e + f ≤ 36 := by rcases hp with ⟨rfl, rfl, rfl, rfl⟩ | ⟨rfl, rfl, rfl, rfl⟩ | ⟨rfl, rfl, rfl, rfl⟩ | ⟨rfl, rfl, rfl, rfl⟩ <;> decide
    have hN2 : l' * (b' * e + f + t') ≤ 3 * 40 := Nat.mul_le_mul t4 (by omega)
    have hN1 : 1 * 1 ≤ l' * (b' * e + f + t') := Nat.mul_le_mul t3 (by omega)
    have hpw : 2 ^ (t' * l') ≤ 4096 := Nat.le_trans (Nat.pow_le_pow_right (by decide) (Nat.mul_le_mul t2 t4)) (by decide)
    have HM := fun V : World => measure_nat k b' x' e f t' l' R V
    have HC := fun V : World => check_nat k b' x' e f t' l' R V
    have HZ := fun V : World => sizes_nat k b' x' e f t' l' R V
    have HI := fun V : World => isIndex_on k b' x' t' l' idx _ _ _ _ _ _ V HM
    have w1 : IntKind.i64.wrap (((b' * e + f : Nat) : Int) + (t' : Int)) = ((b' * e + f : Nat) : Int) + (t' : Int) := by rw [IntKind.wrap_i64] <;> omega
    have w2 : IntKind.i64.wrap ((l' : Int) * (((b' * e + f : Nat) : Int) + (t' : Int))) = ((l' * (b' * e + f + t') : Nat) : Int) := by
      rw [← Int.natCast_add, ← Int.natCast_mul, IntKind.wrap_i64] <;> omega
    have HRV := fun (V : World) (sp : Option Addr) (n c : Nat) (h : StrsAt V sp n c xs) => rvals_any k b' x' t' l' ((l' * (b' * e + f + t') : Nat) : Int) sp n c xs V h hN
    have HRD := fun (V : World) (B : Nat) (hB : B = V.heap.size) => values1 k b' x' t' l' rnd V B hB
    by_cases q0 : 0 ≤ idx
    · by_cases q1 : idx < ((2 ^ (t' * l') : Nat) : Int)
      · rw [decide_eq_true (And.intro q0 q1)] at HI
        by_cases q2 : (rnd.size : Int) = b'
        · have hrd : ((rnd.size : Int) == (b' : Int)) = true := by simpa using q2
          rw [hrd] at HRD
          by_cases q3 : xs.length = l' * (b' * e + f + t')
          · cases q4 : allLen b' xs with
            | true =>
              have hxs := (allLen_iff (b' : Int) xs).1 q4
              have hnb : xs.length * b' ≤ 120 * 8 := Nat.mul_le_mul (by omega) (by omega)
              rw [q4, q3, Bool.true_and, decide_eq_true rfl] at HRV
              refine ⟨numB 4 idx ++ rnd ++ cat xs, 0, fun V sp n c hsp h => ?_, fun V sp n c h => ?_⟩
              · refine sJoin_on k b' x' t' l' idx 0 rnd _ sp n c V (fun V' hb' => ?_)
                have hV := h.on hb'
                rcases hV with ⟨_, _, _, rfl⟩ | ⟨_, _, _, rfl⟩ | ⟨bk, o, rfl, rfl, hc, hlt, hce⟩
                · simp at q3; omega
                · simp at q3; omega
                · rcases hsp with h0 | ⟨g, hg⟩
                  · cases h0
                  · simp only [Option.some.injEq, Addr.mk.injEq, and_true] at hg
                    obtain ⟨rfl, rfl⟩ := hg
                    refine join_yes k b' x' t' l' _ _ _ _ _ _ idx xs.length bk c rnd (cat xs) V' w1 (by rw [w2, q3]) (by omega) (by rw [cat_len b' xs hxs]; omega) HM HI HRD (fun V'' hb'' => ?_) (fun V'' hb'' => ?_)
                    · have h := valuesRight_some k b' x' t' l' bk 0 c xs V'' (fun j y hj => (hb''.cell (p := ⟨bk, 0 + j, none⟩) hlt).trans (hce j y hj)) (Nat.lt_of_lt_of_le hlt hb''.size) (by omega)
                      rw [q4] at h
                      exact h
                    · exact join_any bk 0 c xs V'' (fun j y hj => (hb''.cell (p := ⟨bk, 0 + j, none⟩) hlt).trans (hce j y hj)) (Nat.lt_of_lt_of_le hlt hb''.size) (by omega) hc (by rw [cat_len b' xs hxs]; omega)
              · have hV := HRV
                have h0 := h
                rcases h with ⟨_, _, _, rfl⟩ | ⟨_, _, _, rfl⟩ | ⟨bk, o, rfl, rfl, hc, hlt, hce⟩
                · simp at q3; omega
                · simp at q3; omega
                · exact refJoin_yes k b' x' t' l' _ _ _ _ _ _ idx _ bk o c xs rnd V w1 w2 q0 q1 q2 (by omega) (by omega) (by omega) (fun m => Nat.le_trans (cat_take b' xs hxs m) (by omega)) (fun y hy => by have := hxs y hy; omega) hlt hce HC HZ (fun V' hb' => hV V' _ _ c (h0.on hb'))
            | false =>
              rw [q4, Bool.false_and] at HRV
              refine ⟨⟨#[]⟩, 12, fun V sp n c _ h => ?_, fun V sp n c h => ?_⟩
              · exact sJoin_on k b' x' t' l' idx 12 rnd _ sp n c V (fun V' hb' => join_val k b' x' t' l' _ _ _ _ _ _ idx sp n c rnd V' _ w1 w2 (by rw [h.len, q3]) HM HI HRD (fun V'' hb'' => by
                  have h := vals_any k b' x' t' l' sp n c xs V'' ((h.on hb').on hb'') hN
                  rw [q4] at h
                  exact h))
              · exact refJoin_val k b' x' t' l' _ _ _ _ _ _ idx _ sp n c rnd V w1 w2 q0 q1 q2 HC HZ (fun V' hb' => HRV V' sp n c (h.on hb'))
          · rw [decide_eq_false (show ¬ ((xs.length : Int) = ((l' * (b' * e + f + t') : Nat) : Int)) by omega), Bool.and_false] at HRV
            refine ⟨⟨#[]⟩, 12, fun V sp n c _ h => ?_, fun V sp n c h => ?_⟩
            · exact sJoin_on k b' x' t' l' idx 12 rnd _ sp n c V (fun V' hb' => join_len k b' x' t' l' _ _ _ _ _ _ idx sp n c rnd V' _ w1 w2 (by rw [h.len]; exact q3) HM HI)
            · exact refJoin_val k b' x' t' l' _ _ _ _ _ _ idx _ sp n c rnd V w1 w2 q0 q1 q2 HC HZ (fun V' hb' => HRV V' sp n c (h.on hb'))
        · have hrd : ((rnd.size : Int) == (b' : Int)) = false := by simpa using q2
          rw [hrd] at HRD
          refine ⟨⟨#[]⟩, 12, fun V sp n c _ h => ?_, fun V sp n c h => ?_⟩
          · refine sJoin_on k b' x' t' l' idx 12 rnd _ sp n c V (fun V' hb' => ?_)
            by_cases q3 : xs.length = l' * (b' * e + f + t')
            · exact join_rnd k b' x' t' l' _ _ _ _ _ _ idx sp n c rnd V' _ w1 w2 (by rw [h.len, q3]) HM HI HRD
            · exact join_len k b' x' t' l' _ _ _ _ _ _ idx sp n c rnd V' _ w1 w2 (by rw [h.len]; exact q3) HM HI
          · exact refJoin_rnd k b' x' t' l' _ _ _ _ _ _ idx _ sp n c rnd _ V w1 w2 q0 q1 q2 HC HZ (fun V' hb' => HRV V' sp n c (h.on hb'))
      · rw [decide_eq_false (fun h => q1 h.2)] at HI
        refine ⟨⟨#[]⟩, 12, fun V sp n c _ h => ?_, fun V sp n c h => ?_⟩
        · exact sJoin_on k b' x' t' l' idx 12 rnd _ sp n c V (fun V' _ => join_idx k b' x' t' l' _ _ _ _ _ _ idx sp n c rnd V' HM HI)
        · exact refJoin_big k b' x' t' l' _ _ _ _ _ _ idx _ sp n c rnd _ V w1 w2 q0 (by omega) HC HZ (fun V' hb' => HRV V' sp n c (h.on hb'))
    · rw [decide_eq_false (fun h => q0 h.1)] at HI
      refine ⟨⟨#[]⟩, 12, fun V sp n c _ h => ?_, fun V sp n c h => ?_⟩
      · exact sJoin_on k b' x' t' l' idx 12 rnd _ sp n c V (fun V' _ => join_idx k b' x' t' l' _ _ _ _ _ _ idx sp n c rnd V' HM HI)
      · exact refJoin_neg k b' x' t' l' _ _ _ _ _ _ idx _ sp n c rnd _ V w1 w2 (by omega) HC HZ (fun V' hb' => HRV V' sp n c (h.on hb'))

theorem joins_any (k b x t l idx : Int) (rnd : ByteArray) (sp : Option Addr) (n c : Nat) (xs : List ByteArray) (w : World) (h : StrsAt w sp n c xs) (hN : xs.length ≤ 8796093022208) :
    Calls Tryz.prog 11 #[.agg #[.int .i64 k, .int .i64 b, .int .i64 x, .int .i64 t, .int .i64 l], .agg #[.int .i64 idx, .string rnd, .slice sp n c]] w fun e w' => e = .returned (.bool true) ∧ Below w.heap.size w w' := by
  obtain ⟨cv, er, h1, h2⟩ := join_same k b x t l idx rnd xs hN
  have h0 := h
  rcases h with ⟨rfl, rfl, rfl, rfl⟩ | ⟨a, rfl, rfl, rfl⟩ | ⟨bk, o, rfl, rfl, hc, hlt, hce⟩
  · exact joins_nil k b x t l idx rnd cv er w (fun V => h1 V none 0 0 (.inl rfl) (.inl ⟨rfl, rfl, rfl, rfl⟩)) (fun V hb => h2 V none 0 0 (h0.on hb))
  · exact joins_emp k b x t l idx rnd a c [] cv er w rfl (fun V g hs => h1 V _ _ _ (.inr ⟨g, rfl⟩) hs) (fun V hb => h2 V _ _ _ (h0.on hb))
  · exact joins_some k b x t l idx rnd bk o c xs cv er w hce hlt hN (fun V g hs => h1 V _ _ _ (.inr ⟨g, rfl⟩) hs) (fun V hb => h2 V _ _ _ (h0.on hb))
end Go.Proofs.YtgaoeoijdpdjiabGreatDoor
