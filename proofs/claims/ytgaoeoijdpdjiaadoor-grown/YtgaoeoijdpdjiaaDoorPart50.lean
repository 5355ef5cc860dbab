/-
  signet.Start, NodeOf and Fold where all is right.
-/
import Derived.Test.YtgaoeoijdpdjiaaDoorPart49
import Derived.Test.YtgaoeoijdpdjiaaDoorPart39
import Derived.Test.YtgaoeoijdpdjiaaDoorPart34
namespace Go.Proofs.YtgaoeoijdpdjiaaDoor
open Go.RowKit

/-- A set that is right, as its pair of numbers. -/
structure RSet (k : Int) (b x e f t l : Nat) : Prop where
  pr : Pair b x e f
  kk : k = 1 ∨ k = 2
  t1 : 1 ≤ t
  t2 : t ≤ 4
  l1 : 1 ≤ l
  l2 : l ≤ 3
  r : rightB k b x t l = true

theorem seedsB_of {b : Nat} {sec rnd pub : ByteArray} (h1 : (sec.size : Int) = b) (h2 : (rnd.size : Int) = b) (h3 : (pub.size : Int) = b) : seedsB b sec rnd pub = true := by
  unfold seedsB
  refine (allLen_iff _ _).2 ?_
  intro z hz
  simp at hz
  rcases hz with rfl | rfl | rfl
  · exact h1
  · exact h2
  · exact h3

theorem sigStart_yes (k : Int) (b x e f t l : Nat) (R : RSet k b x e f t l) (sec rnd pub : ByteArray) (p0 p1 p2 p3 : Int) (hc : chainB t l (b * e + f) p0 p1 p2 p3 = true) (s1 : (sec.size : Int) = b) (s2 : (rnd.size : Int) = b) (s3 : (pub.size : Int) = b) (w : World) (hT : Tn w) :
    Calls Tryd.prog 51 #[.agg #[.int .i64 k, .int .i64 b, .int .i64 x, .int .i64 t, .int .i64 l], .agg #[.string sec, .string rnd, .string pub], .agg #[.int .i64 p0, .int .i64 p1, .int .i64 p2, .int .i64 p3]] w fun e w' => e = .returned (.tuple #[.string (startS k b sec p0 p1 p2 p3), .int .i64 0]) ∧ Below w.heap.size w w' := by
  obtain ⟨g1, g2, g3, g4, g5, g6⟩ := pair_small R.pr
  have hs := seedsB_of s1 s2 s3
  have h := sstart_on k b x t l sec rnd pub p0 p1 p2 p3 _ _ w hT (fun V hV => tstart_any k b x t l sec rnd pub p0 p1 p2 p3 true true true V hV (fun V => by have h := check_any k b x t l V; rw [R.r] at h; exact h) (fun _ V => by have h := seedsRight_any k b x t l sec rnd pub V; rw [hs] at h; exact h) (fun _ V => by have h := isChain_any k b x _ _ _ _ _ t l (b * e + f) p0 p1 p2 p3 V R.t1 R.t2 R.l2 (fun V => setsMeasure_yes b x e f t l R.pr k V R.kk R.t1 R.t2 R.l1 R.l2); rw [hc] at h; exact h) (fun _ _ V hV => start_any k b x t l sec p0 p1 p2 p3 V R.kk (by omega) (by omega) (by omega) hV))
  exact h

theorem sigNode_yes (k : Int) (b x e f t l : Nat) (R : RSet k b x e f t l) (sec rnd pub : ByteArray) (p0 p1 : Int) (n m : Nat) (hl : leafB t l p0 p1 0 = true) (s1 : (sec.size : Int) = b) (s2 : (rnd.size : Int) = b) (s3 : (pub.size : Int) = b) (hn : n ≤ t) (hm : m < 2 ^ (t - n)) (w : World) (hT : Tn w) :
    Calls Tryd.prog 33 #[.agg #[.int .i64 k, .int .i64 b, .int .i64 x, .int .i64 t, .int .i64 l], .agg #[.string sec, .string rnd, .string pub], .agg #[.int .i64 p0, .int .i64 p1, .int .i64 0, .int .i64 0], .int .i64 n, .int .i64 m] w fun r w' => r = .returned (.tuple #[.string (nodeS k b (x - 1) (b * e + f) sec pub p0 p1 n m), .int .i64 0]) ∧ Below w.heap.size w w' := by
  obtain ⟨g1, g2, g3, g4, g5, g6⟩ := pair_small R.pr
  have hs := seedsB_of s1 s2 s3
  have ht2 := R.t2
  have HM := fun V : World => setsMeasure_yes b x e f t l R.pr k V R.kk R.t1 R.t2 R.l1 R.l2
  have HSD : ∀ V : World, Calls Tryd.prog 96 #[.agg #[.int .i64 k, .int .i64 b, .int .i64 x, .int .i64 t, .int .i64 l], .agg #[.string sec, .string rnd, .string pub]] V fun e w' => e = .returned (.bool true) ∧ Below V.heap.size V w' := fun V => by have h := seedsRight_any k b x t l sec rnd pub V; rw [hs] at h; exact h
  have HIT : ∀ V : World, Calls Tryd.prog 97 #[.agg #[.int .i64 k, .int .i64 b, .int .i64 x, .int .i64 t, .int .i64 l], .agg #[.int .i64 p0, .int .i64 p1, .int .i64 0, .int .i64 0]] V fun e w' => e = .returned (.bool true) ∧ Below V.heap.size V w' := fun V => by have h := isTree_any k b x t l p0 p1 0 0 V R.t1 R.t2 R.l2; rw [hl] at h; exact h
  have HN := fun V : World => new_yes k b x t l _ _ _ _ _ _ sec rnd pub p0 p1 0 0 V HM HSD HIT
  have HH := fun V : World => has_any k b x t l (b * e + f) sec rnd pub p0 p1 0 0 n m V R.t1 R.t2
  have hmn : (m + 1) * 2 ^ n ≤ 16 := by
    have a1 : (m + 1) * 2 ^ n ≤ 2 ^ (t - n) * 2 ^ n := Nat.mul_le_mul_right _ hm
    rw [← Nat.pow_add, show t - n + n = t by omega] at a1
    exact Nat.le_trans a1 (Nat.le_trans (Nat.pow_le_pow_right (by decide) R.t2) (by decide))
  have hwd : (x : Int) = ((x - 1 : Nat) : Int) + 1 := by omega
  exact snode_on k b x t l sec rnd pub p0 p1 0 0 n m _ _ w hT (fun V hV => tnode_yes k b x t l _ sec rnd pub p0 p1 0 0 n m V hV (fun V _ => HN V) (fun V => by have h := HH V; rw [decide_eq_true (by rw [Int.toNat_natCast]; exact ⟨by omega, by omega, by omega, by omega⟩)] at h; exact h) _ (fun V hV => node_any k b x t l sec rnd pub p0 p1 0 0 (b * e + f) (x - 1) R.kk (by omega) (by omega) (by omega) (by omega) g3 g4 (ch4_of R.pr) (by omega) hwd n (by omega) m hmn V hV))

theorem sigFold_yes (k : Int) (b x e f t l : Nat) (R : RSet k b x e f t l) (pub : ByteArray) (p0 p1 p2 : Int) (sp : Option Addr) (n c : Nat) (xs : List ByteArray) (hl : leafB t l p0 p1 p2 = true) (s3 : (pub.size : Int) = b) (hn : xs.length = b * e + f) (hx : ∀ y ∈ xs, (y.size : Int) = b) (w : World) (h : StrsAt w sp n c xs) (hT : Tn w) :
    Calls Tryd.prog 24 #[.agg #[.int .i64 k, .int .i64 b, .int .i64 x, .int .i64 t, .int .i64 l], .string pub, .agg #[.int .i64 p0, .int .i64 p1, .int .i64 p2, .int .i64 0], .slice sp n c] w fun r w' => r = .returned (.tuple #[.string (foldS k b pub p0 p1 p2 6 0 xs), .int .i64 0]) ∧ Below w.heap.size w w' := by
  obtain ⟨g1, g2, g3, g4, g5, g6⟩ := pair_small R.pr
  have hv := (allLen_iff (b : Int) xs).2 hx
  have e4 : ((pub.size : Int) == (b : Int)) = true := by simpa using s3
  refine sFold_on k b x t l pub p0 p1 p2 0 sp n c _ _ w hT (fun V0 hb0 hV0 => fT_yes k b x t l _ _ _ _ _ _ pub p0 p1 p2 0 sp n c _ V0 (fun V => setsMeasure_yes b x e f t l R.pr k V R.kk R.t1 R.t2 R.l1 R.l2) (fun V B hB => ?_) (fun V => ?_) (by rw [h.len, hn]; simp) (fun V hb => ?_) (fun V hb hV => ?_) hV0)
  · have h := values1 k b x t l pub V B hB; rw [e4] at h; exact h
  · have h := isLeaf_any k b x t l p0 p1 p2 0 V R.t1 R.t2 R.l2; rw [hl] at h; exact h
  · have h' := vals_any k b x t l sp n c xs V ((h.on hb0).on hb) (by omega); rw [hv] at h'; exact h'
  · rcases (h.on hb0).on hb with ⟨_, _, _, rfl⟩ | ⟨_, _, _, rfl⟩ | ⟨bk, o, rfl, rfl, u1, u2, u3⟩
    · simp at hn; omega
    · simp at hn; omega
    · exact sfold_any k b x t l pub p0 p1 p2 0 bk o c xs V u3 u2 u1 (by omega) (by omega) R.kk (by omega) (by omega) (by omega) hx hV
end Go.Proofs.YtgaoeoijdpdjiaaDoor
