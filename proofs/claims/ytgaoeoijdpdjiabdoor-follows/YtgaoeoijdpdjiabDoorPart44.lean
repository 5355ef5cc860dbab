/-
  signet.Fold where all is right.
-/
import Derived.Test.YtgaoeoijdpdjiabDoorPart43
import Derived.Test.YtgaoeoijdpdjiabDoorPart31
import Derived.Test.YtgaoeoijdpdjiabDoorPart29
namespace Go.Proofs.YtgaoeoijdpdjiabDoor
open Go.RowKit

/-- A set that is right, as its pair of numbers. -/
structure RSet (k : Int) (b x e f t l : Nat) : Prop where
  pr : Pair b x e f
  kk : k = 1 ∨ k = 2
  t1 : 1 ≤ t
  t2 : t ≤ 4
  l1 : 1 ≤ l
  l2 : l ≤ 3
  r : rightB k b x t l = true

theorem sigFold_yes (k : Int) (b x e f t l : Nat) (R : RSet k b x e f t l) (pub : ByteArray) (p0 p1 p2 : Int) (sp : Option Addr) (n c : Nat) (xs : List ByteArray) (hl : leafB t l p0 p1 p2 = true) (s3 : (pub.size : Int) = b) (hn : xs.length = b * e + f) (hx : ∀ y ∈ xs, (y.size : Int) = b) (w : World) (h : StrsAt w sp n c xs) (hT : Tn w) :
    Calls Tryd.prog 36 #[.agg #[.int .i64 k, .int .i64 b, .int .i64 x, .int .i64 t, .int .i64 l], .string pub, .agg #[.int .i64 p0, .int .i64 p1, .int .i64 p2, .int .i64 0], .slice sp n c] w fun r w' => r = .returned (.tuple #[.string (foldS k b pub p0 p1 p2 6 0 xs), .int .i64 0]) ∧ Below w.heap.size w w' := by
  obtain ⟨g1, g2, g3, g4, g5, g6⟩ := pair_small R.pr
  have hv := (allLen_iff (b : Int) xs).2 hx
  have e4 : ((pub.size : Int) == (b : Int)) = true := by simpa using s3
  refine sFold_on k b x t l pub p0 p1 p2 0 sp n c _ _ w hT (fun V0 hb0 hV0 => fT_yes k b x t l _ _ _ _ _ _ pub p0 p1 p2 0 sp n c _ V0 (fun V => setsMeasure_yes b x e f t l R.pr k V R.kk R.t1 R.t2 R.l1 R.l2) (fun V B hB => ?_) (fun V => ?_) (by rw [h.len, hn]; simp) (fun V hb => ?_) (fun V hb hV => ?_) hV0)
  · have h := values1 k b x t l pub V B hB; rw [e4] at h; exact h
  · have h := isLeaf_any k b x t l p0 p1 p2 0 V R.t1 R.t2 R.l2; rw [hl] at h; exact h
  · have h' := vals_any k b x t l sp n c xs V ((h.on hb0).on hb) (by omega); rw [hv] at h'; exact h'
  · rcases (h.on hb0).on hb with ⟨_, _, _, rfl⟩ | ⟨_, _, _, rfl⟩ | ⟨bk, o, rfl, rfl, u1, u2, u3⟩
    · simp at hn; omega
    · simp at hn; omega
    · exact sfold_any k b x t l pub p0 p1 p2 0 bk o c xs V u3 u2 u1 (by omega) (by omega) R.kk (by omega) (by omega) (by omega) hx hV
end Go.Proofs.YtgaoeoijdpdjiabDoor
