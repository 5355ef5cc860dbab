/-
  The statement's own starts and chains are true at every input.
-/
import Derived.Test.YtgaoeoijdpdjiaaGreatDoorPart19
import Derived.Test.YtgaoeoijdpdjiaaGreatDoorPart44
import Derived.Test.YtgaoeoijdpdjiaaGreatDoorPart25
import Derived.Test.YtgaoeoijdpdjiaaGreatDoorPart40
import Derived.Test.YtgaoeoijdpdjiaaGreatDoorPart27
import Derived.Test.YtgaoeoijdpdjiaaGreatDoorPart37
namespace Go.Proofs.YtgaoeoijdpdjiaaGreatDoor
open Go.RowKit

theorem starts_true (k b x t l : Int) (sec rnd pub : ByteArray) (p0 p1 p2 p3 : Int) (w : World) (hT : Tn w) :
    Calls Tryz.prog 7 #[.agg #[.int .i64 k, .int .i64 b, .int .i64 x, .int .i64 t, .int .i64 l], .agg #[.string sec, .string rnd, .string pub], .agg #[.int .i64 p0, .int .i64 p1, .int .i64 p2, .int .i64 p3]] w fun e w' => e = .returned (.bool true) ∧ Below w.heap.size w w' := by
  cases hr : rightB k b x t l with
  | false =>
    refine starts_on k b x t l sec rnd pub p0 p1 p2 p3 _ _ w hT (fun V hV => sstart_on k b x t l sec rnd pub p0 p1 p2 p3 _ _ V hV (fun V hV => tstart_any k b x t l sec rnd pub p0 p1 p2 p3 false false false V hV (fun V => ?_) (fun h => by cases h) (fun h => by cases h) (fun h => by cases h))) (fun V => rstartTop_any k b x t l sec rnd pub p0 p1 p2 p3 false false false V (fun V => ?_) (fun h => by cases h) (fun h => by cases h) (fun h => by cases h))
    · have h := check_any k b x t l V; rw [hr] at h; exact h
    · have h := refCheck_any k b x t l V; rw [hr] at h; exact h
  | true =>
    obtain ⟨b', x', e, f, t', l', hp, hk, rfl, rfl, rfl, rfl, h1, h2, h3, h4⟩ := pair_of_right hr
    obtain ⟨g1, g2, g3, g4, g5, g6⟩ := pair_small hp
    refine starts_on k b' x' t' l' sec rnd pub p0 p1 p2 p3 _ _ w hT (fun V hV => sstart_on k b' x' t' l' sec rnd pub p0 p1 p2 p3 _ _ V hV (fun V hV => tstart_any k b' x' t' l' sec rnd pub p0 p1 p2 p3 true (seedsB b' sec rnd pub) (chainB t' l' (b' * e + f) p0 p1 p2 p3) V hV (fun V => ?_) (fun _ V => seedsRight_any k b' x' t' l' sec rnd pub V) (fun _ V => isChain_any k b' x' _ _ _ _ _ t' l' (b' * e + f) p0 p1 p2 p3 V h1 h2 h4 (fun V => setsMeasure_yes b' x' e f t' l' hp k V hk h1 h2 h3 h4)) (fun _ hs V hV => ?_))) (fun V => rstartTop_any k b' x' t' l' sec rnd pub p0 p1 p2 p3 true (seedsB b' sec rnd pub) (chainB t' l' (b' * e + f) p0 p1 p2 p3) V (fun V => ?_) (fun _ V => seeded_any k b' x' t' l' sec rnd pub V) (fun _ V => placed_any k x' _ _ _ _ _ b' t' l' (b' * e + f) p0 p1 p2 p3 V h2 h4 (fun V => refSizes_yes b' x' e f t' l' hp k V h1 h2 h3 h4)) (fun _ hs hc V => ?_))
    · have h := check_any k b' x' t' l' V; rw [hr] at h; exact h
    · have := seedsB_size hs
      exact start_any k b' x' t' l' sec p0 p1 p2 p3 V hk (by omega) (by omega) (by omega) hV
    · have h := refCheck_any k b' x' t' l' V; rw [hr] at h; exact h
    · have := seedsB_size hs
      obtain ⟨q0, q1, q2, q3⟩ := chainB_bounds hc h2 h4 g4
      exact rstart_any k x' t' l' p0 p1 p2 p3 b' sec rnd pub V hk g1 g2 (by omega) q0 q1 q2 q3
end Go.Proofs.YtgaoeoijdpdjiaaGreatDoor
