/-
  sets.Check and sets.Measure, by their contracts. Are seeds right? The program's SeedsRight, the document's Seeded. Are seeds right? The document's Seeded. The document's own sizes at the sets with Bytes 8 and Wide 16.
-/
import Derived.Test.YtgaoeoijdpdjiaaGreatDoorPart3
import Derived.Test.YtgaoeoijdpdjiaaGreatDoorPart33
import Derived.Deep.RegionHeld3
import Derived.Test.YtgaoeoijdpdjiaaGreatDoorPart5
import Derived.Handy
import Derived.Deep.DrawnRows
namespace Go.Proofs.YtgaoeoijdpdjiaaGreatDoor
open Go.RowKit
theorem bcell {W w1 : World} (hb : Below W.heap.size W w1) : (∀ b o, b < W.heap.size → w1.cell? ⟨b, o, none⟩ = W.cell? ⟨b, o, none⟩) ∧ (∀ b o, b < W.heap.size → w1.frozen? ⟨b, o, none⟩ = W.frozen? ⟨b, o, none⟩) :=
  ⟨fun b o h => hb.cell (p := ⟨b, o, none⟩) h, fun b o h => hb.frozen (p := ⟨b, o, none⟩) h⟩
set_option maxHeartbeats 400000 in
theorem check_any (k b x t l : Int) (w : World) :
    Calls Tryz.prog 86 #[.agg #[.int .i64 k, .int .i64 b, .int .i64 x, .int .i64 t, .int .i64 l]] w fun e w' => e = .returned (.int .i64 (if rightB k b x t l then 0 else 1)) ∧ Below w.heap.size w w' := by
  cases hr : rightB k b x t l
  all_goals
    go_enter Tryz.func86, Tryz.ntmps86
    go_wp2_with (go_at_call 162; refine (right_any _ _ _ _ _ _).mono ?_; rintro e w' ⟨rfl, hb⟩)
    go_ret
    refine ⟨rfl, ?_⟩
    exact ((Below.refl _ _).alloc (Nat.le_refl _) _).trans (hb.mono (by simp))
/-- What follows from a set that is right. -/
def firstZ (b x : Int) : Int := b * each x
def lastZ (b x : Int) : Int := if x = 16 then 2 else if b = 4 then 3 else 4
def chainsZ (b x : Int) : Int := firstZ b x + lastZ b x
def totalZ (t l : Int) : Int := 2 ^ (t * l).toNat
def sigZ (b x t l : Int) : Int := 4 + b + l * (chainsZ b x + t) * b
theorem shift_total (t l : Int) (h1 : 1 ≤ t) (h2 : t ≤ 4) (h3 : 1 ≤ l) (h4 : l ≤ 3) : ∀ w : World, Sem.run Tryz.prog (Op.shift BinOp.shl IntKind.i64 1 IntKind.i64 (IntKind.i64.wrap (t * l))) w = .ok (.int .i64 (totalZ t l)) w := by
  rcases (show t = 1 ∨ t = 2 ∨ t = 3 ∨ t = 4 by omega) with rfl | rfl | rfl | rfl <;> rcases (show l = 1 ∨ l = 2 ∨ l = 3 by omega) with rfl | rfl | rfl <;> intro w <;> rfl
theorem cell_other {w : World} {a p : Addr} (v : Value) (h : p.block ≠ a.block) : (w.setCell a v).cell? p = w.cell? p := World.cell?_of_block (Below.heap_setCell _ _ _ _ h)
theorem five_other {w : World} {B C o : Nat} {k b x t l : Int} (h : Five w B k b x t l) (v : Value) (hne : B ≠ C) : Five (w.setCell ⟨C, o, none⟩ v) B k b x t l :=
  ⟨(cell_other v hne).trans h.1, (cell_other v hne).trans h.2.1, (cell_other v hne).trans h.2.2.1, (cell_other v hne).trans h.2.2.2.1, (cell_other v hne).trans h.2.2.2.2⟩
/-- The new variable of the sizes holds noughts. -/
theorem six_zero {w w' : World} {o : Array Value} (hb : Below ((w.alloc (.cells o 23)).alloc (.cells #[.int .i64 0, .int .i64 0, .int .i64 0, .int .i64 0, .int .i64 0, .int .i64 0] 127)).heap.size ((w.alloc (.cells o 23)).alloc (.cells #[.int .i64 0, .int .i64 0, .int .i64 0, .int .i64 0, .int .i64 0, .int .i64 0] 127)) w') :
    w'.cell? ⟨w.heap.size + 1, 0, none⟩ = some (.int .i64 0) ∧ w'.cell? ⟨w.heap.size + 1, 1, none⟩ = some (.int .i64 0) ∧ w'.cell? ⟨w.heap.size + 1, 2, none⟩ = some (.int .i64 0) ∧
    w'.cell? ⟨w.heap.size + 1, 3, none⟩ = some (.int .i64 0) ∧ w'.cell? ⟨w.heap.size + 1, 4, none⟩ = some (.int .i64 0) ∧ w'.cell? ⟨w.heap.size + 1, 5, none⟩ = some (.int .i64 0) := by
  refine ⟨?_, ?_, ?_, ?_, ?_, ?_⟩ <;> exact (hb.cell (by simp)).trans (by simp [go_sem])
end Go.Proofs.YtgaoeoijdpdjiaaGreatDoor

namespace Go.Proofs.YtgaoeoijdpdjiaaGreatDoor
open Go.RowKit
/-- Are the seeds right? -/
def seedsB (b : Int) (sec rnd pub : ByteArray) : Bool := allLen b [sec, rnd, pub]
set_option maxRecDepth 20000 in
set_option maxHeartbeats 2000000 in
theorem seedsRight_any (k b x t l : Int) (sec rnd pub : ByteArray) (w : World) :
    Calls Tryz.prog 70 #[.agg #[.int .i64 k, .int .i64 b, .int .i64 x, .int .i64 t, .int .i64 l], .agg #[.string sec, .string rnd, .string pub]] w fun e w' => e = .returned (.bool (seedsB b sec rnd pub)) ∧ Below w.heap.size w w' := by
  have HV := hide (valuesRight_some k b x t l ((w.alloc (.cells #[.int .i64 k, .int .i64 b, .int .i64 x, .int .i64 t, .int .i64 l] 23)).alloc (.cells #[.string sec, .string rnd, .string pub] 25)).heap.size 0 3 [sec, rnd, pub] (((w.alloc (.cells #[.int .i64 k, .int .i64 b, .int .i64 x, .int .i64 t, .int .i64 l] 23)).alloc (.cells #[.string sec, .string rnd, .string pub] 25)).alloc (.cells #[.string sec, .string rnd, .string pub] 9)) (by
    intro j y hj
    match j, hj with
    | 0, hj => simp at hj; subst hj; simp [go_sem]
    | 1, hj => simp at hj; subst hj; simp [go_sem]
    | 2, hj => simp at hj; subst hj; simp [go_sem]) (by simp) (by simp))
  simp only [List.length_cons, List.length_nil, Nat.reduceAdd] at HV
  have hsz : ((w.alloc (.cells #[.int .i64 k, .int .i64 b, .int .i64 x, .int .i64 t, .int .i64 l] 23)).alloc (.cells #[.string sec, .string rnd, .string pub] 25)).heap.size = w.heap.size + 1 + 1 := by simp
  rw [hsz] at HV
  unfold seedsB
  generalize allLen b [sec, rnd, pub] = r at HV ⊢
  go_enter Tryz.func70, Tryz.ntmps70
  go_wp2_with fail
  refine HV.out.mono ?_
  rintro e w1 ⟨rfl, hb1⟩
  have HB1 := hide (((((Below.refl w.heap.size w).alloc (Nat.le_refl _) _).alloc (by simp) _).alloc (by simp; omega) _).trans (hb1.mono (by simp; omega)))
  clear hsz
  clear hb1
  go_wp2
  go_ret
  exact ⟨rfl, HB1.out⟩
end Go.Proofs.YtgaoeoijdpdjiaaGreatDoor

namespace Go.Proofs.YtgaoeoijdpdjiaaGreatDoor
open Go.RowKit
set_option maxRecDepth 20000 in
set_option maxHeartbeats 2000000 in
theorem seeded_any (k b x t l : Int) (sec rnd pub : ByteArray) (w : World) :
    Calls Tryz.prog 50 #[.agg #[.int .i64 k, .int .i64 b, .int .i64 x, .int .i64 t, .int .i64 l], .agg #[.string sec, .string rnd, .string pub]] w fun e w' => e = .returned (.bool (seedsB b sec rnd pub)) ∧ Below w.heap.size w w' := by
  have e : seedsB b sec rnd pub = (((sec.size : Int) == b) && (((rnd.size : Int) == b) && ((pub.size : Int) == b))) := by
    unfold seedsB allLen allLen allLen allLen
    simp [Bool.beq_eq_decide_eq]
  rw [e]
  cases a0 : ((sec.size : Int) == b) with
  | false =>
    go_enter Tryz.func50, Tryz.ntmps50
    go_wp2
    go_ret
    exact ⟨rfl, ((Below.refl _ _).alloc (Nat.le_refl _) _).alloc (by simp) _⟩
  | true =>
    cases a1 : ((rnd.size : Int) == b) with
    | false =>
      go_enter Tryz.func50, Tryz.ntmps50
      go_wp2
      go_ret
      exact ⟨rfl, ((Below.refl _ _).alloc (Nat.le_refl _) _).alloc (by simp) _⟩
    | true =>
      cases a2 : ((pub.size : Int) == b) with
      | false =>
        go_enter Tryz.func50, Tryz.ntmps50
        go_wp2
        go_ret
        exact ⟨rfl, ((Below.refl _ _).alloc (Nat.le_refl _) _).alloc (by simp) _⟩
      | true =>
        go_enter Tryz.func50, Tryz.ntmps50
        go_wp2
        go_ret
        exact ⟨rfl, ((Below.refl _ _).alloc (Nat.le_refl _) _).alloc (by simp) _⟩
end Go.Proofs.YtgaoeoijdpdjiaaGreatDoor

namespace Go.Proofs.YtgaoeoijdpdjiaaGreatDoor
open Go.RowKit
theorem wrap_ref_8_16 (t l : Nat) (h1 : 1 ≤ t) (h2 : t ≤ 4) (h3 : 1 ≤ l) (h4 : l ≤ 3) : wrap64 (12 + wrap64 (wrap64 ((l : Int) * (18 + (t : Int))) * 8)) = sigZ 8 16 t l := by
  rcases (show t = 1 ∨ t = 2 ∨ t = 3 ∨ t = 4 by omega) with rfl | rfl | rfl | rfl <;> rcases (show l = 1 ∨ l = 2 ∨ l = 3 by omega) with rfl | rfl | rfl <;> simp [wrap64, sigZ, chainsZ, firstZ, lastZ, each]
set_option maxHeartbeats 1000000 in
theorem refSizes_8_16 (k : Int) (t l : Nat) (w : World) (h1 : 1 ≤ t) (h2 : t ≤ 4) (h3 : 1 ≤ l) (h4 : l ≤ 3) :
    Calls Tryz.prog 89 #[.agg #[.int .i64 k, .int .i64 8, .int .i64 16, .int .i64 t, .int .i64 l]] w fun r w' =>
      r = .returned (.agg #[.int .i64 16, .int .i64 2, .int .i64 18, .int .i64 (totalZ t l), .int .i64 (sigZ 8 16 t l), .int .i64 21]) ∧ Below w.heap.size w w' := by
  go_enter Tryz.func89, Tryz.ntmps89
  go_wp2
  go_rounds 3
  go_rounds 3
  generalize hW : (((w.alloc (.cells #[.int .i64 k, .int .i64 8, .int .i64 16, .int .i64 t, .int .i64 l] 23)).alloc (.cells #[.int .i64 0, .int .i64 0, .int .i64 0, .int .i64 0, .int .i64 0, .int .i64 0] 127)).alloc (.cells #[.int .i64 16, .int .i64 2, .int .i64 18, .int .i64 0, .int .i64 0, .int .i64 0] 127)) = W
  have F5 : Five W w.heap.size k 8 16 t l := by subst hW; refine ⟨?_, ?_, ?_, ?_, ?_⟩ <;> simp [go_sem, World.cell?_alloc_past]
  have Z6 : Six W (w.heap.size + 1) 0 0 0 0 0 0 := by subst hW; refine ⟨?_, ?_, ?_, ?_, ?_, ?_⟩ <;> simp [go_sem, World.cell?_alloc_past]
  have S6 : Six W (w.heap.size + 1 + 1) 16 2 18 0 0 0 := by subst hW; refine ⟨?_, ?_, ?_, ?_, ?_, ?_⟩ <;> simp [go_sem, World.cell?_alloc_at]
  have fz : ∀ o, W.frozen? ⟨w.heap.size + 1, o, none⟩ = false := by subst hW; intro o; simp [go_sem]
  have fz2 : ∀ o, W.frozen? ⟨w.heap.size + 1 + 1, o, none⟩ = false := by subst hW; intro o; simp [go_sem]
  have hsz : w.heap.size + 3 = W.heap.size := by subst hW; simp
  have HB := hideM (by subst hW; exact (((Below.refl _ _).alloc (Nat.le_refl _) _).alloc (by simp) _).alloc (by simp; omega) _ : Below w.heap.size w W)
  clear hW
  have hl2 : 2 ^ t ≤ 16 := Nat.le_trans (Nat.pow_le_pow_right (by decide) h2) (by decide)
  have hpw : (2 ^ t) ^ l = 2 ^ (t * l) := (Nat.pow_mul 2 t l).symm
  have hpl : (2 ^ t) ^ l ≤ 65536 := Nat.le_trans (Nat.pow_le_pow_left hl2 l) (Nat.le_trans (Nat.pow_le_pow_right (by decide) h4) (by decide))
  have HT : Hid ((((2 ^ t) ^ l : Nat) : Int) = totalZ t l) := by show (((2 ^ t) ^ l : Nat) : Int) = totalZ t l; rw [hpw]; unfold totalZ; rw [show ((t : Int) * (l : Int)).toNat = t * l by rw [← Int.natCast_mul]; rfl]; simp
  have HC1 := hideM (fun w' : World => leaves_any t k 8 16 l w' h2)
  have HC2 := hideM (fun w' : World => power_any (2 ^ t) l w' hl2 (by omega) hpl (Nat.one_le_two_pow))
  clear hl2 hpw hpl
  generalize 2 ^ t = q at HT HC1 HC2
  generalize q ^ l = T at HT HC2
  obtain ⟨c0, c1, c2, c3, c4⟩ := F5
  obtain ⟨z0, z1, z2, z3, z4, z5⟩ := Z6
  obtain ⟨s0, s1, s2, s3, s4, s5⟩ := S6
  go_region_held3 (fun w' => w'.cell? ⟨w.heap.size, 0, none⟩ = some (.int .i64 k) ∧ w'.cell? ⟨w.heap.size, 1, none⟩ = some (.int .i64 8) ∧ w'.cell? ⟨w.heap.size, 2, none⟩ = some (.int .i64 16) ∧ w'.cell? ⟨w.heap.size, 3, none⟩ = some (.int .i64 t) ∧ w'.cell? ⟨w.heap.size, 4, none⟩ = some (.int .i64 l)) (first | exact hk1 | exact five_other hk1 _ (by omega) | (simp [go_sem, c0, c1, c2, c3, c4]; done)) (first | (go_at_call 90; refine (HC1.out _).mono ?_; rintro r w1 ⟨rfl, hb1⟩; have hk1 := five_below (show Five W.drew w.heap.size k 8 16 t l from ⟨c0, c1, c2, c3, c4⟩) hb1 (by simp; omega); have hz1 := six_below (show Six W.drew (w.heap.size + 1) 0 0 0 0 0 0 from ⟨z0, z1, z2, z3, z4, z5⟩) hb1 (by simp; omega); have hs1 := six_below (show Six W.drew (w.heap.size + 1 + 1) 16 2 18 0 0 0 from ⟨s0, s1, s2, s3, s4, s5⟩) hb1 (by simp; omega); have fy : ∀ o, w1.frozen? ⟨w.heap.size + 1, o, none⟩ = false := (fun o => (hb1.frozen (by simp; omega)).trans (fz o)); have fy2 : ∀ o, w1.frozen? ⟨w.heap.size + 1 + 1, o, none⟩ = false := (fun o => (hb1.frozen (by simp; omega)).trans (fz2 o)); obtain ⟨y0, y1, y2, y3, y4, y5⟩ := hz1; obtain ⟨x0, x1, x2, x3, x4, x5⟩ := hs1) | (go_at_call 55; refine (HC2.out _).mono ?_; rintro r w2 ⟨rfl, rfl⟩))
  obtain ⟨m0, m1, m2, m3, m4⟩ := hk1
  have HSG := hideM (wrap_ref_8_16 t l h1 h2 h3 h4)
  go_wp2
  rw [HSG.out, HT.out]
  refine bodyPost_ret (v := .agg #[.int .i64 16, .int .i64 2, .int .i64 18, .int .i64 (totalZ t l), .int .i64 (sigZ 8 16 t l), .int .i64 21]) (by simp [results, Tryz.results89, go_sem, y0, y1, y2, y3, y4, y5]) rfl ⟨rfl, ?_⟩
  iterate 9 refine Below.setCell ?_ (show w.heap.size ≤ _ by simp <;> omega) _
  exact HB.out.drew.trans (hb1.mono (by simp; omega))
end Go.Proofs.YtgaoeoijdpdjiaaGreatDoor
