/-
  The walk that is handed out: one pointer to the walk within. A walk is asked for.
-/
import Derived.Test.YtgaoeoijdpdjiaaGreatDoorPart26
import Derived.Test.YtgaoeoijdpdjiaaGreatDoorPart23
import Derived.Test.YtgaoeoijdpdjiaaGreatDoorPart29
import Derived.Test.YtgaoeoijdpdjiaaGreatDoorPart44
namespace Go.Proofs.YtgaoeoijdpdjiaaGreatDoor
open Go.RowKit
theorem NewI.start {w wr : World} {W F : Nat} {lf jf : Value} {T : Nat} {tv : Nat → Nat → ByteArray} (h : NewI w W F lf jf (2 ^ T) tv T wr) : ∃ pv sv ps Ks, Wk.In w.heap.size ⟨W, lf, jf, ((2 ^ T : Nat) : Int), 0, pv, sv, ps, Ks⟩ wr ∧ Lps tv T ps (pnum 0) ∧ Lks tv T Ks (skAt (2 ^ T) 0) ∧ Below w.heap.size w wr := by
  obtain ⟨pv, sv, ps, Ks, h1, h2, h3, -, -, -, -, h8⟩ := h
  refine ⟨pv, sv, ps, Ks, h1, h2.congr (fun i _ => ?_), h3.congr (fun i _ => ?_), h8⟩
  · unfold pnum
    rw [Nat.zero_div, if_neg (by decide)]
  · unfold skAt
    rw [Nat.zero_div, if_pos rfl]
theorem wat_on (X W : Nat) (w : World) (R : Value → World → Prop) (hX : w.cell? ⟨X, 0, none⟩ = some (.pointer (some ⟨W, 0, none⟩)))
    (hC : Calls Tryz.prog 81 #[.pointer (some ⟨W, 0, none⟩)] w fun e w' => ∃ v, e = .returned v ∧ R v w') :
    Calls Tryz.prog 43 #[.pointer (some ⟨X, 0, none⟩)] w fun e w' => ∃ v, e = .returned v ∧ R v w' := by
  have HC := hide hC
  clear hC
  go_enter Tryz.func43, Tryz.ntmps43
  go_wp2_with fail
  go_at_call 81
  refine HC.out.mono ?_
  rintro e w2 ⟨v, rfl, hr⟩
  have HR := hide hr
  clear hr
  go_wp2_with fail
  go_ret
  exact ⟨_, rfl, HR.out⟩
theorem wpath_on (X W : Nat) (w : World) (R : Value → World → Prop) (hX : w.cell? ⟨X, 0, none⟩ = some (.pointer (some ⟨W, 0, none⟩)))
    (hC : Calls Tryz.prog 80 #[.pointer (some ⟨W, 0, none⟩)] w fun e w' => ∃ v, e = .returned v ∧ R v w') :
    Calls Tryz.prog 42 #[.pointer (some ⟨X, 0, none⟩)] w fun e w' => ∃ v, e = .returned v ∧ R v w' := by
  have HC := hide hC
  clear hC
  go_enter Tryz.func42, Tryz.ntmps42
  go_wp2_with fail
  go_at_call 80
  refine HC.out.mono ?_
  rintro e w2 ⟨v, rfl, hr⟩
  have HR := hide hr
  clear hr
  go_wp2_with fail
  go_ret
  exact ⟨_, rfl, HR.out⟩
theorem wnext_on (X W : Nat) (w : World) (R : Value → World → Prop) (hX : w.cell? ⟨X, 0, none⟩ = some (.pointer (some ⟨W, 0, none⟩)))
    (hC : Calls Tryz.prog 47 #[.pointer (some ⟨W, 0, none⟩)] w fun e w' => ∃ v, e = .returned v ∧ R v w') :
    Calls Tryz.prog 23 #[.pointer (some ⟨X, 0, none⟩)] w fun e w' => ∃ v, e = .returned v ∧ R v w' := by
  have HC := hide hC
  clear hC
  go_enter Tryz.func23, Tryz.ntmps23
  go_wp2_with fail
  go_at_call 47
  refine HC.out.mono ?_
  rintro e w2 ⟨v, rfl, hr⟩
  have HR := hide hr
  clear hr
  go_wp2_with fail
  go_ret
  exact ⟨_, rfl, HR.out⟩
theorem wstack_on (X W : Nat) (h : Int) (w : World) (R : Value → Value → World → Prop) (hX : w.cell? ⟨X, 0, none⟩ = some (.pointer (some ⟨W, 0, none⟩)))
    (hC : Calls Tryz.prog 83 #[.pointer (some ⟨W, 0, none⟩), .int .i64 h] w fun e w' => ∃ u v, e = .returned (.tuple #[u, v]) ∧ R u v w') :
    Calls Tryz.prog 46 #[.pointer (some ⟨X, 0, none⟩), .int .i64 h] w fun e w' => ∃ u v, e = .returned (.tuple #[u, v]) ∧ R u v w' := by
  have HC := hide hC
  clear hC
  go_enter Tryz.func46, Tryz.ntmps46
  go_wp2_with fail
  go_at_call 83
  refine HC.out.mono ?_
  rintro e w2 ⟨u, v, rfl, hr⟩
  have HR := hide hr
  clear hr
  go_wp2_with fail
  go_ret2
  exact ⟨_, _, rfl, HR.out⟩
end Go.Proofs.YtgaoeoijdpdjiaaGreatDoor

namespace Go.Proofs.YtgaoeoijdpdjiaaGreatDoor
open Go.RowKit
set_option maxRecDepth 20000 in
set_option maxHeartbeats 4000000 in
theorem nwalk_err (k b x t l : Int) (sec rnd pub : ByteArray) (p0 p1 p2 p3 er : Int) (w : World) (hT : Tn w) (hC : ∀ V : World, Tn V → Calls Tryz.prog 37 #[.agg #[.int .i64 k, .int .i64 b, .int .i64 x, .int .i64 t, .int .i64 l], .agg #[.string sec, .string rnd, .string pub], .agg #[.int .i64 p0, .int .i64 p1, .int .i64 p2, .int .i64 p3]] V fun e w' => e = .returned (.tuple #[.agg #[.int .i64 0, .int .i64 0, .int .i64 0, .int .i64 0, .int .i64 0, .string ⟨#[]⟩, .string ⟨#[]⟩, .string ⟨#[]⟩, .int .i64 0, .int .i64 0, .int .i64 0, .int .i64 0, .int .i64 0], .int .i64 er]) ∧ Below V.heap.size V w') (he : er = 1 ∨ er = 2) :
    Calls Tryz.prog 18 #[.agg #[.int .i64 k, .int .i64 b, .int .i64 x, .int .i64 t, .int .i64 l], .agg #[.string sec, .string rnd, .string pub], .agg #[.int .i64 p0, .int .i64 p1, .int .i64 p2, .int .i64 p3]] w fun e w' => e = .returned (.tuple #[.pointer none, .int .i64 er]) ∧ Below w.heap.size w w' := by
  have HB := hide (show Below w.heap.size w (((w.alloc (.cells #[.int .i64 k, .int .i64 b, .int .i64 x, .int .i64 t, .int .i64 l] 23)).alloc (.cells #[.string sec, .string rnd, .string pub] 25)).alloc (.cells #[.int .i64 p0, .int .i64 p1, .int .i64 p2, .int .i64 p3] 27)) from (((Below.refl _ _).alloc (Nat.le_refl _) _).alloc (by simp) _).alloc (by simp; omega) _)
  have HT := hide (hT.on HB.out)
  have HNW := hide (hC _ HT.out)
  have hz : (er != 0) = true := by rcases he with rfl | rfl <;> rfl
  clear hT hC he
  go_enter Tryz.func18, Tryz.ntmps18
  go_wp2_with fail
  refine HNW.out.mono ?_
  rintro e w1 ⟨rfl, hb1⟩
  have HB1 := hide ((HB.out.trans (hb1.mono (by simp; omega))).alloc (by have := hb1.size; simp at this; omega) (.cells #[.int .i64 0, .int .i64 0, .int .i64 0, .int .i64 0, .int .i64 0, .string ⟨#[]⟩, .string ⟨#[]⟩, .string ⟨#[]⟩, .int .i64 0, .int .i64 0, .int .i64 0, .int .i64 0, .int .i64 0] 83))
  have HT1 := hide ((HT.out.on hb1).alloc (.cells #[.int .i64 0, .int .i64 0, .int .i64 0, .int .i64 0, .int .i64 0, .string ⟨#[]⟩, .string ⟨#[]⟩, .string ⟨#[]⟩, .int .i64 0, .int .i64 0, .int .i64 0, .int .i64 0, .int .i64 0] 83))
  have HBK := hide (Blk.new w1 [.int .i64 0, .int .i64 0, .int .i64 0, .int .i64 0, .int .i64 0, .string ⟨#[]⟩, .string ⟨#[]⟩, .string ⟨#[]⟩, .int .i64 0, .int .i64 0, .int .i64 0, .int .i64 0, .int .i64 0] 83)
  have hz1 := hb1.size
  simp at hz1
  clear hb1
  clear HBK HT1 HT
  go_wp2
  go_ret2
  exact ⟨rfl, HB1.out⟩
set_option maxRecDepth 20000 in
set_option maxHeartbeats 4000000 in
theorem nwalk_yes (k b x t l ch : Int) (sec rnd pub : ByteArray) (p0 p1 p2 p3 : Int) (w : World) (R : World → Nat → World → Prop) (hT : Tn w) (hC : ∀ V : World, Tn V → Calls Tryz.prog 37 #[.agg #[.int .i64 k, .int .i64 b, .int .i64 x, .int .i64 t, .int .i64 l], .agg #[.string sec, .string rnd, .string pub], .agg #[.int .i64 p0, .int .i64 p1, .int .i64 p2, .int .i64 p3]] V fun e w' => e = .returned (.tuple #[.agg #[.int .i64 k, .int .i64 b, .int .i64 x, .int .i64 t, .int .i64 l, .string sec, .string rnd, .string pub, .int .i64 p0, .int .i64 p1, .int .i64 p2, .int .i64 p3, .int .i64 ch], .int .i64 0]) ∧ Below V.heap.size V w')
    (hN : ∀ V : World, Tn V → Calls Tryz.prog 38 #[.int .i64 t, .func (.func 39) #[.agg #[.int .i64 k, .int .i64 b, .int .i64 x, .int .i64 t, .int .i64 l, .string sec, .string rnd, .string pub, .int .i64 p0, .int .i64 p1, .int .i64 p2, .int .i64 p3, .int .i64 ch]] #[], .func (.func 40) #[.agg #[.int .i64 k, .int .i64 b, .int .i64 x, .int .i64 t, .int .i64 l, .string sec, .string rnd, .string pub, .int .i64 p0, .int .i64 p1, .int .i64 p2, .int .i64 p3, .int .i64 ch]] #[]] V fun e w' => ∃ W, e = .returned (.pointer (some ⟨W, 0, none⟩)) ∧ R V W w' ∧ Below V.heap.size V w') :
    Calls Tryz.prog 18 #[.agg #[.int .i64 k, .int .i64 b, .int .i64 x, .int .i64 t, .int .i64 l], .agg #[.string sec, .string rnd, .string pub], .agg #[.int .i64 p0, .int .i64 p1, .int .i64 p2, .int .i64 p3]] w fun e w' => ∃ V W w2, Below w.heap.size w V ∧ R V W w2 ∧ e = .returned (.tuple #[.pointer (some ⟨w2.heap.size, 0, none⟩), .int .i64 0]) ∧ w' = w2.alloc (.cells #[.pointer (some ⟨W, 0, none⟩)] 91) := by
  have HB := hide (show Below w.heap.size w (((w.alloc (.cells #[.int .i64 k, .int .i64 b, .int .i64 x, .int .i64 t, .int .i64 l] 23)).alloc (.cells #[.string sec, .string rnd, .string pub] 25)).alloc (.cells #[.int .i64 p0, .int .i64 p1, .int .i64 p2, .int .i64 p3] 27)) from (((Below.refl _ _).alloc (Nat.le_refl _) _).alloc (by simp) _).alloc (by simp; omega) _)
  have HT := hide (hT.on HB.out)
  have HNW := hide (hC _ HT.out)
  have HN := hide hN
  have HSB := hide (show Blk (((w.alloc (.cells #[.int .i64 k, .int .i64 b, .int .i64 x, .int .i64 t, .int .i64 l] 23)).alloc (.cells #[.string sec, .string rnd, .string pub] 25)).alloc (.cells #[.int .i64 p0, .int .i64 p1, .int .i64 p2, .int .i64 p3] 27)) w.heap.size [.int .i64 k, .int .i64 b, .int .i64 x, .int .i64 t, .int .i64 l] 23 from ((Blk.new w _ _).alloc _).alloc _)
  clear hT hC hN
  go_enter Tryz.func18, Tryz.ntmps18
  go_wp2_with fail
  refine HNW.out.mono ?_
  rintro e w1 ⟨rfl, hb1⟩
  have HB1 := hide ((HB.out.trans (hb1.mono (by simp; omega))).alloc (by have := hb1.size; simp at this; omega) (.cells #[.int .i64 k, .int .i64 b, .int .i64 x, .int .i64 t, .int .i64 l, .string sec, .string rnd, .string pub, .int .i64 p0, .int .i64 p1, .int .i64 p2, .int .i64 p3, .int .i64 ch] 83))
  have HT1 := hide ((HT.out.on hb1).alloc (.cells #[.int .i64 k, .int .i64 b, .int .i64 x, .int .i64 t, .int .i64 l, .string sec, .string rnd, .string pub, .int .i64 p0, .int .i64 p1, .int .i64 p2, .int .i64 p3, .int .i64 ch] 83))
  have hz1 := hb1.size
  simp at hz1
  have HS1 := hide ((HSB.out.on hb1).alloc (.cells #[.int .i64 k, .int .i64 b, .int .i64 x, .int .i64 t, .int .i64 l, .string sec, .string rnd, .string pub, .int .i64 p0, .int .i64 p1, .int .i64 p2, .int .i64 p3, .int .i64 ch] 83))
  have s3 : (w1.alloc (.cells #[.int .i64 k, .int .i64 b, .int .i64 x, .int .i64 t, .int .i64 l, .string sec, .string rnd, .string pub, .int .i64 p0, .int .i64 p1, .int .i64 p2, .int .i64 p3, .int .i64 ch] 83)).cell? ⟨w.heap.size, 3, none⟩ = some (.int .i64 t) := HS1.out.cell 3
  clear hb1
  go_wp2_with fail
  refine (HN.out _ HT1.out).mono ?_
  rintro e w5 ⟨W, rfl, h5, h6⟩
  have H5 := hide h5
  clear h5 h6 s3
  go_wp2_with fail
  go_ret2
  exact ⟨_, W, w5, HB1.out, H5.out, rfl, rfl⟩
end Go.Proofs.YtgaoeoijdpdjiaaGreatDoor
