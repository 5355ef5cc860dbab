/-
  The law Folds answers true.
-/
import Derived.Test.YtgaoeoijdpdjiaaDoorPart48
import Derived.Test.YtgaoeoijdpdjiaaDoorPart46
namespace Go.Proofs.YtgaoeoijdpdjiaaDoor
open Go.RowKit

theorem folds_true (k b x t l : Int) (pub : ByteArray) (p0 p1 p2 p3 : Int) (sp : Option Addr) (n c : Nat) (xs : List ByteArray) (w : World) (hT : Tn w) (h : StrsAt w sp n c xs) (hN : xs.length ≤ 8796093022208) :
    Calls Tryd.prog 8 #[.agg #[.int .i64 k, .int .i64 b, .int .i64 x, .int .i64 t, .int .i64 l], .string pub, .agg #[.int .i64 p0, .int .i64 p1, .int .i64 p2, .int .i64 p3], .slice sp n c] w fun e w' => e = .returned (.bool true) ∧ Below w.heap.size w w' := by
  obtain ⟨cv, er, HT, HR⟩ := foldBoth k b x t l pub p0 p1 p2 p3 xs hN
  have HW := h
  rcases h with ⟨rfl, rfl, rfl, rfl⟩ | ⟨a, rfl, rfl, rfl⟩ | ⟨bk, o, rfl, rfl, _, h4, h5⟩
  · exact folds_nil k b x t l pub p0 p1 p2 p3 cv er w hT (fun V hV => sFold_on k b x t l pub p0 p1 p2 p3 none 0 0 cv er V hV (fun V _ hV => HT V none 0 0 (.inl ⟨rfl, rfl, rfl, rfl⟩) hV)) (fun V _ => HR V none 0 0 (.inl ⟨rfl, rfl, rfl, rfl⟩))
  · exact folds_emp k b x t l pub p0 p1 p2 p3 a c [] cv er w hT rfl (fun V g hV hs => sFold_on k b x t l pub p0 p1 p2 p3 _ _ _ cv er V hV (fun V hb hV => HT V _ _ _ (hs.on hb) hV)) (fun V hb => HR V _ _ _ (HW.on hb))
  · exact folds_some k b x t l pub p0 p1 p2 p3 bk o c xs cv er w hT h5 h4 hN (fun V g hV hs => sFold_on k b x t l pub p0 p1 p2 p3 _ _ _ cv er V hV (fun V hb hV => HT V _ _ _ (hs.on hb) hV)) (fun V hb => HR V _ _ _ (HW.on hb))
theorem climbs_true (k b x t l : Int) (pub y : ByteArray) (p0 p1 p2 p3 : Int) (sp : Option Addr) (n c : Nat) (xs : List ByteArray) (w : World) (hT : Tn w) (h : StrsAt w sp n c xs) (hN : xs.length ≤ 8796093022208) :
    Calls Tryd.prog 9 #[.agg #[.int .i64 k, .int .i64 b, .int .i64 x, .int .i64 t, .int .i64 l], .string pub, .agg #[.int .i64 p0, .int .i64 p1, .int .i64 p2, .int .i64 p3], .string y, .slice sp n c] w fun e w' => e = .returned (.bool true) ∧ Below w.heap.size w w' := by
  obtain ⟨cv, er, HT, HR⟩ := climbBoth k b x t l pub y p0 p1 p2 p3 xs hN
  have HW := h
  rcases h with ⟨rfl, rfl, rfl, rfl⟩ | ⟨a, rfl, rfl, rfl⟩ | ⟨bk, o, rfl, rfl, _, h4, h5⟩
  · exact climbs_nil k b x t l pub y p0 p1 p2 p3 cv er w hT (fun V hV => sClimb_on k b x t l pub y p0 p1 p2 p3 none 0 0 cv er V hV (fun V _ hV => HT V none 0 0 (.inl ⟨rfl, rfl, rfl, rfl⟩) hV)) (fun V _ => HR V none 0 0 (.inl ⟨rfl, rfl, rfl, rfl⟩))
  · exact climbs_emp k b x t l pub y p0 p1 p2 p3 a c [] cv er w hT rfl (fun V g hV hs => sClimb_on k b x t l pub y p0 p1 p2 p3 _ _ _ cv er V hV (fun V hb hV => HT V _ _ _ (hs.on hb) hV)) (fun V hb => HR V _ _ _ (HW.on hb))
  · exact climbs_some k b x t l pub y p0 p1 p2 p3 bk o c xs cv er w hT h5 h4 hN (fun V g hV hs => sClimb_on k b x t l pub y p0 p1 p2 p3 _ _ _ cv er V hV (fun V hb hV => HT V _ _ _ (hs.on hb) hV)) (fun V hb => HR V _ _ _ (HW.on hb))

set_option maxRecDepth 20000 in
set_option maxHeartbeats 4000000 in
theorem foldsLaw_true (k b x t l : Int) (pub y : ByteArray) (p0 p1 p2 p3 : Int) (sp sq : Option Addr) (n c m d : Nat) (xs zs : List ByteArray) (w : World) (hT : Tn w) (h : StrsAt w sp n c xs) (hN : xs.length ≤ 8796093022208) (g : StrsAt w sq m d zs) (gN : zs.length ≤ 8796093022208) :
    Calls Tryd.prog 4 #[.agg #[.int .i64 k, .int .i64 b, .int .i64 x, .int .i64 t, .int .i64 l], .string pub, .agg #[.int .i64 p0, .int .i64 p1, .int .i64 p2, .int .i64 p3], .slice sp n c, .string y, .slice sq m d] w fun e w' => e = .returned (.bool true) ∧ Below w.heap.size w w' := by
  obtain ⟨W0, hW⟩ : ∃ W0, (w.alloc (.cells #[.int .i64 k, .int .i64 b, .int .i64 x, .int .i64 t, .int .i64 l] 25)).alloc (.cells #[.int .i64 p0, .int .i64 p1, .int .i64 p2, .int .i64 p3] 27) = W0 := ⟨_, rfl⟩
  have HF := hide (show FiveC w.heap.size W0 k b x t l by subst hW; refine ⟨?_, ?_, ?_, ?_, ?_⟩ <;> simp [go_sem])
  have HP := hide (show FourC (w.heap.size + 1) W0 p0 p1 p2 p3 by subst hW; refine ⟨?_, ?_, ?_, ?_⟩ <;> simp [go_sem])
  have HB := hide (show Below w.heap.size w W0 by subst hW; exact ((Below.refl _ _).alloc (Nat.le_refl _) _).alloc (by simp) _)
  have hz : W0.heap.size ≤ w.heap.size + 2 := by subst hW; simp
  have hz' : w.heap.size + 2 ≤ W0.heap.size := by subst hW; simp
  have HBU := hide (fun (V : World) (h : Below W0.heap.size W0 V) => HB.out.trans (h.mono (by omega)))
  have HS := hide (fun (V : World) (h : Below W0.heap.size W0 V) => (by
    obtain ⟨c0, c1, c2, c3, c4⟩ := HF.out.below h (by omega)
    obtain ⟨d0, d1, d2, d3⟩ := HP.out.below h (by omega)
    exact ⟨c0, c1, c2, c3, c4, d0, d1, d2, d3⟩ : V.cell? ⟨w.heap.size, 0, none⟩ = some (.int .i64 k) ∧ V.cell? ⟨w.heap.size, 1, none⟩ = some (.int .i64 b) ∧ V.cell? ⟨w.heap.size, 2, none⟩ = some (.int .i64 x) ∧ V.cell? ⟨w.heap.size, 3, none⟩ = some (.int .i64 t) ∧ V.cell? ⟨w.heap.size, 4, none⟩ = some (.int .i64 l) ∧ V.cell? ⟨w.heap.size + 1, 0, none⟩ = some (.int .i64 p0) ∧ V.cell? ⟨w.heap.size + 1, 1, none⟩ = some (.int .i64 p1) ∧ V.cell? ⟨w.heap.size + 1, 2, none⟩ = some (.int .i64 p2) ∧ V.cell? ⟨w.heap.size + 1, 3, none⟩ = some (.int .i64 p3)))
  obtain ⟨c0, c1, c2, c3, c4, d0, d1, d2, d3⟩ := HS.out W0 (Below.refl _ _)
  have HTT := hide (hT.on HB.out)
  have H1 := hide (fun (V : World) (hV : Below w.heap.size w V) (hT : Tn V) => folds_true k b x t l pub p0 p1 p2 p3 sp n c xs V hT (h.on hV) hN)
  have H2 := hide (fun (V : World) (hV : Below w.heap.size w V) (hT : Tn V) => climbs_true k b x t l pub y p0 p1 p2 p3 sq m d zs V hT (g.on hV) gN)
  clear hT h g
  go_enter Tryd.func4, Tryd.ntmps4
  go_wp2_with fail
  try rw [hW]
  clear hW
  refine (H1.out _ HB.out HTT.out).mono ?_
  rintro e w1 ⟨rfl, hb1⟩
  have HB1 := hide (heldB (Below.refl W0.heap.size W0) hb1 (Nat.le_refl _))
  clear hb1 c0 c1 c2 c3 c4 d0 d1 d2 d3
  obtain ⟨c0, c1, c2, c3, c4, d0, d1, d2, d3⟩ := HS.out w1 HB1.out
  go_wp2_with fail
  refine (H2.out _ (HBU.out _ HB1.out) (HTT.out.on HB1.out)).mono ?_
  rintro e w2 ⟨rfl, hb2⟩
  have HB2 := hide (heldB HB1.out hb2 (Nat.le_refl _))
  clear hb2 HB1 c0 c1 c2 c3 c4 d0 d1 d2 d3
  go_wp2
  go_ret
  exact ⟨rfl, HBU.out _ HB2.out⟩
end Go.Proofs.YtgaoeoijdpdjiaaDoor
