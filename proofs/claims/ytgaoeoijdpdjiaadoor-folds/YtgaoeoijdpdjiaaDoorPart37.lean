/-
  The program's Fold, its last cases. A list of texts in memory, and what both sides say of its lengths.
-/
import Derived.Test.YtgaoeoijdpdjiaaDoorPart30
import Derived.Test.YtgaoeoijdpdjiaaDoorPart28
import Derived.Test.YtgaoeoijdpdjiaaDoorPart5
namespace Go.Proofs.YtgaoeoijdpdjiaaDoor
open Go.RowKit

set_option maxRecDepth 20000 in
set_option maxHeartbeats 4000000 in
theorem fT_val (k b x t l a0 a1 ch a3 a4 a5 : Int) (pub : ByteArray) (p0 p1 p2 p3 : Int) (sp : Option Addr) (n c : Nat) (w : World) (hC : ∀ V : World, Calls Tryd.prog 57 #[.agg #[.int .i64 k, .int .i64 b, .int .i64 x, .int .i64 t, .int .i64 l]] V fun e w' => e = .returned (.tuple #[.agg #[.int .i64 a0, .int .i64 a1, .int .i64 ch, .int .i64 a3, .int .i64 a4, .int .i64 a5], .int .i64 0]) ∧ Below V.heap.size V w') (hV : ∀ (V : World) (B : Nat), B = V.heap.size → Calls Tryd.prog 58 #[.agg #[.int .i64 k, .int .i64 b, .int .i64 x, .int .i64 t, .int .i64 l], .slice (some ⟨B, 0, none⟩) 1 1] (V.alloc (.cells #[.string pub] 9)) fun e w' => e = .returned (.bool true) ∧ Below (V.alloc (.cells #[.string pub] 9)).heap.size (V.alloc (.cells #[.string pub] 9)) w') (hI : ∀ V : World, Calls Tryd.prog 59 #[.agg #[.int .i64 k, .int .i64 b, .int .i64 x, .int .i64 t, .int .i64 l], .agg #[.int .i64 p0, .int .i64 p1, .int .i64 p2, .int .i64 p3]] V fun e w' => e = .returned (.bool true) ∧ Below V.heap.size V w') (g3 : ((n : Int) == ch) = true) (hE : ∀ V : World, Below w.heap.size w V → Calls Tryd.prog 58 #[.agg #[.int .i64 k, .int .i64 b, .int .i64 x, .int .i64 t, .int .i64 l], .slice sp n c] V fun e w' => e = .returned (.bool false) ∧ Below V.heap.size V w') :
    Calls Tryd.prog 41 #[.agg #[.int .i64 k, .int .i64 b, .int .i64 x, .int .i64 t, .int .i64 l], .string pub, .agg #[.int .i64 p0, .int .i64 p1, .int .i64 p2, .int .i64 p3], .slice sp n c] w fun e w' => e = .returned (.tuple #[.string ⟨#[]⟩, .int .i64 2]) ∧ Below w.heap.size w w' := by
  obtain ⟨W0, hW⟩ : ∃ W0, (w.alloc (.cells #[.int .i64 k, .int .i64 b, .int .i64 x, .int .i64 t, .int .i64 l] 25)).alloc (.cells #[.int .i64 p0, .int .i64 p1, .int .i64 p2, .int .i64 p3] 27) = W0 := ⟨_, rfl⟩
  have HF := hide (show FiveC w.heap.size W0 k b x t l by subst hW; refine ⟨?_, ?_, ?_, ?_, ?_⟩ <;> simp [go_sem])
  have HP := hide (show FourC (w.heap.size + 1) W0 p0 p1 p2 p3 by subst hW; refine ⟨?_, ?_, ?_, ?_⟩ <;> simp [go_sem])
  have HB := hide (show Below w.heap.size w W0 by subst hW; exact ((Below.refl _ _).alloc (Nat.le_refl _) _).alloc (by simp) _)
  have hz : W0.heap.size ≤ w.heap.size + 2 := by subst hW; simp
  have hz' : w.heap.size + 2 ≤ W0.heap.size := by subst hW; simp
  have HBU := hide (fun (V : World) (h : Below W0.heap.size W0 V) => HB.out.trans (h.mono (by omega)))
  have HS := hide (fun (V : World) (h : Below W0.heap.size W0 V) => (by
    obtain ⟨c0, c1, c2, c3, c4⟩ := HF.out.below h (by omega)
    obtain ⟨d0, d1, d2, d3⟩ := HP.out.below h (by omega)
    exact ⟨c0, c1, c2, c3, c4, d0, d1, d2, d3⟩ : V.cell? ⟨w.heap.size, 0, none⟩ = some (.int .i64 k) ∧ V.cell? ⟨w.heap.size, 1, none⟩ = some (.int .i64 b) ∧ V.cell? ⟨w.heap.size, 2, none⟩ = some (.int .i64 x) ∧ V.cell? ⟨w.heap.size, 3, none⟩ = some (.int .i64 t) ∧ V.cell? ⟨w.heap.size, 4, none⟩ = some (.int .i64 l) ∧ V.cell? ⟨w.heap.size + 1, 0, none⟩ = some (.int .i64 p0) ∧ V.cell? ⟨w.heap.size + 1, 1, none⟩ = some (.int .i64 p1) ∧ V.cell? ⟨w.heap.size + 1, 2, none⟩ = some (.int .i64 p2) ∧ V.cell? ⟨w.heap.size + 1, 3, none⟩ = some (.int .i64 p3)))
  obtain ⟨c0, c1, c2, c3, c4, d0, d1, d2, d3⟩ := HS.out W0 (Below.refl _ _)
  have g3n : ((n : Int) != ch) = false := by rw [bne, g3]; rfl
  have HC := hide hC
  have HV := hide hV
  have HI := hide hI
  have HE := hide hE
  clear hC hV hI hE
  go_enter Tryd.func41, Tryd.ntmps41
  go_wp2_with fail
  try rw [hW]
  refine (HC.out _).mono ?_
  rintro e w1 ⟨rfl, hb1⟩
  have HB1 := hide ((heldB (Below.refl W0.heap.size W0) hb1 (Nat.le_refl _)).alloc (heldB (Below.refl W0.heap.size W0) hb1 (Nat.le_refl _)).size (.cells #[.int .i64 a0, .int .i64 a1, .int .i64 ch, .int .i64 a3, .int .i64 a4, .int .i64 a5] 68))
  have HZ := hide (Blk.new w1 [.int .i64 a0, .int .i64 a1, .int .i64 ch, .int .i64 a3, .int .i64 a4, .int .i64 a5] 68)
  have HD1 := hide (Below.refl (w1.alloc (.cells #[.int .i64 a0, .int .i64 a1, .int .i64 ch, .int .i64 a3, .int .i64 a4, .int .i64 a5] 68)).heap.size (w1.alloc (.cells #[.int .i64 a0, .int .i64 a1, .int .i64 ch, .int .i64 a3, .int .i64 a4, .int .i64 a5] 68)))
  clear hb1 c0 c1 c2 c3 c4 d0 d1 d2 d3 hW
  obtain ⟨c0, c1, c2, c3, c4, d0, d1, d2, d3⟩ := HS.out (w1.alloc (.cells #[.int .i64 a0, .int .i64 a1, .int .i64 ch, .int .i64 a3, .int .i64 a4, .int .i64 a5] 68)) HB1.out
  go_wp2_with fail
  refine (HV.out (w1.alloc (.cells #[.int .i64 a0, .int .i64 a1, .int .i64 ch, .int .i64 a3, .int .i64 a4, .int .i64 a5] 68)) _ (by simp)).mono ?_
  rintro e w2 ⟨rfl, hb2⟩
  have HB2 := hide (heldB (HB1.out.alloc HB1.out.size _) hb2 (Nat.le_refl _))
  have HD2 := hide (heldB (HD1.out.alloc HD1.out.size _) hb2 (Nat.le_refl _))
  clear hb2 c0 c1 c2 c3 c4 d0 d1 d2 d3 HB1
  obtain ⟨c0, c1, c2, c3, c4, d0, d1, d2, d3⟩ := HS.out w2 HB2.out
  have zc := (HZ.out.below HD2.out (by simp)).cell 2
  simp only [List.getElem?_cons_zero, List.getElem?_cons_succ] at zc
  go_wp2_with fail
  refine (HI.out _).mono ?_
  rintro e w3 ⟨rfl, hb3⟩
  have HB3 := hide (heldB HB2.out hb3 (Nat.le_refl _))
  have HD3 := hide (heldB HD2.out hb3 (Nat.le_refl _))
  clear hb3 c0 c1 c2 c3 c4 d0 d1 d2 d3 HB2 zc
  obtain ⟨c0, c1, c2, c3, c4, d0, d1, d2, d3⟩ := HS.out w3 HB3.out
  have zc := (HZ.out.below HD3.out (by simp)).cell 2
  simp only [List.getElem?_cons_zero, List.getElem?_cons_succ] at zc
  go_wp2_with fail
  refine (HE.out _ (HBU.out _ HB3.out)).mono ?_
  rintro e w4 ⟨rfl, hb4⟩
  have HB4 := hide (heldB HB3.out hb4 (Nat.le_refl _))
  have HD4 := hide (heldB HD3.out hb4 (Nat.le_refl _))
  clear hb4 c0 c1 c2 c3 c4 d0 d1 d2 d3 HB3 zc
  go_wp2
  go_ret2
  exact ⟨rfl, HBU.out _ HB4.out⟩

set_option maxRecDepth 20000 in
set_option maxHeartbeats 4000000 in
theorem fT_yes (k b x t l a0 a1 ch a3 a4 a5 : Int) (pub : ByteArray) (p0 p1 p2 p3 : Int) (sp : Option Addr) (n c : Nat) (cv : ByteArray) (w : World) (hC : ∀ V : World, Calls Tryd.prog 57 #[.agg #[.int .i64 k, .int .i64 b, .int .i64 x, .int .i64 t, .int .i64 l]] V fun e w' => e = .returned (.tuple #[.agg #[.int .i64 a0, .int .i64 a1, .int .i64 ch, .int .i64 a3, .int .i64 a4, .int .i64 a5], .int .i64 0]) ∧ Below V.heap.size V w') (hV : ∀ (V : World) (B : Nat), B = V.heap.size → Calls Tryd.prog 58 #[.agg #[.int .i64 k, .int .i64 b, .int .i64 x, .int .i64 t, .int .i64 l], .slice (some ⟨B, 0, none⟩) 1 1] (V.alloc (.cells #[.string pub] 9)) fun e w' => e = .returned (.bool true) ∧ Below (V.alloc (.cells #[.string pub] 9)).heap.size (V.alloc (.cells #[.string pub] 9)) w') (hI : ∀ V : World, Calls Tryd.prog 59 #[.agg #[.int .i64 k, .int .i64 b, .int .i64 x, .int .i64 t, .int .i64 l], .agg #[.int .i64 p0, .int .i64 p1, .int .i64 p2, .int .i64 p3]] V fun e w' => e = .returned (.bool true) ∧ Below V.heap.size V w') (g3 : ((n : Int) == ch) = true) (hE : ∀ V : World, Below w.heap.size w V → Calls Tryd.prog 58 #[.agg #[.int .i64 k, .int .i64 b, .int .i64 x, .int .i64 t, .int .i64 l], .slice sp n c] V fun e w' => e = .returned (.bool true) ∧ Below V.heap.size V w') (hG : ∀ V : World, Below w.heap.size w V → Tn V → Calls Tryd.prog 60 #[.agg #[.int .i64 k, .int .i64 b, .int .i64 x, .int .i64 t, .int .i64 l, .string pub, .int .i64 p0, .int .i64 p1, .int .i64 p2, .int .i64 p3], .slice sp n c] V fun e w' => e = .returned (.string cv) ∧ Below V.heap.size V w') (hT : Tn w) :
    Calls Tryd.prog 41 #[.agg #[.int .i64 k, .int .i64 b, .int .i64 x, .int .i64 t, .int .i64 l], .string pub, .agg #[.int .i64 p0, .int .i64 p1, .int .i64 p2, .int .i64 p3], .slice sp n c] w fun e w' => e = .returned (.tuple #[.string cv, .int .i64 0]) ∧ Below w.heap.size w w' := by
  obtain ⟨W0, hW⟩ : ∃ W0, (w.alloc (.cells #[.int .i64 k, .int .i64 b, .int .i64 x, .int .i64 t, .int .i64 l] 25)).alloc (.cells #[.int .i64 p0, .int .i64 p1, .int .i64 p2, .int .i64 p3] 27) = W0 := ⟨_, rfl⟩
  have HF := hide (show FiveC w.heap.size W0 k b x t l by subst hW; refine ⟨?_, ?_, ?_, ?_, ?_⟩ <;> simp [go_sem])
  have HP := hide (show FourC (w.heap.size + 1) W0 p0 p1 p2 p3 by subst hW; refine ⟨?_, ?_, ?_, ?_⟩ <;> simp [go_sem])
  have HB := hide (show Below w.heap.size w W0 by subst hW; exact ((Below.refl _ _).alloc (Nat.le_refl _) _).alloc (by simp) _)
  have hz : W0.heap.size ≤ w.heap.size + 2 := by subst hW; simp
  have hz' : w.heap.size + 2 ≤ W0.heap.size := by subst hW; simp
  have HBU := hide (fun (V : World) (h : Below W0.heap.size W0 V) => HB.out.trans (h.mono (by omega)))
  have HS := hide (fun (V : World) (h : Below W0.heap.size W0 V) => (by
    obtain ⟨c0, c1, c2, c3, c4⟩ := HF.out.below h (by omega)
    obtain ⟨d0, d1, d2, d3⟩ := HP.out.below h (by omega)
    exact ⟨c0, c1, c2, c3, c4, d0, d1, d2, d3⟩ : V.cell? ⟨w.heap.size, 0, none⟩ = some (.int .i64 k) ∧ V.cell? ⟨w.heap.size, 1, none⟩ = some (.int .i64 b) ∧ V.cell? ⟨w.heap.size, 2, none⟩ = some (.int .i64 x) ∧ V.cell? ⟨w.heap.size, 3, none⟩ = some (.int .i64 t) ∧ V.cell? ⟨w.heap.size, 4, none⟩ = some (.int .i64 l) ∧ V.cell? ⟨w.heap.size + 1, 0, none⟩ = some (.int .i64 p0) ∧ V.cell? ⟨w.heap.size + 1, 1, none⟩ = some (.int .i64 p1) ∧ V.cell? ⟨w.heap.size + 1, 2, none⟩ = some (.int .i64 p2) ∧ V.cell? ⟨w.heap.size + 1, 3, none⟩ = some (.int .i64 p3)))
  obtain ⟨c0, c1, c2, c3, c4, d0, d1, d2, d3⟩ := HS.out W0 (Below.refl _ _)
  have g3n : ((n : Int) != ch) = false := by rw [bne, g3]; rfl
  have HC := hide hC
  have HV := hide hV
  have HI := hide hI
  have HE := hide hE
  have HG := hide hG
  have HTT := hide (hT.on HB.out)
  clear hC hV hI hE hG hT
  go_enter Tryd.func41, Tryd.ntmps41
  go_wp2_with fail
  try rw [hW]
  refine (HC.out _).mono ?_
  rintro e w1 ⟨rfl, hb1⟩
  have HB1 := hide ((heldB (Below.refl W0.heap.size W0) hb1 (Nat.le_refl _)).alloc (heldB (Below.refl W0.heap.size W0) hb1 (Nat.le_refl _)).size (.cells #[.int .i64 a0, .int .i64 a1, .int .i64 ch, .int .i64 a3, .int .i64 a4, .int .i64 a5] 68))
  have HZ := hide (Blk.new w1 [.int .i64 a0, .int .i64 a1, .int .i64 ch, .int .i64 a3, .int .i64 a4, .int .i64 a5] 68)
  have HD1 := hide (Below.refl (w1.alloc (.cells #[.int .i64 a0, .int .i64 a1, .int .i64 ch, .int .i64 a3, .int .i64 a4, .int .i64 a5] 68)).heap.size (w1.alloc (.cells #[.int .i64 a0, .int .i64 a1, .int .i64 ch, .int .i64 a3, .int .i64 a4, .int .i64 a5] 68)))
  clear hb1 c0 c1 c2 c3 c4 d0 d1 d2 d3 hW
  obtain ⟨c0, c1, c2, c3, c4, d0, d1, d2, d3⟩ := HS.out (w1.alloc (.cells #[.int .i64 a0, .int .i64 a1, .int .i64 ch, .int .i64 a3, .int .i64 a4, .int .i64 a5] 68)) HB1.out
  go_wp2_with fail
  refine (HV.out (w1.alloc (.cells #[.int .i64 a0, .int .i64 a1, .int .i64 ch, .int .i64 a3, .int .i64 a4, .int .i64 a5] 68)) _ (by simp)).mono ?_
  rintro e w2 ⟨rfl, hb2⟩
  have HB2 := hide (heldB (HB1.out.alloc HB1.out.size _) hb2 (Nat.le_refl _))
  have HD2 := hide (heldB (HD1.out.alloc HD1.out.size _) hb2 (Nat.le_refl _))
  clear hb2 c0 c1 c2 c3 c4 d0 d1 d2 d3 HB1
  obtain ⟨c0, c1, c2, c3, c4, d0, d1, d2, d3⟩ := HS.out w2 HB2.out
  have zc := (HZ.out.below HD2.out (by simp)).cell 2
  simp only [List.getElem?_cons_zero, List.getElem?_cons_succ] at zc
  go_wp2_with fail
  refine (HI.out _).mono ?_
  rintro e w3 ⟨rfl, hb3⟩
  have HB3 := hide (heldB HB2.out hb3 (Nat.le_refl _))
  have HD3 := hide (heldB HD2.out hb3 (Nat.le_refl _))
  clear hb3 c0 c1 c2 c3 c4 d0 d1 d2 d3 HB2 zc
  obtain ⟨c0, c1, c2, c3, c4, d0, d1, d2, d3⟩ := HS.out w3 HB3.out
  have zc := (HZ.out.below HD3.out (by simp)).cell 2
  simp only [List.getElem?_cons_zero, List.getElem?_cons_succ] at zc
  go_wp2_with fail
  refine (HE.out _ (HBU.out _ HB3.out)).mono ?_
  rintro e w4 ⟨rfl, hb4⟩
  have HB4 := hide (heldB HB3.out hb4 (Nat.le_refl _))
  have HD4 := hide (heldB HD3.out hb4 (Nat.le_refl _))
  clear hb4 c0 c1 c2 c3 c4 d0 d1 d2 d3 HB3 zc
  obtain ⟨c0, c1, c2, c3, c4, d0, d1, d2, d3⟩ := HS.out w4 HB4.out
  have zc := (HZ.out.below HD4.out (by simp)).cell 2
  simp only [List.getElem?_cons_zero, List.getElem?_cons_succ] at zc
  go_wp2_with fail
  refine (HG.out _ (HBU.out _ HB4.out) (HTT.out.on HB4.out)).mono ?_
  rintro e w5 ⟨rfl, hb5⟩
  have HB5 := hide (heldB HB4.out hb5 (Nat.le_refl _))
  have HD5 := hide (heldB HD4.out hb5 (Nat.le_refl _))
  clear hb5 c0 c1 c2 c3 c4 d0 d1 d2 d3 HB4 zc
  go_wp2
  go_ret2
  exact ⟨rfl, HBU.out _ HB5.out⟩

end Go.Proofs.YtgaoeoijdpdjiaaDoor

namespace Go.Proofs.YtgaoeoijdpdjiaaDoor
open Go.RowKit

/-- A list of texts lies in memory: nil, or empty at some place, or from a place on. -/
def StrsAt (w : World) (sp : Option Addr) (n c : Nat) (xs : List ByteArray) : Prop :=
  (sp = none ∧ n = 0 ∧ c = 0 ∧ xs = []) ∨ (∃ a : Addr, sp = some a ∧ n = 0 ∧ xs = []) ∨ ∃ bk o, sp = some ⟨bk, o, none⟩ ∧ n = xs.length ∧ xs.length ≤ c ∧ bk < w.heap.size ∧ ∀ (j : Nat) y, xs[j]? = some y → w.cell? ⟨bk, o + j, none⟩ = some (.string y)
theorem StrsAt.len {w : World} {sp : Option Addr} {n c : Nat} {xs : List ByteArray} (h : StrsAt w sp n c xs) : n = xs.length := by
  rcases h with ⟨_, rfl, _, rfl⟩ | ⟨_, _, rfl, rfl⟩ | ⟨_, _, _, h, _⟩
  · rfl
  · rfl
  · exact h
theorem StrsAt.on {w V : World} {sp : Option Addr} {n c : Nat} {xs : List ByteArray} (h : StrsAt w sp n c xs) (hb : Below w.heap.size w V) : StrsAt V sp n c xs := by
  rcases h with h | h | ⟨bk, o, h1, h2, h3, h4, h5⟩
  · exact .inl h
  · exact .inr (.inl h)
  · exact .inr (.inr ⟨bk, o, h1, h2, h3, Nat.lt_of_lt_of_le h4 hb.size, fun j y hj => (hb.cell (p := ⟨bk, o + j, none⟩) h4).trans (h5 j y hj)⟩)
theorem vals_any (k b x t l : Int) (sp : Option Addr) (n c : Nat) (xs : List ByteArray) (w : World) (h : StrsAt w sp n c xs) (hN : xs.length ≤ 8796093022208) :
    Calls Tryd.prog 58 #[.agg #[.int .i64 k, .int .i64 b, .int .i64 x, .int .i64 t, .int .i64 l], .slice sp n c] w fun e w' => e = .returned (.bool (allLen b xs)) ∧ Below w.heap.size w w' := by
  rcases h with ⟨rfl, rfl, rfl, rfl⟩ | ⟨a, rfl, rfl, rfl⟩ | ⟨bk, o, rfl, rfl, _, h4, h5⟩
  · exact valuesRight_nil k b x t l w
  · exact valuesRight_emp k b x t l a c w
  · exact valuesRight_some k b x t l bk o c xs w h5 h4 (by omega)
theorem values1 (k b x t l : Int) (pub : ByteArray) (V : World) (B : Nat) (hB : B = V.heap.size) : Calls Tryd.prog 58 #[.agg #[.int .i64 k, .int .i64 b, .int .i64 x, .int .i64 t, .int .i64 l], .slice (some ⟨B, 0, none⟩) 1 1] (V.alloc (.cells #[.string pub] 9)) fun e w' => e = .returned (.bool ((pub.size : Int) == b)) ∧ Below (V.alloc (.cells #[.string pub] 9)).heap.size (V.alloc (.cells #[.string pub] 9)) w' := by
  subst hB
  rw [show ((pub.size : Int) == b) = allLen b [pub] by simp [allLen, Bool.beq_eq_decide_eq]]
  exact valuesRight_some k b x t l V.heap.size 0 1 [pub] (V.alloc (.cells #[.string pub] 9)) (by
    intro j y hj
    match j, hj with
    | 0, hj => simp at hj; subst hj; simp [go_sem]) (by simp) (by simp)
theorem values2B (k b x t l : Int) (pub y : ByteArray) (V : World) (B : Nat) (hB : B = V.heap.size) : Calls Tryd.prog 58 #[.agg #[.int .i64 k, .int .i64 b, .int .i64 x, .int .i64 t, .int .i64 l], .slice (some ⟨B, 0, none⟩) 2 2] (V.alloc (.cells #[.string pub, .string y] 9)) fun e w' => e = .returned (.bool ((pub.size : Int) == b && (y.size : Int) == b)) ∧ Below (V.alloc (.cells #[.string pub, .string y] 9)).heap.size (V.alloc (.cells #[.string pub, .string y] 9)) w' := by
  subst hB
  rw [show ((pub.size : Int) == b && (y.size : Int) == b) = allLen b [pub, y] by simp [allLen, Bool.beq_eq_decide_eq]]
  exact valuesRight_some k b x t l V.heap.size 0 2 [pub, y] (V.alloc (.cells #[.string pub, .string y] 9)) (by
    intro j y hj
    match j, hj with
    | 0, hj => simp at hj; subst hj; simp [go_sem]
    | 1, hj => simp at hj; subst hj; simp [go_sem]) (by simp) (by simp)
end Go.Proofs.YtgaoeoijdpdjiaaDoor
