/-
  The program's Sign, its calls' answers being given.
-/
import Derived.Test.YtgaoeoijdpdjiabGreatDoorPart28
import Derived.Test.YtgaoeoijdpdjiabGreatDoorPart32
import Derived.Test.YtgaoeoijdpdjiabGreatDoorPart26
import Derived.Test.YtgaoeoijdpdjiabGreatDoorPart21
import Derived.Test.YtgaoeoijdpdjiabGreatDoorPart23
namespace Go.Proofs.YtgaoeoijdpdjiabGreatDoor
open Go.RowKit
/-- A signature's parts, behind q layers. -/
def psQ (vs ph : Nat → List ByteArray) : Nat → List ByteArray
  | 0 => []
  | q + 1 => psQ vs ph q ++ vs q ++ ph q
theorem psQ_length (vs ph : Nat → List ByteArray) (ch t : Nat) (h1 : ∀ q, (vs q).length = ch) (h2 : ∀ q, (ph q).length = t) : ∀ q, (psQ vs ph q).length = q * (ch + t)
  | 0 => by simp [psQ]
  | q + 1 => by rw [psQ, List.length_append, List.length_append, psQ_length vs ph ch t h1 h2 q, h1, h2, Nat.add_mul, Nat.one_mul, Nat.add_assoc]
/-- The parts lie in memory, beyond a block. -/
def PartsAt (w : World) (P : Nat) (sp : Option Addr) (n c : Nat) (xs : List ByteArray) : Prop :=
  (sp = none ∧ n = 0 ∧ c = 0 ∧ xs = []) ∨ ∃ g, sp = some ⟨g, 0, none⟩ ∧ P < g ∧ g < w.heap.size ∧ n = xs.length ∧ n ≤ c ∧ ∀ (j : Nat) y, xs[j]? = some y → w.cell? ⟨g, j, none⟩ = some (.string y)
theorem PartsAt.on {w V : World} {P : Nat} {sp : Option Addr} {n c : Nat} {xs : List ByteArray} (h : PartsAt w P sp n c xs) (hb : Below w.heap.size w V) : PartsAt V P sp n c xs := by
  rcases h with h | ⟨g, h1, h2, h3, h4, h5, h6⟩
  · exact .inl h
  · exact .inr ⟨g, h1, h2, Nat.lt_of_lt_of_le h3 hb.size, h4, h5, fun j y hj => (hb.cell (p := ⟨g, j, none⟩) h3).trans (h6 j y hj)⟩
set_option maxRecDepth 20000 in
set_option maxHeartbeats 16000000 in
theorem sign_on (k : Int) (b x t l ch idx : Nat) (root sec rnd pub msg RV sig : ByteArray) (M : Nat → ByteArray) (Q1 Q2 : Nat → Nat) (DL : Nat → List Nat) (vs ph : Nat → List ByteArray) (w : World) (hT : Tn w) (hl1 : 1 ≤ l) (hl : l ≤ 3) (hc1 : 1 ≤ ch) (hc2 : ch ≤ 40) (ht : t ≤ 4) (hvs : ∀ q, (vs q).length = ch) (hph : ∀ q, (ph q).length = t)
    (hVa : ∀ (V : World), Tn V → Calls Tryz.prog 248 #[.agg #[.int .i64 k, .int .i64 b, .int .i64 x, .int .i64 t, .int .i64 l], .int .i64 5, .slice (some ⟨V.heap.size, 0, none⟩) 2 2] (V.alloc (.cells #[.string rnd, .string (numB 4 idx)] 9)) fun e w' => e = .returned (.string RV) ∧ Below (V.alloc (.cells #[.string rnd, .string (numB 4 idx)] 9)).heap.size (V.alloc (.cells #[.string rnd, .string (numB 4 idx)] 9)) w')
    (hMx : ∀ V : World, Tn V → Calls Tryz.prog 239 #[.agg #[.int .i64 k, .int .i64 b, .int .i64 x, .int .i64 t, .int .i64 l, .string root, .string pub], .agg #[.int .i64 idx, .string RV, .slice none 0 0], .string msg] V fun e w' => e = .returned (.string (M 0)) ∧ Below V.heap.size V w')
    (hSg : ∀ q : Nat, q < l → ∀ V : World, Calls Tryz.prog 240 #[.agg #[.int .i64 k, .int .i64 b, .int .i64 x, .int .i64 t, .int .i64 l], .int .i64 idx, .int .i64 q] V fun e w' => e = .returned (.agg #[.int .i64 q, .int .i64 (Q1 q : Nat), .int .i64 (Q2 q : Nat), .int .i64 0]) ∧ Below V.heap.size V w')
    (hNw : ∀ q : Nat, q < l → ∀ V : World, Calls Tryz.prog 208 #[.agg #[.int .i64 k, .int .i64 b, .int .i64 x, .int .i64 t, .int .i64 l], .agg #[.string sec, .string rnd, .string pub], .agg #[.int .i64 q, .int .i64 (Q1 q : Nat), .int .i64 0, .int .i64 0]] V fun e w' => e = .returned (.tuple #[.agg #[.int .i64 k, .int .i64 b, .int .i64 x, .int .i64 t, .int .i64 l, .string sec, .string rnd, .string pub, .int .i64 q, .int .i64 (Q1 q : Nat), .int .i64 0, .int .i64 0, .int .i64 ch], .int .i64 0]) ∧ Below V.heap.size V w')
    (hDg : ∀ q : Nat, q < l → ∀ V : World, Calls Tryz.prog 241 #[.agg #[.int .i64 k, .int .i64 b, .int .i64 x, .int .i64 t, .int .i64 l], .string (M q)] V fun r w' => ∃ g, r = .returned (.tuple #[.slice (some ⟨g, 0, none⟩) ch ch, .int .i64 0]) ∧ V.heap.size ≤ g ∧ RowZ w' g ((DL q).map Int.ofNat) ∧ Below V.heap.size V w')
    (hRv : ∀ q : Nat, q < l → ∀ (V : World) (g : Nat), Tn V → RowZ V g ((DL q).map Int.ofNat) → Calls Tryz.prog 249 #[.agg #[.int .i64 k, .int .i64 b, .int .i64 x, .int .i64 t, .int .i64 l, .string sec, .string rnd, .string pub, .int .i64 q, .int .i64 (Q1 q : Nat), .int .i64 0, .int .i64 0, .int .i64 ch], .int .i64 (Q2 q : Nat), .slice (some ⟨g, 0, none⟩) ch ch] V fun e w' => ∃ gv, e = .returned (.slice (some ⟨gv, 0, none⟩) ch ch) ∧ V.heap.size ≤ gv ∧ Blk w' gv ((vs q).map Value.string) 9 ∧ Below V.heap.size V w')
    (hPa : ∀ q : Nat, q < l → ∀ V : World, Tn V → Calls Tryz.prog 250 #[.agg #[.int .i64 k, .int .i64 b, .int .i64 x, .int .i64 t, .int .i64 l, .string sec, .string rnd, .string pub, .int .i64 q, .int .i64 (Q1 q : Nat), .int .i64 0, .int .i64 0, .int .i64 ch], .int .i64 (Q2 q : Nat)] V fun e w' => ∃ gp, e = .returned (.slice (some ⟨gp, 0, none⟩) t t) ∧ V.heap.size ≤ gp ∧ Blk w' gp ((ph q).map Value.string) 9 ∧ Below V.heap.size V w')
    (hRB : ∀ q : Nat, q < l → ∀ (V : World) (gd gv gp : Nat), Tn V → RowZ V gd ((DL q).map Int.ofNat) → Blk V gv ((vs q).map Value.string) 9 → Blk V gp ((ph q).map Value.string) 9 → Calls Tryz.prog 242 #[.agg #[.int .i64 k, .int .i64 b, .int .i64 x, .int .i64 t, .int .i64 l], .string pub, .agg #[.int .i64 q, .int .i64 (Q1 q : Nat), .int .i64 (Q2 q : Nat), .int .i64 0], .slice (some ⟨gd, 0, none⟩) ch ch, .slice (some ⟨gv, 0, none⟩) ch ch, .slice (some ⟨gp, 0, none⟩) t t] V fun e w' => e = .returned (.string (M (q + 1))) ∧ Below V.heap.size V w')
    (hJ : ∀ (V : World) (g c : Nat), g < V.heap.size → (psQ vs ph l).length ≤ c → (∀ (j : Nat) y, (psQ vs ph l)[j]? = some y → V.cell? ⟨g, j, none⟩ = some (.string y)) → Calls Tryz.prog 85 #[.agg #[.int .i64 k, .int .i64 b, .int .i64 x, .int .i64 t, .int .i64 l], .agg #[.int .i64 idx, .string RV, .slice (some ⟨g, 0, none⟩) (psQ vs ph l).length c]] V fun e w' => e = .returned (.tuple #[.string sig, .int .i64 0]) ∧ Below V.heap.size V w') :
    Calls Tryz.prog 171 #[.agg #[.int .i64 k, .int .i64 b, .int .i64 x, .int .i64 t, .int .i64 l, .string root, .string pub], .agg #[.string sec, .string rnd, .string pub], .int .i64 idx, .string msg] w fun e w' => e = .returned (.string sig) ∧ Below w.heap.size w w' := by
  have HVA := hide hVa
  have HMX := hide hMx
  have HSG := hide hSg
  have HNW := hide hNw
  have HDG := hide hDg
  have HRV := hide hRv
  have HPA := hide hPa
  have HRB := hide hRB
  have HJ := hide hJ
  have HNU := hide (fun V : World => number_any 4 (idx : Int) V (by decide))
  have HPL := hide (psQ_length vs ph ch t hvs hph)
  have HVL := hide hvs
  have HPH := hide hph
  have hlE : l * (ch + t) ≤ 3 * 44 := Nat.mul_le_mul hl (by omega)
  clear hVa hMx hSg hNw hDg hRv hPa hRB hJ hvs hph
  generalize numB 4 (idx : Int) = nb at HVA HNU
  obtain ⟨W0, hW⟩ : ∃ W0, (w.alloc (.cells #[.int .i64 k, .int .i64 b, .int .i64 x, .int .i64 t, .int .i64 l, .string root, .string pub] 184)).alloc (.cells #[.string sec, .string rnd, .string pub] 42) = W0 := ⟨_, rfl⟩
  have HK := hide (show Blk W0 w.heap.size [.int .i64 k, .int .i64 b, .int .i64 x, .int .i64 t, .int .i64 l, .string root, .string pub] 184 by rw [← hW]; exact (Blk.new w _ _).alloc _)
  have HE := hide (show Blk W0 (w.heap.size + 1) [.string sec, .string rnd, .string pub] 42 by
    rw [← hW]
    have h := Blk.new (w.alloc (.cells #[.int .i64 k, .int .i64 b, .int .i64 x, .int .i64 t, .int .i64 l, .string root, .string pub] 184)) [.string sec, .string rnd, .string pub] 42
    simp only [World.size_alloc] at h
    exact h)
  have HB := hide (show Below w.heap.size w W0 by subst hW; exact ((Below.refl _ _).alloc (Nat.le_refl _) _).alloc (by simp) _)
  have HTW := hide (hT.on HB.out)
  have HS := hide (fun (V : World) (h : Below W0.heap.size W0 V) => (by
    have q1 := HK.out.on h
    have q2 := HE.out.on h
    exact ⟨q1.cell 0, q1.cell 1, q1.cell 2, q1.cell 3, q1.cell 4, q1.cell 5, q1.cell 6, q2.cell 0, q2.cell 1, q2.cell 2⟩ : V.cell? ⟨w.heap.size, 0, none⟩ = some (.int .i64 k) ∧ V.cell? ⟨w.heap.size, 1, none⟩ = some (.int .i64 b) ∧ V.cell? ⟨w.heap.size, 2, none⟩ = some (.int .i64 x) ∧ V.cell? ⟨w.heap.size, 3, none⟩ = some (.int .i64 t) ∧ V.cell? ⟨w.heap.size, 4, none⟩ = some (.int .i64 l) ∧ V.cell? ⟨w.heap.size, 5, none⟩ = some (.string root) ∧ V.cell? ⟨w.heap.size, 6, none⟩ = some (.string pub) ∧ V.cell? ⟨w.heap.size + 1, 0, none⟩ = some (.string sec) ∧ V.cell? ⟨w.heap.size + 1, 1, none⟩ = some (.string rnd) ∧ V.cell? ⟨w.heap.size + 1, 2, none⟩ = some (.string pub)))
  have HWE := hide hW
  clear hW hT
  go_enter Tryz.func171, Tryz.ntmps171
  go_wp2_with fail
  rw [HWE.out]
  go_region_held3 (fun V => V.cell? ⟨w.heap.size, 0, none⟩ = some (.int .i64 k) ∧ V.cell? ⟨w.heap.size, 1, none⟩ = some (.int .i64 b) ∧ V.cell? ⟨w.heap.size, 2, none⟩ = some (.int .i64 x) ∧ V.cell? ⟨w.heap.size, 3, none⟩ = some (.int .i64 t) ∧ V.cell? ⟨w.heap.size, 4, none⟩ = some (.int .i64 l) ∧ V.cell? ⟨w.heap.size, 5, none⟩ = some (.string root) ∧ V.cell? ⟨w.heap.size, 6, none⟩ = some (.string pub) ∧ V.cell? ⟨w.heap.size + 1, 0, none⟩ = some (.string sec) ∧ V.cell? ⟨w.heap.size + 1, 1, none⟩ = some (.string rnd) ∧ V.cell? ⟨w.heap.size + 1, 2, none⟩ = some (.string pub)) (first | exact HS.out _ hS4 | exact HS.out _ (hS1.alloc hS1.size _) | exact HS.out _ hS1 | exact HS.out _ (Below.refl W0.heap.size W0).drew) (first | (go_at_call 160; refine (HNU.out _).mono ?_; rintro e w1 ⟨rfl, hb1⟩; have hS1 := heldB (Below.refl W0.heap.size W0).drew hb1 (Nat.le_refl _)) | (go_at_call 248; refine (HVA.out _ (HTW.out.on hS1)).mono ?_; rintro e w4 ⟨rfl, hb4⟩; have hS4 := heldB (hS1.alloc hS1.size _) hb4 (Nat.le_refl _)))
  have HB4 := hide hS4
  clear hS1 hS4 hb1 hb4 HWE
  have HSA := hide (fun (V : World) (h : Below w4.heap.size w4 V) => HS.out V (heldB HB4.out h (Nat.le_refl _)))
  have HTA := hide (fun (V : World) (h : Below w4.heap.size w4 V) => HTW.out.on (heldB HB4.out h (Nat.le_refl _)))
  have HP5 := hide (Blk.new w4 [.int .i64 idx, .string RV, .slice none 0 0] 29)
  have HB5 := hide ((Below.refl w4.heap.size w4).alloc (Nat.le_refl _) (.cells #[.int .i64 idx, .string RV, .slice none 0 0] 29))
  obtain ⟨W5, hW5⟩ : ∃ W5, w4.alloc (.cells #[.int .i64 idx, .string RV, .slice none 0 0] 29) = W5 := ⟨_, rfl⟩
  rw [hW5] at HP5 HB5
  have HW5 := hide hW5
  clear hW5
  have cA : ∀ o : Obj, ((w4.alloc o).cell? ⟨w.heap.size, 0, none⟩ = some (.int .i64 k) ∧ (w4.alloc o).cell? ⟨w.heap.size, 1, none⟩ = some (.int .i64 b) ∧ (w4.alloc o).cell? ⟨w.heap.size, 2, none⟩ = some (.int .i64 x) ∧ (w4.alloc o).cell? ⟨w.heap.size, 3, none⟩ = some (.int .i64 t) ∧ (w4.alloc o).cell? ⟨w.heap.size, 4, none⟩ = some (.int .i64 l) ∧ (w4.alloc o).cell? ⟨w.heap.size, 5, none⟩ = some (.string root) ∧ (w4.alloc o).cell? ⟨w.heap.size, 6, none⟩ = some (.string pub) ∧ (w4.alloc o).cell? ⟨w.heap.size + 1, 0, none⟩ = some (.string sec) ∧ (w4.alloc o).cell? ⟨w.heap.size + 1, 1, none⟩ = some (.string rnd) ∧ (w4.alloc o).cell? ⟨w.heap.size + 1, 2, none⟩ = some (.string pub)) := fun o => HSA.out (w4.alloc o) ((Below.refl w4.heap.size w4).alloc (Nat.le_refl _) o)
  have a0 := fun o => (cA o).1
  have a1 := fun o => (cA o).2.1
  have a2 := fun o => (cA o).2.2.1
  have a3 := fun o => (cA o).2.2.2.1
  have a4 := fun o => (cA o).2.2.2.2.1
  have a5 := fun o => (cA o).2.2.2.2.2.1
  have a6 := fun o => (cA o).2.2.2.2.2.2.1
  clear cA
  go_wp2_with fail
  rw [HW5.out]
  refine (HMX.out _ (HTA.out W5 HB5.out)).mono ?_
  rintro e w6 ⟨rfl, hb6⟩
  have HB6 := hide (heldN HB5.out hb6 (Nat.le_refl _))
  have HP6 := hide (HP5.out.on hb6)
  clear hb6 HW5 a0 a1 a2 a3 a4 a5 a6 HP5 HB5
  obtain ⟨c0, c1, c2, c3, c4, c5, c6, s0, s1, s2⟩ := HSA.out w6 HB6.out
  go_wp2_with fail
  clear c0 c1 c2 c3 c4 c5 c6 s0 s1 s2
  go_loopw [11, 40] (fun u i wr => ∃ (q : Nat) (sp : Option Addr) (n c : Nat), q ≤ l ∧ i = .int .i64 q ∧ u = .string (M q) ∧ Hid (Blk wr w4.heap.size [.int .i64 idx, .string RV, .slice sp n c] 29) ∧ Hid (PartsAt wr w4.heap.size sp n c (psQ vs ph q)) ∧ Hid (Below w4.heap.size w4 wr)) (fun _ i _ => l - (intOf i).toNat)
  case atStart => exact ⟨0, none, 0, 0, Nat.zero_le _, rfl, rfl, HP6.out, .inl ⟨rfl, rfl, rfl, rfl⟩, HB6.out⟩
  case round =>
    obtain ⟨q, sp, n, c, hq, rfl, rfl, hp, hpt, hb⟩ := hrel
    obtain ⟨c0, c1, c2, c3, c4, c5, c6, s0, s1, s2⟩ := HSA.out wr hb.out
    by_cases hlt : q < l
    · have HSG1 := hide (HSG.out q hlt)
      have HNW1 := hide (HNW.out q hlt)
      have HDG1 := hide (HDG.out q hlt)
      have HRV1 := hide (HRV.out q hlt)
      have HPA1 := hide (HPA.out q hlt)
      have HRB1 := hide (HRB.out q hlt)
      have HVL1 := hide (HVL.out q)
      have HPH1 := hide (HPH.out q)
      have HPS : Hid (psQ vs ph (q + 1) = psQ vs ph q ++ vs q ++ ph q) := rfl
      have HPN := hide (HPL.out q)
      have hqE : q * (ch + t) ≤ 3 * 44 := Nat.le_trans (Nat.mul_le_mul_right _ (Nat.le_of_lt hlt)) hlE
      generalize (Q1 q : Nat) = Q1 at HSG1 HNW1 HRV1 HPA1 HRB1
      generalize (Q2 q : Nat) = Q2 at HSG1 HRV1 HPA1 HRB1
      generalize DL q = ds at HDG1 HRV1 HRB1
      generalize vs q = vq at HRV1 HRB1 HVL1 HPS
      generalize ph q = pq at HPA1 HRB1 HPH1 HPS
      have hql : (q : Int) < (l : Int) := by omega
      go_wp2_with fail
      refine (HSG1.out _).mono ?_
      rintro e w7 ⟨rfl, hb7⟩
      have HB7 := hide (heldN hb.out hb7 (Nat.le_refl _))
      have HP7 := hide (hp.out.on hb7)
      have HX7 := hide (hpt.out.on hb7)
      clear hb7 c0 c1 c2 c3 c4 c5 c6 s0 s1 s2 hb hp hpt
      have HB8 := hide (HB7.out.alloc HB7.out.size (.cells #[.int .i64 q, .int .i64 Q1, .int .i64 Q2, .int .i64 0] 91))
      have HP8 := hide (HP7.out.alloc (.cells #[.int .i64 q, .int .i64 Q1, .int .i64 Q2, .int .i64 0] 91))
      have HX8 := hide (HX7.out.on ((Below.refl w7.heap.size w7).alloc (Nat.le_refl _) (.cells #[.int .i64 q, .int .i64 Q1, .int .i64 Q2, .int .i64 0] 91)))
      have HNA7 : Hid (w7.heap.size ≠ w4.heap.size) := by have := HP7.out.lt; show _ ≠ _; omega
      have HPB : Hid (w4.heap.size < w7.heap.size) := HP7.out.lt
      have HA8 := hide (Blk.new w7 [.int .i64 q, .int .i64 Q1, .int .i64 Q2, .int .i64 0] 91)
      obtain ⟨W8, hW8⟩ : ∃ W8, w7.alloc (.cells #[.int .i64 q, .int .i64 Q1, .int .i64 Q2, .int .i64 0] 91) = W8 := ⟨_, rfl⟩
      rw [hW8] at HB8 HP8 HX8 HA8
      have HW8 := hide hW8
      clear hW8
      have cA : ∀ o : Obj, ((w7.alloc o).cell? ⟨w.heap.size, 0, none⟩ = some (.int .i64 k) ∧ (w7.alloc o).cell? ⟨w.heap.size, 1, none⟩ = some (.int .i64 b) ∧ (w7.alloc o).cell? ⟨w.heap.size, 2, none⟩ = some (.int .i64 x) ∧ (w7.alloc o).cell? ⟨w.heap.size, 3, none⟩ = some (.int .i64 t) ∧ (w7.alloc o).cell? ⟨w.heap.size, 4, none⟩ = some (.int .i64 l) ∧ (w7.alloc o).cell? ⟨w.heap.size, 5, none⟩ = some (.string root) ∧ (w7.alloc o).cell? ⟨w.heap.size, 6, none⟩ = some (.string pub) ∧ (w7.alloc o).cell? ⟨w.heap.size + 1, 0, none⟩ = some (.string sec) ∧ (w7.alloc o).cell? ⟨w.heap.size + 1, 1, none⟩ = some (.string rnd) ∧ (w7.alloc o).cell? ⟨w.heap.size + 1, 2, none⟩ = some (.string pub)) := fun o => HSA.out (w7.alloc o) (HB7.out.alloc HB7.out.size o)
      have a0 := fun o => (cA o).1
      have a1 := fun o => (cA o).2.1
      have a2 := fun o => (cA o).2.2.1
      have a3 := fun o => (cA o).2.2.2.1
      have a4 := fun o => (cA o).2.2.2.2.1
      have a7 := fun o => (cA o).2.2.2.2.2.2.2.1
      have a8 := fun o => (cA o).2.2.2.2.2.2.2.2.1
      have a9 := fun o => (cA o).2.2.2.2.2.2.2.2.2
      clear cA
      go_wp2_with fail
      rw [HW8.out]
      refine (HNW1.out _).mono ?_
      rintro e w9 ⟨rfl, hb9⟩
      have HB9 := hide (heldN HB8.out hb9 (Nat.le_refl _))
      have HP9 := hide (HP8.out.on hb9)
      have HX9 := hide (HX8.out.on hb9)
      have HA9 := hide (HA8.out.on hb9)
      clear hb9 a0 a1 a2 a3 a4 a7 a8 a9 HW8 HB8 HP8 HX8 HA8 HB7 HP7 HX7
      have HB10 := hide (HB9.out.alloc HB9.out.size (.cells #[.int .i64 k, .int .i64 b, .int .i64 x, .int .i64 t, .int .i64 l, .string sec, .string rnd, .string pub, .int .i64 q, .int .i64 Q1, .int .i64 0, .int .i64 0, .int .i64 ch] 274))
      have HP10 := hide (HP9.out.alloc (.cells #[.int .i64 k, .int .i64 b, .int .i64 x, .int .i64 t, .int .i64 l, .string sec, .string rnd, .string pub, .int .i64 q, .int .i64 Q1, .int .i64 0, .int .i64 0, .int .i64 ch] 274))
      have HX10 := hide (HX9.out.on ((Below.refl w9.heap.size w9).alloc (Nat.le_refl _) (.cells #[.int .i64 k, .int .i64 b, .int .i64 x, .int .i64 t, .int .i64 l, .string sec, .string rnd, .string pub, .int .i64 q, .int .i64 Q1, .int .i64 0, .int .i64 0, .int .i64 ch] 274)))
      have HA10 := hide (HA9.out.alloc (.cells #[.int .i64 k, .int .i64 b, .int .i64 x, .int .i64 t, .int .i64 l, .string sec, .string rnd, .string pub, .int .i64 q, .int .i64 Q1, .int .i64 0, .int .i64 0, .int .i64 ch] 274))
      have HT10 := hide (Blk.new w9 [.int .i64 k, .int .i64 b, .int .i64 x, .int .i64 t, .int .i64 l, .string sec, .string rnd, .string pub, .int .i64 q, .int .i64 Q1, .int .i64 0, .int .i64 0, .int .i64 ch] 274)
      obtain ⟨W10, hW10⟩ : ∃ W10, w9.alloc (.cells #[.int .i64 k, .int .i64 b, .int .i64 x, .int .i64 t, .int .i64 l, .string sec, .string rnd, .string pub, .int .i64 q, .int .i64 Q1, .int .i64 0, .int .i64 0, .int .i64 ch] 274) = W10 := ⟨_, rfl⟩
      rw [hW10] at HB10 HP10 HX10 HA10 HT10
      have HW10 := hide hW10
      clear hW10
      have cA : ∀ o : Obj, ((w9.alloc o).cell? ⟨w.heap.size, 0, none⟩ = some (.int .i64 k) ∧ (w9.alloc o).cell? ⟨w.heap.size, 1, none⟩ = some (.int .i64 b) ∧ (w9.alloc o).cell? ⟨w.heap.size, 2, none⟩ = some (.int .i64 x) ∧ (w9.alloc o).cell? ⟨w.heap.size, 3, none⟩ = some (.int .i64 t) ∧ (w9.alloc o).cell? ⟨w.heap.size, 4, none⟩ = some (.int .i64 l) ∧ (w9.alloc o).cell? ⟨w.heap.size, 5, none⟩ = some (.string root) ∧ (w9.alloc o).cell? ⟨w.heap.size, 6, none⟩ = some (.string pub) ∧ (w9.alloc o).cell? ⟨w.heap.size + 1, 0, none⟩ = some (.string sec) ∧ (w9.alloc o).cell? ⟨w.heap.size + 1, 1, none⟩ = some (.string rnd) ∧ (w9.alloc o).cell? ⟨w.heap.size + 1, 2, none⟩ = some (.string pub)) := fun o => HSA.out (w9.alloc o) (HB9.out.alloc HB9.out.size o)
      have a0 := fun o => (cA o).1
      have a1 := fun o => (cA o).2.1
      have a2 := fun o => (cA o).2.2.1
      have a3 := fun o => (cA o).2.2.2.1
      have a4 := fun o => (cA o).2.2.2.2.1
      clear cA
      go_wp2_with fail
      rw [HW10.out]
      refine (HDG1.out _).mono ?_
      rintro e w11 ⟨gD, rfl, hgD, hrow, hb11⟩
      have HNR : Hid (gD ≠ w4.heap.size) := by have := HP10.out.lt; show _ ≠ _; omega
      have HPB : Hid (w4.heap.size < w11.heap.size) := Nat.lt_of_lt_of_le HP10.out.lt hb11.size
      clear hgD
      have HB11 := hide (heldN HB10.out hb11 (Nat.le_refl _))
      have HP11 := hide (HP10.out.on hb11)
      have HX11 := hide (HX10.out.on hb11)
      have HA11 := hide (HA10.out.on hb11)
      have HT11 := hide (HT10.out.on hb11)
      have HR11 := hide hrow
      clear hb11 hrow a0 a1 a2 a3 a4 HW10 HB10 HP10 HX10 HA10 HT10 HB9 HP9 HX9 HA9
      have HST := hide (fun (V : World) (h : Below w11.heap.size w11 V) => (by
        have q1 := HT11.out.on h
        exact ⟨q1.cell 0, q1.cell 1, q1.cell 2, q1.cell 3, q1.cell 4, q1.cell 5, q1.cell 6, q1.cell 7, q1.cell 8, q1.cell 9, q1.cell 10, q1.cell 11, q1.cell 12, (HA11.out.on h).cell 2⟩ : V.cell? ⟨w9.heap.size, 0, none⟩ = some (.int .i64 k) ∧ V.cell? ⟨w9.heap.size, 1, none⟩ = some (.int .i64 b) ∧ V.cell? ⟨w9.heap.size, 2, none⟩ = some (.int .i64 x) ∧ V.cell? ⟨w9.heap.size, 3, none⟩ = some (.int .i64 t) ∧ V.cell? ⟨w9.heap.size, 4, none⟩ = some (.int .i64 l) ∧ V.cell? ⟨w9.heap.size, 5, none⟩ = some (.string sec) ∧ V.cell? ⟨w9.heap.size, 6, none⟩ = some (.string rnd) ∧ V.cell? ⟨w9.heap.size, 7, none⟩ = some (.string pub) ∧ V.cell? ⟨w9.heap.size, 8, none⟩ = some (.int .i64 q) ∧ V.cell? ⟨w9.heap.size, 9, none⟩ = some (.int .i64 Q1) ∧ V.cell? ⟨w9.heap.size, 10, none⟩ = some (.int .i64 0) ∧ V.cell? ⟨w9.heap.size, 11, none⟩ = some (.int .i64 0) ∧ V.cell? ⟨w9.heap.size, 12, none⟩ = some (.int .i64 ch) ∧ V.cell? ⟨w7.heap.size, 2, none⟩ = some (.int .i64 Q2)))
      have hS := (Below.refl w11.heap.size w11).drew
      go_wp2_with fail
      go_region_held3 (fun V => V.cell? ⟨w9.heap.size, 0, none⟩ = some (.int .i64 k) ∧ V.cell? ⟨w9.heap.size, 1, none⟩ = some (.int .i64 b) ∧ V.cell? ⟨w9.heap.size, 2, none⟩ = some (.int .i64 x) ∧ V.cell? ⟨w9.heap.size, 3, none⟩ = some (.int .i64 t) ∧ V.cell? ⟨w9.heap.size, 4, none⟩ = some (.int .i64 l) ∧ V.cell? ⟨w9.heap.size, 5, none⟩ = some (.string sec) ∧ V.cell? ⟨w9.heap.size, 6, none⟩ = some (.string rnd) ∧ V.cell? ⟨w9.heap.size, 7, none⟩ = some (.string pub) ∧ V.cell? ⟨w9.heap.size, 8, none⟩ = some (.int .i64 q) ∧ V.cell? ⟨w9.heap.size, 9, none⟩ = some (.int .i64 Q1) ∧ V.cell? ⟨w9.heap.size, 10, none⟩ = some (.int .i64 0) ∧ V.cell? ⟨w9.heap.size, 11, none⟩ = some (.int .i64 0) ∧ V.cell? ⟨w9.heap.size, 12, none⟩ = some (.int .i64 ch) ∧ V.cell? ⟨w7.heap.size, 2, none⟩ = some (.int .i64 Q2)) (exact HST.out _ hS) (first | (go_at_call 249; refine (HRV1.out _ gD (HTA.out _ (heldN HB11.out hS (Nat.le_refl _))) (HR11.out.below hS HR11.out.lt)).mono ?_; rintro e w12 ⟨gv, rfl, hgv, hkv, hb12⟩; have hS := heldB hS hb12 (Nat.le_refl _); have HKV := hide hkv; have HGV := hide (show w11.heap.size ≤ gv from hgv)) | (go_at_call 250; refine (HPA1.out _ (HTA.out _ (heldN HB11.out hS (Nat.le_refl _)))).mono ?_; rintro e w13 ⟨gp, rfl, hgp, hkp, hb13⟩; have HNP := hide (show gp ≠ w4.heap.size by have h1 := HPB.out; have h2 := hS.size; omega); have hS := heldB hS hb13 (Nat.le_refl _); have HKP := hide hkp; have HKV := hide (HKV.out.on hb13)))
      have HB13 := hide (heldN HB11.out hS (Nat.le_refl _))
      have HP13 := hide (HP11.out.below hS HP11.out.lt)
      have HX13 := hide (HX11.out.on hS)
      have HA13 := hide (HA11.out.below hS HA11.out.lt)
      have HR13 := hide (HR11.out.below hS HR11.out.lt)
      clear hS hkv hkp hb12 hb13 hgv hgp HB11 HP11 HX11 HA11 HT11 HR11 HST
      have hPlt := HP13.out.lt
      have HNA := hide (show w7.heap.size ≠ w4.heap.size from HNA7.out)
      have d2 := HP13.out.cell 2
      simp only [List.getElem?_cons_zero, List.getElem?_cons_succ] at d2
      obtain ⟨VL, hVL⟩ : ∃ VL, (w13.alloc (.cells #[.slice sp n c, .slice (some ⟨gv, 0, none⟩) ch ch, .slice (some ⟨gp, 0, none⟩) t t] 27)) = VL := ⟨_, rfl⟩
      have HVB := hide (show Blk VL w13.heap.size [.slice sp n c, .slice (some ⟨gv, 0, none⟩) ch ch, .slice (some ⟨gp, 0, none⟩) t t] 27 by rw [← hVL]; exact Blk.new w13 _ _)
      have HVW := hide (show Below w13.heap.size w13 VL by rw [← hVL]; exact (Below.refl _ _).alloc (Nat.le_refl _) _)
      have hXV := HX13.out.on HVW.out
      have hVV := HKV.out.below HVW.out HKV.out.lt
      have hPV := HKP.out.below HVW.out HKP.out.lt
      have HCC := hide (show Calls Tryz.prog 251 #[.slice (some ⟨w13.heap.size, 0, none⟩) 3 3] VL fun e w' => ∃ g c', e = .returned (.slice (some ⟨g, 0, none⟩) (psQ vs ph (q + 1)).length c') ∧ VL.heap.size ≤ g ∧ (psQ vs ph (q + 1)).length ≤ c' ∧ g < w'.heap.size ∧ (∀ (j : Nat) y, (psQ vs ph (q + 1))[j]? = some y → w'.cell? ⟨g, j, none⟩ = some (.string y)) ∧ Below VL.heap.size VL w' by
        have hlen : (psQ vs ph q ++ vq ++ pq).length = (psQ vs ph q).length + ch + t := by rw [List.length_append, List.length_append, HVL1.out, HPH1.out]
        rw [HPS.out, hlen]
        have x1 : ∀ (j : Nat) y, vq[j]? = some y → VL.cell? ⟨gv, j, none⟩ = some (.string y) := fun j y hj => by rw [hVV.cell, List.getElem?_map, hj]; rfl
        have x2 : ∀ (j : Nat) y, pq[j]? = some y → VL.cell? ⟨gp, j, none⟩ = some (.string y) := fun j y hj => by rw [hPV.cell, List.getElem?_map, hj]; rfl
        rcases hXV with ⟨rfl, rfl, rfl, hx⟩ | ⟨g, rfl, _, hg, rfl, hcc, hce⟩
        · rw [hx, List.nil_append, List.length_nil, Nat.zero_add]
          exact concat_nil w13.heap.size gv ch ch gp t t vq pq VL HVL1.out HPH1.out (by omega) (by omega) (by omega) HVB.out.lt hVV.lt hPV.lt (HVB.out.cell 0) (HVB.out.cell 1) (HVB.out.cell 2) x1 x2
        · exact concat_some w13.heap.size g _ c gv ch ch gp t t (psQ vs ph q) vq pq VL rfl HVL1.out HPH1.out (by omega) (by rw [HPN.out]; omega) (by omega) (by omega) HVB.out.lt hg hVV.lt hPV.lt (HVB.out.cell 0) (HVB.out.cell 1) (HVB.out.cell 2) hce x1 x2)
      have HVE := hide hVL
      clear hVL hXV hVV hPV
      go_wp2_with fail
      rw [HVE.out]
      refine HCC.out.mono ?_
      rintro e w15 ⟨g', c', rfl, hg1, hg2, hg3, hce, hb15⟩
      have hb15' := HVW.out.trans (hb15.mono HVW.out.size)
      have HB15 := hide (heldN HB13.out hb15' (Nat.le_refl _))
      have HP15 := hide (HP13.out.on hb15')
      have HA15 := hide (HA13.out.on hb15')
      have HR15 := hide (HR13.out.below hb15' HR13.out.lt)
      have HV15 := hide (HKV.out.on hb15')
      have HQ15 := hide (HKP.out.on hb15')
      have HCE := hide hce
      have HGG := hide (And.intro (Nat.le_trans HVW.out.size hg1) (And.intro hg2 hg3))
      have hPg : w4.heap.size < g' := Nat.lt_of_lt_of_le hPlt HGG.out.1
      have hPv : w4.heap.size < gv := Nat.lt_of_lt_of_le HPB.out HGV.out
      clear hb15 hb15' hce hg1 hg2 hg3 HCC HVE HVW HVB d2 HB13 HP13 HX13 HA13 HR13 HKV HKP
      have e2 := HP15.out.cell 2
      have f2 := HP15.out.free 2
      simp only [List.getElem?_cons_zero, List.getElem?_cons_succ] at e2
      generalize hNN : (psQ vs ph (q + 1)).length = NN at HGG ⊢
      have HNN := hide hNN
      clear hNN
      have HP16 := hide (HP15.out.set 2 (.slice (some ⟨g', 0, none⟩) NN c'))
      simp only [List.set_cons_succ, List.set_cons_zero] at HP16
      have HB16 := hide (HB15.out.setCell (p := ⟨w4.heap.size, 2, none⟩) (Nat.le_refl _) (.slice (some ⟨g', 0, none⟩) NN c'))
      have HA16 := hide (HA15.out.other (a := ⟨w4.heap.size, 2, none⟩) (.slice (some ⟨g', 0, none⟩) NN c') HNA.out)
      have HR16 := hide (HR15.out.other (a := ⟨w4.heap.size, 2, none⟩) (.slice (some ⟨g', 0, none⟩) NN c') HNR.out)
      have HV16 := hide (HV15.out.other (a := ⟨w4.heap.size, 2, none⟩) (.slice (some ⟨g', 0, none⟩) NN c') (by show gv ≠ w4.heap.size; omega))
      have HQ16 := hide (HQ15.out.other (a := ⟨w4.heap.size, 2, none⟩) (.slice (some ⟨g', 0, none⟩) NN c') HNP.out)
      have HX16 := hide (show PartsAt (w15.setCell ⟨w4.heap.size, 2, none⟩ (.slice (some ⟨g', 0, none⟩) NN c')) w4.heap.size (some ⟨g', 0, none⟩) NN c' (psQ vs ph (q + 1)) from .inr ⟨g', rfl, hPg, by rw [World.size_setCell]; exact HGG.out.2.2, HNN.out.symm, HGG.out.2.1, fun j y hj => (World.cell?_setCell_other _ _ _ _ (by simp <;> omega)).trans (HCE.out j y hj)⟩)
      obtain ⟨V16, hV16⟩ : ∃ V16, w15.setCell ⟨w4.heap.size, 2, none⟩ (.slice (some ⟨g', 0, none⟩) NN c') = V16 := ⟨_, rfl⟩
      rw [hV16] at HP16 HB16 HA16 HR16 HV16 HQ16 HX16
      obtain ⟨c0, c1, c2, c3, c4, c5, c6, s0, s1, s2⟩ := HSA.out V16 HB16.out
      have t0 := HA16.out.cell 0
      have t1 := HA16.out.cell 1
      have t2 := HA16.out.cell 2
      have t3 := HA16.out.cell 3
      simp only [List.getElem?_cons_zero, List.getElem?_cons_succ] at t0 t1 t2 t3
      have HRX := hide (HRB1.out V16 gD gv gp (HTA.out V16 HB16.out) HR16.out HV16.out HQ16.out)
      go_wp2_with fail
      refine HRX.out.mono ?_
      rintro e w17 ⟨rfl, hb17⟩
      have HB17 := hide (heldN HB16.out hb17 (Nat.le_refl _))
      have HP17 := hide (HP16.out.on hb17)
      have HX17 := hide (HX16.out.on hb17)
      clear hb17 hV16 c0 c1 c2 c3 c4 c5 c6 s0 s1 s2 t0 t1 t2 t3 e2 f2 HRX HP16 HB16 HA16 HR16 HV16 HQ16 HX16
      go_wp2
      go_roundw
      case rel =>
        have R : ∃ (q' : Nat) (sp' : Option Addr) (n' c'' : Nat), q' ≤ l ∧ Value.int .i64 ((q : Int) + 1) = .int .i64 q' ∧ Value.string (M (q + 1)) = .string (M q') ∧ Hid (Blk w17 w4.heap.size [.int .i64 idx, .string RV, .slice sp' n' c''] 29) ∧ Hid (PartsAt w17 w4.heap.size sp' n' c'' (psQ vs ph q')) ∧ Hid (Below w4.heap.size w4 w17) := ⟨q + 1, some ⟨g', 0, none⟩, NN, c', by omega, by go_num, rfl, HP17.out, HX17.out, HB17.out⟩
        first | exact R | ((repeat apply Exists.intro); exact ⟨R, rfl⟩)
      case measure => simp [intOf]; omega
    · obtain rfl : q = l := by omega
      have HPN := HPL.out q
      rcases hpt.out with ⟨_, h0, _, hx⟩ | ⟨g, rfl, _, hg, rfl, hcc, hce⟩
      · exfalso
        rw [hx] at HPN
        have : 1 * 1 ≤ q * (ch + t) := Nat.mul_le_mul hl1 (by omega)
        simp at HPN
        omega
      · have HJ1 := hide (HJ.out wr g c hg hcc hce)
        have HBF := hide (HB.out.trans ((HB4.out.trans (hb.out.mono HB4.out.size)).mono HB.out.size))
        have p0 := hp.out.cell 0
        have p1 := hp.out.cell 1
        have p2 := hp.out.cell 2
        simp only [List.getElem?_cons_zero, List.getElem?_cons_succ] at p0 p1 p2
        clear hce hcc HPN hpt hp hb
        generalize (psQ vs ph q).length = NN at HJ1 p2 ⊢
        go_wp2_with fail
        refine HJ1.out.mono ?_
        rintro e w8 ⟨rfl, hb8⟩
        have HB8 := hide (HBF.out.trans (hb8.mono HBF.out.size))
        clear hb8 HJ1 c0 c1 c2 c3 c4 c5 c6 s0 s1 s2 p0 p1 p2
        go_wp2
        go_ret
        exact ⟨rfl, HB8.out⟩
end Go.Proofs.YtgaoeoijdpdjiabGreatDoor
