/-
  The document's Verify, its calls' answers being given.
-/
import Derived.Test.YtgaoeoijdpdjiabGreatDoorPart26
import Derived.Test.YtgaoeoijdpdjiabGreatDoorPart34
import Derived.Test.YtgaoeoijdpdjiabGreatDoorPart21
import Derived.Test.YtgaoeoijdpdjiabGreatDoorPart25
import Derived.Test.YtgaoeoijdpdjiabGreatDoorPart42
namespace Go.Proofs.YtgaoeoijdpdjiabGreatDoor
open Go.RowKit

/-- The ends of a layer's chains. -/
def evs (ev : Nat → Nat → ByteArray) (q n : Nat) : List ByteArray := (List.range n).map (ev q)
theorem evs_length (ev : Nat → Nat → ByteArray) (q n : Nat) : (evs ev q n).length = n := by simp [evs]
theorem evs_succ (ev : Nat → Nat → ByteArray) (q n : Nat) : evs ev q (n + 1) = evs ev q n ++ [ev q n] := by simp [evs, List.range_succ]

set_option maxRecDepth 20000 in
set_option maxHeartbeats 16000000 in
theorem refVerify_on (k : Int) (b x t l ch E n idx Lv : Nat) (root pub rnd key msg sig : ByteArray) (ps : List ByteArray) (M : Nat → ByteArray) (DL : Nat → List Nat) (PW A Q1 Q2 : Nat → Nat) (ev : Nat → Nat → ByteArray) (FO : Nat → ByteArray) (a0 a1 a3 a4 a5 r : Int) (w : World)
    (hm : msg.size ≤ 200) (hl : l ≤ 3) (ht0 : 1 ≤ t) (ht : t ≤ 4) (hc1 : 1 ≤ ch) (hc2 : ch ≤ 64) (hE : ch + t = E) (hn : n = l * E) (hx1 : 1 ≤ x) (hx2 : x ≤ 16) (hi : idx ≤ 100000) (hb : b ≤ 16) (z1 : rnd.size ≤ 16) (z2 : root.size ≤ 16) (z3 : pub.size ≤ 16) (hps : ps.length = n) (hDL : ∀ q, q < l → (DL q).length = ch)
    (hL1 : 1 ≤ Lv) (hP1 : ∀ q, q ≤ l → 1 ≤ PW q) (hA : ∀ q, q < l → idx / PW q = A q) (hQ2 : ∀ q, q < l → A q % Lv = Q2 q) (hQ1 : ∀ q, q < l → idx / PW (q + 1) = Q1 q)
    (hr : (M l = root ∧ r = 0) ∨ (¬ (M l).toList = root.toList ∧ r = 13))
    (hK : ∀ V : World, Calls Tryz.prog 89 #[.string key] V fun e w' => e = .returned (.tuple #[.agg #[.int .i64 k, .int .i64 b, .int .i64 x, .int .i64 t, .int .i64 l], .bool true]) ∧ Below V.heap.size V w')
    (hSp : ∀ V : World, Calls Tryz.prog 36 #[.agg #[.int .i64 k, .int .i64 b, .int .i64 x, .int .i64 t, .int .i64 l], .string sig] V fun r w' => ∃ g c, r = .returned (.tuple #[.agg #[.int .i64 idx, .string rnd, .slice (some ⟨g, 0, none⟩) n c], .int .i64 0]) ∧ V.heap.size ≤ g ∧ n ≤ c ∧ g < w'.heap.size ∧ (∀ (j : Nat) y, ps[j]? = some y → w'.cell? ⟨g, 0 + j, none⟩ = some (.string y)) ∧ Below V.heap.size V w')
    (hs1 : ∀ wx, (Instr.slice 9 (.string key) (some (.int .i64 5)) (some (.int .i64 (5 + (b : Int)))) none).run Tryz.prog wx = .ok (.string root) wx)
    (hs2 : ∀ wx, (Instr.slice 9 (.string key) (some (.int .i64 (5 + (b : Int)))) none none).run Tryz.prog wx = .ok (.string pub) wx)
    (hH : ∀ V : World, Calls Tryz.prog 90 #[.agg #[.int .i64 k, .int .i64 b, .int .i64 x, .int .i64 t, .int .i64 l], .int .i64 6, .string (rnd ++ root ++ pub ++ numB 4 idx ++ msg)] V fun e w' => e = .returned (.string (M 0)) ∧ Below V.heap.size V w')
    (hZ : ∀ V : World, Calls Tryz.prog 83 #[.agg #[.int .i64 k, .int .i64 b, .int .i64 x, .int .i64 t, .int .i64 l]] V fun e w' => e = .returned (.agg #[.int .i64 a0, .int .i64 a1, .int .i64 ch, .int .i64 a3, .int .i64 a4, .int .i64 a5]) ∧ Below V.heap.size V w')
    (hLv : ∀ V : World, Calls Tryz.prog 92 #[.agg #[.int .i64 k, .int .i64 b, .int .i64 x, .int .i64 t, .int .i64 l]] V fun e w' => e = .returned (.int .i64 Lv) ∧ Below V.heap.size V w')
    (hPw : ∀ (q : Nat), q ≤ l → ∀ V : World, Calls Tryz.prog 91 #[.int .i64 Lv, .int .i64 q] V fun e w' => e = .returned (.int .i64 (PW q : Nat)) ∧ w' = V)
    (hD : ∀ q, q < l → ∀ V : World, Calls Tryz.prog 93 #[.agg #[.int .i64 k, .int .i64 b, .int .i64 x, .int .i64 t, .int .i64 l], .string (M q)] V fun r w' => ∃ v, r = .returned v ∧ w'.ownsRow V.heap.size 3 1 v ch (cellsN (DL q)) ∧ Below V.heap.size V w')
    (hCh : ∀ (q m d : Nat) (y : ByteArray), q < l → m < ch → (DL q)[m]? = some d → ps[q * E + m]? = some y → ∀ V : World, Calls Tryz.prog 94 #[.agg #[.int .i64 k, .int .i64 b, .int .i64 x, .int .i64 t, .int .i64 l], .string pub, .agg #[.int .i64 q, .int .i64 (Q1 q : Nat), .int .i64 (Q2 q : Nat), .int .i64 m], .int .i64 d, .int .i64 ((x : Int) - 1), .string y] V fun e w' => e = .returned (.string (ev q m)) ∧ Below V.heap.size V w')
    (hF : ∀ (q : Nat), q < l → ∀ (V : World) (gx cx : Nat), gx < V.heap.size → ch ≤ cx → (∀ (j : Nat) y, (evs ev q ch)[j]? = some y → V.cell? ⟨gx, 0 + j, none⟩ = some (.string y)) → Calls Tryz.prog 95 #[.agg #[.int .i64 k, .int .i64 b, .int .i64 x, .int .i64 t, .int .i64 l], .string pub, .agg #[.int .i64 q, .int .i64 (Q1 q : Nat), .int .i64 (Q2 q : Nat), .int .i64 0], .int .i64 0, .slice (some ⟨gx, 0, none⟩) ch cx] V fun e w' => e = .returned (.string (FO q)) ∧ Below V.heap.size V w')
    (hCl : ∀ (q : Nat), q < l → ∀ (V : World) (g cx : Nat), g < V.heap.size → (∀ (j : Nat) y, ps[j]? = some y → V.cell? ⟨g, 0 + j, none⟩ = some (.string y)) → Calls Tryz.prog 96 #[.agg #[.int .i64 k, .int .i64 b, .int .i64 x, .int .i64 t, .int .i64 l], .string pub, .agg #[.int .i64 q, .int .i64 (Q1 q : Nat), .int .i64 (Q2 q : Nat), .int .i64 0], .string (FO q), .slice (some ⟨g, q * E + ch, none⟩) t cx, .int .i64 t] V fun e w' => e = .returned (.string (M (q + 1))) ∧ Below V.heap.size V w') :
    Calls Tryz.prog 45 #[.string key, .string msg, .string sig] w fun e w' => e = .returned (.int .i64 r) ∧ Below w.heap.size w w' := by
  obtain ⟨i0, hi0, hz0, hz1, hz2⟩ := info_parts infoStr
  have HK := hide hK
  have HSP := hide hSp
  have HH := hide hH
  have HZ := hide hZ
  have HLV := hide hLv
  have HPW := hide hPw
  have HD := hide hD
  have HCH := hide hCh
  have HF := hide hF
  have HCL := hide hCl
  have HNU := hide (fun V : World => refNumber_any 4 (idx : Int) V (by decide) (by omega) (by omega))
  have HR := hide hr
  have hm2 : ¬ (200 : Int) < (msg.size : Int) := by omega
  have vE : IntKind.i64.wrap ((ch : Int) + (t : Int)) = (E : Int) := by rw [← hE, IntKind.wrap_i64] <;> omega
  have vx : IntKind.i64.wrap ((x : Int) - 1) = (x : Int) - 1 := by rw [IntKind.wrap_i64] <;> omega
  have hlE : l * E ≤ 3 * 68 := Nat.mul_le_mul hl (by omega)
  have cc1 := sadd rnd root (by omega) (by omega)
  have cc2 := sadd (rnd ++ root) pub (by simp only [ByteArray.size_append]; omega) (by omega)
  have cc3 := sadd (rnd ++ root ++ pub) (numB 4 idx) (by simp only [ByteArray.size_append]; omega) (by rw [numB_size]; omega)
  have cc4 := sadd (rnd ++ root ++ pub ++ numB 4 idx) msg (by simp only [ByteArray.size_append, numB_size]; omega) (by omega)
  generalize rnd ++ root ++ pub ++ numB 4 idx ++ msg = t4 at cc4 HH
  generalize rnd ++ root ++ pub ++ numB 4 idx = t3 at cc3 cc4
  generalize rnd ++ root ++ pub = t2 at cc2 cc3
  generalize rnd ++ root = t1 at cc1 cc2
  generalize numB 4 (idx : Int) = nb at cc3 HNU
  have HAR := hide (fun (q : Nat) (hq : q < l) => (by
    have d1 : Int.tdiv (idx : Int) (PW q : Int) = (A q : Int) := by rw [← hA q hq, Int.tdiv_eq_ediv_of_nonneg (by omega)]; exact (Int.natCast_ediv _ _).symm
    have d2 : Int.tmod (A q : Int) (Lv : Int) = (Q2 q : Int) := by rw [← hQ2 q hq, Int.tmod_eq_emod_of_nonneg (by omega)]; exact (Int.natCast_emod _ _).symm
    have d3 : Int.tdiv (idx : Int) (PW (q + 1) : Int) = (Q1 q : Int) := by rw [← hQ1 q hq, Int.tdiv_eq_ediv_of_nonneg (by omega)]; exact (Int.natCast_ediv _ _).symm
    have b1 : A q ≤ 100000 := by rw [← hA q hq]; exact Nat.le_trans (Nat.div_le_self _ _) hi
    have b2 : Q2 q ≤ 100000 := by rw [← hQ2 q hq]; exact Nat.le_trans (Nat.mod_le _ _) b1
    have b3 : Q1 q ≤ 100000 := by rw [← hQ1 q hq]; exact Nat.le_trans (Nat.div_le_self _ _) hi
    have p1 : PW q ≠ 0 := by have := hP1 q (by omega); omega
    have p2 : PW (q + 1) ≠ 0 := by have := hP1 (q + 1) (by omega); omega
    exact ⟨d1, d2, d3, b1, b2, b3, p1, p2⟩ : Int.tdiv (idx : Int) (PW q : Int) = (A q : Int) ∧ Int.tmod (A q : Int) (Lv : Int) = (Q2 q : Int) ∧ Int.tdiv (idx : Int) (PW (q + 1) : Int) = (Q1 q : Int) ∧ A q ≤ 100000 ∧ Q2 q ≤ 100000 ∧ Q1 q ≤ 100000 ∧ PW q ≠ 0 ∧ PW (q + 1) ≠ 0))
  have HCU := hide (fun (q : Nat) (hq : q < l) => (by
    have hqE : (q + 1) * E ≤ l * E := Nat.mul_le_mul_right _ hq
    have hq1 : (q + 1) * E = q * E + E := by rw [Nat.add_mul, Nat.one_mul]
    have e1 : ∀ (g c : Nat), n ≤ c → ∀ wx, (Instr.slice 27 (.slice (some ⟨g, 0, none⟩) n c) (some (.int .i64 ((q * E + ch : Nat) : Int))) (some (.int .i64 ((q * E + ch + t : Nat) : Int))) none).run Tryz.prog wx = .ok (.slice (some ⟨g, q * E + ch, none⟩) t (c - (q * E + ch))) wx := fun g c hc wx => by
      by_cases h0 : t = 0
      · exact absurd h0 (by omega)
      · have h := cutR g 0 n c (q * E + ch) (q * E + ch + t) (by omega) (by omega) (by omega) wx
        rw [show q * E + ch + t - (q * E + ch) = t by omega, Nat.zero_add] at h
        exact h
    have v1 : IntKind.i64.wrap ((q : Int) * (E : Int)) = ((q * E : Nat) : Int) := by
      have e : (q : Int) * (E : Int) = ((q * E : Nat) : Int) := by rw [Int.natCast_mul]
      rw [e, IntKind.wrap_i64] <;> omega
    have v2 : IntKind.i64.wrap (((q * E : Nat) : Int) + (ch : Int)) = ((q * E + ch : Nat) : Int) := by rw [← Int.natCast_add, IntKind.wrap_i64] <;> omega
    have v3 : IntKind.i64.wrap (((q * E + ch : Nat) : Int) + (t : Int)) = ((q * E + ch + t : Nat) : Int) := by rw [← Int.natCast_add, IntKind.wrap_i64] <;> omega
    have v4 : q * E + E ≤ n := by omega
    exact ⟨e1, v1, v2, v3, v4⟩ : (∀ (g c : Nat), n ≤ c → ∀ wx, (Instr.slice 27 (.slice (some ⟨g, 0, none⟩) n c) (some (.int .i64 ((q * E + ch : Nat) : Int))) (some (.int .i64 ((q * E + ch + t : Nat) : Int))) none).run Tryz.prog wx = .ok (.slice (some ⟨g, q * E + ch, none⟩) t (c - (q * E + ch))) wx) ∧ IntKind.i64.wrap ((q : Int) * (E : Int)) = ((q * E : Nat) : Int) ∧ IntKind.i64.wrap (((q * E : Nat) : Int) + (ch : Int)) = ((q * E + ch : Nat) : Int) ∧ IntKind.i64.wrap (((q * E + ch : Nat) : Int) + (t : Int)) = ((q * E + ch + t : Nat) : Int) ∧ q * E + E ≤ n))
  have HDL := hide hDL
  have HPS := hide hps
  have HEE := hide hE
  have hn300 : n ≤ 300 := by omega
  clear hK hSp hH hZ hLv hPw hD hCh hF hCl hr hDL hps hP1 hA hQ2 hQ1 hlE hn z1 z2 z3 hE
  go_enter Tryz.func45, Tryz.ntmps45
  go_wp2_with fail
  refine (HK.out _).mono ?_
  rintro e w1 ⟨rfl, hb1⟩
  have HB1 := hide hb1
  clear hb1
  have HB2 := hide (HB1.out.alloc HB1.out.size (.cells #[.int .i64 k, .int .i64 b, .int .i64 x, .int .i64 t, .int .i64 l] 26))
  have HK2 := hide (Blk.new w1 [.int .i64 k, .int .i64 b, .int .i64 x, .int .i64 t, .int .i64 l] 26)
  obtain ⟨W2, hW2⟩ : ∃ W2, w1.alloc (.cells #[.int .i64 k, .int .i64 b, .int .i64 x, .int .i64 t, .int .i64 l] 26) = W2 := ⟨_, rfl⟩
  rw [hW2] at HB2 HK2
  have HW2 := hide hW2
  clear hW2
  go_wp2_with fail
  rw [HW2.out]
  refine (HSP.out _).mono ?_
  rintro e w3 ⟨g, c, rfl, hg1, hgc, hg2, hce, hb3⟩
  have HB3 := hide (heldB HB2.out hb3 (Nat.le_refl _))
  have HK3 := hide (HK2.out.on hb3)
  have HCE := hide hce
  have HG2 := hide hg2
  have HGC := hide hgc
  obtain ⟨KB, hKB⟩ : ∃ KB, w1.heap.size = KB := ⟨_, rfl⟩
  rw [hKB] at HK3 ⊢
  clear hb3 hg1 hg2 hgc hce HB2 HK2 HW2 hKB
  have HB4 := hide (HB3.out.alloc HB3.out.size (.cells #[.int .i64 idx, .string rnd, .slice (some ⟨g, 0, none⟩) n c] 29))
  have HK4 := hide (HK3.out.alloc (.cells #[.int .i64 idx, .string rnd, .slice (some ⟨g, 0, none⟩) n c] 29))
  have HP4 := hide (Blk.new w3 [.int .i64 idx, .string rnd, .slice (some ⟨g, 0, none⟩) n c] 29)
  have HCE4 := hide (fun (j : Nat) (y : ByteArray) (hj : ps[j]? = some y) => (World.cell?_alloc_past (.cells #[.int .i64 idx, .string rnd, .slice (some ⟨g, 0, none⟩) n c] 29) g (0 + j) HG2.out).trans (HCE.out j y hj))
  have HG4 := hide (show g < (w3.alloc (.cells #[.int .i64 idx, .string rnd, .slice (some ⟨g, 0, none⟩) n c] 29)).heap.size by rw [World.size_alloc]; exact Nat.lt_succ_of_lt HG2.out)
  obtain ⟨W4, hW4⟩ : ∃ W4, w3.alloc (.cells #[.int .i64 idx, .string rnd, .slice (some ⟨g, 0, none⟩) n c] 29) = W4 := ⟨_, rfl⟩
  rw [hW4] at HB4 HK4 HP4 HCE4 HG4
  have c1 : ∀ o : Obj, (w3.alloc o).cell? ⟨KB, 1, none⟩ = some (.int .i64 b) := fun o => (HK3.out.alloc o).cell 1
  have HW4 := hide hW4
  clear hW4
  go_wp2_with fail
  rw [HW4.out]
  obtain ⟨PB, hPB⟩ : ∃ PB, w3.heap.size = PB := ⟨_, rfl⟩
  rw [hPB] at HP4 ⊢
  clear c1 hPB HW4
  have HSA := hide (fun (V : World) (h : Below W4.heap.size W4 V) => (by
    have q1 := HK4.out.on h
    have q2 := HP4.out.on h
    exact ⟨q1.cell 0, q1.cell 1, q1.cell 2, q1.cell 3, q1.cell 4, q2.cell 0, q2.cell 1, q2.cell 2⟩ : V.cell? ⟨KB, 0, none⟩ = some (.int .i64 k) ∧ V.cell? ⟨KB, 1, none⟩ = some (.int .i64 b) ∧ V.cell? ⟨KB, 2, none⟩ = some (.int .i64 x) ∧ V.cell? ⟨KB, 3, none⟩ = some (.int .i64 t) ∧ V.cell? ⟨KB, 4, none⟩ = some (.int .i64 l) ∧ V.cell? ⟨PB, 0, none⟩ = some (.int .i64 idx) ∧ V.cell? ⟨PB, 1, none⟩ = some (.string rnd) ∧ V.cell? ⟨PB, 2, none⟩ = some (.slice (some ⟨g, 0, none⟩) n c)))
  go_region_held3 (fun V => V.cell? ⟨KB, 0, none⟩ = some (.int .i64 k) ∧ V.cell? ⟨KB, 1, none⟩ = some (.int .i64 b) ∧ V.cell? ⟨KB, 2, none⟩ = some (.int .i64 x) ∧ V.cell? ⟨KB, 3, none⟩ = some (.int .i64 t) ∧ V.cell? ⟨KB, 4, none⟩ = some (.int .i64 l) ∧ V.cell? ⟨PB, 0, none⟩ = some (.int .i64 idx) ∧ V.cell? ⟨PB, 1, none⟩ = some (.string rnd) ∧ V.cell? ⟨PB, 2, none⟩ = some (.slice (some ⟨g, 0, none⟩) n c)) (first | exact HSA.out _ hS2 | exact HSA.out _ hS1 | exact HSA.out _ (Below.refl W4.heap.size W4).drew) (first | (go_at_call 87; refine (HNU.out _).mono ?_; rintro e w5 ⟨rfl, hb5⟩; have hS1 := heldB (Below.refl W4.heap.size W4).drew hb5 (Nat.le_refl _)) | (go_at_call 90; refine (HH.out _).mono ?_; rintro e w6 ⟨rfl, hb6⟩; have hS2 := heldB hS1 hb6 (Nat.le_refl _)))
  have HB6 := hide hS2
  clear hS1 hS2 hb5 hb6 hs1 hs2 cc1 cc2 cc3 cc4 HNU HH
  obtain ⟨c0, c1, c2, c3, c4, d0, d1, d2⟩ := HSA.out w6 HB6.out
  go_wp2_with fail
  refine (HZ.out _).mono ?_
  rintro e w7 ⟨rfl, hb7⟩
  have HB7 := hide (heldB HB6.out hb7 (Nat.le_refl _))
  clear hb7 c0 c1 c2 c3 c4 d0 d1 d2
  have HB8 := hide (HB7.out.alloc HB7.out.size (.cells #[.int .i64 a0, .int .i64 a1, .int .i64 ch, .int .i64 a3, .int .i64 a4, .int .i64 a5] 158))
  have HZ8 := hide (Blk.new w7 [.int .i64 a0, .int .i64 a1, .int .i64 ch, .int .i64 a3, .int .i64 a4, .int .i64 a5] 158)
  obtain ⟨W8, hW8⟩ : ∃ W8, w7.alloc (.cells #[.int .i64 a0, .int .i64 a1, .int .i64 ch, .int .i64 a3, .int .i64 a4, .int .i64 a5] 158) = W8 := ⟨_, rfl⟩
  rw [hW8] at HB8 HZ8
  have HW8 := hide hW8
  clear hW8
  go_wp2_with fail
  rw [HW8.out]
  obtain ⟨ZB, hZB⟩ : ∃ ZB, w7.heap.size = ZB := ⟨_, rfl⟩
  rw [hZB] at HZ8 ⊢
  clear hZB HW8
  have HSB := hide (fun (V : World) (h : Below W8.heap.size W8 V) => (by
    obtain ⟨c0, c1, c2, c3, c4, d0, d1, d2⟩ := HSA.out V (heldB HB8.out h (Nat.le_refl _))
    exact ⟨c0, c1, c2, c3, c4, d0, d1, d2, (HZ8.out.on h).cell 2⟩ : V.cell? ⟨KB, 0, none⟩ = some (.int .i64 k) ∧ V.cell? ⟨KB, 1, none⟩ = some (.int .i64 b) ∧ V.cell? ⟨KB, 2, none⟩ = some (.int .i64 x) ∧ V.cell? ⟨KB, 3, none⟩ = some (.int .i64 t) ∧ V.cell? ⟨KB, 4, none⟩ = some (.int .i64 l) ∧ V.cell? ⟨PB, 0, none⟩ = some (.int .i64 idx) ∧ V.cell? ⟨PB, 1, none⟩ = some (.string rnd) ∧ V.cell? ⟨PB, 2, none⟩ = some (.slice (some ⟨g, 0, none⟩) n c) ∧ V.cell? ⟨ZB, 2, none⟩ = some (.int .i64 ch)))
  have HPC := hide (fun (V : World) (h : Below W8.heap.size W8 V) (j : Nat) (y : ByteArray) (hj : ps[j]? = some y) => ((heldB HB8.out h (Nat.le_refl _)).cell (p := ⟨g, 0 + j, none⟩) HG4.out).trans (HCE4.out j y hj))
  have HG8 := hide (show g < W8.heap.size from Nat.lt_of_lt_of_le HG4.out HB8.out.size)
  have HBE := hide (show Below w.heap.size w W8 from HB4.out.trans (HB8.out.mono HB4.out.size))
  go_loopw [13, 15] (fun u i wr => ∃ q : Nat, q ≤ l ∧ i = .int .i64 q ∧ u = .string (M q) ∧ Hid (Below W8.heap.size W8 wr)) (fun _ i _ => l - (intOf i).toNat)
  case atStart => exact ⟨0, Nat.zero_le _, rfl, rfl, Below.refl _ _⟩
  case round =>
    obtain ⟨wo, rfl⟩ : ∃ wo : World, wo = wr := ⟨_, rfl⟩
    obtain ⟨q, hq, rfl, rfl, hb⟩ := hrel
    by_cases hlt : q < l
    · obtain ⟨hd1, hd2, hd3, bA, bQ2, bQ1, hp1, hp2⟩ := HAR.out q hlt
      obtain ⟨e1, v1, v2, v3, v4⟩ := HCU.out q hlt
      have e1 := e1 g c HGC.out
      have HPW1 := hide (HPW.out q (by omega))
      have HPW2 := hide (HPW.out (q + 1) (by omega))
      rw [show (((q + 1 : Nat)) : Int) = (q : Int) + 1 from rfl] at HPW2
      have HD1 := hide (HD.out q hlt)
      have HCH1 := hide (fun (m d : Nat) (y : ByteArray) => HCH.out q m d y hlt)
      have HF1 := hide (HF.out q hlt)
      have HCL1 := hide (HCL.out q hlt)
      have HDL1 := hide (HDL.out q hlt)
      have HES := hide (fun m => evs_succ ev q m)
      have HEL := hide (fun m => evs_length ev q m)
      have v5 : IntKind.i64.wrap ((q : Int) + 1) = (q : Int) + 1 := by rw [IntKind.wrap_i64] <;> omega
      generalize PW q = P1 at *
      generalize PW (q + 1) = P2 at *
      generalize A q = A1 at *
      generalize Q2 q = Q2 at *
      generalize Q1 q = Q1 at *
      generalize FO q = fo at *
      generalize DL q = ds at *
      have v6 : IntKind.i64.wrap (A1 : Int) = (A1 : Int) := by rw [IntKind.wrap_i64] <;> omega
      have v7 : IntKind.i64.wrap (Q2 : Int) = (Q2 : Int) := by rw [IntKind.wrap_i64] <;> omega
      have v8 : IntKind.i64.wrap (Q1 : Int) = (Q1 : Int) := by rw [IntKind.wrap_i64] <;> omega
      have hL0 : Lv ≠ 0 := by omega
      obtain ⟨L2, hL2⟩ : ∃ L2, q * E + ch + t = L2 := ⟨_, rfl⟩
      obtain ⟨L1, hL1'⟩ : ∃ L1, q * E + ch = L1 := ⟨_, rfl⟩
      obtain ⟨C1, hC1⟩ : ∃ C1, q * E = C1 := ⟨_, rfl⟩
      rw [hL2] at e1 v3
      rw [hL1'] at e1 v2 v3 HCL1
      rw [hC1] at v1 v2 v4 HCH1
      clear hL2 hL1' hC1
      have HAV := hide (Blk.new wo [.int .i64 q, .int .i64 0, .int .i64 0, .int .i64 0] 91)
      have HBV := hide ((Below.refl wo.heap.size wo).alloc (Nat.le_refl _) (.cells #[.int .i64 q, .int .i64 0, .int .i64 0, .int .i64 0] 91))
      obtain ⟨V0, hV0⟩ : ∃ V0, wo.alloc (.cells #[.int .i64 q, .int .i64 0, .int .i64 0, .int .i64 0] 91) = V0 := ⟨_, rfl⟩
      rw [hV0] at HAV HBV
      have HV0 := hide hV0
      clear hV0
      have HS := hide (fun (V : World) (h : Below wo.heap.size wo V) => (by
        obtain ⟨c0, c1, c2, c3, c4, d0, d1, d2, _⟩ := HSB.out V (heldB hb.out h (Nat.le_refl _))
        exact ⟨c0, c1, c2, c3, c4, d0, d1, d2⟩ : V.cell? ⟨KB, 0, none⟩ = some (.int .i64 k) ∧ V.cell? ⟨KB, 1, none⟩ = some (.int .i64 b) ∧ V.cell? ⟨KB, 2, none⟩ = some (.int .i64 x) ∧ V.cell? ⟨KB, 3, none⟩ = some (.int .i64 t) ∧ V.cell? ⟨KB, 4, none⟩ = some (.int .i64 l) ∧ V.cell? ⟨PB, 0, none⟩ = some (.int .i64 idx) ∧ V.cell? ⟨PB, 1, none⟩ = some (.string rnd) ∧ V.cell? ⟨PB, 2, none⟩ = some (.slice (some ⟨g, 0, none⟩) n c)))
      obtain ⟨c0, c1, c2, c3, c4, d0, d1, d2⟩ := HS.out wo (Below.refl _ _)
      have hql : (q : Int) < (l : Int) := by omega
      go_wp2_with fail
      rw [HV0.out]
      obtain ⟨AT, hAT⟩ : ∃ AT, wo.heap.size = AT := ⟨_, rfl⟩
      have HATZ : Hid (wo.heap.size ≤ AT) := Nat.le_of_eq hAT
      rw [hAT] at HAV ⊢
      clear HV0 hAT c0 c1 c2 c3 c4 d0 d1 d2
      refine wp_region_held_drew (S := fun V => V.cell? ⟨KB, 0, none⟩ = some (.int .i64 k) ∧ V.cell? ⟨KB, 1, none⟩ = some (.int .i64 b) ∧ V.cell? ⟨KB, 2, none⟩ = some (.int .i64 x) ∧ V.cell? ⟨KB, 3, none⟩ = some (.int .i64 t) ∧ V.cell? ⟨KB, 4, none⟩ = some (.int .i64 l) ∧ V.cell? ⟨PB, 0, none⟩ = some (.int .i64 idx) ∧ V.cell? ⟨PB, 1, none⟩ = some (.string rnd) ∧ V.cell? ⟨PB, 2, none⟩ = some (.slice (some ⟨g, 0, none⟩) n c)) (by kernel_rfl) (HS.out _ (HBV.out.drew)) (fun hHeld => ?_)
      refine wpAnyH_take (i := 0) (oi := ?oia0) (v := ?va0) ?hia0 (by kernel_rfl) (by kernel_rfl) (by kernel_rfl) ?hQa0 (Or.inl ⟨?h1a0, ?hya0⟩) hHeld ?resta0
      case hia0 => (simp only [List.getElem?_toArray, List.getElem?_cons_zero]; rfl)
      case hQa0 => exact fun _ _ _ h => h
      case h1a0 => rfl
      case hya0 => intro V hSV; (try dsimp only at hSV); go_simp; (try with_reducible rfl)
      try simp only [Act.put, List.setIfInBounds_toArray, List.set_cons_zero, List.set_cons_succ]
      refine wpAnyH_take (i := 1) (oi := ?oia1) (v := ?va1) ?hia1 (by kernel_rfl) (by kernel_rfl) (by kernel_rfl) ?hQa1 (Or.inl ⟨?h1a1, ?hya1⟩) hHeld ?resta1
      case hia1 => (simp only [List.getElem?_toArray, List.getElem?_cons_succ, List.getElem?_cons_zero]; rfl)
      case hQa1 => exact fun _ _ _ h => h
      case h1a1 => rfl
      case hya1 => intro V hSV; (try dsimp only at hSV); go_simp; (try with_reducible rfl)
      try simp only [Act.put, List.setIfInBounds_toArray, List.set_cons_zero, List.set_cons_succ]
      refine wpAnyH_take (i := 2) (oi := ?oia2) (v := ?va2) ?hia2 (by kernel_rfl) (by kernel_rfl) (by kernel_rfl) ?hQa2 (Or.inl ⟨?h1a2, ?hya2⟩) hHeld ?resta2
      case hia2 => (simp only [List.getElem?_toArray, List.getElem?_cons_succ, List.getElem?_cons_zero]; rfl)
      case hQa2 => exact fun _ _ _ h => h
      case h1a2 => rfl
      case hya2 => intro V hSV; (try dsimp only at hSV); go_simp; (try with_reducible rfl)
      try simp only [Act.put, List.setIfInBounds_toArray, List.set_cons_zero, List.set_cons_succ]
      refine wpAnyH_take (i := 4) (oi := ?oia4) (v := ?va4) ?hia4 (by kernel_rfl) (by kernel_rfl) (by kernel_rfl) ?hQa4 (Or.inl ⟨?h1a4, ?hya4⟩) hHeld ?resta4
      case hia4 => (simp only [List.getElem?_toArray, List.getElem?_cons_succ, List.getElem?_cons_zero]; rfl)
      case hQa4 => exact fun _ _ _ h => h
      case h1a4 => rfl
      case hya4 => intro V hSV; (try dsimp only at hSV); go_simp; (try with_reducible rfl)
      try simp only [Act.put, List.setIfInBounds_toArray, List.set_cons_zero, List.set_cons_succ]
      refine wpAnyH_take (i := 7) (oi := ?oia7) (v := ?va7) ?hia7 (by kernel_rfl) (by kernel_rfl) (by kernel_rfl) ?hQa7 (Or.inl ⟨?h1a7, ?hya7⟩) hHeld ?resta7
      case hia7 => (simp only [List.getElem?_toArray, List.getElem?_cons_succ, List.getElem?_cons_zero]; rfl)
      case hQa7 => exact fun _ _ _ h => h
      case h1a7 => rfl
      case hya7 => intro V hSV; (try dsimp only at hSV); go_simp; (try with_reducible rfl)
      try simp only [Act.put, List.setIfInBounds_toArray, List.set_cons_zero, List.set_cons_succ]
      refine wpAnyH_ready (rs := [3]) (by kernel_rfl) (by simp) ?_
      refine AllReadyH.cons (o := ?oa3) ?hoa3 (fun K hK => ?hsa3) AllReadyH.nil
      case hoa3 => (simp only [List.getElem?_toArray, List.getElem?_cons_succ, List.getElem?_cons_zero]; rfl)
      go_simp
      go_at_call 92
      refine (HLV.out _).mono ?_
      rintro e w7 ⟨rfl, hb7⟩
      have HB7 := hide (heldN HBV.out.drew hb7 (Nat.le_refl _))
      have HA7 := hide ((HAV.out.below (Below.refl V0.heap.size V0).drew HAV.out.lt).on hb7)
      clear hb7
      try go_wp2_with fail
      refine hK.out _ _ (HS.out _ (HB7.out)) (fun hHeld => ?_)
      clear hK K
      try simp only [Act.put, List.setIfInBounds_toArray, List.set_cons_zero, List.set_cons_succ]
      refine wpAnyH_ready (rs := [5]) (by kernel_rfl) (by simp) ?_
      refine AllReadyH.cons (o := ?oa5) ?hoa5 (fun K hK => ?hsa5) AllReadyH.nil
      case hoa5 => (simp only [List.getElem?_toArray, List.getElem?_cons_succ, List.getElem?_cons_zero]; rfl)
      go_simp
      go_at_call 91
      refine (HPW1.out _).mono ?_
      rintro e wq ⟨rfl, hwq⟩
      obtain rfl := hwq.symm
      clear hwq
      try go_wp2_with fail
      refine hK.out _ _ (HS.out _ (HB7.out)) (fun hHeld => ?_)
      clear hK K
      try simp only [Act.put, List.setIfInBounds_toArray, List.set_cons_zero, List.set_cons_succ]
      refine wpAnyH_take (i := 6) (oi := ?oia6) (v := ?va6) ?hia6 (by kernel_rfl) (by kernel_rfl) (by kernel_rfl) ?hQa6 (Or.inl ⟨?h1a6, ?hya6⟩) hHeld ?resta6
      case hia6 => (simp only [List.getElem?_toArray, List.getElem?_cons_succ, List.getElem?_cons_zero]; rfl)
      case hQa6 => exact fun _ _ _ h => h
      case h1a6 => rfl
      case hya6 => intro V hSV; (try dsimp only at hSV); go_simp; (try with_reducible rfl)
      try simp only [Act.put, List.setIfInBounds_toArray, List.set_cons_zero, List.set_cons_succ]
      refine wpAnyH_ready (rs := [8]) (by kernel_rfl) (by simp) ?_
      refine AllReadyH.cons (o := ?oa8) ?hoa8 (fun K hK => ?hsa8) AllReadyH.nil
      case hoa8 => (simp only [List.getElem?_toArray, List.getElem?_cons_succ, List.getElem?_cons_zero]; rfl)
      go_simp
      go_at_call 92
      refine (HLV.out _).mono ?_
      rintro e w8 ⟨rfl, hb8⟩
      have HB8 := hide (heldN HB7.out hb8 (Nat.le_refl _))
      have HA8 := hide (HA7.out.on hb8)
      clear hb8
      try go_wp2_with fail
      refine hK.out _ _ (HS.out _ (HB8.out)) (fun hHeld => ?_)
      clear hK K
      try simp only [Act.put, List.setIfInBounds_toArray, List.set_cons_zero, List.set_cons_succ]
      refine wpAnyH_take (i := 9) (oi := ?oia9) (v := ?va9) ?hia9 (by kernel_rfl) (by kernel_rfl) (by kernel_rfl) ?hQa9 (Or.inl ⟨?h1a9, ?hya9⟩) hHeld ?resta9
      case hia9 => (simp only [List.getElem?_toArray, List.getElem?_cons_succ, List.getElem?_cons_zero]; rfl)
      case hQa9 => exact fun _ _ _ h => h
      case h1a9 => rfl
      case hya9 => intro V hSV; (try dsimp only at hSV); go_simp; (try with_reducible rfl)
      try simp only [Act.put, List.setIfInBounds_toArray, List.set_cons_zero, List.set_cons_succ]
      refine wpAnyH_take (i := 10) (oi := ?oia10) (v := ?va10) ?hia10 (by kernel_rfl) (by kernel_rfl) (by kernel_rfl) ?hQa10 (Or.inl ⟨?h1a10, ?hya10⟩) hHeld ?resta10
      case hia10 => (simp only [List.getElem?_toArray, List.getElem?_cons_succ, List.getElem?_cons_zero]; rfl)
      case hQa10 => exact fun _ _ _ h => h
      case h1a10 => rfl
      case hya10 => intro V hSV; (try dsimp only at hSV); go_simp; (try with_reducible rfl)
      try simp only [Act.put, List.setIfInBounds_toArray, List.set_cons_zero, List.set_cons_succ]
      have r2 := HA8.out.cell 2
      have f2 := HA8.out.free 2
      simp only [List.getElem?_cons_zero, List.getElem?_cons_succ] at r2
      refine wpAnyH_ready (rs := [11]) (by kernel_rfl) (by simp) ?_
      refine AllReadyH.cons (o := ?oa11) ?hoa11 (fun K hK => ?hsa11) AllReadyH.nil
      case hoa11 => (simp only [List.getElem?_toArray, List.getElem?_cons_succ, List.getElem?_cons_zero]; rfl)
      go_simp
      refine hK.out _ _ (HS.out _ (HB8.out.setCell (p := ⟨AT, 2, none⟩) HATZ.out _)) (fun hHeld => ?_)
      clear hK K
      try simp only [Act.put, List.setIfInBounds_toArray, List.set_cons_zero, List.set_cons_succ]
      refine wpAnyH_done (by kernel_rfl) ?_ _
      have HB10 := hide (HB8.out.setCell (p := ⟨AT, 2, none⟩) HATZ.out (.int .i64 Q2))
      have HA10 := hide (HA8.out.set 2 (.int .i64 Q2))
      simp only [List.set_cons_succ, List.set_cons_zero] at HA10
      obtain ⟨V1, hV1⟩ : ∃ V1, w8.setCell ⟨AT, 2, none⟩ (.int .i64 Q2) = V1 := ⟨_, rfl⟩
      rw [hV1] at HB10 HA10 ⊢
      clear hV1 hHeld r2 f2 HB7 HB8 HA7 HA8 HAV HBV
      have HAV := HA10
      have HBV := HB10
      go_wp2_with fail
      refine wp_region_held_drew (S := fun V => V.cell? ⟨KB, 0, none⟩ = some (.int .i64 k) ∧ V.cell? ⟨KB, 1, none⟩ = some (.int .i64 b) ∧ V.cell? ⟨KB, 2, none⟩ = some (.int .i64 x) ∧ V.cell? ⟨KB, 3, none⟩ = some (.int .i64 t) ∧ V.cell? ⟨KB, 4, none⟩ = some (.int .i64 l) ∧ V.cell? ⟨PB, 0, none⟩ = some (.int .i64 idx) ∧ V.cell? ⟨PB, 1, none⟩ = some (.string rnd) ∧ V.cell? ⟨PB, 2, none⟩ = some (.slice (some ⟨g, 0, none⟩) n c)) (by kernel_rfl) (HS.out _ (HBV.out.drew)) (fun hHeld => ?_)
      refine wpAnyH_take (i := 0) (oi := ?oib0) (v := ?vb0) ?hib0 (by kernel_rfl) (by kernel_rfl) (by kernel_rfl) ?hQb0 (Or.inl ⟨?h1b0, ?hyb0⟩) hHeld ?restb0
      case hib0 => (simp only [List.getElem?_toArray, List.getElem?_cons_zero]; rfl)
      case hQb0 => exact fun _ _ _ h => h
      case h1b0 => rfl
      case hyb0 => intro V hSV; (try dsimp only at hSV); go_simp; (try with_reducible rfl)
      try simp only [Act.put, List.setIfInBounds_toArray, List.set_cons_zero, List.set_cons_succ]
      refine wpAnyH_take (i := 1) (oi := ?oib1) (v := ?vb1) ?hib1 (by kernel_rfl) (by kernel_rfl) (by kernel_rfl) ?hQb1 (Or.inl ⟨?h1b1, ?hyb1⟩) hHeld ?restb1
      case hib1 => (simp only [List.getElem?_toArray, List.getElem?_cons_succ, List.getElem?_cons_zero]; rfl)
      case hQb1 => exact fun _ _ _ h => h
      case h1b1 => rfl
      case hyb1 => intro V hSV; (try dsimp only at hSV); go_simp; (try with_reducible rfl)
      try simp only [Act.put, List.setIfInBounds_toArray, List.set_cons_zero, List.set_cons_succ]
      refine wpAnyH_take (i := 2) (oi := ?oib2) (v := ?vb2) ?hib2 (by kernel_rfl) (by kernel_rfl) (by kernel_rfl) ?hQb2 (Or.inl ⟨?h1b2, ?hyb2⟩) hHeld ?restb2
      case hib2 => (simp only [List.getElem?_toArray, List.getElem?_cons_succ, List.getElem?_cons_zero]; rfl)
      case hQb2 => exact fun _ _ _ h => h
      case h1b2 => rfl
      case hyb2 => intro V hSV; (try dsimp only at hSV); go_simp; (try with_reducible rfl)
      try simp only [Act.put, List.setIfInBounds_toArray, List.set_cons_zero, List.set_cons_succ]
      refine wpAnyH_take (i := 4) (oi := ?oib4) (v := ?vb4) ?hib4 (by kernel_rfl) (by kernel_rfl) (by kernel_rfl) ?hQb4 (Or.inl ⟨?h1b4, ?hyb4⟩) hHeld ?restb4
      case hib4 => (simp only [List.getElem?_toArray, List.getElem?_cons_succ, List.getElem?_cons_zero]; rfl)
      case hQb4 => exact fun _ _ _ h => h
      case h1b4 => rfl
      case hyb4 => intro V hSV; (try dsimp only at hSV); go_simp; (try with_reducible rfl)
      try simp only [Act.put, List.setIfInBounds_toArray, List.set_cons_zero, List.set_cons_succ]
      refine wpAnyH_take (i := 5) (oi := ?oib5) (v := ?vb5) ?hib5 (by kernel_rfl) (by kernel_rfl) (by kernel_rfl) ?hQb5 (Or.inl ⟨?h1b5, ?hyb5⟩) hHeld ?restb5
      case hib5 => (simp only [List.getElem?_toArray, List.getElem?_cons_succ, List.getElem?_cons_zero]; rfl)
      case hQb5 => exact fun _ _ _ h => h
      case h1b5 => rfl
      case hyb5 => intro V hSV; (try dsimp only at hSV); go_simp; (try with_reducible rfl)
      try simp only [Act.put, List.setIfInBounds_toArray, List.set_cons_zero, List.set_cons_succ]
      refine wpAnyH_ready (rs := [3]) (by kernel_rfl) (by simp) ?_
      refine AllReadyH.cons (o := ?ob3) ?hob3 (fun K hK => ?hsb3) AllReadyH.nil
      case hob3 => (simp only [List.getElem?_toArray, List.getElem?_cons_succ, List.getElem?_cons_zero]; rfl)
      go_simp
      go_at_call 92
      refine (HLV.out _).mono ?_
      rintro e w9 ⟨rfl, hb9⟩
      have HB9 := hide (heldN HBV.out.drew hb9 (Nat.le_refl _))
      have HA9 := hide ((HAV.out.below (Below.refl V1.heap.size V1).drew HAV.out.lt).on hb9)
      clear hb9
      try go_wp2_with fail
      refine hK.out _ _ (HS.out _ (HB9.out)) (fun hHeld => ?_)
      clear hK K
      try simp only [Act.put, List.setIfInBounds_toArray, List.set_cons_zero, List.set_cons_succ]
      refine wpAnyH_ready (rs := [6]) (by kernel_rfl) (by simp) ?_
      refine AllReadyH.cons (o := ?ob6) ?hob6 (fun K hK => ?hsb6) AllReadyH.nil
      case hob6 => (simp only [List.getElem?_toArray, List.getElem?_cons_succ, List.getElem?_cons_zero]; rfl)
      go_simp
      go_at_call 91
      refine (HPW2.out _).mono ?_
      rintro e wq ⟨rfl, hwq⟩
      obtain rfl := hwq.symm
      clear hwq
      try go_wp2_with fail
      refine hK.out _ _ (HS.out _ (HB9.out)) (fun hHeld => ?_)
      clear hK K
      try simp only [Act.put, List.setIfInBounds_toArray, List.set_cons_zero, List.set_cons_succ]
      refine wpAnyH_take (i := 7) (oi := ?oib7) (v := ?vb7) ?hib7 (by kernel_rfl) (by kernel_rfl) (by kernel_rfl) ?hQb7 (Or.inl ⟨?h1b7, ?hyb7⟩) hHeld ?restb7
      case hib7 => (simp only [List.getElem?_toArray, List.getElem?_cons_succ, List.getElem?_cons_zero]; rfl)
      case hQb7 => exact fun _ _ _ h => h
      case h1b7 => rfl
      case hyb7 => intro V hSV; (try dsimp only at hSV); go_simp; (try with_reducible rfl)
      try simp only [Act.put, List.setIfInBounds_toArray, List.set_cons_zero, List.set_cons_succ]
      refine wpAnyH_take (i := 8) (oi := ?oib8) (v := ?vb8) ?hib8 (by kernel_rfl) (by kernel_rfl) (by kernel_rfl) ?hQb8 (Or.inl ⟨?h1b8, ?hyb8⟩) hHeld ?restb8
      case hib8 => (simp only [List.getElem?_toArray, List.getElem?_cons_succ, List.getElem?_cons_zero]; rfl)
      case hQb8 => exact fun _ _ _ h => h
      case h1b8 => rfl
      case hyb8 => intro V hSV; (try dsimp only at hSV); go_simp; (try with_reducible rfl)
      try simp only [Act.put, List.setIfInBounds_toArray, List.set_cons_zero, List.set_cons_succ]
      have r1 := HA9.out.cell 1
      have f1 := HA9.out.free 1
      simp only [List.getElem?_cons_zero, List.getElem?_cons_succ] at r1
      refine wpAnyH_ready (rs := [9]) (by kernel_rfl) (by simp) ?_
      refine AllReadyH.cons (o := ?ob9) ?hob9 (fun K hK => ?hsb9) AllReadyH.nil
      case hob9 => (simp only [List.getElem?_toArray, List.getElem?_cons_succ, List.getElem?_cons_zero]; rfl)
      go_simp
      refine hK.out _ _ (HS.out _ (HB9.out.setCell (p := ⟨AT, 1, none⟩) HATZ.out _)) (fun hHeld => ?_)
      clear hK K
      try simp only [Act.put, List.setIfInBounds_toArray, List.set_cons_zero, List.set_cons_succ]
      refine wpAnyH_done (by kernel_rfl) ?_ _
      have HB11 := hide (HB9.out.setCell (p := ⟨AT, 1, none⟩) HATZ.out (.int .i64 Q1))
      have HA11 := hide (HA9.out.set 1 (.int .i64 Q1))
      simp only [List.set_cons_succ, List.set_cons_zero] at HA11
      obtain ⟨V2, hV2⟩ : ∃ V2, w9.setCell ⟨AT, 1, none⟩ (.int .i64 Q1) = V2 := ⟨_, rfl⟩
      rw [hV2] at HB11 HA11 ⊢
      clear hV2 hHeld r1 f1 HB9 HA9 HAV HBV HB10 HA10
      obtain ⟨c0, c1, c2, c3, c4, d0, d1, d2, z2⟩ := HSB.out V2 (heldB hb.out HB11.out (Nat.le_refl _))
      have HD2 := hide (HD1.out V2)
      have hAlt : AT < V2.heap.size := HA11.out.lt
      clear HD1 hd1 hd2 hd3 hp1 hp2 v5 v6 v7 v8 bA HPW1 HPW2
      go_wp2_with fail
      refine HD2.out.mono ?_
      rintro e w10 ⟨dv, rfl, hod, hb10⟩
      obtain ⟨gd, cd, cur, rfl, hgd, hhd, hcd1, _, hcd2, hcd3⟩ : ∃ gd cd cur, dv = .slice (some ⟨gd, 0, none⟩) ch cd ∧ V2.heap.size ≤ gd ∧ w10.heap[gd]? = some (.cells cur 3 (0, 0)) ∧ ch ≤ cd ∧ cd ≤ maxLen ∧ cur.size = cd * 1 ∧ cur.toList.take (ch * 1) = cellsN ds := by
        rcases hod.2 with ⟨_, h⟩ | h
        · omega
        · exact h
      have HDB := hide (show Blk w10 gd cur.toList 3 by unfold Blk; simpa using hhd)
      have hgdw : gd < w10.heap.size := HDB.out.lt
      have HDC := hide (fun (m d : Nat) (hmd : ds[m]? = some d) => (show cur.toList[m]? = some (.int .i64 (d : Nat)) by
        have hml : m < ch := by rw [← HDL1.out]; exact (List.getElem?_eq_some_iff.1 hmd).1
        have h1 : (cur.toList.take (ch * 1))[m]? = (cellsN ds)[m]? := by rw [hcd3]
        rw [List.getElem?_take_of_lt (by omega)] at h1
        rw [h1]
        simp [cellsN, hmd]))
      have HB12 := hide (heldN HB11.out hb10 (Nat.le_refl _))
      have HA12 := hide (HA11.out.on hb10)
      have hAg : AT < gd := by omega
      have hAw : AT < w10.heap.size := Nat.lt_of_lt_of_le hAlt hb10.size
      clear hb10 hod hhd hcd1 hcd2 hcd3 hgd hAlt c0 c1 c2 c3 c4 d0 d1 d2 z2 HD2 HB11 HA11
      generalize hcl : cur.toList = CL at HDB HDC
      clear hcl
      go_wp2_with fail
      go_loopw [19, 20] (fun v i wr => ∃ (m : Nat) (z : Int), m ≤ ch ∧ i = .int .i64 m ∧ Hid (Blk wr AT [.int .i64 q, .int .i64 Q1, .int .i64 Q2, .int .i64 z] 91) ∧ Hid (Blk wr gd CL 3) ∧ Hid (wr.ownsRow w10.heap.size 9 1 v m ((evs ev q m).map Value.string)) ∧ Hid (Below wo.heap.size wo wr) ∧ Hid (w10.heap.size ≤ wr.heap.size)) (fun _ i _ => ch - (intOf i).toNat)
      case atStart => exact ⟨0, 0, Nat.zero_le _, rfl, HA12.out, HDB.out, World.ownsRow_nil _ _ _ _, HB12.out, Nat.le_refl _⟩
      case round =>
        obtain ⟨m, z, hm', rfl, hat, hdb, ho, hbi, hzi⟩ := hrel
        have a3' := hat.out.cell 3
        have fz := hat.out.free 3
        simp only [List.getElem?_cons_zero, List.getElem?_cons_succ] at a3'
        by_cases hlt2 : m < ch
        · obtain ⟨dd, hdd⟩ : ∃ dd, ds[m]? = some dd := ⟨_, List.getElem?_eq_getElem (by rw [HDL1.out]; exact hlt2)⟩
          obtain ⟨yy, hyy⟩ : ∃ yy, ps[C1 + m]? = some yy := ⟨_, List.getElem?_eq_getElem (by rw [HPS.out]; have := HEE.out; omega)⟩
          have HCM := hide (HCH1.out m dd yy hlt2 hdd hyy)
          have hdc := HDC.out m dd hdd
          obtain ⟨J, hJ⟩ : ∃ J, C1 + m = J := ⟨_, rfl⟩
          have vJ : IntKind.i64.wrap ((C1 : Int) + (m : Int)) = (J : Int) := by rw [← hJ, IntKind.wrap_i64] <;> omega
          have hJn : (J : Int) < (n : Int) := by have := HEE.out; omega
          have hmi : (m : Int) < (ch : Int) := by omega
          have HBV3 := hide (hbi.out.setCell (p := ⟨AT, 3, none⟩) HATZ.out (.int .i64 m))
          have HAV3 := hide (hat.out.set 3 (.int .i64 m))
          simp only [List.set_cons_succ, List.set_cons_zero] at HAV3
          have HDV3 := hide (hdb.out.other (a := ⟨AT, 3, none⟩) (.int .i64 m) (by show gd ≠ AT; omega))
          have HOV3 := hide (ho.out.kept (grownBy_cell wr AT 3 (.int .i64 m)) (own_ne ho.out hAw))
          have hzV3 : w10.heap.size ≤ (wr.setCell ⟨AT, 3, none⟩ (.int .i64 m)).heap.size := by rw [World.size_setCell]; exact hzi.out
          obtain ⟨c0, c1, c2, c3, c4, d0, d1, d2, z2⟩ := HSB.out wr (heldB hb.out hbi.out (Nat.le_refl _))
          obtain ⟨V3, hV3⟩ : ∃ V3, wr.setCell ⟨AT, 3, none⟩ (.int .i64 m) = V3 := ⟨_, rfl⟩
          rw [hV3] at HBV3 HAV3 HDV3 HOV3 hzV3
          have HSI := hide (fun (V : World) (h : Below V3.heap.size V3 V) => (by
            have hk := heldB hb.out (heldN HBV3.out h (Nat.le_refl _)) (Nat.le_refl _)
            obtain ⟨c0, c1, c2, c3, c4, _, _, d2, _⟩ := HSB.out V hk
            have q2 := HAV3.out.on h
            have hp := HPC.out V hk (C1 + m) yy hyy
            rw [Nat.zero_add, hJ] at hp
            exact ⟨c0, c1, c2, c3, c4, q2.cell 0, q2.cell 1, q2.cell 2, q2.cell 3, d2, ((HDV3.out.on h).cell m).trans hdc, hp⟩ : V.cell? ⟨KB, 0, none⟩ = some (.int .i64 k) ∧ V.cell? ⟨KB, 1, none⟩ = some (.int .i64 b) ∧ V.cell? ⟨KB, 2, none⟩ = some (.int .i64 x) ∧ V.cell? ⟨KB, 3, none⟩ = some (.int .i64 t) ∧ V.cell? ⟨KB, 4, none⟩ = some (.int .i64 l) ∧ V.cell? ⟨AT, 0, none⟩ = some (.int .i64 q) ∧ V.cell? ⟨AT, 1, none⟩ = some (.int .i64 Q1) ∧ V.cell? ⟨AT, 2, none⟩ = some (.int .i64 Q2) ∧ V.cell? ⟨AT, 3, none⟩ = some (.int .i64 m) ∧ V.cell? ⟨PB, 2, none⟩ = some (.slice (some ⟨g, 0, none⟩) n c) ∧ V.cell? ⟨gd, m, none⟩ = some (.int .i64 dd) ∧ V.cell? ⟨g, J, none⟩ = some (.string yy)))
          clear hdd hyy hdc hJ
          go_wp2_with fail
          try rw [hV3]
          clear hV3 c0 c1 c2 c3 c4 d0 d1 d2 z2 a3' fz
          go_region_held3 (fun V => V.cell? ⟨KB, 0, none⟩ = some (.int .i64 k) ∧ V.cell? ⟨KB, 1, none⟩ = some (.int .i64 b) ∧ V.cell? ⟨KB, 2, none⟩ = some (.int .i64 x) ∧ V.cell? ⟨KB, 3, none⟩ = some (.int .i64 t) ∧ V.cell? ⟨KB, 4, none⟩ = some (.int .i64 l) ∧ V.cell? ⟨AT, 0, none⟩ = some (.int .i64 q) ∧ V.cell? ⟨AT, 1, none⟩ = some (.int .i64 Q1) ∧ V.cell? ⟨AT, 2, none⟩ = some (.int .i64 Q2) ∧ V.cell? ⟨AT, 3, none⟩ = some (.int .i64 m) ∧ V.cell? ⟨PB, 2, none⟩ = some (.slice (some ⟨g, 0, none⟩) n c) ∧ V.cell? ⟨gd, m, none⟩ = some (.int .i64 dd) ∧ V.cell? ⟨g, J, none⟩ = some (.string yy)) (first | exact HSI.out _ hS1 | exact HSI.out _ (Below.refl V3.heap.size V3).drew) ((go_at_call 94; refine (HCM.out _).mono ?_; rintro e w11 ⟨rfl, hb11⟩; have hS1 := heldB (Below.refl V3.heap.size V3).drew hb11 (Nat.le_refl _)))
          have HB13 := hide (heldN HBV3.out hS1 (Nat.le_refl _))
          have HA13 := hide (HAV3.out.on hS1)
          have HD13 := hide (HDV3.out.on hS1)
          have HO13 := hide (HOV3.out.kept (grown_of_below hS1) (by cases Value.ownBlock _ with | none => exact .inl rfl | some _ => exact .inr (by simp)))
          have hz13 : w10.heap.size ≤ w11.heap.size := Nat.le_trans hzV3 hS1.size
          clear hS1 hb11 hzV3 HBV3 HAV3 HDV3 HOV3 HCM HSI hat hdb ho hbi hzi
          have HSU := hide (HES.out m)
          generalize ev q m = en at HSU ⊢
          go_wp2_with (at_builtin; refine wpList_append_own _ rfl _ _ 27 rfl w10.heap.size 9 i0 (.string ⟨#[]⟩) 1 16 Tryz.underlying27 hi0 hz0 hz1 hz2 rfl (by decide) _ _ _ rfl (HO13.out.alloc _) ⟨w11.heap.size, 0, none⟩ 1 1 [_] rfl rfl (one_new _ _ _) ?c2 ?c3 ?c4 ?c5 ?_)
          case c2 => intro y hy; simp at hy; subst hy; rfl
          case c3 => unfold maxLen; omega
          case c4 => omega
          case c5 => simp; omega
          intro v' w14 ho14 hgrow _
          have HB14 := hide ((HB13.out.alloc HB13.out.size _).grown hgrow (by rw [World.size_alloc]; exact Nat.le_succ_of_le HB13.out.size) (fun p hp => by have h1 := (owns_lt HO13.out p hp).1; have h2 := HATZ.out; omega))
          have HO14 : Hid (w14.ownsRow w10.heap.size 9 1 v' (m + 1) ((evs ev q (m + 1)).map Value.string)) := by
            show w14.ownsRow w10.heap.size 9 1 v' (m + 1) ((evs ev q (m + 1)).map Value.string)
            rw [HSU.out, List.map_append]
            exact ho14
          have HA14 := hide (blk_grown (HA13.out.alloc _) hgrow (fun p hp => by have := (owns_lt HO13.out p hp).1; omega))
          have HD14 := hide (show Blk w14 gd CL 3 from blk_grown (HD13.out.alloc _) hgrow (fun p hp => by have := (owns_lt HO13.out p hp).1; omega))
          have hz14 : w10.heap.size ≤ w14.heap.size := by have := hgrow.size; simp at this; omega
          clear ho14 hgrow HO13 HB13 HA13 HD13 hz13
          go_wp2
          go_roundw
          case rel =>
            have R : ∃ (m' : Nat) (z : Int), m' ≤ ch ∧ Value.int .i64 ((m : Int) + 1) = .int .i64 m' ∧ Hid (Blk w14 AT [.int .i64 q, .int .i64 Q1, .int .i64 Q2, .int .i64 z] 91) ∧ Hid (Blk w14 gd CL 3) ∧ Hid (w14.ownsRow w10.heap.size 9 1 v' m' ((evs ev q m').map Value.string)) ∧ Hid (Below wo.heap.size wo w14) ∧ Hid (w10.heap.size ≤ w14.heap.size) := ⟨m + 1, m, by omega, by go_num, HA14.out, HD14.out, HO14.out, HB14.out, hz14⟩
            first | exact R | ((repeat apply Exists.intro); exact ⟨R, rfl⟩)
          case measure => simp [intOf]; omega
        · obtain rfl : m = ch := by omega
          have hel := HEL.out m
          obtain ⟨gx, cx, hvv, hcc, hg1, hg2, hce'⟩ := owns_strs (ys := evs ev q m) (by rw [hel]; exact ho.out) (by rw [hel]; exact hc1)
          rw [hel] at hvv hcc
          subst hvv
          have HBV4 := hide (hbi.out.setCell (p := ⟨AT, 3, none⟩) HATZ.out (.int .i64 0))
          have HAV4 := hide (hat.out.set 3 (.int .i64 0))
          simp only [List.set_cons_succ, List.set_cons_zero] at HAV4
          have HFM := hide (HF1.out (wr.setCell ⟨AT, 3, none⟩ (.int .i64 0)) gx cx (by rw [World.size_setCell]; exact hg2) hcc (fun j y hj => (World.cell?_setCell_other _ _ _ _ (by simp <;> omega)).trans (hce' j y hj)))
          obtain ⟨V4, hV4⟩ : ∃ V4, wr.setCell ⟨AT, 3, none⟩ (.int .i64 0) = V4 := ⟨_, rfl⟩
          rw [hV4] at HBV4 HAV4 HFM
          obtain ⟨c0, c1, c2, c3, c4, d0, d1, d2, z2⟩ := HSB.out V4 (heldB hb.out HBV4.out (Nat.le_refl _))
          have e0 := HAV4.out.cell 0
          have e1' := HAV4.out.cell 1
          have e2' := HAV4.out.cell 2
          have e3' := HAV4.out.cell 3
          simp only [List.getElem?_cons_zero, List.getElem?_cons_succ] at e0 e1' e2' e3'
          clear hel hcc hg1 hg2 hce' ho hdb hat
          go_wp2_with fail
          refine HFM.out.mono ?_
          rintro e w12 ⟨rfl, hb12⟩
          have HB15 := hide (heldN HBV4.out hb12 (Nat.le_refl _))
          have HA15 := hide (HAV4.out.on hb12)
          clear hb12 c0 c1 c2 c3 c4 d0 d1 d2 z2 a3' fz HBV4 HAV4 HFM hV4 e0 e1' e2' e3'
          have HK15 := hide (heldB hb.out HB15.out (Nat.le_refl _))
          have HSJ := hide (fun (V : World) (h : Below w12.heap.size w12 V) => (by
            have hk := heldB HK15.out h (Nat.le_refl _)
            obtain ⟨c0, c1, c2, c3, c4, _, _, d2, z2⟩ := HSB.out V hk
            have q2 := HA15.out.on h
            exact ⟨c0, c1, c2, c3, c4, q2.cell 0, q2.cell 1, q2.cell 2, q2.cell 3, d2, z2⟩ : V.cell? ⟨KB, 0, none⟩ = some (.int .i64 k) ∧ V.cell? ⟨KB, 1, none⟩ = some (.int .i64 b) ∧ V.cell? ⟨KB, 2, none⟩ = some (.int .i64 x) ∧ V.cell? ⟨KB, 3, none⟩ = some (.int .i64 t) ∧ V.cell? ⟨KB, 4, none⟩ = some (.int .i64 l) ∧ V.cell? ⟨AT, 0, none⟩ = some (.int .i64 q) ∧ V.cell? ⟨AT, 1, none⟩ = some (.int .i64 Q1) ∧ V.cell? ⟨AT, 2, none⟩ = some (.int .i64 Q2) ∧ V.cell? ⟨AT, 3, none⟩ = some (.int .i64 0) ∧ V.cell? ⟨PB, 2, none⟩ = some (.slice (some ⟨g, 0, none⟩) n c) ∧ V.cell? ⟨ZB, 2, none⟩ = some (.int .i64 m)))
          have HCM := hide (fun cy => HCL1.out w12.drew g cy (Nat.lt_of_lt_of_le HG8.out HK15.out.drew.size) (HPC.out w12.drew HK15.out.drew))
          go_wp2_with fail
          go_region_held3 (fun V => V.cell? ⟨KB, 0, none⟩ = some (.int .i64 k) ∧ V.cell? ⟨KB, 1, none⟩ = some (.int .i64 b) ∧ V.cell? ⟨KB, 2, none⟩ = some (.int .i64 x) ∧ V.cell? ⟨KB, 3, none⟩ = some (.int .i64 t) ∧ V.cell? ⟨KB, 4, none⟩ = some (.int .i64 l) ∧ V.cell? ⟨AT, 0, none⟩ = some (.int .i64 q) ∧ V.cell? ⟨AT, 1, none⟩ = some (.int .i64 Q1) ∧ V.cell? ⟨AT, 2, none⟩ = some (.int .i64 Q2) ∧ V.cell? ⟨AT, 3, none⟩ = some (.int .i64 0) ∧ V.cell? ⟨PB, 2, none⟩ = some (.slice (some ⟨g, 0, none⟩) n c) ∧ V.cell? ⟨ZB, 2, none⟩ = some (.int .i64 m)) (first | exact HSJ.out _ hS1 | exact HSJ.out _ (Below.refl w12.heap.size w12).drew) ((go_at_call 96; refine (HCM.out _).mono ?_; rintro e w13 ⟨rfl, hb13⟩; have hS1 := heldB (Below.refl w12.heap.size w12).drew hb13 (Nat.le_refl _)))
          have HB16 := hide (heldB HK15.out hS1 (Nat.le_refl _))
          clear hS1 hb13
          obtain ⟨c0, c1, c2, c3, c4, d0, d1, d2, z2⟩ := HSB.out w13 HB16.out
          go_wp2
          go_roundw
          case rel =>
            have R : ∃ q' : Nat, q' ≤ l ∧ Value.int .i64 ((q : Int) + 1) = .int .i64 q' ∧ Value.string (M (q + 1)) = .string (M q') ∧ Hid (Below W8.heap.size W8 w13) := ⟨q + 1, by omega, by go_num, rfl, HB16.out⟩
            first | exact R | ((repeat apply Exists.intro); exact ⟨R, rfl⟩)
          case measure => simp [intOf]; omega
    · obtain rfl : q = l := by omega
      have HBF := hide (HBE.out.trans (hb.out.mono HBE.out.size))
      obtain ⟨c0, c1, c2, c3, c4, d0, d1, d2, z2⟩ := HSB.out wo hb.out
      rcases HR.out with ⟨hr1, hr2⟩ | ⟨hr1, hr2⟩
      · subst hr2
        rw [hr1]
        go_wp2
        go_ret
        exact ⟨rfl, HBF.out⟩
      · subst hr2
        have ne1 : ((M q).toList == root.toList) = false := by simpa using hr1
        have ne2 : ((M q).toList != root.toList) = true := by simpa using hr1
        go_wp2
        go_ret
        exact ⟨rfl, HBF.out⟩
end Go.Proofs.YtgaoeoijdpdjiabGreatDoor
