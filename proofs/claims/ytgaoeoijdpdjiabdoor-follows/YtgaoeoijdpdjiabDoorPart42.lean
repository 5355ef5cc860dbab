/-
  The statement's own top: the root to which a whole signature leads, its calls' answers being given.
-/
import Derived.Test.YtgaoeoijdpdjiabDoorPart41
import Derived.Test.YtgaoeoijdpdjiabDoorPart27
namespace Go.Proofs.YtgaoeoijdpdjiabDoor
open Go.RowKit

theorem blk4V {V : World} {g : Nat} {T : TypeId} {u0 u1 u2 u3 : Value} (h : Blk V g [u0, u1, u2, u3] T) (v0 v1 v2 v3 : Value) : Blk ((((V.setCell ⟨g, 0, none⟩ v0).setCell ⟨g, 1, none⟩ v1).setCell ⟨g, 2, none⟩ v2).setCell ⟨g, 3, none⟩ v3) g [v0, v1, v2, v3] T :=
  (((h.set 0 v0).set 1 v1).set 2 v2).set 3 v3

set_option maxRecDepth 20000 in
set_option maxHeartbeats 8000000 in
theorem top_on (k b x t idx : Int) (l E n g o c L : Nat) (root pub msg rnd : ByteArray) (ch : Nat) (ms : Nat → ByteArray) (ns : Nat → Nat) (w : World) (hT : Tn w) (hl2 : l ≤ 3) (hEc : (ch : Int) + t = (E : Int)) (hE2 : E ≤ 68) (hnE : n = l * E) (hnc : n ≤ c) (hE1 : 1 ≤ E) (hi0 : idx = (ns 0 : Int)) (hns : ∀ q, ns (q + 1) = ns q / L) (hnb : ∀ q, ns q ≤ 100000) (hL1 : 1 ≤ L) (hL2 : L ≤ 16) (q0 : 0 ≤ idx ∧ idx ≤ 100000) (z1 : rnd.size ≤ 16) (z2 : root.size ≤ 16) (z3 : pub.size ≤ 16) (z4 : msg.size ≤ 200) (hb1 : 1 ≤ b) (hms : ∀ q, q ≤ l → ((ms q).size : Int) = b)
    (hCh : ∀ V : World, Calls Tryd.prog 16 #[.agg #[.int .i64 k, .int .i64 b, .int .i64 x, .int .i64 t, .int .i64 l]] V fun e w' => e = .returned (.int .i64 ch) ∧ Below V.heap.size V w')
    (hLv : ∀ V : World, Calls Tryd.prog 22 #[.agg #[.int .i64 k, .int .i64 b, .int .i64 x, .int .i64 t, .int .i64 l]] V fun e w' => e = .returned (.int .i64 L) ∧ Below V.heap.size V w')
    (hTg : ∀ V : World, Tn V → Calls Tryd.prog 21 #[.agg #[.int .i64 k, .int .i64 b, .int .i64 x, .int .i64 t, .int .i64 l], .int .i64 6, .string (rnd ++ root ++ pub ++ numB 4 idx ++ msg)] V fun e w' => e = .returned (.string (ms 0)) ∧ Below V.heap.size V w')
    (hLy : ∀ q : Nat, q < l → ∀ V : World, Tn V → Below w.heap.size w V → Calls Tryd.prog 23 #[.agg #[.int .i64 k, .int .i64 b, .int .i64 x, .int .i64 t, .int .i64 l], .string pub, .agg #[.int .i64 q, .int .i64 ((ns q / L : Nat) : Int), .int .i64 ((ns q % L : Nat) : Int), .int .i64 0], .string (ms q), .slice (some ⟨g, o + q * E, none⟩) E (c - q * E)] V fun e w' => e = .returned (.string (ms (q + 1))) ∧ Below V.heap.size V w') :
    Calls Tryd.prog 13 #[.agg #[.int .i64 k, .int .i64 b, .int .i64 x, .int .i64 t, .int .i64 l], .string root, .string pub, .string msg, .agg #[.int .i64 idx, .string rnd, .slice (some ⟨g, o, none⟩) n c]] w fun e w' => e = .returned (.string (ms l)) ∧ Below w.heap.size w w' := by
  have HCH := hide hCh
  have HLV := hide hLv
  have HTG := hide hTg
  have HLY := hide hLy
  have HNS := hide hns
  have HNB := hide hnb
  have HMS := hide hms
  have HNU := hide (fun V : World => keepNumber_any 4 idx V (by decide) q0.1 (by omega))
  have vE : IntKind.i64.wrap ((ch : Int) + t) = (E : Int) := by rw [hEc, IntKind.wrap_i64] <;> omega
  have hlE : l * E ≤ 3 * 68 := Nat.mul_le_mul hl2 hE2
  have vn : IntKind.i64.wrap ((l : Int) * (E : Int)) = (n : Int) := by
    have e : (l : Int) * (E : Int) = (n : Int) := by rw [hnE, Int.natCast_mul]
    rw [e, IntKind.wrap_i64] <;> omega
  have cc1 := sadd rnd root (by omega) (by omega)
  have cc2 := sadd (rnd ++ root) pub (by simp only [ByteArray.size_append]; omega) (by omega)
  have cc3 := sadd (rnd ++ root ++ pub) (numB 4 idx) (by simp only [ByteArray.size_append]; omega) (by rw [numB_size]; omega)
  have cc4 := sadd (rnd ++ root ++ pub ++ numB 4 idx) msg (by simp only [ByteArray.size_append, numB_size]; omega) (by omega)
  have HCU := hide (fun (q : Nat) (hq : q < l) => (by
    have hqE : (q + 1) * E ≤ l * E := Nat.mul_le_mul_right _ hq
    have hq1 : (q + 1) * E = q * E + E := by rw [Nat.add_mul, Nat.one_mul]
    have e1 : ∀ wx, (Instr.slice 30 (.slice (some ⟨g, o, none⟩) n c) (some (.int .i64 ((q * E : Nat) : Int))) (some (.int .i64 (((q + 1) * E : Nat) : Int))) none).run Tryd.prog wx = .ok (.slice (some ⟨g, o + q * E, none⟩) E (c - q * E)) wx := fun wx => by
      have h := cutR g o n c (q * E) ((q + 1) * E) (by omega) (by omega) (by omega) wx
      rw [show (q + 1) * E - q * E = E by omega] at h
      exact h
    have v1 : IntKind.i64.wrap ((q : Int) * (E : Int)) = ((q * E : Nat) : Int) := by
      have e : (q : Int) * (E : Int) = ((q * E : Nat) : Int) := by rw [Int.natCast_mul]
      rw [e, IntKind.wrap_i64] <;> omega
    have v2 : IntKind.i64.wrap (((q : Int) + 1) * (E : Int)) = (((q + 1) * E : Nat) : Int) := by
      have e : ((q : Int) + 1) * (E : Int) = (((q + 1) * E : Nat) : Int) := by rw [Int.natCast_mul]; rfl
      rw [e, IntKind.wrap_i64] <;> omega
    exact ⟨e1, v1, v2⟩ : (∀ wx, (Instr.slice 30 (.slice (some ⟨g, o, none⟩) n c) (some (.int .i64 ((q * E : Nat) : Int))) (some (.int .i64 (((q + 1) * E : Nat) : Int))) none).run Tryd.prog wx = .ok (.slice (some ⟨g, o + q * E, none⟩) E (c - q * E)) wx) ∧ IntKind.i64.wrap ((q : Int) * (E : Int)) = ((q * E : Nat) : Int) ∧ IntKind.i64.wrap (((q : Int) + 1) * (E : Int)) = (((q + 1) * E : Nat) : Int)))
  have HI0 := hide hi0
  have hn300 : n ≤ 204 := by omega
  clear hCh hLv hTg hLy hns hnb hms hEc hnE hlE hi0 z1 z2 z3 z4
  generalize rnd ++ root ++ pub ++ numB 4 idx ++ msg = tg at cc4 HTG
  generalize rnd ++ root ++ pub ++ numB 4 idx = tf at cc3 cc4
  generalize rnd ++ root ++ pub = te at cc2 cc3
  generalize rnd ++ root = td at cc1 cc2
  generalize numB 4 idx = nb at cc3 HNU
  obtain ⟨W0, hW⟩ : ∃ W0, (w.alloc (.cells #[.int .i64 k, .int .i64 b, .int .i64 x, .int .i64 t, .int .i64 l] 23)).alloc (.cells #[.int .i64 idx, .string rnd, .slice (some ⟨g, o, none⟩) n c] 32) = W0 := ⟨_, rfl⟩
  have HK := hide (show Blk W0 w.heap.size [.int .i64 k, .int .i64 b, .int .i64 x, .int .i64 t, .int .i64 l] 23 by rw [← hW]; exact (Blk.new w _ _).alloc _)
  have HPA := hide (show Blk W0 (w.heap.size + 1) [.int .i64 idx, .string rnd, .slice (some ⟨g, o, none⟩) n c] 32 by
    rw [← hW]
    have h := Blk.new (w.alloc (.cells #[.int .i64 k, .int .i64 b, .int .i64 x, .int .i64 t, .int .i64 l] 23)) [.int .i64 idx, .string rnd, .slice (some ⟨g, o, none⟩) n c] 32
    simp only [World.size_alloc] at h
    exact h)
  have HB := hide (show Below w.heap.size w W0 by subst hW; exact ((Below.refl _ _).alloc (Nat.le_refl _) _).alloc (by simp) _)
  have HTW := hide (hT.on HB.out)
  have HS := hide (fun (V : World) (h : Below W0.heap.size W0 V) => (by
    have q1 := HK.out.on h
    have q2 := HPA.out.on h
    exact ⟨q1.cell 0, q1.cell 1, q1.cell 2, q1.cell 3, q1.cell 4, q2.cell 0, q2.cell 1, q2.cell 2⟩ : V.cell? ⟨w.heap.size, 0, none⟩ = some (.int .i64 k) ∧ V.cell? ⟨w.heap.size, 1, none⟩ = some (.int .i64 b) ∧ V.cell? ⟨w.heap.size, 2, none⟩ = some (.int .i64 x) ∧ V.cell? ⟨w.heap.size, 3, none⟩ = some (.int .i64 t) ∧ V.cell? ⟨w.heap.size, 4, none⟩ = some (.int .i64 l) ∧ V.cell? ⟨w.heap.size + 1, 0, none⟩ = some (.int .i64 idx) ∧ V.cell? ⟨w.heap.size + 1, 1, none⟩ = some (.string rnd) ∧ V.cell? ⟨w.heap.size + 1, 2, none⟩ = some (.slice (some ⟨g, o, none⟩) n c)))
  clear hT
  have HWE := hide hW
  clear hW
  go_enter Tryd.func13, Tryd.ntmps13
  go_wp2_with fail
  rw [HWE.out]
  go_region_held3 (fun V => V.cell? ⟨w.heap.size, 0, none⟩ = some (.int .i64 k) ∧ V.cell? ⟨w.heap.size, 1, none⟩ = some (.int .i64 b) ∧ V.cell? ⟨w.heap.size, 2, none⟩ = some (.int .i64 x) ∧ V.cell? ⟨w.heap.size, 3, none⟩ = some (.int .i64 t) ∧ V.cell? ⟨w.heap.size, 4, none⟩ = some (.int .i64 l) ∧ V.cell? ⟨w.heap.size + 1, 0, none⟩ = some (.int .i64 idx) ∧ V.cell? ⟨w.heap.size + 1, 1, none⟩ = some (.string rnd) ∧ V.cell? ⟨w.heap.size + 1, 2, none⟩ = some (.slice (some ⟨g, o, none⟩) n c)) (first | exact HS.out _ hS1 | exact HS.out _ (Below.refl W0.heap.size W0).drew) ((go_at_call 16; refine (HCH.out _).mono ?_; rintro e w1 ⟨rfl, hb1⟩; have hS1 := heldB (Below.refl W0.heap.size W0).drew hb1 (Nat.le_refl _)))
  have HB1 := hide hS1
  clear hS1 hb1
  obtain ⟨c0, c1, c2, c3, c4, d0, d1, d2⟩ := HS.out _ HB1.out
  go_wp2_with fail
  clear c0 c1 c2 c3 c4 d0 d1 d2
  go_region_held3 (fun V => V.cell? ⟨w.heap.size, 0, none⟩ = some (.int .i64 k) ∧ V.cell? ⟨w.heap.size, 1, none⟩ = some (.int .i64 b) ∧ V.cell? ⟨w.heap.size, 2, none⟩ = some (.int .i64 x) ∧ V.cell? ⟨w.heap.size, 3, none⟩ = some (.int .i64 t) ∧ V.cell? ⟨w.heap.size, 4, none⟩ = some (.int .i64 l) ∧ V.cell? ⟨w.heap.size + 1, 0, none⟩ = some (.int .i64 idx) ∧ V.cell? ⟨w.heap.size + 1, 1, none⟩ = some (.string rnd) ∧ V.cell? ⟨w.heap.size + 1, 2, none⟩ = some (.slice (some ⟨g, o, none⟩) n c)) (first | exact HS.out _ hS3 | exact HS.out _ hS2 | exact HS.out _ HB1.out.drew) (first | (go_at_call 8; refine (HNU.out _).mono ?_; rintro e w2 ⟨rfl, hb2⟩; have hS2 := heldB HB1.out.drew hb2 (Nat.le_refl _)) | (go_at_call 21; refine (HTG.out _ (HTW.out.on hS2)).mono ?_; rintro e w3 ⟨rfl, hb3⟩; have hS3 := heldB hS2 hb3 (Nat.le_refl _)))
  have HB3 := hide hS3
  clear hS2 hS3 hb2 hb3 cc1 cc2 cc3 cc4
  obtain ⟨c0, c1, c2, c3, c4, d0, d1, d2⟩ := HS.out _ HB3.out
  go_wp2_with fail
  go_loopw [12, 13, 14] (fun u v i wr => ∃ q : Nat, q ≤ l ∧ i = .int .i64 q ∧ u = .string (ms q) ∧ v = .int .i64 (ns q) ∧ Hid (Below W0.heap.size W0 wr)) (fun _ _ i _ => l - (intOf i).toNat)
  case atStart => exact ⟨0, Nat.zero_le _, rfl, rfl, by rw [HI0.out], HB3.out⟩
  case round =>
    clear c0 c1 c2 c3 c4 d0 d1 d2
    obtain ⟨q, hq, rfl, rfl, rfl, hb⟩ := hrel
    obtain ⟨c0, c1, c2, c3, c4, d0, d1, d2⟩ := HS.out wr hb.out
    by_cases hlt : q < l
    · obtain ⟨e1, v1, v2⟩ := HCU.out q hlt
      have HLY1 := hide (HLY.out q hlt)
      have hem := not_empty (HMS.out (q + 1) hlt) hb1
      have HNS1 := hide (HNS.out q)
      have hnq := HNB.out q
      obtain ⟨N, hN⟩ : ∃ N, ns q = N := ⟨_, rfl⟩
      obtain ⟨A, hA⟩ : ∃ A : Nat, N / L = A := ⟨_, rfl⟩
      obtain ⟨C, hC⟩ : ∃ C : Nat, N % L = C := ⟨_, rfl⟩
      have hL0 : L ≠ 0 := by omega
      have hdv : Int.tdiv (N : Int) (L : Int) = (A : Int) := by rw [← hA, Int.tdiv_eq_ediv_of_nonneg (by omega)]; exact (Int.natCast_ediv _ _).symm
      have hmd : Int.tmod (N : Int) (L : Int) = (C : Int) := by rw [← hC, Int.tmod_eq_emod_of_nonneg (by omega)]; exact (Int.natCast_emod _ _).symm
      rw [hN] at HLY1 HNS1 hnq ⊢
      have hAb : A ≤ 100000 := by rw [← hA]; exact Nat.le_trans (Nat.div_le_self _ _) hnq
      have hw1 : IntKind.i64.wrap (A : Int) = (A : Int) := by rw [IntKind.wrap_i64] <;> omega
      rw [hA] at HLY1 HNS1
      rw [hC] at HLY1
      clear hA hC hN hnq
      generalize ms q = mq at HLY1 ⊢
      obtain ⟨mq', HLQ⟩ : ∃ mq', Hid (ms (q + 1) = mq') := ⟨_, rfl⟩
      rw [HLQ.out] at HLY1 hem
      generalize (q + 1) * E = C2 at e1 v2
      generalize q * E = C1 at e1 v1 HLY1
      have hql : (q : Int) < (l : Int) := by omega
      have v3 : IntKind.i64.wrap ((q : Int) + 1) = (q : Int) + 1 := by rw [IntKind.wrap_i64] <;> omega
      have HSR := hide (fun (V : World) (h : Below wr.heap.size wr V) => HS.out V (heldB hb.out h (Nat.le_refl _)))
      go_wp2_with fail
      clear c0 c1 c2 c3 c4 d0 d1 d2
      refine wp_region_held_drew (S := fun V => V.cell? ⟨w.heap.size, 0, none⟩ = some (.int .i64 k) ∧ V.cell? ⟨w.heap.size, 1, none⟩ = some (.int .i64 b) ∧ V.cell? ⟨w.heap.size, 2, none⟩ = some (.int .i64 x) ∧ V.cell? ⟨w.heap.size, 3, none⟩ = some (.int .i64 t) ∧ V.cell? ⟨w.heap.size, 4, none⟩ = some (.int .i64 l) ∧ V.cell? ⟨w.heap.size + 1, 0, none⟩ = some (.int .i64 idx) ∧ V.cell? ⟨w.heap.size + 1, 1, none⟩ = some (.string rnd) ∧ V.cell? ⟨w.heap.size + 1, 2, none⟩ = some (.slice (some ⟨g, o, none⟩) n c)) (by kernel_rfl) (HSR.out _ ((Below.refl wr.heap.size wr).drew)) (fun hHeld => ?_)
      refine wpAnyH_take (i := 0) (oi := ?oia0) (v := ?va0) ?hia0 (by kernel_rfl) (by kernel_rfl) (by kernel_rfl) ?hQa0 (Or.inl ⟨?h1a0, ?hya0⟩) hHeld ?resta0
      case hia0 => (simp only [List.getElem?_toArray, List.getElem?_cons_zero]; rfl)
      case hQa0 => exact fun _ _ _ h => h
      case h1a0 => rfl
      case hya0 => intro V hSV; (try dsimp only at hSV); go_simp; (try with_reducible rfl)
      try simp only [Act.put, List.setIfInBounds_toArray, List.set_cons_zero, List.set_cons_succ]
      refine wpAnyH_take (i := 1) (oi := ?oia1) (v := ?va1) ?hia1 (by kernel_rfl) (by kernel_rfl) (by kernel_rfl) ?hQa1 (Or.inl ⟨?h1a1, ?hya1⟩) hHeld ?resta1
      case hia1 => (simp only [List.getElem?_toArray, List.getElem?_cons_succ, List.getElem?_cons_zero]; rfl)
      case hQa1 => exact fun _ _ _ h => h
      case h1a1 => rfl
      case hya1 => intro V hSV; (try dsimp only at hSV); go_simp; (try with_reducible rfl)
      try simp only [Act.put, List.setIfInBounds_toArray, List.set_cons_zero, List.set_cons_succ]
      refine wpAnyH_take (i := 2) (oi := ?oia2) (v := ?va2) ?hia2 (by kernel_rfl) (by kernel_rfl) (by kernel_rfl) ?hQa2 (Or.inl ⟨?h1a2, ?hya2⟩) hHeld ?resta2
      case hia2 => (simp only [List.getElem?_toArray, List.getElem?_cons_succ, List.getElem?_cons_zero]; rfl)
      case hQa2 => exact fun _ _ _ h => h
      case h1a2 => rfl
      case hya2 => intro V hSV; (try dsimp only at hSV); go_simp; (try with_reducible rfl)
      try simp only [Act.put, List.setIfInBounds_toArray, List.set_cons_zero, List.set_cons_succ]
      refine wpAnyH_take (i := 5) (oi := ?oia5) (v := ?va5) ?hia5 (by kernel_rfl) (by kernel_rfl) (by kernel_rfl) ?hQa5 (Or.inl ⟨?h1a5, ?hya5⟩) hHeld ?resta5
      case hia5 => (simp only [List.getElem?_toArray, List.getElem?_cons_succ, List.getElem?_cons_zero]; rfl)
      case hQa5 => exact fun _ _ _ h => h
      case h1a5 => rfl
      case hya5 => intro V hSV; (try dsimp only at hSV); go_simp; (try with_reducible rfl)
      try simp only [Act.put, List.setIfInBounds_toArray, List.set_cons_zero, List.set_cons_succ]
      refine wpAnyH_take (i := 6) (oi := ?oia6) (v := ?va6) ?hia6 (by kernel_rfl) (by kernel_rfl) (by kernel_rfl) ?hQa6 (Or.inl ⟨?h1a6, ?hya6⟩) hHeld ?resta6
      case hia6 => (simp only [List.getElem?_toArray, List.getElem?_cons_succ, List.getElem?_cons_zero]; rfl)
      case hQa6 => exact fun _ _ _ h => h
      case h1a6 => rfl
      case hya6 => intro V hSV; (try dsimp only at hSV); go_simp; (try with_reducible rfl)
      try simp only [Act.put, List.setIfInBounds_toArray, List.set_cons_zero, List.set_cons_succ]
      refine wpAnyH_ready (rs := [3, 10]) (by kernel_rfl) (by simp) ?_
      refine AllReadyH.cons (o := ?opA) ?hopA (fun K hK => ?hspA) (AllReadyH.cons (o := ?opB) ?hopB (fun K hK => ?hspB) AllReadyH.nil)
      case hopA => (simp only [List.getElem?_toArray, List.getElem?_cons_succ, List.getElem?_cons_zero]; rfl)
      case hopB => (simp only [List.getElem?_toArray, List.getElem?_cons_succ, List.getElem?_cons_zero]; rfl)
      case hspA =>
        go_simp
        go_at_call 22
        refine (HLV.out _).mono ?_
        rintro e w4 ⟨rfl, hb4⟩
        have HB4 := hide (heldB (Below.refl wr.heap.size wr).drew hb4 (Nat.le_refl _))
        clear hb4
        try go_wp2_with fail
        refine hK.out _ _ (HSR.out _ (HB4.out)) (fun hHeld => ?_)
        clear hK K
        try simp only [Act.put, List.setIfInBounds_toArray, List.set_cons_zero, List.set_cons_succ]
        refine wpAnyH_take (i := 4) (oi := ?oib4) (v := ?vb4) ?hib4 (by kernel_rfl) (by kernel_rfl) (by kernel_rfl) ?hQb4 (Or.inl ⟨?h1b4, ?hyb4⟩) hHeld ?restb4
        case hib4 => (simp only [List.getElem?_toArray, List.getElem?_cons_succ, List.getElem?_cons_zero]; rfl)
        case hQb4 => exact fun _ _ _ h => h
        case h1b4 => rfl
        case hyb4 => intro V hSV; (try dsimp only at hSV); go_simp; (try with_reducible rfl)
        try simp only [Act.put, List.setIfInBounds_toArray, List.set_cons_zero, List.set_cons_succ]
        refine wpAnyH_ready (rs := [7, 10]) (by kernel_rfl) (by simp) ?_
        refine AllReadyH.cons (o := ?oqA) ?hoqA (fun K hK => ?hsqA) (AllReadyH.cons (o := ?oqB) ?hoqB (fun K hK => ?hsqB) AllReadyH.nil)
        case hoqA => (simp only [List.getElem?_toArray, List.getElem?_cons_succ, List.getElem?_cons_zero]; rfl)
        case hoqB => (simp only [List.getElem?_toArray, List.getElem?_cons_succ, List.getElem?_cons_zero]; rfl)
        case hsqA =>
          go_simp
          go_at_call 22
          refine (HLV.out _).mono ?_
          rintro e w5 ⟨rfl, hb5⟩
          have HB5 := hide (heldB HB4.out hb5 (Nat.le_refl _))
          clear hb5
          try go_wp2_with fail
          refine hK.out _ _ (HSR.out _ (HB5.out)) (fun hHeld => ?_)
          clear hK K
          try simp only [Act.put, List.setIfInBounds_toArray, List.set_cons_zero, List.set_cons_succ]
          refine wpAnyH_take (i := 8) (oi := ?oic8) (v := ?vc8) ?hic8 (by kernel_rfl) (by kernel_rfl) (by kernel_rfl) ?hQc8 (Or.inl ⟨?h1c8, ?hyc8⟩) hHeld ?restc8
          case hic8 => (simp only [List.getElem?_toArray, List.getElem?_cons_succ, List.getElem?_cons_zero]; rfl)
          case hQc8 => exact fun _ _ _ h => h
          case h1c8 => rfl
          case hyc8 => intro V hSV; (try dsimp only at hSV); go_simp; (try with_reducible rfl)
          try simp only [Act.put, List.setIfInBounds_toArray, List.set_cons_zero, List.set_cons_succ]
          refine wpAnyH_take (i := 9) (oi := ?oic9) (v := ?vc9) ?hic9 (by kernel_rfl) (by kernel_rfl) (by kernel_rfl) ?hQc9 (Or.inl ⟨?h1c9, ?hyc9⟩) hHeld ?restc9
          case hic9 => (simp only [List.getElem?_toArray, List.getElem?_cons_succ, List.getElem?_cons_zero]; rfl)
          case hQc9 => exact fun _ _ _ h => h
          case h1c9 => rfl
          case hyc9 => intro V hSV; (try dsimp only at hSV); go_simp; (try with_reducible rfl)
          try simp only [Act.put, List.setIfInBounds_toArray, List.set_cons_zero, List.set_cons_succ]
          refine wpAnyH_ready (rs := [10]) (by kernel_rfl) (by simp) ?_
          refine AllReadyH.cons (o := ?oc10) ?hoc10 (fun K hK => ?hsc10) AllReadyH.nil
          case hoc10 => (simp only [List.getElem?_toArray, List.getElem?_cons_succ, List.getElem?_cons_zero]; rfl)
          go_simp
          refine hK.out _ _ (HSR.out _ (HB5.out.alloc HB5.out.size _)) (fun hHeld => ?_)
          clear hK K
          try simp only [Act.put, List.setIfInBounds_toArray, List.set_cons_zero, List.set_cons_succ]
          refine wpAnyH_ready (rs := [11]) (by kernel_rfl) (by simp) ?_
          refine AllReadyH.cons (o := ?oc11) ?hoc11 (fun K hK => ?hsc11) AllReadyH.nil
          case hoc11 => (simp only [List.getElem?_toArray, List.getElem?_cons_succ, List.getElem?_cons_zero]; rfl)
          go_simp
          refine hK.out _ _ (HSR.out _ (HB5.out.alloc HB5.out.size _)) (fun hHeld => ?_)
          clear hK K
          try simp only [Act.put, List.setIfInBounds_toArray, List.set_cons_zero, List.set_cons_succ]
          refine wpAnyH_done (by kernel_rfl) ?_ _
          have HPX := hide (Blk.new w5 [.int .i64 q, .int .i64 A, .int .i64 C, .int .i64 0] 47)
          have HBX := hide (HB5.out.alloc HB5.out.size (.cells #[.int .i64 q, .int .i64 A, .int .i64 C, .int .i64 0] 47))
          obtain ⟨WX, hWX⟩ : ∃ WX, w5.alloc (.cells #[.int .i64 q, .int .i64 A, .int .i64 C, .int .i64 0] 47) = WX := ⟨_, rfl⟩
          rw [hWX] at HPX HBX ⊢
          obtain ⟨PB, hPB⟩ : ∃ PB, w5.heap.size = PB := ⟨_, rfl⟩
          rw [hPB] at HPX ⊢
          clear hWX hPB HB4 HB5 hHeld
          have HKX := hide (heldB hb.out HBX.out (Nat.le_refl _))
          have HSX := hide (fun (V : World) (h : Below WX.heap.size WX V) => HS.out V (heldB HKX.out h (Nat.le_refl _)))
          obtain ⟨c0, c1, c2, c3, c4, d0, d1, d2⟩ := HSX.out WX (Below.refl _ _)
          go_wp2_with fail
          refine (HLV.out _).mono ?_
          rintro e w6 ⟨rfl, hb6⟩
          have HB6 := hide (heldB HKX.out hb6 (Nat.le_refl _))
          have HP6 := hide (HPX.out.on hb6)
          clear hb6 c0 c1 c2 c3 c4 d0 d1 d2
          have HS6 := hide (fun (V : World) (h : Below w6.heap.size w6 V) => (by
            obtain ⟨c0, c1, c2, c3, c4, d0, d1, d2⟩ := HS.out V (heldB HB6.out h (Nat.le_refl _))
            have q2 := HP6.out.on h
            exact ⟨c0, c1, c2, c3, c4, d0, d1, d2, q2.cell 0, q2.cell 1, q2.cell 2, q2.cell 3⟩ : V.cell? ⟨w.heap.size, 0, none⟩ = some (.int .i64 k) ∧ V.cell? ⟨w.heap.size, 1, none⟩ = some (.int .i64 b) ∧ V.cell? ⟨w.heap.size, 2, none⟩ = some (.int .i64 x) ∧ V.cell? ⟨w.heap.size, 3, none⟩ = some (.int .i64 t) ∧ V.cell? ⟨w.heap.size, 4, none⟩ = some (.int .i64 l) ∧ V.cell? ⟨w.heap.size + 1, 0, none⟩ = some (.int .i64 idx) ∧ V.cell? ⟨w.heap.size + 1, 1, none⟩ = some (.string rnd) ∧ V.cell? ⟨w.heap.size + 1, 2, none⟩ = some (.slice (some ⟨g, o, none⟩) n c) ∧ V.cell? ⟨PB, 0, none⟩ = some (.int .i64 q) ∧ V.cell? ⟨PB, 1, none⟩ = some (.int .i64 A) ∧ V.cell? ⟨PB, 2, none⟩ = some (.int .i64 C) ∧ V.cell? ⟨PB, 3, none⟩ = some (.int .i64 0)))
          go_wp2_with fail
          go_region_held3 (fun V => V.cell? ⟨w.heap.size, 0, none⟩ = some (.int .i64 k) ∧ V.cell? ⟨w.heap.size, 1, none⟩ = some (.int .i64 b) ∧ V.cell? ⟨w.heap.size, 2, none⟩ = some (.int .i64 x) ∧ V.cell? ⟨w.heap.size, 3, none⟩ = some (.int .i64 t) ∧ V.cell? ⟨w.heap.size, 4, none⟩ = some (.int .i64 l) ∧ V.cell? ⟨w.heap.size + 1, 0, none⟩ = some (.int .i64 idx) ∧ V.cell? ⟨w.heap.size + 1, 1, none⟩ = some (.string rnd) ∧ V.cell? ⟨w.heap.size + 1, 2, none⟩ = some (.slice (some ⟨g, o, none⟩) n c) ∧ V.cell? ⟨PB, 0, none⟩ = some (.int .i64 q) ∧ V.cell? ⟨PB, 1, none⟩ = some (.int .i64 A) ∧ V.cell? ⟨PB, 2, none⟩ = some (.int .i64 C) ∧ V.cell? ⟨PB, 3, none⟩ = some (.int .i64 0)) (first | exact HS6.out _ hS7 | exact HS6.out _ (Below.refl w6.heap.size w6).drew) ((go_at_call 23; refine (HLY1.out _ ((HTW.out.on HB6.out).on (Below.refl w6.heap.size w6).drew) ((HB.out.trans (HB6.out.mono HB.out.size)).drew)).mono ?_; rintro e w7 ⟨rfl, hb7⟩; have hS7 := heldB (Below.refl w6.heap.size w6).drew hb7 (Nat.le_refl _)))
          have HB7 := hide (heldB HB6.out hS7 (Nat.le_refl _))
          clear hS7 hb7
          go_wp2
          go_roundw
          case rel =>
            have R : ∃ q' : Nat, q' ≤ l ∧ Value.int .i64 ((q : Int) + 1) = .int .i64 q' ∧ Value.string mq' = .string (ms q') ∧ Value.int .i64 (A : Int) = .int .i64 (ns q') ∧ Hid (Below W0.heap.size W0 w7) := ⟨q + 1, by omega, by go_num, by rw [HLQ.out], by rw [HNS1.out], HB7.out⟩
            first | exact R | ((repeat apply Exists.intro); exact ⟨R, rfl⟩)
          case measure => simp [intOf]; omega
        case hsqB =>
          go_simp
          refine hK.out _ _ (HSR.out _ (HB4.out.alloc HB4.out.size _)) (fun hHeld => ?_)
          clear hK K
          try simp only [Act.put, List.setIfInBounds_toArray, List.set_cons_zero, List.set_cons_succ]
          refine wpAnyH_ready (rs := [7]) (by kernel_rfl) (by simp) ?_
          refine AllReadyH.cons (o := ?od7) ?hod7 (fun K hK => ?hsd7) AllReadyH.nil
          case hod7 => (simp only [List.getElem?_toArray, List.getElem?_cons_succ, List.getElem?_cons_zero]; rfl)
          go_simp
          go_at_call 22
          refine (HLV.out _).mono ?_
          rintro e w5 ⟨rfl, hb5⟩
          have HB5 := hide (heldB (HB4.out.alloc HB4.out.size _) hb5 (Nat.le_refl _))
          have HKZ := hide ((Blk.new w4 [.int .i64 0, .int .i64 0, .int .i64 0, .int .i64 0] 47).on hb5)
          have hz4 := HB4.out.size
          clear hb5
          try go_wp2_with fail
          refine hK.out _ _ (HSR.out _ (HB5.out)) (fun hHeld => ?_)
          clear hK K
          try simp only [Act.put, List.setIfInBounds_toArray, List.set_cons_zero, List.set_cons_succ]
          refine wpAnyH_take (i := 8) (oi := ?oid8) (v := ?vd8) ?hid8 (by kernel_rfl) (by kernel_rfl) (by kernel_rfl) ?hQd8 (Or.inl ⟨?h1d8, ?hyd8⟩) hHeld ?restd8
          case hid8 => (simp only [List.getElem?_toArray, List.getElem?_cons_succ, List.getElem?_cons_zero]; rfl)
          case hQd8 => exact fun _ _ _ h => h
          case h1d8 => rfl
          case hyd8 => intro V hSV; (try dsimp only at hSV); go_simp; (try with_reducible rfl)
          try simp only [Act.put, List.setIfInBounds_toArray, List.set_cons_zero, List.set_cons_succ]
          refine wpAnyH_take (i := 9) (oi := ?oid9) (v := ?vd9) ?hid9 (by kernel_rfl) (by kernel_rfl) (by kernel_rfl) ?hQd9 (Or.inl ⟨?h1d9, ?hyd9⟩) hHeld ?restd9
          case hid9 => (simp only [List.getElem?_toArray, List.getElem?_cons_succ, List.getElem?_cons_zero]; rfl)
          case hQd9 => exact fun _ _ _ h => h
          case h1d9 => rfl
          case hyd9 => intro V hSV; (try dsimp only at hSV); go_simp; (try with_reducible rfl)
          try simp only [Act.put, List.setIfInBounds_toArray, List.set_cons_zero, List.set_cons_succ]
          have HBZ := hide HB5.out
          have r0 := HKZ.out.cell 0
          have r1 := HKZ.out.cell 1
          have r2 := HKZ.out.cell 2
          have r3 := HKZ.out.cell 3
          have f0 := HKZ.out.free 0
          have f1 := HKZ.out.free 1
          have f2 := HKZ.out.free 2
          have f3 := HKZ.out.free 3
          simp only [List.getElem?_cons_zero, List.getElem?_cons_succ] at r0 r1 r2 r3
          refine wpAnyH_ready (rs := [11]) (by kernel_rfl) (by simp) ?_
          refine AllReadyH.cons (o := ?oxd) ?hoxd (fun K hK => ?hsxd) AllReadyH.nil
          case hoxd => (simp only [List.getElem?_toArray, List.getElem?_cons_succ, List.getElem?_cons_zero]; rfl)
          go_simp
          refine hK.out _ _ (HSR.out _ ((((HBZ.out.setCell (p := ⟨w4.heap.size, 0, none⟩) (by first | exact Nat.le_refl _ | exact hz4 | (simp <;> omega)) _).setCell (p := ⟨w4.heap.size, 1, none⟩) (by first | exact Nat.le_refl _ | exact hz4 | (simp <;> omega)) _).setCell (p := ⟨w4.heap.size, 2, none⟩) (by first | exact Nat.le_refl _ | exact hz4 | (simp <;> omega)) _).setCell (p := ⟨w4.heap.size, 3, none⟩) (by first | exact Nat.le_refl _ | exact hz4 | (simp <;> omega)) _)) (fun hHeld => ?_)
          clear hK K
          try simp only [Act.put, List.setIfInBounds_toArray, List.set_cons_zero, List.set_cons_succ]
          refine wpAnyH_done (by kernel_rfl) ?_ _
          have HPX := hide (blk4V HKZ.out (.int .i64 q) (.int .i64 A) (.int .i64 C) (.int .i64 0))
          have HBX := hide ((((HBZ.out.setCell (p := ⟨w4.heap.size, 0, none⟩) (by first | exact Nat.le_refl _ | exact hz4 | (simp <;> omega)) (.int .i64 q)).setCell (p := ⟨w4.heap.size, 1, none⟩) (by first | exact Nat.le_refl _ | exact hz4 | (simp <;> omega)) (.int .i64 A)).setCell (p := ⟨w4.heap.size, 2, none⟩) (by first | exact Nat.le_refl _ | exact hz4 | (simp <;> omega)) (.int .i64 C)).setCell (p := ⟨w4.heap.size, 3, none⟩) (by first | exact Nat.le_refl _ | exact hz4 | (simp <;> omega)) (.int .i64 0))
          obtain ⟨WX, hWX⟩ : ∃ WX, ((((w5.setCell ⟨w4.heap.size, 0, none⟩ (.int .i64 q)).setCell ⟨w4.heap.size, 1, none⟩ (.int .i64 A)).setCell ⟨w4.heap.size, 2, none⟩ (.int .i64 C)).setCell ⟨w4.heap.size, 3, none⟩ (.int .i64 0)) = WX := ⟨_, rfl⟩
          rw [hWX] at HPX HBX ⊢
          obtain ⟨PB, hPB⟩ : ∃ PB, w4.heap.size = PB := ⟨_, rfl⟩
          rw [hPB] at HPX ⊢
          clear hWX hPB hHeld r0 r1 r2 r3 f0 f1 f2 f3 HKZ HBZ
          have HKX := hide (heldB hb.out HBX.out (Nat.le_refl _))
          have HSX := hide (fun (V : World) (h : Below WX.heap.size WX V) => HS.out V (heldB HKX.out h (Nat.le_refl _)))
          obtain ⟨c0, c1, c2, c3, c4, d0, d1, d2⟩ := HSX.out WX (Below.refl _ _)
          go_wp2_with fail
          refine (HLV.out _).mono ?_
          rintro e w6 ⟨rfl, hb6⟩
          have HB6 := hide (heldB HKX.out hb6 (Nat.le_refl _))
          have HP6 := hide (HPX.out.on hb6)
          clear hb6 c0 c1 c2 c3 c4 d0 d1 d2
          have HS6 := hide (fun (V : World) (h : Below w6.heap.size w6 V) => (by
            obtain ⟨c0, c1, c2, c3, c4, d0, d1, d2⟩ := HS.out V (heldB HB6.out h (Nat.le_refl _))
            have q2 := HP6.out.on h
            exact ⟨c0, c1, c2, c3, c4, d0, d1, d2, q2.cell 0, q2.cell 1, q2.cell 2, q2.cell 3⟩ : V.cell? ⟨w.heap.size, 0, none⟩ = some (.int .i64 k) ∧ V.cell? ⟨w.heap.size, 1, none⟩ = some (.int .i64 b) ∧ V.cell? ⟨w.heap.size, 2, none⟩ = some (.int .i64 x) ∧ V.cell? ⟨w.heap.size, 3, none⟩ = some (.int .i64 t) ∧ V.cell? ⟨w.heap.size, 4, none⟩ = some (.int .i64 l) ∧ V.cell? ⟨w.heap.size + 1, 0, none⟩ = some (.int .i64 idx) ∧ V.cell? ⟨w.heap.size + 1, 1, none⟩ = some (.string rnd) ∧ V.cell? ⟨w.heap.size + 1, 2, none⟩ = some (.slice (some ⟨g, o, none⟩) n c) ∧ V.cell? ⟨PB, 0, none⟩ = some (.int .i64 q) ∧ V.cell? ⟨PB, 1, none⟩ = some (.int .i64 A) ∧ V.cell? ⟨PB, 2, none⟩ = some (.int .i64 C) ∧ V.cell? ⟨PB, 3, none⟩ = some (.int .i64 0)))
          go_wp2_with fail
          go_region_held3 (fun V => V.cell? ⟨w.heap.size, 0, none⟩ = some (.int .i64 k) ∧ V.cell? ⟨w.heap.size, 1, none⟩ = some (.int .i64 b) ∧ V.cell? ⟨w.heap.size, 2, none⟩ = some (.int .i64 x) ∧ V.cell? ⟨w.heap.size, 3, none⟩ = some (.int .i64 t) ∧ V.cell? ⟨w.heap.size, 4, none⟩ = some (.int .i64 l) ∧ V.cell? ⟨w.heap.size + 1, 0, none⟩ = some (.int .i64 idx) ∧ V.cell? ⟨w.heap.size + 1, 1, none⟩ = some (.string rnd) ∧ V.cell? ⟨w.heap.size + 1, 2, none⟩ = some (.slice (some ⟨g, o, none⟩) n c) ∧ V.cell? ⟨PB, 0, none⟩ = some (.int .i64 q) ∧ V.cell? ⟨PB, 1, none⟩ = some (.int .i64 A) ∧ V.cell? ⟨PB, 2, none⟩ = some (.int .i64 C) ∧ V.cell? ⟨PB, 3, none⟩ = some (.int .i64 0)) (first | exact HS6.out _ hS7 | exact HS6.out _ (Below.refl w6.heap.size w6).drew) ((go_at_call 23; refine (HLY1.out _ ((HTW.out.on HB6.out).on (Below.refl w6.heap.size w6).drew) ((HB.out.trans (HB6.out.mono HB.out.size)).drew)).mono ?_; rintro e w7 ⟨rfl, hb7⟩; have hS7 := heldB (Below.refl w6.heap.size w6).drew hb7 (Nat.le_refl _)))
          have HB7 := hide (heldB HB6.out hS7 (Nat.le_refl _))
          clear hS7 hb7
          go_wp2
          go_roundw
          case rel =>
            have R : ∃ q' : Nat, q' ≤ l ∧ Value.int .i64 ((q : Int) + 1) = .int .i64 q' ∧ Value.string mq' = .string (ms q') ∧ Value.int .i64 (A : Int) = .int .i64 (ns q') ∧ Hid (Below W0.heap.size W0 w7) := ⟨q + 1, by omega, by go_num, by rw [HLQ.out], by rw [HNS1.out], HB7.out⟩
            first | exact R | ((repeat apply Exists.intro); exact ⟨R, rfl⟩)
          case measure => simp [intOf]; omega
      case hspB =>
        go_simp
        refine hK.out _ _ (HSR.out _ ((Below.refl wr.heap.size wr).drew.alloc (Nat.le_refl _) _)) (fun hHeld => ?_)
        clear hK K
        try simp only [Act.put, List.setIfInBounds_toArray, List.set_cons_zero, List.set_cons_succ]
        refine wpAnyH_ready (rs := [3]) (by kernel_rfl) (by simp) ?_
        refine AllReadyH.cons (o := ?oe3) ?hoe3 (fun K hK => ?hse3) AllReadyH.nil
        case hoe3 => (simp only [List.getElem?_toArray, List.getElem?_cons_succ, List.getElem?_cons_zero]; rfl)
        go_simp
        go_at_call 22
        refine (HLV.out _).mono ?_
        rintro e w4 ⟨rfl, hb4⟩
        have HB4 := hide (heldB ((Below.refl wr.heap.size wr).drew.alloc (Nat.le_refl _) _) hb4 (Nat.le_refl _))
        have HKY := hide (show Blk w4 wr.heap.size [.int .i64 0, .int .i64 0, .int .i64 0, .int .i64 0] 47 from (Blk.new wr.drew [.int .i64 0, .int .i64 0, .int .i64 0, .int .i64 0] 47).on hb4)
        clear hb4
        try go_wp2_with fail
        refine hK.out _ _ (HSR.out _ (HB4.out)) (fun hHeld => ?_)
        clear hK K
        try simp only [Act.put, List.setIfInBounds_toArray, List.set_cons_zero, List.set_cons_succ]
        refine wpAnyH_take (i := 4) (oi := ?oie4) (v := ?ve4) ?hie4 (by kernel_rfl) (by kernel_rfl) (by kernel_rfl) ?hQe4 (Or.inl ⟨?h1e4, ?hye4⟩) hHeld ?reste4
        case hie4 => (simp only [List.getElem?_toArray, List.getElem?_cons_succ, List.getElem?_cons_zero]; rfl)
        case hQe4 => exact fun _ _ _ h => h
        case h1e4 => rfl
        case hye4 => intro V hSV; (try dsimp only at hSV); go_simp; (try with_reducible rfl)
        try simp only [Act.put, List.setIfInBounds_toArray, List.set_cons_zero, List.set_cons_succ]
        refine wpAnyH_ready (rs := [7]) (by kernel_rfl) (by simp) ?_
        refine AllReadyH.cons (o := ?oe7) ?hoe7 (fun K hK => ?hse7) AllReadyH.nil
        case hoe7 => (simp only [List.getElem?_toArray, List.getElem?_cons_succ, List.getElem?_cons_zero]; rfl)
        go_simp
        go_at_call 22
        refine (HLV.out _).mono ?_
        rintro e w5 ⟨rfl, hb5⟩
        have HB5 := hide (heldB HB4.out hb5 (Nat.le_refl _))
        have HKZ := hide (HKY.out.on hb5)
        clear hb5
        try go_wp2_with fail
        refine hK.out _ _ (HSR.out _ (HB5.out)) (fun hHeld => ?_)
        clear hK K
        try simp only [Act.put, List.setIfInBounds_toArray, List.set_cons_zero, List.set_cons_succ]
        refine wpAnyH_take (i := 8) (oi := ?oie8) (v := ?ve8) ?hie8 (by kernel_rfl) (by kernel_rfl) (by kernel_rfl) ?hQe8 (Or.inl ⟨?h1e8, ?hye8⟩) hHeld ?reste8
        case hie8 => (simp only [List.getElem?_toArray, List.getElem?_cons_succ, List.getElem?_cons_zero]; rfl)
        case hQe8 => exact fun _ _ _ h => h
        case h1e8 => rfl
        case hye8 => intro V hSV; (try dsimp only at hSV); go_simp; (try with_reducible rfl)
        try simp only [Act.put, List.setIfInBounds_toArray, List.set_cons_zero, List.set_cons_succ]
        refine wpAnyH_take (i := 9) (oi := ?oie9) (v := ?ve9) ?hie9 (by kernel_rfl) (by kernel_rfl) (by kernel_rfl) ?hQe9 (Or.inl ⟨?h1e9, ?hye9⟩) hHeld ?reste9
        case hie9 => (simp only [List.getElem?_toArray, List.getElem?_cons_succ, List.getElem?_cons_zero]; rfl)
        case hQe9 => exact fun _ _ _ h => h
        case h1e9 => rfl
        case hye9 => intro V hSV; (try dsimp only at hSV); go_simp; (try with_reducible rfl)
        try simp only [Act.put, List.setIfInBounds_toArray, List.set_cons_zero, List.set_cons_succ]
        have HBZ := hide HB5.out
        have r0 := HKZ.out.cell 0
        have r1 := HKZ.out.cell 1
        have r2 := HKZ.out.cell 2
        have r3 := HKZ.out.cell 3
        have f0 := HKZ.out.free 0
        have f1 := HKZ.out.free 1
        have f2 := HKZ.out.free 2
        have f3 := HKZ.out.free 3
        simp only [List.getElem?_cons_zero, List.getElem?_cons_succ] at r0 r1 r2 r3
        refine wpAnyH_ready (rs := [11]) (by kernel_rfl) (by simp) ?_
        refine AllReadyH.cons (o := ?oxe) ?hoxe (fun K hK => ?hsxe) AllReadyH.nil
        case hoxe => (simp only [List.getElem?_toArray, List.getElem?_cons_succ, List.getElem?_cons_zero]; rfl)
        go_simp
        refine hK.out _ _ (HSR.out _ ((((HBZ.out.setCell (p := ⟨wr.heap.size, 0, none⟩) (by first | exact Nat.le_refl _ | exact hz4 | (simp <;> omega)) _).setCell (p := ⟨wr.heap.size, 1, none⟩) (by first | exact Nat.le_refl _ | exact hz4 | (simp <;> omega)) _).setCell (p := ⟨wr.heap.size, 2, none⟩) (by first | exact Nat.le_refl _ | exact hz4 | (simp <;> omega)) _).setCell (p := ⟨wr.heap.size, 3, none⟩) (by first | exact Nat.le_refl _ | exact hz4 | (simp <;> omega)) _)) (fun hHeld => ?_)
        clear hK K
        try simp only [Act.put, List.setIfInBounds_toArray, List.set_cons_zero, List.set_cons_succ]
        refine wpAnyH_done (by kernel_rfl) ?_ _
        have HPX := hide (blk4V HKZ.out (.int .i64 q) (.int .i64 A) (.int .i64 C) (.int .i64 0))
        have HBX := hide ((((HBZ.out.setCell (p := ⟨wr.heap.size, 0, none⟩) (by first | exact Nat.le_refl _ | exact hz4 | (simp <;> omega)) (.int .i64 q)).setCell (p := ⟨wr.heap.size, 1, none⟩) (by first | exact Nat.le_refl _ | exact hz4 | (simp <;> omega)) (.int .i64 A)).setCell (p := ⟨wr.heap.size, 2, none⟩) (by first | exact Nat.le_refl _ | exact hz4 | (simp <;> omega)) (.int .i64 C)).setCell (p := ⟨wr.heap.size, 3, none⟩) (by first | exact Nat.le_refl _ | exact hz4 | (simp <;> omega)) (.int .i64 0))
        obtain ⟨WX, hWX⟩ : ∃ WX, ((((w5.setCell ⟨wr.heap.size, 0, none⟩ (.int .i64 q)).setCell ⟨wr.heap.size, 1, none⟩ (.int .i64 A)).setCell ⟨wr.heap.size, 2, none⟩ (.int .i64 C)).setCell ⟨wr.heap.size, 3, none⟩ (.int .i64 0)) = WX := ⟨_, rfl⟩
        rw [hWX] at HPX HBX ⊢
        obtain ⟨PB, hPB⟩ : ∃ PB, wr.heap.size = PB := ⟨_, rfl⟩
        rw [hPB] at HPX ⊢
        clear hWX hPB hHeld r0 r1 r2 r3 f0 f1 f2 f3 HKZ HBZ
        have HKX := hide (heldB hb.out HBX.out (Nat.le_refl _))
        have HSX := hide (fun (V : World) (h : Below WX.heap.size WX V) => HS.out V (heldB HKX.out h (Nat.le_refl _)))
        obtain ⟨c0, c1, c2, c3, c4, d0, d1, d2⟩ := HSX.out WX (Below.refl _ _)
        go_wp2_with fail
        refine (HLV.out _).mono ?_
        rintro e w6 ⟨rfl, hb6⟩
        have HB6 := hide (heldB HKX.out hb6 (Nat.le_refl _))
        have HP6 := hide (HPX.out.on hb6)
        clear hb6 c0 c1 c2 c3 c4 d0 d1 d2
        have HS6 := hide (fun (V : World) (h : Below w6.heap.size w6 V) => (by
          obtain ⟨c0, c1, c2, c3, c4, d0, d1, d2⟩ := HS.out V (heldB HB6.out h (Nat.le_refl _))
          have q2 := HP6.out.on h
          exact ⟨c0, c1, c2, c3, c4, d0, d1, d2, q2.cell 0, q2.cell 1, q2.cell 2, q2.cell 3⟩ : V.cell? ⟨w.heap.size, 0, none⟩ = some (.int .i64 k) ∧ V.cell? ⟨w.heap.size, 1, none⟩ = some (.int .i64 b) ∧ V.cell? ⟨w.heap.size, 2, none⟩ = some (.int .i64 x) ∧ V.cell? ⟨w.heap.size, 3, none⟩ = some (.int .i64 t) ∧ V.cell? ⟨w.heap.size, 4, none⟩ = some (.int .i64 l) ∧ V.cell? ⟨w.heap.size + 1, 0, none⟩ = some (.int .i64 idx) ∧ V.cell? ⟨w.heap.size + 1, 1, none⟩ = some (.string rnd) ∧ V.cell? ⟨w.heap.size + 1, 2, none⟩ = some (.slice (some ⟨g, o, none⟩) n c) ∧ V.cell? ⟨PB, 0, none⟩ = some (.int .i64 q) ∧ V.cell? ⟨PB, 1, none⟩ = some (.int .i64 A) ∧ V.cell? ⟨PB, 2, none⟩ = some (.int .i64 C) ∧ V.cell? ⟨PB, 3, none⟩ = some (.int .i64 0)))
        go_wp2_with fail
        go_region_held3 (fun V => V.cell? ⟨w.heap.size, 0, none⟩ = some (.int .i64 k) ∧ V.cell? ⟨w.heap.size, 1, none⟩ = some (.int .i64 b) ∧ V.cell? ⟨w.heap.size, 2, none⟩ = some (.int .i64 x) ∧ V.cell? ⟨w.heap.size, 3, none⟩ = some (.int .i64 t) ∧ V.cell? ⟨w.heap.size, 4, none⟩ = some (.int .i64 l) ∧ V.cell? ⟨w.heap.size + 1, 0, none⟩ = some (.int .i64 idx) ∧ V.cell? ⟨w.heap.size + 1, 1, none⟩ = some (.string rnd) ∧ V.cell? ⟨w.heap.size + 1, 2, none⟩ = some (.slice (some ⟨g, o, none⟩) n c) ∧ V.cell? ⟨PB, 0, none⟩ = some (.int .i64 q) ∧ V.cell? ⟨PB, 1, none⟩ = some (.int .i64 A) ∧ V.cell? ⟨PB, 2, none⟩ = some (.int .i64 C) ∧ V.cell? ⟨PB, 3, none⟩ = some (.int .i64 0)) (first | exact HS6.out _ hS7 | exact HS6.out _ (Below.refl w6.heap.size w6).drew) ((go_at_call 23; refine (HLY1.out _ ((HTW.out.on HB6.out).on (Below.refl w6.heap.size w6).drew) ((HB.out.trans (HB6.out.mono HB.out.size)).drew)).mono ?_; rintro e w7 ⟨rfl, hb7⟩; have hS7 := heldB (Below.refl w6.heap.size w6).drew hb7 (Nat.le_refl _)))
        have HB7 := hide (heldB HB6.out hS7 (Nat.le_refl _))
        clear hS7 hb7
        go_wp2
        go_roundw
        case rel =>
          have R : ∃ q' : Nat, q' ≤ l ∧ Value.int .i64 ((q : Int) + 1) = .int .i64 q' ∧ Value.string mq' = .string (ms q') ∧ Value.int .i64 (A : Int) = .int .i64 (ns q') ∧ Hid (Below W0.heap.size W0 w7) := ⟨q + 1, by omega, by go_num, by rw [HLQ.out], by rw [HNS1.out], HB7.out⟩
          first | exact R | ((repeat apply Exists.intro); exact ⟨R, rfl⟩)
        case measure => simp [intOf]; omega
    · obtain rfl : q = l := by omega
      go_wp2
      go_ret
      exact ⟨rfl, HB.out.trans (hb.out.mono HB.out.size)⟩
end Go.Proofs.YtgaoeoijdpdjiabDoor
