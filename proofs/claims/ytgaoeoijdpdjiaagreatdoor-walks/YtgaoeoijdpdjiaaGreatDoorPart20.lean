/-
  A walk's stack: its last two nodes are joined.
-/
import Derived.Test.YtgaoeoijdpdjiaaGreatDoorPart18
import Derived.Test.YtgaoeoijdpdjiaaGreatDoorPart4
import Derived.Test.YtgaoeoijdpdjiaaGreatDoorPart14
import Derived.Deep.AppendLies
import Derived.Deep.CutRange
namespace Go.Proofs.YtgaoeoijdpdjiaaGreatDoor
open Go.RowKit
theorem enter_y (f : Nat) (fn : Func) (hf : Tryz.prog.funcs[f]? = some fn) (hn : (fn.name == "runtime.NumGoroutine") = false) (hb : fn.body.isNone = false) (args : Array Value) (V : World) : Sem.run Tryz.prog (callFunc f args) V = .ok (.enter f args) V := by
  have hn' : ¬ fn.name = "runtime.NumGoroutine" := by simpa using hn
  have hb' : ¬ fn.body = none := fun e => by rw [e] at hb; simp at hb
  simp [callFunc, go_sem, hf, hn', hb']
theorem blkY {w w' : World} {X : Nat → Prop} {b : Nat} {vs : List Value} {T : TypeId} (h : Blk w b vs T) (hk : Kept X w w') (hn : ¬ X b) : Blk w' b vs T := by
  unfold Blk
  rw [hk.block b h.lt hn]
  exact h
theorem owns_neY {w : World} {lo : Nat} {e : TypeId} {sz : Nat} {v : Value} {n : Nat} {xs : List Value} {b : Nat} {vs : List Value} {T : TypeId} (h : w.ownsRow lo e sz v n xs) (hb : Blk w b vs T) (hne : e ≠ T) : v.ownBlock ≠ some b := by
  intro he
  rcases h.2 with ⟨rfl, _⟩ | ⟨g, cap, cur, rfl, _, hg, _⟩
  · simp [Value.ownBlock] at he
  · have e' : g = b := by simpa [Value.ownBlock] using he
    subst e'
    unfold Blk at hb
    rw [hb] at hg
    simp only [Option.some.injEq, Obj.cells.injEq] at hg
    exact hne hg.2.1.symm
/-- A shorter piece of a row. -/
theorem owns_less {w : World} {lo : Nat} {e : TypeId} {sz g n cap k : Nat} {xs : List Value} (h : w.ownsRow lo e sz (.slice (some ⟨g, 0, none⟩) n cap) n xs) (hk : k ≤ n) : w.ownsRow lo e sz (.slice (some ⟨g, 0, none⟩) k cap) k (xs.take (k * sz)) := by
  have hl := h.1
  have hm : k * sz ≤ n * sz := Nat.mul_le_mul_right sz hk
  refine ⟨by rw [List.length_take, hl]; omega, .inr ?_⟩
  rcases h.2 with ⟨e1, _⟩ | ⟨g', cap', cur, e1, h1, h2, h3, h4, h5, h6⟩
  · simp at e1
  · simp only [Value.slice.injEq, Option.some.injEq, Addr.mk.injEq, and_true, true_and] at e1
    obtain ⟨rfl, rfl⟩ := e1
    refine ⟨g, cap, cur, rfl, h1, h2, by omega, h4, h5, ?_⟩
    rw [← h6, List.take_take, Nat.min_eq_left hm]
theorem nodC_take (pre : List Nd) (x : List Nd) : (nodC (pre ++ x)).take (pre.length * 3) = nodC pre := by
  unfold nodC
  rw [List.flatMap_append, List.take_append_of_le_length (by rw [← nodC, nodC_length]; exact Nat.le_refl _)]
  exact List.take_of_length_le (by rw [← nodC, nodC_length]; exact Nat.le_refl _)
theorem infoNd : (Tryz.prog.info? 100).map (fun i => (i.zero, i.size, i.bytes)) = some (some (.agg #[.int .i64 0, .int .i64 0, .string ⟨#[]⟩]), 3, 32) := by kernel_rfl
set_option maxRecDepth 20000 in
set_option maxHeartbeats 8000000 in
theorem joinLast_on (lo S o : Nat) (cs : List Value) (na : Option Addr) (nc : Nat) (pre : List Nd) (a b : Nd) (tr : Value) (r : ByteArray) (w : World) (hS : Blk w S cs 137) (ho : cs[o]? = some (.slice na (pre.length + 2) nc)) (hr : w.ownsRow lo 100 3 (.slice na (pre.length + 2) nc) (pre.length + 2) (nodC (pre ++ [a, b]))) (hn : pre.length ≤ 100) (hlo : lo ≤ w.heap.size) (ha1 : a.1 ≤ 100) (ha2 : a.2.1 ≤ 100)
    (hJ : ∀ V, Below w.heap.size w V → Calls Tryz.prog 40 #[tr, .int .i64 ((a.1 : Int) + 1), .int .i64 ((a.2.1 / 2 : Nat) : Int), .string a.2.2, .string b.2.2] V fun e w' => e = .returned (.string r) ∧ Below V.heap.size V w') :
    Calls Tryz.prog 161 #[.pointer (some ⟨S, o, none⟩), .func (.func 40) #[tr] #[]] w fun e w' => e = .returned (.tuple #[]) ∧ ∃ g2 c2, Blk w' S (cs.set o (.slice (some ⟨g2, 0, none⟩) (pre.length + 1) c2)) 137 ∧ w'.ownsRow lo 100 3 (.slice (some ⟨g2, 0, none⟩) (pre.length + 1) c2) (pre.length + 1) (nodC (pre ++ [(a.1 + 1, a.2.1 / 2, r)])) ∧ Kept (fun q => q = S ∨ (Value.slice na (pre.length + 2) nc).ownBlock = some q) w w' ∧ ((Value.slice na (pre.length + 2) nc).ownBlock = some g2 ∨ w.heap.size ≤ g2) := by
  obtain ⟨i1, hi1, hy0, hy1, hy2⟩ := info_parts infoNd
  have hen : ∀ (args : Array Value) (V : World), Sem.run Tryz.prog (callFunc 40 args) V = .ok (.enter 40 args) V := fun args V => enter_y _ _ Tryz.func40 (by kernel_rfl) (by kernel_rfl) args V
  have c0 : w.cell? ⟨S, o, none⟩ = some (.slice na (pre.length + 2) nc) := (hS.cell o).trans ho
  obtain ⟨g, cap, hgv, hg1, hg2⟩ := hr.form (by omega)
  simp only [Value.slice.injEq] at hgv
  obtain ⟨rfl, _, rfl⟩ := hgv
  have ha : (pre ++ [a, b])[pre.length]? = some a := by simp
  have hb : (pre ++ [a, b])[pre.length + 1]? = some b := by simp
  have hgl := (hr.lt g rfl).2
  have hnc : pre.length + 2 ≤ nc := by
    rcases hr.2 with ⟨e, _⟩ | ⟨g', cap', cur, e, _, _, h5, _⟩
    · simp at e
    · simp only [Value.slice.injEq] at e
      omega
  have HY := hide (show w.cell? ⟨g, pre.length * 3, none⟩ = some (.int .i64 (a.1 : Int)) ∧ w.cell? ⟨g, pre.length * 3 + 1, none⟩ = some (.int .i64 (a.2.1 : Int)) ∧ w.cell? ⟨g, pre.length * 3 + 2, none⟩ = some (.string a.2.2) ∧ w.cell? ⟨g, (pre.length + 1) * 3, none⟩ = some (.int .i64 (b.1 : Int)) ∧ w.cell? ⟨g, (pre.length + 1) * 3 + 1, none⟩ = some (.int .i64 (b.2.1 : Int)) ∧ w.cell? ⟨g, (pre.length + 1) * 3 + 2, none⟩ = some (.string b.2.2) from
    ⟨(hr.cellAt _ (by omega)).trans (nodC_get ha 0 (by decide)), (hr.cellAt _ (by omega)).trans (nodC_get ha 1 (by decide)), (hr.cellAt _ (by omega)).trans (nodC_get ha 2 (by decide)), (hr.cellAt _ (by omega)).trans (nodC_get hb 0 (by decide)), (hr.cellAt _ (by omega)).trans (nodC_get hb 1 (by decide)), (hr.cellAt _ (by omega)).trans (nodC_get hb 2 (by decide))⟩)
  have HRL := hide (owns_less hr (k := pre.length) (by omega))
  rw [nodC_take] at HRL
  have HSN := hide (nodC_snoc pre (a.1 + 1, a.2.1 / 2, r))
  have HSG := hide (owns_neY hr hS (by decide))
  have HSB := hide hS
  have HJ := hide hJ
  have HLO := hide hlo
  have HGL := hide hgl
  have HSL := hide hS.lt
  have HC0 := hide c0
  generalize hm : pre.length = m at *
  have HS := hide (fun (V : World) (h : Below w.heap.size w V) => (by
    have hc : ∀ p u, p.block < w.heap.size → w.cell? p = some u → V.cell? p = some u := fun p u hp e => (h.cell hp).trans e
    obtain ⟨y0, y1, y2, y3, y4, y5⟩ := HY.out
    exact ⟨hc _ _ HSL.out HC0.out, hc _ _ HGL.out y0, hc _ _ HGL.out y1, hc _ _ HGL.out y2, hc _ _ HGL.out y3, hc _ _ HGL.out y4, hc _ _ HGL.out y5⟩ : V.cell? ⟨S, o, none⟩ = some (.slice (some ⟨g, 0, none⟩) (m + 2) nc) ∧ V.cell? ⟨g, m * 3, none⟩ = some (.int .i64 (a.1 : Int)) ∧ V.cell? ⟨g, m * 3 + 1, none⟩ = some (.int .i64 (a.2.1 : Int)) ∧ V.cell? ⟨g, m * 3 + 2, none⟩ = some (.string a.2.2) ∧ V.cell? ⟨g, (m + 1) * 3, none⟩ = some (.int .i64 (b.1 : Int)) ∧ V.cell? ⟨g, (m + 1) * 3 + 1, none⟩ = some (.int .i64 (b.2.1 : Int)) ∧ V.cell? ⟨g, (m + 1) * 3 + 2, none⟩ = some (.string b.2.2)))
  have w1 : IntKind.i64.wrap ((m : Int) + 2 - 2) = (m : Int) := by rw [IntKind.wrap_i64] <;> omega
  have w2 : IntKind.i64.wrap ((m : Int) + 2 - 1) = (m : Int) + 1 := by rw [IntKind.wrap_i64] <;> omega
  have w3 : IntKind.i64.wrap (m : Int) = (m : Int) := by rw [IntKind.wrap_i64] <;> omega
  have w4 : IntKind.i64.wrap ((m : Int) + 1) = (m : Int) + 1 := by rw [IntKind.wrap_i64] <;> omega
  have hp1 : 0 ≤ (m : Int) + 1 := by omega
  have hl1 : (m : Int) < (m : Int) + 2 := by omega
  have hl2 : (m : Int) + 1 < (m : Int) + 2 := by omega
  have N1 : Hid (m + 1 ≤ maxLen) := by show _ ≤ _; unfold maxLen; omega
  have N2 : Hid ((m + 1) * 32 ≤ 140737488355328) := by show _ ≤ _; omega
  have w5 : IntKind.i64.wrap ((a.1 : Int) + 1) = (a.1 : Int) + 1 := by rw [IntKind.wrap_i64] <;> omega
  have w6 : Int.tdiv (a.2.1 : Int) 2 = ((a.2.1 / 2 : Nat) : Int) := by rw [Int.tdiv_eq_ediv_of_nonneg (by omega)]; omega
  have hmc : (m : Int) ≤ (nc : Int) := by omega
  have hm0 : 0 ≤ (m : Int) := by omega
  have HOC := hide ho
  generalize hhf : a.2.1 / 2 = hf at *
  clear hS ho hr hm hg1 hg2 ha hb hgl hJ hlo
  go_enter Tryz.func161, Tryz.ntmps161
  go_upto_region 1 with fail
  clear c0
  go_cut [5, 6] from 14 to 29 (fun x y wx => ∃ F G : Nat, x = .pointer (some ⟨F, 0, none⟩) ∧ y = .pointer (some ⟨G, 0, none⟩) ∧ Hid (Blk wx F [.int .i64 (a.1 : Int), .int .i64 (a.2.1 : Int), .string a.2.2] 100) ∧ Hid (Blk wx G [.int .i64 (b.1 : Int), .int .i64 (b.2.1 : Int), .string b.2.2] 100) ∧ Hid (Below w.heap.size w wx) ∧ Hid (w.heap.size ≤ F ∧ w.heap.size ≤ G))
  case first =>
    refine wp_region_held_drew (S := fun V => V.cell? ⟨S, o, none⟩ = some (.slice (some ⟨g, 0, none⟩) (m + 2) nc) ∧ V.cell? ⟨g, m * 3, none⟩ = some (.int .i64 (a.1 : Int)) ∧ V.cell? ⟨g, m * 3 + 1, none⟩ = some (.int .i64 (a.2.1 : Int)) ∧ V.cell? ⟨g, m * 3 + 2, none⟩ = some (.string a.2.2) ∧ V.cell? ⟨g, (m + 1) * 3, none⟩ = some (.int .i64 (b.1 : Int)) ∧ V.cell? ⟨g, (m + 1) * 3 + 1, none⟩ = some (.int .i64 (b.2.1 : Int)) ∧ V.cell? ⟨g, (m + 1) * 3 + 2, none⟩ = some (.string b.2.2)) (by kernel_rfl) (HS.out _ (Below.refl w.heap.size w).drew) (fun hHeld => ?_)
    have HB0 := hide ((Below.refl w.heap.size w).drew)
    refine tk 0 hHeld (h := ?_)
    refine tk 1 hHeld (h := ?_)
    refine tk 2 hHeld (h := ?_)
    refine tk 3 hHeld (h := ?_)
    refine tk 4 hHeld (h := ?_)
    refine tk 5 hHeld (h := ?_)
    refine tk 6 hHeld (h := ?_)
    refine tk 7 hHeld (h := ?_)
    refine tk 8 hHeld (h := ?_)
    refine tk 9 hHeld (h := ?_)
    refine tk 10 hHeld (h := ?_)
    refine tk 12 hHeld (h := ?_)
    refine tk 13 hHeld (h := ?_)
    generalize World.drew w = V0 at HB0 hHeld ⊢
    refine wpAnyH_ready (rs := [11, 16, 17]) (by kernel_rfl) (by simp) ?_
    refine (AllReadyH.cons (o := ?o1) ?h1 (fun K hK => ?s1) (AllReadyH.cons (o := ?o2) ?h2 (fun K hK => ?s2) (AllReadyH.cons (o := ?o3) ?h3 (fun K hK => ?s3) AllReadyH.nil)))
    case h1 => (simp only [List.getElem?_toArray, List.getElem?_cons_succ, List.getElem?_cons_zero]; rfl)
    case h2 => (simp only [List.getElem?_toArray, List.getElem?_cons_succ, List.getElem?_cons_zero]; rfl)
    case h3 => (simp only [List.getElem?_toArray, List.getElem?_cons_succ, List.getElem?_cons_zero]; rfl)
    case s1 =>
      have c0 := (HS.out _ HB0.out).1
      go_simp
      clear c0
      refine hK.out _ _ (HS.out _ HB0.out) (fun hHeld => ?_)
      clear hK K
      try simp only [Act.put, List.setIfInBounds_toArray, List.set_cons_zero, List.set_cons_succ]
      refine tk 14 hHeld (h := ?_)
      refine wpAnyH_ready (rs := [15, 16, 17]) (by kernel_rfl) (by simp) ?_
      refine (AllReadyH.cons (o := ?o5) ?h5 (fun K hK => ?s5) (AllReadyH.cons (o := ?o6) ?h6 (fun K hK => ?s6) (AllReadyH.cons (o := ?o7) ?h7 (fun K hK => ?s7) AllReadyH.nil)))
      case h5 => (simp only [List.getElem?_toArray, List.getElem?_cons_succ, List.getElem?_cons_zero]; rfl)
      case h6 => (simp only [List.getElem?_toArray, List.getElem?_cons_succ, List.getElem?_cons_zero]; rfl)
      case h7 => (simp only [List.getElem?_toArray, List.getElem?_cons_succ, List.getElem?_cons_zero]; rfl)
      case s5 =>
        obtain ⟨_, _, _, _, b0, b1, b2⟩ := HS.out _ HB0.out
        go_simp
        clear b0 b1 b2
        refine hK.out _ _ (HS.out _ HB0.out) (fun hHeld => ?_)
        clear hK K
        try simp only [Act.put, List.setIfInBounds_toArray, List.set_cons_zero, List.set_cons_succ]
        refine wpAnyH_ready (rs := [16, 17]) (by kernel_rfl) (by simp) ?_
        refine (AllReadyH.cons (o := ?o9) ?h9 (fun K hK => ?s9) (AllReadyH.cons (o := ?o10) ?h10 (fun K hK => ?s10) AllReadyH.nil))
        case h9 => (simp only [List.getElem?_toArray, List.getElem?_cons_succ, List.getElem?_cons_zero]; rfl)
        case h10 => (simp only [List.getElem?_toArray, List.getElem?_cons_succ, List.getElem?_cons_zero]; rfl)
        case s9 =>
          go_simp
          obtain ⟨W11, hW11⟩ : ∃ Wk, V0.alloc (.cells #[.int .i64 0, .int .i64 0, .string ⟨#[]⟩] 100) = Wk := ⟨_, rfl⟩
          obtain ⟨F, hF⟩ : ∃ X, V0.heap.size = X := ⟨_, rfl⟩
          have HB11 := hide (show Below w.heap.size w W11 by rw [← hW11]; exact HB0.out.alloc HB0.out.size _)
          have HF11 := hide (show Blk W11 F [.int .i64 0, .int .i64 0, .string ⟨#[]⟩] 100 by rw [← hW11, ← hF]; exact Blk.new V0 _ _)
          have HLF := hide (show w.heap.size ≤ F by have := HB0.out.size; omega)
          rw [hW11, hF]
          clear hW11 hF
          refine hK.out _ _ (HS.out _ HB11.out) (fun hHeld => ?_)
          clear hK K
          try simp only [Act.put, List.setIfInBounds_toArray, List.set_cons_zero, List.set_cons_succ]
          refine wpAnyH_ready (rs := [17]) (by kernel_rfl) (by simp) ?_
          refine (AllReadyH.cons (o := ?o12) ?h12 (fun K hK => ?s12) AllReadyH.nil)
          case h12 => (simp only [List.getElem?_toArray, List.getElem?_cons_succ, List.getElem?_cons_zero]; rfl)
          case s12 =>
            go_simp
            obtain ⟨W13, hW13⟩ : ∃ Wk, W11.alloc (.cells #[.int .i64 0, .int .i64 0, .string ⟨#[]⟩] 100) = Wk := ⟨_, rfl⟩
            obtain ⟨G, hG⟩ : ∃ X, W11.heap.size = X := ⟨_, rfl⟩
            have HB13 := hide (show Below w.heap.size w W13 by rw [← hW13]; exact HB11.out.alloc HB11.out.size _)
            have HG13 := hide (show Blk W13 G [.int .i64 0, .int .i64 0, .string ⟨#[]⟩] 100 by rw [← hW13, ← hG]; exact Blk.new W11 _ _)
            have HLG := hide (show w.heap.size ≤ G by have := HB11.out.size; omega)
            have HNE := hide (show F ≠ G by have := HF11.out.lt; omega)
            have HF13 := hide (show Blk W13 F [.int .i64 0, .int .i64 0, .string ⟨#[]⟩] 100 by rw [← hW13]; exact HF11.out.alloc _)
            rw [hW13, hG]
            clear hW13 hG
            refine hK.out _ _ (HS.out _ HB13.out) (fun hHeld => ?_)
            clear hK K
            try simp only [Act.put, List.setIfInBounds_toArray, List.set_cons_zero, List.set_cons_succ]
            refine wpAnyH_ready (rs := [18]) (by kernel_rfl) (by simp) ?_
            refine (AllReadyH.cons (o := ?o14) ?h14 (fun K hK => ?s14) AllReadyH.nil)
            case h14 => (simp only [List.getElem?_toArray, List.getElem?_cons_succ, List.getElem?_cons_zero]; rfl)
            case s14 =>
              have q0 : W13.cell? ⟨F, 0, none⟩ = some (.int .i64 0) := HF13.out.cell 0
              have f0 := HF13.out.free 0
              have q1 : W13.cell? ⟨F, 1, none⟩ = some (.int .i64 0) := HF13.out.cell 1
              have f1 := HF13.out.free 1
              have q2 : W13.cell? ⟨F, 2, none⟩ = some (.string ⟨#[]⟩) := HF13.out.cell 2
              have f2 := HF13.out.free 2
              go_simp
              obtain ⟨W15, hW15⟩ : ∃ Wk, (((W13.setCell ⟨F, 0, none⟩ (.int .i64 (a.1 : Int))).setCell ⟨F, 1, none⟩ (.int .i64 (a.2.1 : Int))).setCell ⟨F, 2, none⟩ (.string a.2.2)) = Wk := ⟨_, rfl⟩
              have HB15 := hide (show Below w.heap.size w W15 by rw [← hW15]; exact ((HB13.out.setCell (p := ⟨F, 0, none⟩) HLF.out _).setCell (p := ⟨F, 1, none⟩) HLF.out _).setCell (p := ⟨F, 2, none⟩) HLF.out _)
              have HF15 := hide (show Blk W15 F [.int .i64 (a.1 : Int), .int .i64 (a.2.1 : Int), .string a.2.2] 100 by rw [← hW15]; exact ((HF13.out.set 0 _).set 1 _).set 2 _)
              have HG15 := hide (show Blk W15 G [.int .i64 0, .int .i64 0, .string ⟨#[]⟩] 100 by rw [← hW15]; exact ((HG13.out.other _ HNE.out.symm).other _ HNE.out.symm).other _ HNE.out.symm)
              rw [hW15]
              clear hW15 q0 q1 q2 f0 f1 f2
              refine hK.out _ _ (HS.out _ HB15.out) (fun hHeld => ?_)
              clear hK K
              try simp only [Act.put, List.setIfInBounds_toArray, List.set_cons_zero, List.set_cons_succ]
              refine wpAnyH_ready (rs := [19]) (by kernel_rfl) (by simp) ?_
              refine (AllReadyH.cons (o := ?o16) ?h16 (fun K hK => ?s16) AllReadyH.nil)
              case h16 => (simp only [List.getElem?_toArray, List.getElem?_cons_succ, List.getElem?_cons_zero]; rfl)
              case s16 =>
                have q0 : W15.cell? ⟨G, 0, none⟩ = some (.int .i64 0) := HG15.out.cell 0
                have f0 := HG15.out.free 0
                have q1 : W15.cell? ⟨G, 1, none⟩ = some (.int .i64 0) := HG15.out.cell 1
                have f1 := HG15.out.free 1
                have q2 : W15.cell? ⟨G, 2, none⟩ = some (.string ⟨#[]⟩) := HG15.out.cell 2
                have f2 := HG15.out.free 2
                go_simp
                obtain ⟨W17, hW17⟩ : ∃ Wk, (((W15.setCell ⟨G, 0, none⟩ (.int .i64 (b.1 : Int))).setCell ⟨G, 1, none⟩ (.int .i64 (b.2.1 : Int))).setCell ⟨G, 2, none⟩ (.string b.2.2)) = Wk := ⟨_, rfl⟩
                have HB17 := hide (show Below w.heap.size w W17 by rw [← hW17]; exact ((HB15.out.setCell (p := ⟨G, 0, none⟩) HLG.out _).setCell (p := ⟨G, 1, none⟩) HLG.out _).setCell (p := ⟨G, 2, none⟩) HLG.out _)
                have HG17 := hide (show Blk W17 G [.int .i64 (b.1 : Int), .int .i64 (b.2.1 : Int), .string b.2.2] 100 by rw [← hW17]; exact ((HG15.out.set 0 _).set 1 _).set 2 _)
                have HF17 := hide (show Blk W17 F [.int .i64 (a.1 : Int), .int .i64 (a.2.1 : Int), .string a.2.2] 100 by rw [← hW17]; exact ((HF15.out.other _ HNE.out).other _ HNE.out).other _ HNE.out)
                rw [hW17]
                clear hW17 q0 q1 q2 f0 f1 f2
                refine hK.out _ _ (HS.out _ HB17.out) (fun hHeld => ?_)
                clear hK K
                try simp only [Act.put, List.setIfInBounds_toArray, List.set_cons_zero, List.set_cons_succ]
                refine wpAnyH_done (by kernel_rfl) ?_ _
                clear hHeld
                go_wp2_with fail
                go_meet
                exact ⟨_, _, rfl, rfl, HF17.out, HG17.out, HB17.out, HLF.out, HLG.out⟩
        case s10 =>
          go_simp
          obtain ⟨W18, hW18⟩ : ∃ Wk, V0.alloc (.cells #[.int .i64 0, .int .i64 0, .string ⟨#[]⟩] 100) = Wk := ⟨_, rfl⟩
          obtain ⟨G, hG⟩ : ∃ X, V0.heap.size = X := ⟨_, rfl⟩
          have HB18 := hide (show Below w.heap.size w W18 by rw [← hW18]; exact HB0.out.alloc HB0.out.size _)
          have HG18 := hide (show Blk W18 G [.int .i64 0, .int .i64 0, .string ⟨#[]⟩] 100 by rw [← hW18, ← hG]; exact Blk.new V0 _ _)
          have HLG := hide (show w.heap.size ≤ G by have := HB0.out.size; omega)
          rw [hW18, hG]
          clear hW18 hG
          refine hK.out _ _ (HS.out _ HB18.out) (fun hHeld => ?_)
          clear hK K
          try simp only [Act.put, List.setIfInBounds_toArray, List.set_cons_zero, List.set_cons_succ]
          refine wpAnyH_ready (rs := [16]) (by kernel_rfl) (by simp) ?_
          refine (AllReadyH.cons (o := ?o19) ?h19 (fun K hK => ?s19) AllReadyH.nil)
          case h19 => (simp only [List.getElem?_toArray, List.getElem?_cons_succ, List.getElem?_cons_zero]; rfl)
          case s19 =>
            go_simp
            obtain ⟨W20, hW20⟩ : ∃ Wk, W18.alloc (.cells #[.int .i64 0, .int .i64 0, .string ⟨#[]⟩] 100) = Wk := ⟨_, rfl⟩
            obtain ⟨F, hF⟩ : ∃ X, W18.heap.size = X := ⟨_, rfl⟩
            have HB20 := hide (show Below w.heap.size w W20 by rw [← hW20]; exact HB18.out.alloc HB18.out.size _)
            have HF20 := hide (show Blk W20 F [.int .i64 0, .int .i64 0, .string ⟨#[]⟩] 100 by rw [← hW20, ← hF]; exact Blk.new W18 _ _)
            have HLF := hide (show w.heap.size ≤ F by have := HB18.out.size; omega)
            have HNE := hide (show F ≠ G by have := HG18.out.lt; omega)
            have HG20 := hide (show Blk W20 G [.int .i64 0, .int .i64 0, .string ⟨#[]⟩] 100 by rw [← hW20]; exact HG18.out.alloc _)
            rw [hW20, hF]
            clear hW20 hF
            refine hK.out _ _ (HS.out _ HB20.out) (fun hHeld => ?_)
            clear hK K
            try simp only [Act.put, List.setIfInBounds_toArray, List.set_cons_zero, List.set_cons_succ]
            refine wpAnyH_ready (rs := [18]) (by kernel_rfl) (by simp) ?_
            refine (AllReadyH.cons (o := ?o21) ?h21 (fun K hK => ?s21) AllReadyH.nil)
            case h21 => (simp only [List.getElem?_toArray, List.getElem?_cons_succ, List.getElem?_cons_zero]; rfl)
            case s21 =>
              have q0 : W20.cell? ⟨F, 0, none⟩ = some (.int .i64 0) := HF20.out.cell 0
              have f0 := HF20.out.free 0
              have q1 : W20.cell? ⟨F, 1, none⟩ = some (.int .i64 0) := HF20.out.cell 1
              have f1 := HF20.out.free 1
              have q2 : W20.cell? ⟨F, 2, none⟩ = some (.string ⟨#[]⟩) := HF20.out.cell 2
              have f2 := HF20.out.free 2
              go_simp
              obtain ⟨W22, hW22⟩ : ∃ Wk, (((W20.setCell ⟨F, 0, none⟩ (.int .i64 (a.1 : Int))).setCell ⟨F, 1, none⟩ (.int .i64 (a.2.1 : Int))).setCell ⟨F, 2, none⟩ (.string a.2.2)) = Wk := ⟨_, rfl⟩
              have HB22 := hide (show Below w.heap.size w W22 by rw [← hW22]; exact ((HB20.out.setCell (p := ⟨F, 0, none⟩) HLF.out _).setCell (p := ⟨F, 1, none⟩) HLF.out _).setCell (p := ⟨F, 2, none⟩) HLF.out _)
              have HF22 := hide (show Blk W22 F [.int .i64 (a.1 : Int), .int .i64 (a.2.1 : Int), .string a.2.2] 100 by rw [← hW22]; exact ((HF20.out.set 0 _).set 1 _).set 2 _)
              have HG22 := hide (show Blk W22 G [.int .i64 0, .int .i64 0, .string ⟨#[]⟩] 100 by rw [← hW22]; exact ((HG20.out.other _ HNE.out.symm).other _ HNE.out.symm).other _ HNE.out.symm)
              rw [hW22]
              clear hW22 q0 q1 q2 f0 f1 f2
              refine hK.out _ _ (HS.out _ HB22.out) (fun hHeld => ?_)
              clear hK K
              try simp only [Act.put, List.setIfInBounds_toArray, List.set_cons_zero, List.set_cons_succ]
              refine wpAnyH_ready (rs := [19]) (by kernel_rfl) (by simp) ?_
              refine (AllReadyH.cons (o := ?o23) ?h23 (fun K hK => ?s23) AllReadyH.nil)
              case h23 => (simp only [List.getElem?_toArray, List.getElem?_cons_succ, List.getElem?_cons_zero]; rfl)
              case s23 =>
                have q0 : W22.cell? ⟨G, 0, none⟩ = some (.int .i64 0) := HG22.out.cell 0
                have f0 := HG22.out.free 0
                have q1 : W22.cell? ⟨G, 1, none⟩ = some (.int .i64 0) := HG22.out.cell 1
                have f1 := HG22.out.free 1
                have q2 : W22.cell? ⟨G, 2, none⟩ = some (.string ⟨#[]⟩) := HG22.out.cell 2
                have f2 := HG22.out.free 2
                go_simp
                obtain ⟨W24, hW24⟩ : ∃ Wk, (((W22.setCell ⟨G, 0, none⟩ (.int .i64 (b.1 : Int))).setCell ⟨G, 1, none⟩ (.int .i64 (b.2.1 : Int))).setCell ⟨G, 2, none⟩ (.string b.2.2)) = Wk := ⟨_, rfl⟩
                have HB24 := hide (show Below w.heap.size w W24 by rw [← hW24]; exact ((HB22.out.setCell (p := ⟨G, 0, none⟩) HLG.out _).setCell (p := ⟨G, 1, none⟩) HLG.out _).setCell (p := ⟨G, 2, none⟩) HLG.out _)
                have HG24 := hide (show Blk W24 G [.int .i64 (b.1 : Int), .int .i64 (b.2.1 : Int), .string b.2.2] 100 by rw [← hW24]; exact ((HG22.out.set 0 _).set 1 _).set 2 _)
                have HF24 := hide (show Blk W24 F [.int .i64 (a.1 : Int), .int .i64 (a.2.1 : Int), .string a.2.2] 100 by rw [← hW24]; exact ((HF22.out.other _ HNE.out).other _ HNE.out).other _ HNE.out)
                rw [hW24]
                clear hW24 q0 q1 q2 f0 f1 f2
                refine hK.out _ _ (HS.out _ HB24.out) (fun hHeld => ?_)
                clear hK K
                try simp only [Act.put, List.setIfInBounds_toArray, List.set_cons_zero, List.set_cons_succ]
                refine wpAnyH_done (by kernel_rfl) ?_ _
                clear hHeld
                go_wp2_with fail
                go_meet
                exact ⟨_, _, rfl, rfl, HF24.out, HG24.out, HB24.out, HLF.out, HLG.out⟩
      case s6 =>
        go_simp
        obtain ⟨W25, hW25⟩ : ∃ Wk, V0.alloc (.cells #[.int .i64 0, .int .i64 0, .string ⟨#[]⟩] 100) = Wk := ⟨_, rfl⟩
        obtain ⟨F, hF⟩ : ∃ X, V0.heap.size = X := ⟨_, rfl⟩
        have HB25 := hide (show Below w.heap.size w W25 by rw [← hW25]; exact HB0.out.alloc HB0.out.size _)
        have HF25 := hide (show Blk W25 F [.int .i64 0, .int .i64 0, .string ⟨#[]⟩] 100 by rw [← hW25, ← hF]; exact Blk.new V0 _ _)
        have HLF := hide (show w.heap.size ≤ F by have := HB0.out.size; omega)
        rw [hW25, hF]
        clear hW25 hF
        refine hK.out _ _ (HS.out _ HB25.out) (fun hHeld => ?_)
        clear hK K
        try simp only [Act.put, List.setIfInBounds_toArray, List.set_cons_zero, List.set_cons_succ]
        refine wpAnyH_ready (rs := [15, 17]) (by kernel_rfl) (by simp) ?_
        refine (AllReadyH.cons (o := ?o26) ?h26 (fun K hK => ?s26) (AllReadyH.cons (o := ?o27) ?h27 (fun K hK => ?s27) AllReadyH.nil))
        case h26 => (simp only [List.getElem?_toArray, List.getElem?_cons_succ, List.getElem?_cons_zero]; rfl)
        case h27 => (simp only [List.getElem?_toArray, List.getElem?_cons_succ, List.getElem?_cons_zero]; rfl)
        case s26 =>
          obtain ⟨_, _, _, _, b0, b1, b2⟩ := HS.out _ HB25.out
          go_simp
          clear b0 b1 b2
          refine hK.out _ _ (HS.out _ HB25.out) (fun hHeld => ?_)
          clear hK K
          try simp only [Act.put, List.setIfInBounds_toArray, List.set_cons_zero, List.set_cons_succ]
          refine wpAnyH_ready (rs := [17]) (by kernel_rfl) (by simp) ?_
          refine (AllReadyH.cons (o := ?o29) ?h29 (fun K hK => ?s29) AllReadyH.nil)
          case h29 => (simp only [List.getElem?_toArray, List.getElem?_cons_succ, List.getElem?_cons_zero]; rfl)
          case s29 =>
            go_simp
            obtain ⟨W30, hW30⟩ : ∃ Wk, W25.alloc (.cells #[.int .i64 0, .int .i64 0, .string ⟨#[]⟩] 100) = Wk := ⟨_, rfl⟩
            obtain ⟨G, hG⟩ : ∃ X, W25.heap.size = X := ⟨_, rfl⟩
            have HB30 := hide (show Below w.heap.size w W30 by rw [← hW30]; exact HB25.out.alloc HB25.out.size _)
            have HG30 := hide (show Blk W30 G [.int .i64 0, .int .i64 0, .string ⟨#[]⟩] 100 by rw [← hW30, ← hG]; exact Blk.new W25 _ _)
            have HLG := hide (show w.heap.size ≤ G by have := HB25.out.size; omega)
            have HNE := hide (show F ≠ G by have := HF25.out.lt; omega)
            have HF30 := hide (show Blk W30 F [.int .i64 0, .int .i64 0, .string ⟨#[]⟩] 100 by rw [← hW30]; exact HF25.out.alloc _)
            rw [hW30, hG]
            clear hW30 hG
            refine hK.out _ _ (HS.out _ HB30.out) (fun hHeld => ?_)
            clear hK K
            try simp only [Act.put, List.setIfInBounds_toArray, List.set_cons_zero, List.set_cons_succ]
            refine wpAnyH_ready (rs := [18]) (by kernel_rfl) (by simp) ?_
            refine (AllReadyH.cons (o := ?o31) ?h31 (fun K hK => ?s31) AllReadyH.nil)
            case h31 => (simp only [List.getElem?_toArray, List.getElem?_cons_succ, List.getElem?_cons_zero]; rfl)
            case s31 =>
              have q0 : W30.cell? ⟨F, 0, none⟩ = some (.int .i64 0) := HF30.out.cell 0
              have f0 := HF30.out.free 0
              have q1 : W30.cell? ⟨F, 1, none⟩ = some (.int .i64 0) := HF30.out.cell 1
              have f1 := HF30.out.free 1
              have q2 : W30.cell? ⟨F, 2, none⟩ = some (.string ⟨#[]⟩) := HF30.out.cell 2
              have f2 := HF30.out.free 2
              go_simp
              obtain ⟨W32, hW32⟩ : ∃ Wk, (((W30.setCell ⟨F, 0, none⟩ (.int .i64 (a.1 : Int))).setCell ⟨F, 1, none⟩ (.int .i64 (a.2.1 : Int))).setCell ⟨F, 2, none⟩ (.string a.2.2)) = Wk := ⟨_, rfl⟩
              have HB32 := hide (show Below w.heap.size w W32 by rw [← hW32]; exact ((HB30.out.setCell (p := ⟨F, 0, none⟩) HLF.out _).setCell (p := ⟨F, 1, none⟩) HLF.out _).setCell (p := ⟨F, 2, none⟩) HLF.out _)
              have HF32 := hide (show Blk W32 F [.int .i64 (a.1 : Int), .int .i64 (a.2.1 : Int), .string a.2.2] 100 by rw [← hW32]; exact ((HF30.out.set 0 _).set 1 _).set 2 _)
              have HG32 := hide (show Blk W32 G [.int .i64 0, .int .i64 0, .string ⟨#[]⟩] 100 by rw [← hW32]; exact ((HG30.out.other _ HNE.out.symm).other _ HNE.out.symm).other _ HNE.out.symm)
              rw [hW32]
              clear hW32 q0 q1 q2 f0 f1 f2
              refine hK.out _ _ (HS.out _ HB32.out) (fun hHeld => ?_)
              clear hK K
              try simp only [Act.put, List.setIfInBounds_toArray, List.set_cons_zero, List.set_cons_succ]
              refine wpAnyH_ready (rs := [19]) (by kernel_rfl) (by simp) ?_
              refine (AllReadyH.cons (o := ?o33) ?h33 (fun K hK => ?s33) AllReadyH.nil)
              case h33 => (simp only [List.getElem?_toArray, List.getElem?_cons_succ, List.getElem?_cons_zero]; rfl)
              case s33 =>
                have q0 : W32.cell? ⟨G, 0, none⟩ = some (.int .i64 0) := HG32.out.cell 0
                have f0 := HG32.out.free 0
                have q1 : W32.cell? ⟨G, 1, none⟩ = some (.int .i64 0) := HG32.out.cell 1
                have f1 := HG32.out.free 1
                have q2 : W32.cell? ⟨G, 2, none⟩ = some (.string ⟨#[]⟩) := HG32.out.cell 2
                have f2 := HG32.out.free 2
                go_simp
                obtain ⟨W34, hW34⟩ : ∃ Wk, (((W32.setCell ⟨G, 0, none⟩ (.int .i64 (b.1 : Int))).setCell ⟨G, 1, none⟩ (.int .i64 (b.2.1 : Int))).setCell ⟨G, 2, none⟩ (.string b.2.2)) = Wk := ⟨_, rfl⟩
                have HB34 := hide (show Below w.heap.size w W34 by rw [← hW34]; exact ((HB32.out.setCell (p := ⟨G, 0, none⟩) HLG.out _).setCell (p := ⟨G, 1, none⟩) HLG.out _).setCell (p := ⟨G, 2, none⟩) HLG.out _)
                have HG34 := hide (show Blk W34 G [.int .i64 (b.1 : Int), .int .i64 (b.2.1 : Int), .string b.2.2] 100 by rw [← hW34]; exact ((HG32.out.set 0 _).set 1 _).set 2 _)
                have HF34 := hide (show Blk W34 F [.int .i64 (a.1 : Int), .int .i64 (a.2.1 : Int), .string a.2.2] 100 by rw [← hW34]; exact ((HF32.out.other _ HNE.out).other _ HNE.out).other _ HNE.out)
                rw [hW34]
                clear hW34 q0 q1 q2 f0 f1 f2
                refine hK.out _ _ (HS.out _ HB34.out) (fun hHeld => ?_)
                clear hK K
                try simp only [Act.put, List.setIfInBounds_toArray, List.set_cons_zero, List.set_cons_succ]
                refine wpAnyH_done (by kernel_rfl) ?_ _
                clear hHeld
                go_wp2_with fail
                go_meet
                exact ⟨_, _, rfl, rfl, HF34.out, HG34.out, HB34.out, HLF.out, HLG.out⟩
        case s27 =>
          go_simp
          obtain ⟨W35, hW35⟩ : ∃ Wk, W25.alloc (.cells #[.int .i64 0, .int .i64 0, .string ⟨#[]⟩] 100) = Wk := ⟨_, rfl⟩
          obtain ⟨G, hG⟩ : ∃ X, W25.heap.size = X := ⟨_, rfl⟩
          have HB35 := hide (show Below w.heap.size w W35 by rw [← hW35]; exact HB25.out.alloc HB25.out.size _)
          have HG35 := hide (show Blk W35 G [.int .i64 0, .int .i64 0, .string ⟨#[]⟩] 100 by rw [← hW35, ← hG]; exact Blk.new W25 _ _)
          have HLG := hide (show w.heap.size ≤ G by have := HB25.out.size; omega)
          have HNE := hide (show F ≠ G by have := HF25.out.lt; omega)
          have HF35 := hide (show Blk W35 F [.int .i64 0, .int .i64 0, .string ⟨#[]⟩] 100 by rw [← hW35]; exact HF25.out.alloc _)
          rw [hW35, hG]
          clear hW35 hG
          refine hK.out _ _ (HS.out _ HB35.out) (fun hHeld => ?_)
          clear hK K
          try simp only [Act.put, List.setIfInBounds_toArray, List.set_cons_zero, List.set_cons_succ]
          refine wpAnyH_ready (rs := [15, 18]) (by kernel_rfl) (by simp) ?_
          refine (AllReadyH.cons (o := ?o36) ?h36 (fun K hK => ?s36) (AllReadyH.cons (o := ?o37) ?h37 (fun K hK => ?s37) AllReadyH.nil))
          case h36 => (simp only [List.getElem?_toArray, List.getElem?_cons_succ, List.getElem?_cons_zero]; rfl)
          case h37 => (simp only [List.getElem?_toArray, List.getElem?_cons_succ, List.getElem?_cons_zero]; rfl)
          case s36 =>
            obtain ⟨_, _, _, _, b0, b1, b2⟩ := HS.out _ HB35.out
            go_simp
            clear b0 b1 b2
            refine hK.out _ _ (HS.out _ HB35.out) (fun hHeld => ?_)
            clear hK K
            try simp only [Act.put, List.setIfInBounds_toArray, List.set_cons_zero, List.set_cons_succ]
            refine wpAnyH_ready (rs := [18]) (by kernel_rfl) (by simp) ?_
            refine (AllReadyH.cons (o := ?o39) ?h39 (fun K hK => ?s39) AllReadyH.nil)
            case h39 => (simp only [List.getElem?_toArray, List.getElem?_cons_succ, List.getElem?_cons_zero]; rfl)
            case s39 =>
              have q0 : W35.cell? ⟨F, 0, none⟩ = some (.int .i64 0) := HF35.out.cell 0
              have f0 := HF35.out.free 0
              have q1 : W35.cell? ⟨F, 1, none⟩ = some (.int .i64 0) := HF35.out.cell 1
              have f1 := HF35.out.free 1
              have q2 : W35.cell? ⟨F, 2, none⟩ = some (.string ⟨#[]⟩) := HF35.out.cell 2
              have f2 := HF35.out.free 2
              go_simp
              obtain ⟨W40, hW40⟩ : ∃ Wk, (((W35.setCell ⟨F, 0, none⟩ (.int .i64 (a.1 : Int))).setCell ⟨F, 1, none⟩ (.int .i64 (a.2.1 : Int))).setCell ⟨F, 2, none⟩ (.string a.2.2)) = Wk := ⟨_, rfl⟩
              have HB40 := hide (show Below w.heap.size w W40 by rw [← hW40]; exact ((HB35.out.setCell (p := ⟨F, 0, none⟩) HLF.out _).setCell (p := ⟨F, 1, none⟩) HLF.out _).setCell (p := ⟨F, 2, none⟩) HLF.out _)
              have HF40 := hide (show Blk W40 F [.int .i64 (a.1 : Int), .int .i64 (a.2.1 : Int), .string a.2.2] 100 by rw [← hW40]; exact ((HF35.out.set 0 _).set 1 _).set 2 _)
              have HG40 := hide (show Blk W40 G [.int .i64 0, .int .i64 0, .string ⟨#[]⟩] 100 by rw [← hW40]; exact ((HG35.out.other _ HNE.out.symm).other _ HNE.out.symm).other _ HNE.out.symm)
              rw [hW40]
              clear hW40 q0 q1 q2 f0 f1 f2
              refine hK.out _ _ (HS.out _ HB40.out) (fun hHeld => ?_)
              clear hK K
              try simp only [Act.put, List.setIfInBounds_toArray, List.set_cons_zero, List.set_cons_succ]
              refine wpAnyH_ready (rs := [19]) (by kernel_rfl) (by simp) ?_
              refine (AllReadyH.cons (o := ?o41) ?h41 (fun K hK => ?s41) AllReadyH.nil)
              case h41 => (simp only [List.getElem?_toArray, List.getElem?_cons_succ, List.getElem?_cons_zero]; rfl)
              case s41 =>
                have q0 : W40.cell? ⟨G, 0, none⟩ = some (.int .i64 0) := HG40.out.cell 0
                have f0 := HG40.out.free 0
                have q1 : W40.cell? ⟨G, 1, none⟩ = some (.int .i64 0) := HG40.out.cell 1
                have f1 := HG40.out.free 1
                have q2 : W40.cell? ⟨G, 2, none⟩ = some (.string ⟨#[]⟩) := HG40.out.cell 2
                have f2 := HG40.out.free 2
                go_simp
                obtain ⟨W42, hW42⟩ : ∃ Wk, (((W40.setCell ⟨G, 0, none⟩ (.int .i64 (b.1 : Int))).setCell ⟨G, 1, none⟩ (.int .i64 (b.2.1 : Int))).setCell ⟨G, 2, none⟩ (.string b.2.2)) = Wk := ⟨_, rfl⟩
                have HB42 := hide (show Below w.heap.size w W42 by rw [← hW42]; exact ((HB40.out.setCell (p := ⟨G, 0, none⟩) HLG.out _).setCell (p := ⟨G, 1, none⟩) HLG.out _).setCell (p := ⟨G, 2, none⟩) HLG.out _)
                have HG42 := hide (show Blk W42 G [.int .i64 (b.1 : Int), .int .i64 (b.2.1 : Int), .string b.2.2] 100 by rw [← hW42]; exact ((HG40.out.set 0 _).set 1 _).set 2 _)
                have HF42 := hide (show Blk W42 F [.int .i64 (a.1 : Int), .int .i64 (a.2.1 : Int), .string a.2.2] 100 by rw [← hW42]; exact ((HF40.out.other _ HNE.out).other _ HNE.out).other _ HNE.out)
                rw [hW42]
                clear hW42 q0 q1 q2 f0 f1 f2
                refine hK.out _ _ (HS.out _ HB42.out) (fun hHeld => ?_)
                clear hK K
                try simp only [Act.put, List.setIfInBounds_toArray, List.set_cons_zero, List.set_cons_succ]
                refine wpAnyH_done (by kernel_rfl) ?_ _
                clear hHeld
                go_wp2_with fail
                go_meet
                exact ⟨_, _, rfl, rfl, HF42.out, HG42.out, HB42.out, HLF.out, HLG.out⟩
          case s37 =>
            have q0 : W35.cell? ⟨F, 0, none⟩ = some (.int .i64 0) := HF35.out.cell 0
            have f0 := HF35.out.free 0
            have q1 : W35.cell? ⟨F, 1, none⟩ = some (.int .i64 0) := HF35.out.cell 1
            have f1 := HF35.out.free 1
            have q2 : W35.cell? ⟨F, 2, none⟩ = some (.string ⟨#[]⟩) := HF35.out.cell 2
            have f2 := HF35.out.free 2
            go_simp
            obtain ⟨W43, hW43⟩ : ∃ Wk, (((W35.setCell ⟨F, 0, none⟩ (.int .i64 (a.1 : Int))).setCell ⟨F, 1, none⟩ (.int .i64 (a.2.1 : Int))).setCell ⟨F, 2, none⟩ (.string a.2.2)) = Wk := ⟨_, rfl⟩
            have HB43 := hide (show Below w.heap.size w W43 by rw [← hW43]; exact ((HB35.out.setCell (p := ⟨F, 0, none⟩) HLF.out _).setCell (p := ⟨F, 1, none⟩) HLF.out _).setCell (p := ⟨F, 2, none⟩) HLF.out _)
            have HF43 := hide (show Blk W43 F [.int .i64 (a.1 : Int), .int .i64 (a.2.1 : Int), .string a.2.2] 100 by rw [← hW43]; exact ((HF35.out.set 0 _).set 1 _).set 2 _)
            have HG43 := hide (show Blk W43 G [.int .i64 0, .int .i64 0, .string ⟨#[]⟩] 100 by rw [← hW43]; exact ((HG35.out.other _ HNE.out.symm).other _ HNE.out.symm).other _ HNE.out.symm)
            rw [hW43]
            clear hW43 q0 q1 q2 f0 f1 f2
            refine hK.out _ _ (HS.out _ HB43.out) (fun hHeld => ?_)
            clear hK K
            try simp only [Act.put, List.setIfInBounds_toArray, List.set_cons_zero, List.set_cons_succ]
            refine wpAnyH_ready (rs := [15]) (by kernel_rfl) (by simp) ?_
            refine (AllReadyH.cons (o := ?o44) ?h44 (fun K hK => ?s44) AllReadyH.nil)
            case h44 => (simp only [List.getElem?_toArray, List.getElem?_cons_succ, List.getElem?_cons_zero]; rfl)
            case s44 =>
              obtain ⟨_, _, _, _, b0, b1, b2⟩ := HS.out _ HB43.out
              go_simp
              clear b0 b1 b2
              refine hK.out _ _ (HS.out _ HB43.out) (fun hHeld => ?_)
              clear hK K
              try simp only [Act.put, List.setIfInBounds_toArray, List.set_cons_zero, List.set_cons_succ]
              refine wpAnyH_ready (rs := [19]) (by kernel_rfl) (by simp) ?_
              refine (AllReadyH.cons (o := ?o46) ?h46 (fun K hK => ?s46) AllReadyH.nil)
              case h46 => (simp only [List.getElem?_toArray, List.getElem?_cons_succ, List.getElem?_cons_zero]; rfl)
              case s46 =>
                have q0 : W43.cell? ⟨G, 0, none⟩ = some (.int .i64 0) := HG43.out.cell 0
                have f0 := HG43.out.free 0
                have q1 : W43.cell? ⟨G, 1, none⟩ = some (.int .i64 0) := HG43.out.cell 1
                have f1 := HG43.out.free 1
                have q2 : W43.cell? ⟨G, 2, none⟩ = some (.string ⟨#[]⟩) := HG43.out.cell 2
                have f2 := HG43.out.free 2
                go_simp
                obtain ⟨W47, hW47⟩ : ∃ Wk, (((W43.setCell ⟨G, 0, none⟩ (.int .i64 (b.1 : Int))).setCell ⟨G, 1, none⟩ (.int .i64 (b.2.1 : Int))).setCell ⟨G, 2, none⟩ (.string b.2.2)) = Wk := ⟨_, rfl⟩
                have HB47 := hide (show Below w.heap.size w W47 by rw [← hW47]; exact ((HB43.out.setCell (p := ⟨G, 0, none⟩) HLG.out _).setCell (p := ⟨G, 1, none⟩) HLG.out _).setCell (p := ⟨G, 2, none⟩) HLG.out _)
                have HG47 := hide (show Blk W47 G [.int .i64 (b.1 : Int), .int .i64 (b.2.1 : Int), .string b.2.2] 100 by rw [← hW47]; exact ((HG43.out.set 0 _).set 1 _).set 2 _)
                have HF47 := hide (show Blk W47 F [.int .i64 (a.1 : Int), .int .i64 (a.2.1 : Int), .string a.2.2] 100 by rw [← hW47]; exact ((HF43.out.other _ HNE.out).other _ HNE.out).other _ HNE.out)
                rw [hW47]
                clear hW47 q0 q1 q2 f0 f1 f2
                refine hK.out _ _ (HS.out _ HB47.out) (fun hHeld => ?_)
                clear hK K
                try simp only [Act.put, List.setIfInBounds_toArray, List.set_cons_zero, List.set_cons_succ]
                refine wpAnyH_done (by kernel_rfl) ?_ _
                clear hHeld
                go_wp2_with fail
                go_meet
                exact ⟨_, _, rfl, rfl, HF47.out, HG47.out, HB47.out, HLF.out, HLG.out⟩
      case s7 =>
        go_simp
        obtain ⟨W48, hW48⟩ : ∃ Wk, V0.alloc (.cells #[.int .i64 0, .int .i64 0, .string ⟨#[]⟩] 100) = Wk := ⟨_, rfl⟩
        obtain ⟨G, hG⟩ : ∃ X, V0.heap.size = X := ⟨_, rfl⟩
        have HB48 := hide (show Below w.heap.size w W48 by rw [← hW48]; exact HB0.out.alloc HB0.out.size _)
        have HG48 := hide (show Blk W48 G [.int .i64 0, .int .i64 0, .string ⟨#[]⟩] 100 by rw [← hW48, ← hG]; exact Blk.new V0 _ _)
        have HLG := hide (show w.heap.size ≤ G by have := HB0.out.size; omega)
        rw [hW48, hG]
        clear hW48 hG
        refine hK.out _ _ (HS.out _ HB48.out) (fun hHeld => ?_)
        clear hK K
        try simp only [Act.put, List.setIfInBounds_toArray, List.set_cons_zero, List.set_cons_succ]
        refine wpAnyH_ready (rs := [15, 16]) (by kernel_rfl) (by simp) ?_
        refine (AllReadyH.cons (o := ?o49) ?h49 (fun K hK => ?s49) (AllReadyH.cons (o := ?o50) ?h50 (fun K hK => ?s50) AllReadyH.nil))
        case h49 => (simp only [List.getElem?_toArray, List.getElem?_cons_succ, List.getElem?_cons_zero]; rfl)
        case h50 => (simp only [List.getElem?_toArray, List.getElem?_cons_succ, List.getElem?_cons_zero]; rfl)
        case s49 =>
          obtain ⟨_, _, _, _, b0, b1, b2⟩ := HS.out _ HB48.out
          go_simp
          clear b0 b1 b2
          refine hK.out _ _ (HS.out _ HB48.out) (fun hHeld => ?_)
          clear hK K
          try simp only [Act.put, List.setIfInBounds_toArray, List.set_cons_zero, List.set_cons_succ]
          refine wpAnyH_ready (rs := [16]) (by kernel_rfl) (by simp) ?_
          refine (AllReadyH.cons (o := ?o52) ?h52 (fun K hK => ?s52) AllReadyH.nil)
          case h52 => (simp only [List.getElem?_toArray, List.getElem?_cons_succ, List.getElem?_cons_zero]; rfl)
          case s52 =>
            go_simp
            obtain ⟨W53, hW53⟩ : ∃ Wk, W48.alloc (.cells #[.int .i64 0, .int .i64 0, .string ⟨#[]⟩] 100) = Wk := ⟨_, rfl⟩
            obtain ⟨F, hF⟩ : ∃ X, W48.heap.size = X := ⟨_, rfl⟩
            have HB53 := hide (show Below w.heap.size w W53 by rw [← hW53]; exact HB48.out.alloc HB48.out.size _)
            have HF53 := hide (show Blk W53 F [.int .i64 0, .int .i64 0, .string ⟨#[]⟩] 100 by rw [← hW53, ← hF]; exact Blk.new W48 _ _)
            have HLF := hide (show w.heap.size ≤ F by have := HB48.out.size; omega)
            have HNE := hide (show F ≠ G by have := HG48.out.lt; omega)
            have HG53 := hide (show Blk W53 G [.int .i64 0, .int .i64 0, .string ⟨#[]⟩] 100 by rw [← hW53]; exact HG48.out.alloc _)
            rw [hW53, hF]
            clear hW53 hF
            refine hK.out _ _ (HS.out _ HB53.out) (fun hHeld => ?_)
            clear hK K
            try simp only [Act.put, List.setIfInBounds_toArray, List.set_cons_zero, List.set_cons_succ]
            refine wpAnyH_ready (rs := [18]) (by kernel_rfl) (by simp) ?_
            refine (AllReadyH.cons (o := ?o54) ?h54 (fun K hK => ?s54) AllReadyH.nil)
            case h54 => (simp only [List.getElem?_toArray, List.getElem?_cons_succ, List.getElem?_cons_zero]; rfl)
            case s54 =>
              have q0 : W53.cell? ⟨F, 0, none⟩ = some (.int .i64 0) := HF53.out.cell 0
              have f0 := HF53.out.free 0
              have q1 : W53.cell? ⟨F, 1, none⟩ = some (.int .i64 0) := HF53.out.cell 1
              have f1 := HF53.out.free 1
              have q2 : W53.cell? ⟨F, 2, none⟩ = some (.string ⟨#[]⟩) := HF53.out.cell 2
              have f2 := HF53.out.free 2
              go_simp
              obtain ⟨W55, hW55⟩ : ∃ Wk, (((W53.setCell ⟨F, 0, none⟩ (.int .i64 (a.1 : Int))).setCell ⟨F, 1, none⟩ (.int .i64 (a.2.1 : Int))).setCell ⟨F, 2, none⟩ (.string a.2.2)) = Wk := ⟨_, rfl⟩
              have HB55 := hide (show Below w.heap.size w W55 by rw [← hW55]; exact ((HB53.out.setCell (p := ⟨F, 0, none⟩) HLF.out _).setCell (p := ⟨F, 1, none⟩) HLF.out _).setCell (p := ⟨F, 2, none⟩) HLF.out _)
              have HF55 := hide (show Blk W55 F [.int .i64 (a.1 : Int), .int .i64 (a.2.1 : Int), .string a.2.2] 100 by rw [← hW55]; exact ((HF53.out.set 0 _).set 1 _).set 2 _)
              have HG55 := hide (show Blk W55 G [.int .i64 0, .int .i64 0, .string ⟨#[]⟩] 100 by rw [← hW55]; exact ((HG53.out.other _ HNE.out.symm).other _ HNE.out.symm).other _ HNE.out.symm)
              rw [hW55]
              clear hW55 q0 q1 q2 f0 f1 f2
              refine hK.out _ _ (HS.out _ HB55.out) (fun hHeld => ?_)
              clear hK K
              try simp only [Act.put, List.setIfInBounds_toArray, List.set_cons_zero, List.set_cons_succ]
              refine wpAnyH_ready (rs := [19]) (by kernel_rfl) (by simp) ?_
              refine (AllReadyH.cons (o := ?o56) ?h56 (fun K hK => ?s56) AllReadyH.nil)
              case h56 => (simp only [List.getElem?_toArray, List.getElem?_cons_succ, List.getElem?_cons_zero]; rfl)
              case s56 =>
                have q0 : W55.cell? ⟨G, 0, none⟩ = some (.int .i64 0) := HG55.out.cell 0
                have f0 := HG55.out.free 0
                have q1 : W55.cell? ⟨G, 1, none⟩ = some (.int .i64 0) := HG55.out.cell 1
                have f1 := HG55.out.free 1
                have q2 : W55.cell? ⟨G, 2, none⟩ = some (.string ⟨#[]⟩) := HG55.out.cell 2
                have f2 := HG55.out.free 2
                go_simp
                obtain ⟨W57, hW57⟩ : ∃ Wk, (((W55.setCell ⟨G, 0, none⟩ (.int .i64 (b.1 : Int))).setCell ⟨G, 1, none⟩ (.int .i64 (b.2.1 : Int))).setCell ⟨G, 2, none⟩ (.string b.2.2)) = Wk := ⟨_, rfl⟩
                have HB57 := hide (show Below w.heap.size w W57 by rw [← hW57]; exact ((HB55.out.setCell (p := ⟨G, 0, none⟩) HLG.out _).setCell (p := ⟨G, 1, none⟩) HLG.out _).setCell (p := ⟨G, 2, none⟩) HLG.out _)
                have HG57 := hide (show Blk W57 G [.int .i64 (b.1 : Int), .int .i64 (b.2.1 : Int), .string b.2.2] 100 by rw [← hW57]; exact ((HG55.out.set 0 _).set 1 _).set 2 _)
                have HF57 := hide (show Blk W57 F [.int .i64 (a.1 : Int), .int .i64 (a.2.1 : Int), .string a.2.2] 100 by rw [← hW57]; exact ((HF55.out.other _ HNE.out).other _ HNE.out).other _ HNE.out)
                rw [hW57]
                clear hW57 q0 q1 q2 f0 f1 f2
                refine hK.out _ _ (HS.out _ HB57.out) (fun hHeld => ?_)
                clear hK K
                try simp only [Act.put, List.setIfInBounds_toArray, List.set_cons_zero, List.set_cons_succ]
                refine wpAnyH_done (by kernel_rfl) ?_ _
                clear hHeld
                go_wp2_with fail
                go_meet
                exact ⟨_, _, rfl, rfl, HF57.out, HG57.out, HB57.out, HLF.out, HLG.out⟩
        case s50 =>
          go_simp
          obtain ⟨W58, hW58⟩ : ∃ Wk, W48.alloc (.cells #[.int .i64 0, .int .i64 0, .string ⟨#[]⟩] 100) = Wk := ⟨_, rfl⟩
          obtain ⟨F, hF⟩ : ∃ X, W48.heap.size = X := ⟨_, rfl⟩
          have HB58 := hide (show Below w.heap.size w W58 by rw [← hW58]; exact HB48.out.alloc HB48.out.size _)
          have HF58 := hide (show Blk W58 F [.int .i64 0, .int .i64 0, .string ⟨#[]⟩] 100 by rw [← hW58, ← hF]; exact Blk.new W48 _ _)
          have HLF := hide (show w.heap.size ≤ F by have := HB48.out.size; omega)
          have HNE := hide (show F ≠ G by have := HG48.out.lt; omega)
          have HG58 := hide (show Blk W58 G [.int .i64 0, .int .i64 0, .string ⟨#[]⟩] 100 by rw [← hW58]; exact HG48.out.alloc _)
          rw [hW58, hF]
          clear hW58 hF
          refine hK.out _ _ (HS.out _ HB58.out) (fun hHeld => ?_)
          clear hK K
          try simp only [Act.put, List.setIfInBounds_toArray, List.set_cons_zero, List.set_cons_succ]
          refine wpAnyH_ready (rs := [15, 18]) (by kernel_rfl) (by simp) ?_
          refine (AllReadyH.cons (o := ?o59) ?h59 (fun K hK => ?s59) (AllReadyH.cons (o := ?o60) ?h60 (fun K hK => ?s60) AllReadyH.nil))
          case h59 => (simp only [List.getElem?_toArray, List.getElem?_cons_succ, List.getElem?_cons_zero]; rfl)
          case h60 => (simp only [List.getElem?_toArray, List.getElem?_cons_succ, List.getElem?_cons_zero]; rfl)
          case s59 =>
            obtain ⟨_, _, _, _, b0, b1, b2⟩ := HS.out _ HB58.out
            go_simp
            clear b0 b1 b2
            refine hK.out _ _ (HS.out _ HB58.out) (fun hHeld => ?_)
            clear hK K
            try simp only [Act.put, List.setIfInBounds_toArray, List.set_cons_zero, List.set_cons_succ]
            refine wpAnyH_ready (rs := [18]) (by kernel_rfl) (by simp) ?_
            refine (AllReadyH.cons (o := ?o62) ?h62 (fun K hK => ?s62) AllReadyH.nil)
            case h62 => (simp only [List.getElem?_toArray, List.getElem?_cons_succ, List.getElem?_cons_zero]; rfl)
            case s62 =>
              have q0 : W58.cell? ⟨F, 0, none⟩ = some (.int .i64 0) := HF58.out.cell 0
              have f0 := HF58.out.free 0
              have q1 : W58.cell? ⟨F, 1, none⟩ = some (.int .i64 0) := HF58.out.cell 1
              have f1 := HF58.out.free 1
              have q2 : W58.cell? ⟨F, 2, none⟩ = some (.string ⟨#[]⟩) := HF58.out.cell 2
              have f2 := HF58.out.free 2
              go_simp
              obtain ⟨W63, hW63⟩ : ∃ Wk, (((W58.setCell ⟨F, 0, none⟩ (.int .i64 (a.1 : Int))).setCell ⟨F, 1, none⟩ (.int .i64 (a.2.1 : Int))).setCell ⟨F, 2, none⟩ (.string a.2.2)) = Wk := ⟨_, rfl⟩
              have HB63 := hide (show Below w.heap.size w W63 by rw [← hW63]; exact ((HB58.out.setCell (p := ⟨F, 0, none⟩) HLF.out _).setCell (p := ⟨F, 1, none⟩) HLF.out _).setCell (p := ⟨F, 2, none⟩) HLF.out _)
              have HF63 := hide (show Blk W63 F [.int .i64 (a.1 : Int), .int .i64 (a.2.1 : Int), .string a.2.2] 100 by rw [← hW63]; exact ((HF58.out.set 0 _).set 1 _).set 2 _)
              have HG63 := hide (show Blk W63 G [.int .i64 0, .int .i64 0, .string ⟨#[]⟩] 100 by rw [← hW63]; exact ((HG58.out.other _ HNE.out.symm).other _ HNE.out.symm).other _ HNE.out.symm)
              rw [hW63]
              clear hW63 q0 q1 q2 f0 f1 f2
              refine hK.out _ _ (HS.out _ HB63.out) (fun hHeld => ?_)
              clear hK K
              try simp only [Act.put, List.setIfInBounds_toArray, List.set_cons_zero, List.set_cons_succ]
              refine wpAnyH_ready (rs := [19]) (by kernel_rfl) (by simp) ?_
              refine (AllReadyH.cons (o := ?o64) ?h64 (fun K hK => ?s64) AllReadyH.nil)
              case h64 => (simp only [List.getElem?_toArray, List.getElem?_cons_succ, List.getElem?_cons_zero]; rfl)
              case s64 =>
                have q0 : W63.cell? ⟨G, 0, none⟩ = some (.int .i64 0) := HG63.out.cell 0
                have f0 := HG63.out.free 0
                have q1 : W63.cell? ⟨G, 1, none⟩ = some (.int .i64 0) := HG63.out.cell 1
                have f1 := HG63.out.free 1
                have q2 : W63.cell? ⟨G, 2, none⟩ = some (.string ⟨#[]⟩) := HG63.out.cell 2
                have f2 := HG63.out.free 2
                go_simp
                obtain ⟨W65, hW65⟩ : ∃ Wk, (((W63.setCell ⟨G, 0, none⟩ (.int .i64 (b.1 : Int))).setCell ⟨G, 1, none⟩ (.int .i64 (b.2.1 : Int))).setCell ⟨G, 2, none⟩ (.string b.2.2)) = Wk := ⟨_, rfl⟩
                have HB65 := hide (show Below w.heap.size w W65 by rw [← hW65]; exact ((HB63.out.setCell (p := ⟨G, 0, none⟩) HLG.out _).setCell (p := ⟨G, 1, none⟩) HLG.out _).setCell (p := ⟨G, 2, none⟩) HLG.out _)
                have HG65 := hide (show Blk W65 G [.int .i64 (b.1 : Int), .int .i64 (b.2.1 : Int), .string b.2.2] 100 by rw [← hW65]; exact ((HG63.out.set 0 _).set 1 _).set 2 _)
                have HF65 := hide (show Blk W65 F [.int .i64 (a.1 : Int), .int .i64 (a.2.1 : Int), .string a.2.2] 100 by rw [← hW65]; exact ((HF63.out.other _ HNE.out).other _ HNE.out).other _ HNE.out)
                rw [hW65]
                clear hW65 q0 q1 q2 f0 f1 f2
                refine hK.out _ _ (HS.out _ HB65.out) (fun hHeld => ?_)
                clear hK K
                try simp only [Act.put, List.setIfInBounds_toArray, List.set_cons_zero, List.set_cons_succ]
                refine wpAnyH_done (by kernel_rfl) ?_ _
                clear hHeld
                go_wp2_with fail
                go_meet
                exact ⟨_, _, rfl, rfl, HF65.out, HG65.out, HB65.out, HLF.out, HLG.out⟩
          case s60 =>
            have q0 : W58.cell? ⟨F, 0, none⟩ = some (.int .i64 0) := HF58.out.cell 0
            have f0 := HF58.out.free 0
            have q1 : W58.cell? ⟨F, 1, none⟩ = some (.int .i64 0) := HF58.out.cell 1
            have f1 := HF58.out.free 1
            have q2 : W58.cell? ⟨F, 2, none⟩ = some (.string ⟨#[]⟩) := HF58.out.cell 2
            have f2 := HF58.out.free 2
            go_simp
            obtain ⟨W66, hW66⟩ : ∃ Wk, (((W58.setCell ⟨F, 0, none⟩ (.int .i64 (a.1 : Int))).setCell ⟨F, 1, none⟩ (.int .i64 (a.2.1 : Int))).setCell ⟨F, 2, none⟩ (.string a.2.2)) = Wk := ⟨_, rfl⟩
            have HB66 := hide (show Below w.heap.size w W66 by rw [← hW66]; exact ((HB58.out.setCell (p := ⟨F, 0, none⟩) HLF.out _).setCell (p := ⟨F, 1, none⟩) HLF.out _).setCell (p := ⟨F, 2, none⟩) HLF.out _)
            have HF66 := hide (show Blk W66 F [.int .i64 (a.1 : Int), .int .i64 (a.2.1 : Int), .string a.2.2] 100 by rw [← hW66]; exact ((HF58.out.set 0 _).set 1 _).set 2 _)
            have HG66 := hide (show Blk W66 G [.int .i64 0, .int .i64 0, .string ⟨#[]⟩] 100 by rw [← hW66]; exact ((HG58.out.other _ HNE.out.symm).other _ HNE.out.symm).other _ HNE.out.symm)
            rw [hW66]
            clear hW66 q0 q1 q2 f0 f1 f2
            refine hK.out _ _ (HS.out _ HB66.out) (fun hHeld => ?_)
            clear hK K
            try simp only [Act.put, List.setIfInBounds_toArray, List.set_cons_zero, List.set_cons_succ]
            refine wpAnyH_ready (rs := [15]) (by kernel_rfl) (by simp) ?_
            refine (AllReadyH.cons (o := ?o67) ?h67 (fun K hK => ?s67) AllReadyH.nil)
            case h67 => (simp only [List.getElem?_toArray, List.getElem?_cons_succ, List.getElem?_cons_zero]; rfl)
            case s67 =>
              obtain ⟨_, _, _, _, b0, b1, b2⟩ := HS.out _ HB66.out
              go_simp
              clear b0 b1 b2
              refine hK.out _ _ (HS.out _ HB66.out) (fun hHeld => ?_)
              clear hK K
              try simp only [Act.put, List.setIfInBounds_toArray, List.set_cons_zero, List.set_cons_succ]
              refine wpAnyH_ready (rs := [19]) (by kernel_rfl) (by simp) ?_
              refine (AllReadyH.cons (o := ?o69) ?h69 (fun K hK => ?s69) AllReadyH.nil)
              case h69 => (simp only [List.getElem?_toArray, List.getElem?_cons_succ, List.getElem?_cons_zero]; rfl)
              case s69 =>
                have q0 : W66.cell? ⟨G, 0, none⟩ = some (.int .i64 0) := HG66.out.cell 0
                have f0 := HG66.out.free 0
                have q1 : W66.cell? ⟨G, 1, none⟩ = some (.int .i64 0) := HG66.out.cell 1
                have f1 := HG66.out.free 1
                have q2 : W66.cell? ⟨G, 2, none⟩ = some (.string ⟨#[]⟩) := HG66.out.cell 2
                have f2 := HG66.out.free 2
                go_simp
                obtain ⟨W70, hW70⟩ : ∃ Wk, (((W66.setCell ⟨G, 0, none⟩ (.int .i64 (b.1 : Int))).setCell ⟨G, 1, none⟩ (.int .i64 (b.2.1 : Int))).setCell ⟨G, 2, none⟩ (.string b.2.2)) = Wk := ⟨_, rfl⟩
                have HB70 := hide (show Below w.heap.size w W70 by rw [← hW70]; exact ((HB66.out.setCell (p := ⟨G, 0, none⟩) HLG.out _).setCell (p := ⟨G, 1, none⟩) HLG.out _).setCell (p := ⟨G, 2, none⟩) HLG.out _)
                have HG70 := hide (show Blk W70 G [.int .i64 (b.1 : Int), .int .i64 (b.2.1 : Int), .string b.2.2] 100 by rw [← hW70]; exact ((HG66.out.set 0 _).set 1 _).set 2 _)
                have HF70 := hide (show Blk W70 F [.int .i64 (a.1 : Int), .int .i64 (a.2.1 : Int), .string a.2.2] 100 by rw [← hW70]; exact ((HF66.out.other _ HNE.out).other _ HNE.out).other _ HNE.out)
                rw [hW70]
                clear hW70 q0 q1 q2 f0 f1 f2
                refine hK.out _ _ (HS.out _ HB70.out) (fun hHeld => ?_)
                clear hK K
                try simp only [Act.put, List.setIfInBounds_toArray, List.set_cons_zero, List.set_cons_succ]
                refine wpAnyH_done (by kernel_rfl) ?_ _
                clear hHeld
                go_wp2_with fail
                go_meet
                exact ⟨_, _, rfl, rfl, HF70.out, HG70.out, HB70.out, HLF.out, HLG.out⟩
    case s2 =>
      go_simp
      obtain ⟨W71, hW71⟩ : ∃ Wk, V0.alloc (.cells #[.int .i64 0, .int .i64 0, .string ⟨#[]⟩] 100) = Wk := ⟨_, rfl⟩
      obtain ⟨F, hF⟩ : ∃ X, V0.heap.size = X := ⟨_, rfl⟩
      have HB71 := hide (show Below w.heap.size w W71 by rw [← hW71]; exact HB0.out.alloc HB0.out.size _)
      have HF71 := hide (show Blk W71 F [.int .i64 0, .int .i64 0, .string ⟨#[]⟩] 100 by rw [← hW71, ← hF]; exact Blk.new V0 _ _)
      have HLF := hide (show w.heap.size ≤ F by have := HB0.out.size; omega)
      rw [hW71, hF]
      clear hW71 hF
      refine hK.out _ _ (HS.out _ HB71.out) (fun hHeld => ?_)
      clear hK K
      try simp only [Act.put, List.setIfInBounds_toArray, List.set_cons_zero, List.set_cons_succ]
      refine wpAnyH_ready (rs := [11, 17]) (by kernel_rfl) (by simp) ?_
      refine (AllReadyH.cons (o := ?o72) ?h72 (fun K hK => ?s72) (AllReadyH.cons (o := ?o73) ?h73 (fun K hK => ?s73) AllReadyH.nil))
      case h72 => (simp only [List.getElem?_toArray, List.getElem?_cons_succ, List.getElem?_cons_zero]; rfl)
      case h73 => (simp only [List.getElem?_toArray, List.getElem?_cons_succ, List.getElem?_cons_zero]; rfl)
      case s72 =>
        have c0 := (HS.out _ HB71.out).1
        go_simp
        clear c0
        refine hK.out _ _ (HS.out _ HB71.out) (fun hHeld => ?_)
        clear hK K
        try simp only [Act.put, List.setIfInBounds_toArray, List.set_cons_zero, List.set_cons_succ]
        refine tk 14 hHeld (h := ?_)
        refine wpAnyH_ready (rs := [15, 17]) (by kernel_rfl) (by simp) ?_
        refine (AllReadyH.cons (o := ?o75) ?h75 (fun K hK => ?s75) (AllReadyH.cons (o := ?o76) ?h76 (fun K hK => ?s76) AllReadyH.nil))
        case h75 => (simp only [List.getElem?_toArray, List.getElem?_cons_succ, List.getElem?_cons_zero]; rfl)
        case h76 => (simp only [List.getElem?_toArray, List.getElem?_cons_succ, List.getElem?_cons_zero]; rfl)
        case s75 =>
          obtain ⟨_, _, _, _, b0, b1, b2⟩ := HS.out _ HB71.out
          go_simp
          clear b0 b1 b2
          refine hK.out _ _ (HS.out _ HB71.out) (fun hHeld => ?_)
          clear hK K
          try simp only [Act.put, List.setIfInBounds_toArray, List.set_cons_zero, List.set_cons_succ]
          refine wpAnyH_ready (rs := [17]) (by kernel_rfl) (by simp) ?_
          refine (AllReadyH.cons (o := ?o78) ?h78 (fun K hK => ?s78) AllReadyH.nil)
          case h78 => (simp only [List.getElem?_toArray, List.getElem?_cons_succ, List.getElem?_cons_zero]; rfl)
          case s78 =>
            go_simp
            obtain ⟨W79, hW79⟩ : ∃ Wk, W71.alloc (.cells #[.int .i64 0, .int .i64 0, .string ⟨#[]⟩] 100) = Wk := ⟨_, rfl⟩
            obtain ⟨G, hG⟩ : ∃ X, W71.heap.size = X := ⟨_, rfl⟩
            have HB79 := hide (show Below w.heap.size w W79 by rw [← hW79]; exact HB71.out.alloc HB71.out.size _)
            have HG79 := hide (show Blk W79 G [.int .i64 0, .int .i64 0, .string ⟨#[]⟩] 100 by rw [← hW79, ← hG]; exact Blk.new W71 _ _)
            have HLG := hide (show w.heap.size ≤ G by have := HB71.out.size; omega)
            have HNE := hide (show F ≠ G by have := HF71.out.lt; omega)
            have HF79 := hide (show Blk W79 F [.int .i64 0, .int .i64 0, .string ⟨#[]⟩] 100 by rw [← hW79]; exact HF71.out.alloc _)
            rw [hW79, hG]
            clear hW79 hG
            refine hK.out _ _ (HS.out _ HB79.out) (fun hHeld => ?_)
            clear hK K
            try simp only [Act.put, List.setIfInBounds_toArray, List.set_cons_zero, List.set_cons_succ]
            refine wpAnyH_ready (rs := [18]) (by kernel_rfl) (by simp) ?_
            refine (AllReadyH.cons (o := ?o80) ?h80 (fun K hK => ?s80) AllReadyH.nil)
            case h80 => (simp only [List.getElem?_toArray, List.getElem?_cons_succ, List.getElem?_cons_zero]; rfl)
            case s80 =>
              have q0 : W79.cell? ⟨F, 0, none⟩ = some (.int .i64 0) := HF79.out.cell 0
              have f0 := HF79.out.free 0
              have q1 : W79.cell? ⟨F, 1, none⟩ = some (.int .i64 0) := HF79.out.cell 1
              have f1 := HF79.out.free 1
              have q2 : W79.cell? ⟨F, 2, none⟩ = some (.string ⟨#[]⟩) := HF79.out.cell 2
              have f2 := HF79.out.free 2
              go_simp
              obtain ⟨W81, hW81⟩ : ∃ Wk, (((W79.setCell ⟨F, 0, none⟩ (.int .i64 (a.1 : Int))).setCell ⟨F, 1, none⟩ (.int .i64 (a.2.1 : Int))).setCell ⟨F, 2, none⟩ (.string a.2.2)) = Wk := ⟨_, rfl⟩
              have HB81 := hide (show Below w.heap.size w W81 by rw [← hW81]; exact ((HB79.out.setCell (p := ⟨F, 0, none⟩) HLF.out _).setCell (p := ⟨F, 1, none⟩) HLF.out _).setCell (p := ⟨F, 2, none⟩) HLF.out _)
              have HF81 := hide (show Blk W81 F [.int .i64 (a.1 : Int), .int .i64 (a.2.1 : Int), .string a.2.2] 100 by rw [← hW81]; exact ((HF79.out.set 0 _).set 1 _).set 2 _)
              have HG81 := hide (show Blk W81 G [.int .i64 0, .int .i64 0, .string ⟨#[]⟩] 100 by rw [← hW81]; exact ((HG79.out.other _ HNE.out.symm).other _ HNE.out.symm).other _ HNE.out.symm)
              rw [hW81]
              clear hW81 q0 q1 q2 f0 f1 f2
              refine hK.out _ _ (HS.out _ HB81.out) (fun hHeld => ?_)
              clear hK K
              try simp only [Act.put, List.setIfInBounds_toArray, List.set_cons_zero, List.set_cons_succ]
              refine wpAnyH_ready (rs := [19]) (by kernel_rfl) (by simp) ?_
              refine (AllReadyH.cons (o := ?o82) ?h82 (fun K hK => ?s82) AllReadyH.nil)
              case h82 => (simp only [List.getElem?_toArray, List.getElem?_cons_succ, List.getElem?_cons_zero]; rfl)
              case s82 =>
                have q0 : W81.cell? ⟨G, 0, none⟩ = some (.int .i64 0) := HG81.out.cell 0
                have f0 := HG81.out.free 0
                have q1 : W81.cell? ⟨G, 1, none⟩ = some (.int .i64 0) := HG81.out.cell 1
                have f1 := HG81.out.free 1
                have q2 : W81.cell? ⟨G, 2, none⟩ = some (.string ⟨#[]⟩) := HG81.out.cell 2
                have f2 := HG81.out.free 2
                go_simp
                obtain ⟨W83, hW83⟩ : ∃ Wk, (((W81.setCell ⟨G, 0, none⟩ (.int .i64 (b.1 : Int))).setCell ⟨G, 1, none⟩ (.int .i64 (b.2.1 : Int))).setCell ⟨G, 2, none⟩ (.string b.2.2)) = Wk := ⟨_, rfl⟩
                have HB83 := hide (show Below w.heap.size w W83 by rw [← hW83]; exact ((HB81.out.setCell (p := ⟨G, 0, none⟩) HLG.out _).setCell (p := ⟨G, 1, none⟩) HLG.out _).setCell (p := ⟨G, 2, none⟩) HLG.out _)
                have HG83 := hide (show Blk W83 G [.int .i64 (b.1 : Int), .int .i64 (b.2.1 : Int), .string b.2.2] 100 by rw [← hW83]; exact ((HG81.out.set 0 _).set 1 _).set 2 _)
                have HF83 := hide (show Blk W83 F [.int .i64 (a.1 : Int), .int .i64 (a.2.1 : Int), .string a.2.2] 100 by rw [← hW83]; exact ((HF81.out.other _ HNE.out).other _ HNE.out).other _ HNE.out)
                rw [hW83]
                clear hW83 q0 q1 q2 f0 f1 f2
                refine hK.out _ _ (HS.out _ HB83.out) (fun hHeld => ?_)
                clear hK K
                try simp only [Act.put, List.setIfInBounds_toArray, List.set_cons_zero, List.set_cons_succ]
                refine wpAnyH_done (by kernel_rfl) ?_ _
                clear hHeld
                go_wp2_with fail
                go_meet
                exact ⟨_, _, rfl, rfl, HF83.out, HG83.out, HB83.out, HLF.out, HLG.out⟩
        case s76 =>
          go_simp
          obtain ⟨W84, hW84⟩ : ∃ Wk, W71.alloc (.cells #[.int .i64 0, .int .i64 0, .string ⟨#[]⟩] 100) = Wk := ⟨_, rfl⟩
          obtain ⟨G, hG⟩ : ∃ X, W71.heap.size = X := ⟨_, rfl⟩
          have HB84 := hide (show Below w.heap.size w W84 by rw [← hW84]; exact HB71.out.alloc HB71.out.size _)
          have HG84 := hide (show Blk W84 G [.int .i64 0, .int .i64 0, .string ⟨#[]⟩] 100 by rw [← hW84, ← hG]; exact Blk.new W71 _ _)
          have HLG := hide (show w.heap.size ≤ G by have := HB71.out.size; omega)
          have HNE := hide (show F ≠ G by have := HF71.out.lt; omega)
          have HF84 := hide (show Blk W84 F [.int .i64 0, .int .i64 0, .string ⟨#[]⟩] 100 by rw [← hW84]; exact HF71.out.alloc _)
          rw [hW84, hG]
          clear hW84 hG
          refine hK.out _ _ (HS.out _ HB84.out) (fun hHeld => ?_)
          clear hK K
          try simp only [Act.put, List.setIfInBounds_toArray, List.set_cons_zero, List.set_cons_succ]
          refine wpAnyH_ready (rs := [15, 18]) (by kernel_rfl) (by simp) ?_
          refine (AllReadyH.cons (o := ?o85) ?h85 (fun K hK => ?s85) (AllReadyH.cons (o := ?o86) ?h86 (fun K hK => ?s86) AllReadyH.nil))
          case h85 => (simp only [List.getElem?_toArray, List.getElem?_cons_succ, List.getElem?_cons_zero]; rfl)
          case h86 => (simp only [List.getElem?_toArray, List.getElem?_cons_succ, List.getElem?_cons_zero]; rfl)
          case s85 =>
            obtain ⟨_, _, _, _, b0, b1, b2⟩ := HS.out _ HB84.out
            go_simp
            clear b0 b1 b2
            refine hK.out _ _ (HS.out _ HB84.out) (fun hHeld => ?_)
            clear hK K
            try simp only [Act.put, List.setIfInBounds_toArray, List.set_cons_zero, List.set_cons_succ]
            refine wpAnyH_ready (rs := [18]) (by kernel_rfl) (by simp) ?_
            refine (AllReadyH.cons (o := ?o88) ?h88 (fun K hK => ?s88) AllReadyH.nil)
            case h88 => (simp only [List.getElem?_toArray, List.getElem?_cons_succ, List.getElem?_cons_zero]; rfl)
            case s88 =>
              have q0 : W84.cell? ⟨F, 0, none⟩ = some (.int .i64 0) := HF84.out.cell 0
              have f0 := HF84.out.free 0
              have q1 : W84.cell? ⟨F, 1, none⟩ = some (.int .i64 0) := HF84.out.cell 1
              have f1 := HF84.out.free 1
              have q2 : W84.cell? ⟨F, 2, none⟩ = some (.string ⟨#[]⟩) := HF84.out.cell 2
              have f2 := HF84.out.free 2
              go_simp
              obtain ⟨W89, hW89⟩ : ∃ Wk, (((W84.setCell ⟨F, 0, none⟩ (.int .i64 (a.1 : Int))).setCell ⟨F, 1, none⟩ (.int .i64 (a.2.1 : Int))).setCell ⟨F, 2, none⟩ (.string a.2.2)) = Wk := ⟨_, rfl⟩
              have HB89 := hide (show Below w.heap.size w W89 by rw [← hW89]; exact ((HB84.out.setCell (p := ⟨F, 0, none⟩) HLF.out _).setCell (p := ⟨F, 1, none⟩) HLF.out _).setCell (p := ⟨F, 2, none⟩) HLF.out _)
              have HF89 := hide (show Blk W89 F [.int .i64 (a.1 : Int), .int .i64 (a.2.1 : Int), .string a.2.2] 100 by rw [← hW89]; exact ((HF84.out.set 0 _).set 1 _).set 2 _)
              have HG89 := hide (show Blk W89 G [.int .i64 0, .int .i64 0, .string ⟨#[]⟩] 100 by rw [← hW89]; exact ((HG84.out.other _ HNE.out.symm).other _ HNE.out.symm).other _ HNE.out.symm)
              rw [hW89]
              clear hW89 q0 q1 q2 f0 f1 f2
              refine hK.out _ _ (HS.out _ HB89.out) (fun hHeld => ?_)
              clear hK K
              try simp only [Act.put, List.setIfInBounds_toArray, List.set_cons_zero, List.set_cons_succ]
              refine wpAnyH_ready (rs := [19]) (by kernel_rfl) (by simp) ?_
              refine (AllReadyH.cons (o := ?o90) ?h90 (fun K hK => ?s90) AllReadyH.nil)
              case h90 => (simp only [List.getElem?_toArray, List.getElem?_cons_succ, List.getElem?_cons_zero]; rfl)
              case s90 =>
                have q0 : W89.cell? ⟨G, 0, none⟩ = some (.int .i64 0) := HG89.out.cell 0
                have f0 := HG89.out.free 0
                have q1 : W89.cell? ⟨G, 1, none⟩ = some (.int .i64 0) := HG89.out.cell 1
                have f1 := HG89.out.free 1
                have q2 : W89.cell? ⟨G, 2, none⟩ = some (.string ⟨#[]⟩) := HG89.out.cell 2
                have f2 := HG89.out.free 2
                go_simp
                obtain ⟨W91, hW91⟩ : ∃ Wk, (((W89.setCell ⟨G, 0, none⟩ (.int .i64 (b.1 : Int))).setCell ⟨G, 1, none⟩ (.int .i64 (b.2.1 : Int))).setCell ⟨G, 2, none⟩ (.string b.2.2)) = Wk := ⟨_, rfl⟩
                have HB91 := hide (show Below w.heap.size w W91 by rw [← hW91]; exact ((HB89.out.setCell (p := ⟨G, 0, none⟩) HLG.out _).setCell (p := ⟨G, 1, none⟩) HLG.out _).setCell (p := ⟨G, 2, none⟩) HLG.out _)
                have HG91 := hide (show Blk W91 G [.int .i64 (b.1 : Int), .int .i64 (b.2.1 : Int), .string b.2.2] 100 by rw [← hW91]; exact ((HG89.out.set 0 _).set 1 _).set 2 _)
                have HF91 := hide (show Blk W91 F [.int .i64 (a.1 : Int), .int .i64 (a.2.1 : Int), .string a.2.2] 100 by rw [← hW91]; exact ((HF89.out.other _ HNE.out).other _ HNE.out).other _ HNE.out)
                rw [hW91]
                clear hW91 q0 q1 q2 f0 f1 f2
                refine hK.out _ _ (HS.out _ HB91.out) (fun hHeld => ?_)
                clear hK K
                try simp only [Act.put, List.setIfInBounds_toArray, List.set_cons_zero, List.set_cons_succ]
                refine wpAnyH_done (by kernel_rfl) ?_ _
                clear hHeld
                go_wp2_with fail
                go_meet
                exact ⟨_, _, rfl, rfl, HF91.out, HG91.out, HB91.out, HLF.out, HLG.out⟩
          case s86 =>
            have q0 : W84.cell? ⟨F, 0, none⟩ = some (.int .i64 0) := HF84.out.cell 0
            have f0 := HF84.out.free 0
            have q1 : W84.cell? ⟨F, 1, none⟩ = some (.int .i64 0) := HF84.out.cell 1
            have f1 := HF84.out.free 1
            have q2 : W84.cell? ⟨F, 2, none⟩ = some (.string ⟨#[]⟩) := HF84.out.cell 2
            have f2 := HF84.out.free 2
            go_simp
            obtain ⟨W92, hW92⟩ : ∃ Wk, (((W84.setCell ⟨F, 0, none⟩ (.int .i64 (a.1 : Int))).setCell ⟨F, 1, none⟩ (.int .i64 (a.2.1 : Int))).setCell ⟨F, 2, none⟩ (.string a.2.2)) = Wk := ⟨_, rfl⟩
            have HB92 := hide (show Below w.heap.size w W92 by rw [← hW92]; exact ((HB84.out.setCell (p := ⟨F, 0, none⟩) HLF.out _).setCell (p := ⟨F, 1, none⟩) HLF.out _).setCell (p := ⟨F, 2, none⟩) HLF.out _)
            have HF92 := hide (show Blk W92 F [.int .i64 (a.1 : Int), .int .i64 (a.2.1 : Int), .string a.2.2] 100 by rw [← hW92]; exact ((HF84.out.set 0 _).set 1 _).set 2 _)
            have HG92 := hide (show Blk W92 G [.int .i64 0, .int .i64 0, .string ⟨#[]⟩] 100 by rw [← hW92]; exact ((HG84.out.other _ HNE.out.symm).other _ HNE.out.symm).other _ HNE.out.symm)
            rw [hW92]
            clear hW92 q0 q1 q2 f0 f1 f2
            refine hK.out _ _ (HS.out _ HB92.out) (fun hHeld => ?_)
            clear hK K
            try simp only [Act.put, List.setIfInBounds_toArray, List.set_cons_zero, List.set_cons_succ]
            refine wpAnyH_ready (rs := [15]) (by kernel_rfl) (by simp) ?_
            refine (AllReadyH.cons (o := ?o93) ?h93 (fun K hK => ?s93) AllReadyH.nil)
            case h93 => (simp only [List.getElem?_toArray, List.getElem?_cons_succ, List.getElem?_cons_zero]; rfl)
            case s93 =>
              obtain ⟨_, _, _, _, b0, b1, b2⟩ := HS.out _ HB92.out
              go_simp
              clear b0 b1 b2
              refine hK.out _ _ (HS.out _ HB92.out) (fun hHeld => ?_)
              clear hK K
              try simp only [Act.put, List.setIfInBounds_toArray, List.set_cons_zero, List.set_cons_succ]
              refine wpAnyH_ready (rs := [19]) (by kernel_rfl) (by simp) ?_
              refine (AllReadyH.cons (o := ?o95) ?h95 (fun K hK => ?s95) AllReadyH.nil)
              case h95 => (simp only [List.getElem?_toArray, List.getElem?_cons_succ, List.getElem?_cons_zero]; rfl)
              case s95 =>
                have q0 : W92.cell? ⟨G, 0, none⟩ = some (.int .i64 0) := HG92.out.cell 0
                have f0 := HG92.out.free 0
                have q1 : W92.cell? ⟨G, 1, none⟩ = some (.int .i64 0) := HG92.out.cell 1
                have f1 := HG92.out.free 1
                have q2 : W92.cell? ⟨G, 2, none⟩ = some (.string ⟨#[]⟩) := HG92.out.cell 2
                have f2 := HG92.out.free 2
                go_simp
                obtain ⟨W96, hW96⟩ : ∃ Wk, (((W92.setCell ⟨G, 0, none⟩ (.int .i64 (b.1 : Int))).setCell ⟨G, 1, none⟩ (.int .i64 (b.2.1 : Int))).setCell ⟨G, 2, none⟩ (.string b.2.2)) = Wk := ⟨_, rfl⟩
                have HB96 := hide (show Below w.heap.size w W96 by rw [← hW96]; exact ((HB92.out.setCell (p := ⟨G, 0, none⟩) HLG.out _).setCell (p := ⟨G, 1, none⟩) HLG.out _).setCell (p := ⟨G, 2, none⟩) HLG.out _)
                have HG96 := hide (show Blk W96 G [.int .i64 (b.1 : Int), .int .i64 (b.2.1 : Int), .string b.2.2] 100 by rw [← hW96]; exact ((HG92.out.set 0 _).set 1 _).set 2 _)
                have HF96 := hide (show Blk W96 F [.int .i64 (a.1 : Int), .int .i64 (a.2.1 : Int), .string a.2.2] 100 by rw [← hW96]; exact ((HF92.out.other _ HNE.out).other _ HNE.out).other _ HNE.out)
                rw [hW96]
                clear hW96 q0 q1 q2 f0 f1 f2
                refine hK.out _ _ (HS.out _ HB96.out) (fun hHeld => ?_)
                clear hK K
                try simp only [Act.put, List.setIfInBounds_toArray, List.set_cons_zero, List.set_cons_succ]
                refine wpAnyH_done (by kernel_rfl) ?_ _
                clear hHeld
                go_wp2_with fail
                go_meet
                exact ⟨_, _, rfl, rfl, HF96.out, HG96.out, HB96.out, HLF.out, HLG.out⟩
      case s73 =>
        go_simp
        obtain ⟨W97, hW97⟩ : ∃ Wk, W71.alloc (.cells #[.int .i64 0, .int .i64 0, .string ⟨#[]⟩] 100) = Wk := ⟨_, rfl⟩
        obtain ⟨G, hG⟩ : ∃ X, W71.heap.size = X := ⟨_, rfl⟩
        have HB97 := hide (show Below w.heap.size w W97 by rw [← hW97]; exact HB71.out.alloc HB71.out.size _)
        have HG97 := hide (show Blk W97 G [.int .i64 0, .int .i64 0, .string ⟨#[]⟩] 100 by rw [← hW97, ← hG]; exact Blk.new W71 _ _)
        have HLG := hide (show w.heap.size ≤ G by have := HB71.out.size; omega)
        have HNE := hide (show F ≠ G by have := HF71.out.lt; omega)
        have HF97 := hide (show Blk W97 F [.int .i64 0, .int .i64 0, .string ⟨#[]⟩] 100 by rw [← hW97]; exact HF71.out.alloc _)
        rw [hW97, hG]
        clear hW97 hG
        refine hK.out _ _ (HS.out _ HB97.out) (fun hHeld => ?_)
        clear hK K
        try simp only [Act.put, List.setIfInBounds_toArray, List.set_cons_zero, List.set_cons_succ]
        refine wpAnyH_ready (rs := [11, 18]) (by kernel_rfl) (by simp) ?_
        refine (AllReadyH.cons (o := ?o98) ?h98 (fun K hK => ?s98) (AllReadyH.cons (o := ?o99) ?h99 (fun K hK => ?s99) AllReadyH.nil))
        case h98 => (simp only [List.getElem?_toArray, List.getElem?_cons_succ, List.getElem?_cons_zero]; rfl)
        case h99 => (simp only [List.getElem?_toArray, List.getElem?_cons_succ, List.getElem?_cons_zero]; rfl)
        case s98 =>
          have c0 := (HS.out _ HB97.out).1
          go_simp
          clear c0
          refine hK.out _ _ (HS.out _ HB97.out) (fun hHeld => ?_)
          clear hK K
          try simp only [Act.put, List.setIfInBounds_toArray, List.set_cons_zero, List.set_cons_succ]
          refine tk 14 hHeld (h := ?_)
          refine wpAnyH_ready (rs := [15, 18]) (by kernel_rfl) (by simp) ?_
          refine (AllReadyH.cons (o := ?o101) ?h101 (fun K hK => ?s101) (AllReadyH.cons (o := ?o102) ?h102 (fun K hK => ?s102) AllReadyH.nil))
          case h101 => (simp only [List.getElem?_toArray, List.getElem?_cons_succ, List.getElem?_cons_zero]; rfl)
          case h102 => (simp only [List.getElem?_toArray, List.getElem?_cons_succ, List.getElem?_cons_zero]; rfl)
          case s101 =>
            obtain ⟨_, _, _, _, b0, b1, b2⟩ := HS.out _ HB97.out
            go_simp
            clear b0 b1 b2
            refine hK.out _ _ (HS.out _ HB97.out) (fun hHeld => ?_)
            clear hK K
            try simp only [Act.put, List.setIfInBounds_toArray, List.set_cons_zero, List.set_cons_succ]
            refine wpAnyH_ready (rs := [18]) (by kernel_rfl) (by simp) ?_
            refine (AllReadyH.cons (o := ?o104) ?h104 (fun K hK => ?s104) AllReadyH.nil)
            case h104 => (simp only [List.getElem?_toArray, List.getElem?_cons_succ, List.getElem?_cons_zero]; rfl)
            case s104 =>
              have q0 : W97.cell? ⟨F, 0, none⟩ = some (.int .i64 0) := HF97.out.cell 0
              have f0 := HF97.out.free 0
              have q1 : W97.cell? ⟨F, 1, none⟩ = some (.int .i64 0) := HF97.out.cell 1
              have f1 := HF97.out.free 1
              have q2 : W97.cell? ⟨F, 2, none⟩ = some (.string ⟨#[]⟩) := HF97.out.cell 2
              have f2 := HF97.out.free 2
              go_simp
              obtain ⟨W105, hW105⟩ : ∃ Wk, (((W97.setCell ⟨F, 0, none⟩ (.int .i64 (a.1 : Int))).setCell ⟨F, 1, none⟩ (.int .i64 (a.2.1 : Int))).setCell ⟨F, 2, none⟩ (.string a.2.2)) = Wk := ⟨_, rfl⟩
              have HB105 := hide (show Below w.heap.size w W105 by rw [← hW105]; exact ((HB97.out.setCell (p := ⟨F, 0, none⟩) HLF.out _).setCell (p := ⟨F, 1, none⟩) HLF.out _).setCell (p := ⟨F, 2, none⟩) HLF.out _)
              have HF105 := hide (show Blk W105 F [.int .i64 (a.1 : Int), .int .i64 (a.2.1 : Int), .string a.2.2] 100 by rw [← hW105]; exact ((HF97.out.set 0 _).set 1 _).set 2 _)
              have HG105 := hide (show Blk W105 G [.int .i64 0, .int .i64 0, .string ⟨#[]⟩] 100 by rw [← hW105]; exact ((HG97.out.other _ HNE.out.symm).other _ HNE.out.symm).other _ HNE.out.symm)
              rw [hW105]
              clear hW105 q0 q1 q2 f0 f1 f2
              refine hK.out _ _ (HS.out _ HB105.out) (fun hHeld => ?_)
              clear hK K
              try simp only [Act.put, List.setIfInBounds_toArray, List.set_cons_zero, List.set_cons_succ]
              refine wpAnyH_ready (rs := [19]) (by kernel_rfl) (by simp) ?_
              refine (AllReadyH.cons (o := ?o106) ?h106 (fun K hK => ?s106) AllReadyH.nil)
              case h106 => (simp only [List.getElem?_toArray, List.getElem?_cons_succ, List.getElem?_cons_zero]; rfl)
              case s106 =>
                have q0 : W105.cell? ⟨G, 0, none⟩ = some (.int .i64 0) := HG105.out.cell 0
                have f0 := HG105.out.free 0
                have q1 : W105.cell? ⟨G, 1, none⟩ = some (.int .i64 0) := HG105.out.cell 1
                have f1 := HG105.out.free 1
                have q2 : W105.cell? ⟨G, 2, none⟩ = some (.string ⟨#[]⟩) := HG105.out.cell 2
                have f2 := HG105.out.free 2
                go_simp
                obtain ⟨W107, hW107⟩ : ∃ Wk, (((W105.setCell ⟨G, 0, none⟩ (.int .i64 (b.1 : Int))).setCell ⟨G, 1, none⟩ (.int .i64 (b.2.1 : Int))).setCell ⟨G, 2, none⟩ (.string b.2.2)) = Wk := ⟨_, rfl⟩
                have HB107 := hide (show Below w.heap.size w W107 by rw [← hW107]; exact ((HB105.out.setCell (p := ⟨G, 0, none⟩) HLG.out _).setCell (p := ⟨G, 1, none⟩) HLG.out _).setCell (p := ⟨G, 2, none⟩) HLG.out _)
                have HG107 := hide (show Blk W107 G [.int .i64 (b.1 : Int), .int .i64 (b.2.1 : Int), .string b.2.2] 100 by rw [← hW107]; exact ((HG105.out.set 0 _).set 1 _).set 2 _)
                have HF107 := hide (show Blk W107 F [.int .i64 (a.1 : Int), .int .i64 (a.2.1 : Int), .string a.2.2] 100 by rw [← hW107]; exact ((HF105.out.other _ HNE.out).other _ HNE.out).other _ HNE.out)
                rw [hW107]
                clear hW107 q0 q1 q2 f0 f1 f2
                refine hK.out _ _ (HS.out _ HB107.out) (fun hHeld => ?_)
                clear hK K
                try simp only [Act.put, List.setIfInBounds_toArray, List.set_cons_zero, List.set_cons_succ]
                refine wpAnyH_done (by kernel_rfl) ?_ _
                clear hHeld
                go_wp2_with fail
                go_meet
                exact ⟨_, _, rfl, rfl, HF107.out, HG107.out, HB107.out, HLF.out, HLG.out⟩
          case s102 =>
            have q0 : W97.cell? ⟨F, 0, none⟩ = some (.int .i64 0) := HF97.out.cell 0
            have f0 := HF97.out.free 0
            have q1 : W97.cell? ⟨F, 1, none⟩ = some (.int .i64 0) := HF97.out.cell 1
            have f1 := HF97.out.free 1
            have q2 : W97.cell? ⟨F, 2, none⟩ = some (.string ⟨#[]⟩) := HF97.out.cell 2
            have f2 := HF97.out.free 2
            go_simp
            obtain ⟨W108, hW108⟩ : ∃ Wk, (((W97.setCell ⟨F, 0, none⟩ (.int .i64 (a.1 : Int))).setCell ⟨F, 1, none⟩ (.int .i64 (a.2.1 : Int))).setCell ⟨F, 2, none⟩ (.string a.2.2)) = Wk := ⟨_, rfl⟩
            have HB108 := hide (show Below w.heap.size w W108 by rw [← hW108]; exact ((HB97.out.setCell (p := ⟨F, 0, none⟩) HLF.out _).setCell (p := ⟨F, 1, none⟩) HLF.out _).setCell (p := ⟨F, 2, none⟩) HLF.out _)
            have HF108 := hide (show Blk W108 F [.int .i64 (a.1 : Int), .int .i64 (a.2.1 : Int), .string a.2.2] 100 by rw [← hW108]; exact ((HF97.out.set 0 _).set 1 _).set 2 _)
            have HG108 := hide (show Blk W108 G [.int .i64 0, .int .i64 0, .string ⟨#[]⟩] 100 by rw [← hW108]; exact ((HG97.out.other _ HNE.out.symm).other _ HNE.out.symm).other _ HNE.out.symm)
            rw [hW108]
            clear hW108 q0 q1 q2 f0 f1 f2
            refine hK.out _ _ (HS.out _ HB108.out) (fun hHeld => ?_)
            clear hK K
            try simp only [Act.put, List.setIfInBounds_toArray, List.set_cons_zero, List.set_cons_succ]
            refine wpAnyH_ready (rs := [15]) (by kernel_rfl) (by simp) ?_
            refine (AllReadyH.cons (o := ?o109) ?h109 (fun K hK => ?s109) AllReadyH.nil)
            case h109 => (simp only [List.getElem?_toArray, List.getElem?_cons_succ, List.getElem?_cons_zero]; rfl)
            case s109 =>
              obtain ⟨_, _, _, _, b0, b1, b2⟩ := HS.out _ HB108.out
              go_simp
              clear b0 b1 b2
              refine hK.out _ _ (HS.out _ HB108.out) (fun hHeld => ?_)
              clear hK K
              try simp only [Act.put, List.setIfInBounds_toArray, List.set_cons_zero, List.set_cons_succ]
              refine wpAnyH_ready (rs := [19]) (by kernel_rfl) (by simp) ?_
              refine (AllReadyH.cons (o := ?o111) ?h111 (fun K hK => ?s111) AllReadyH.nil)
              case h111 => (simp only [List.getElem?_toArray, List.getElem?_cons_succ, List.getElem?_cons_zero]; rfl)
              case s111 =>
                have q0 : W108.cell? ⟨G, 0, none⟩ = some (.int .i64 0) := HG108.out.cell 0
                have f0 := HG108.out.free 0
                have q1 : W108.cell? ⟨G, 1, none⟩ = some (.int .i64 0) := HG108.out.cell 1
                have f1 := HG108.out.free 1
                have q2 : W108.cell? ⟨G, 2, none⟩ = some (.string ⟨#[]⟩) := HG108.out.cell 2
                have f2 := HG108.out.free 2
                go_simp
                obtain ⟨W112, hW112⟩ : ∃ Wk, (((W108.setCell ⟨G, 0, none⟩ (.int .i64 (b.1 : Int))).setCell ⟨G, 1, none⟩ (.int .i64 (b.2.1 : Int))).setCell ⟨G, 2, none⟩ (.string b.2.2)) = Wk := ⟨_, rfl⟩
                have HB112 := hide (show Below w.heap.size w W112 by rw [← hW112]; exact ((HB108.out.setCell (p := ⟨G, 0, none⟩) HLG.out _).setCell (p := ⟨G, 1, none⟩) HLG.out _).setCell (p := ⟨G, 2, none⟩) HLG.out _)
                have HG112 := hide (show Blk W112 G [.int .i64 (b.1 : Int), .int .i64 (b.2.1 : Int), .string b.2.2] 100 by rw [← hW112]; exact ((HG108.out.set 0 _).set 1 _).set 2 _)
                have HF112 := hide (show Blk W112 F [.int .i64 (a.1 : Int), .int .i64 (a.2.1 : Int), .string a.2.2] 100 by rw [← hW112]; exact ((HF108.out.other _ HNE.out).other _ HNE.out).other _ HNE.out)
                rw [hW112]
                clear hW112 q0 q1 q2 f0 f1 f2
                refine hK.out _ _ (HS.out _ HB112.out) (fun hHeld => ?_)
                clear hK K
                try simp only [Act.put, List.setIfInBounds_toArray, List.set_cons_zero, List.set_cons_succ]
                refine wpAnyH_done (by kernel_rfl) ?_ _
                clear hHeld
                go_wp2_with fail
                go_meet
                exact ⟨_, _, rfl, rfl, HF112.out, HG112.out, HB112.out, HLF.out, HLG.out⟩
        case s99 =>
          have q0 : W97.cell? ⟨F, 0, none⟩ = some (.int .i64 0) := HF97.out.cell 0
          have f0 := HF97.out.free 0
          have q1 : W97.cell? ⟨F, 1, none⟩ = some (.int .i64 0) := HF97.out.cell 1
          have f1 := HF97.out.free 1
          have q2 : W97.cell? ⟨F, 2, none⟩ = some (.string ⟨#[]⟩) := HF97.out.cell 2
          have f2 := HF97.out.free 2
          go_simp
          obtain ⟨W113, hW113⟩ : ∃ Wk, (((W97.setCell ⟨F, 0, none⟩ (.int .i64 (a.1 : Int))).setCell ⟨F, 1, none⟩ (.int .i64 (a.2.1 : Int))).setCell ⟨F, 2, none⟩ (.string a.2.2)) = Wk := ⟨_, rfl⟩
          have HB113 := hide (show Below w.heap.size w W113 by rw [← hW113]; exact ((HB97.out.setCell (p := ⟨F, 0, none⟩) HLF.out _).setCell (p := ⟨F, 1, none⟩) HLF.out _).setCell (p := ⟨F, 2, none⟩) HLF.out _)
          have HF113 := hide (show Blk W113 F [.int .i64 (a.1 : Int), .int .i64 (a.2.1 : Int), .string a.2.2] 100 by rw [← hW113]; exact ((HF97.out.set 0 _).set 1 _).set 2 _)
          have HG113 := hide (show Blk W113 G [.int .i64 0, .int .i64 0, .string ⟨#[]⟩] 100 by rw [← hW113]; exact ((HG97.out.other _ HNE.out.symm).other _ HNE.out.symm).other _ HNE.out.symm)
          rw [hW113]
          clear hW113 q0 q1 q2 f0 f1 f2
          refine hK.out _ _ (HS.out _ HB113.out) (fun hHeld => ?_)
          clear hK K
          try simp only [Act.put, List.setIfInBounds_toArray, List.set_cons_zero, List.set_cons_succ]
          refine wpAnyH_ready (rs := [11]) (by kernel_rfl) (by simp) ?_
          refine (AllReadyH.cons (o := ?o114) ?h114 (fun K hK => ?s114) AllReadyH.nil)
          case h114 => (simp only [List.getElem?_toArray, List.getElem?_cons_succ, List.getElem?_cons_zero]; rfl)
          case s114 =>
            have c0 := (HS.out _ HB113.out).1
            go_simp
            clear c0
            refine hK.out _ _ (HS.out _ HB113.out) (fun hHeld => ?_)
            clear hK K
            try simp only [Act.put, List.setIfInBounds_toArray, List.set_cons_zero, List.set_cons_succ]
            refine tk 14 hHeld (h := ?_)
            refine wpAnyH_ready (rs := [15]) (by kernel_rfl) (by simp) ?_
            refine (AllReadyH.cons (o := ?o116) ?h116 (fun K hK => ?s116) AllReadyH.nil)
            case h116 => (simp only [List.getElem?_toArray, List.getElem?_cons_succ, List.getElem?_cons_zero]; rfl)
            case s116 =>
              obtain ⟨_, _, _, _, b0, b1, b2⟩ := HS.out _ HB113.out
              go_simp
              clear b0 b1 b2
              refine hK.out _ _ (HS.out _ HB113.out) (fun hHeld => ?_)
              clear hK K
              try simp only [Act.put, List.setIfInBounds_toArray, List.set_cons_zero, List.set_cons_succ]
              refine wpAnyH_ready (rs := [19]) (by kernel_rfl) (by simp) ?_
              refine (AllReadyH.cons (o := ?o118) ?h118 (fun K hK => ?s118) AllReadyH.nil)
              case h118 => (simp only [List.getElem?_toArray, List.getElem?_cons_succ, List.getElem?_cons_zero]; rfl)
              case s118 =>
                have q0 : W113.cell? ⟨G, 0, none⟩ = some (.int .i64 0) := HG113.out.cell 0
                have f0 := HG113.out.free 0
                have q1 : W113.cell? ⟨G, 1, none⟩ = some (.int .i64 0) := HG113.out.cell 1
                have f1 := HG113.out.free 1
                have q2 : W113.cell? ⟨G, 2, none⟩ = some (.string ⟨#[]⟩) := HG113.out.cell 2
                have f2 := HG113.out.free 2
                go_simp
                obtain ⟨W119, hW119⟩ : ∃ Wk, (((W113.setCell ⟨G, 0, none⟩ (.int .i64 (b.1 : Int))).setCell ⟨G, 1, none⟩ (.int .i64 (b.2.1 : Int))).setCell ⟨G, 2, none⟩ (.string b.2.2)) = Wk := ⟨_, rfl⟩
                have HB119 := hide (show Below w.heap.size w W119 by rw [← hW119]; exact ((HB113.out.setCell (p := ⟨G, 0, none⟩) HLG.out _).setCell (p := ⟨G, 1, none⟩) HLG.out _).setCell (p := ⟨G, 2, none⟩) HLG.out _)
                have HG119 := hide (show Blk W119 G [.int .i64 (b.1 : Int), .int .i64 (b.2.1 : Int), .string b.2.2] 100 by rw [← hW119]; exact ((HG113.out.set 0 _).set 1 _).set 2 _)
                have HF119 := hide (show Blk W119 F [.int .i64 (a.1 : Int), .int .i64 (a.2.1 : Int), .string a.2.2] 100 by rw [← hW119]; exact ((HF113.out.other _ HNE.out).other _ HNE.out).other _ HNE.out)
                rw [hW119]
                clear hW119 q0 q1 q2 f0 f1 f2
                refine hK.out _ _ (HS.out _ HB119.out) (fun hHeld => ?_)
                clear hK K
                try simp only [Act.put, List.setIfInBounds_toArray, List.set_cons_zero, List.set_cons_succ]
                refine wpAnyH_done (by kernel_rfl) ?_ _
                clear hHeld
                go_wp2_with fail
                go_meet
                exact ⟨_, _, rfl, rfl, HF119.out, HG119.out, HB119.out, HLF.out, HLG.out⟩
    case s3 =>
      go_simp
      obtain ⟨W120, hW120⟩ : ∃ Wk, V0.alloc (.cells #[.int .i64 0, .int .i64 0, .string ⟨#[]⟩] 100) = Wk := ⟨_, rfl⟩
      obtain ⟨G, hG⟩ : ∃ X, V0.heap.size = X := ⟨_, rfl⟩
      have HB120 := hide (show Below w.heap.size w W120 by rw [← hW120]; exact HB0.out.alloc HB0.out.size _)
      have HG120 := hide (show Blk W120 G [.int .i64 0, .int .i64 0, .string ⟨#[]⟩] 100 by rw [← hW120, ← hG]; exact Blk.new V0 _ _)
      have HLG := hide (show w.heap.size ≤ G by have := HB0.out.size; omega)
      rw [hW120, hG]
      clear hW120 hG
      refine hK.out _ _ (HS.out _ HB120.out) (fun hHeld => ?_)
      clear hK K
      try simp only [Act.put, List.setIfInBounds_toArray, List.set_cons_zero, List.set_cons_succ]
      refine wpAnyH_ready (rs := [11, 16]) (by kernel_rfl) (by simp) ?_
      refine (AllReadyH.cons (o := ?o121) ?h121 (fun K hK => ?s121) (AllReadyH.cons (o := ?o122) ?h122 (fun K hK => ?s122) AllReadyH.nil))
      case h121 => (simp only [List.getElem?_toArray, List.getElem?_cons_succ, List.getElem?_cons_zero]; rfl)
      case h122 => (simp only [List.getElem?_toArray, List.getElem?_cons_succ, List.getElem?_cons_zero]; rfl)
      case s121 =>
        have c0 := (HS.out _ HB120.out).1
        go_simp
        clear c0
        refine hK.out _ _ (HS.out _ HB120.out) (fun hHeld => ?_)
        clear hK K
        try simp only [Act.put, List.setIfInBounds_toArray, List.set_cons_zero, List.set_cons_succ]
        refine tk 14 hHeld (h := ?_)
        refine wpAnyH_ready (rs := [15, 16]) (by kernel_rfl) (by simp) ?_
        refine (AllReadyH.cons (o := ?o124) ?h124 (fun K hK => ?s124) (AllReadyH.cons (o := ?o125) ?h125 (fun K hK => ?s125) AllReadyH.nil))
        case h124 => (simp only [List.getElem?_toArray, List.getElem?_cons_succ, List.getElem?_cons_zero]; rfl)
        case h125 => (simp only [List.getElem?_toArray, List.getElem?_cons_succ, List.getElem?_cons_zero]; rfl)
        case s124 =>
          obtain ⟨_, _, _, _, b0, b1, b2⟩ := HS.out _ HB120.out
          go_simp
          clear b0 b1 b2
          refine hK.out _ _ (HS.out _ HB120.out) (fun hHeld => ?_)
          clear hK K
          try simp only [Act.put, List.setIfInBounds_toArray, List.set_cons_zero, List.set_cons_succ]
          refine wpAnyH_ready (rs := [16]) (by kernel_rfl) (by simp) ?_
          refine (AllReadyH.cons (o := ?o127) ?h127 (fun K hK => ?s127) AllReadyH.nil)
          case h127 => (simp only [List.getElem?_toArray, List.getElem?_cons_succ, List.getElem?_cons_zero]; rfl)
          case s127 =>
            go_simp
            obtain ⟨W128, hW128⟩ : ∃ Wk, W120.alloc (.cells #[.int .i64 0, .int .i64 0, .string ⟨#[]⟩] 100) = Wk := ⟨_, rfl⟩
            obtain ⟨F, hF⟩ : ∃ X, W120.heap.size = X := ⟨_, rfl⟩
            have HB128 := hide (show Below w.heap.size w W128 by rw [← hW128]; exact HB120.out.alloc HB120.out.size _)
            have HF128 := hide (show Blk W128 F [.int .i64 0, .int .i64 0, .string ⟨#[]⟩] 100 by rw [← hW128, ← hF]; exact Blk.new W120 _ _)
            have HLF := hide (show w.heap.size ≤ F by have := HB120.out.size; omega)
            have HNE := hide (show F ≠ G by have := HG120.out.lt; omega)
            have HG128 := hide (show Blk W128 G [.int .i64 0, .int .i64 0, .string ⟨#[]⟩] 100 by rw [← hW128]; exact HG120.out.alloc _)
            rw [hW128, hF]
            clear hW128 hF
            refine hK.out _ _ (HS.out _ HB128.out) (fun hHeld => ?_)
            clear hK K
            try simp only [Act.put, List.setIfInBounds_toArray, List.set_cons_zero, List.set_cons_succ]
            refine wpAnyH_ready (rs := [18]) (by kernel_rfl) (by simp) ?_
            refine (AllReadyH.cons (o := ?o129) ?h129 (fun K hK => ?s129) AllReadyH.nil)
            case h129 => (simp only [List.getElem?_toArray, List.getElem?_cons_succ, List.getElem?_cons_zero]; rfl)
            case s129 =>
              have q0 : W128.cell? ⟨F, 0, none⟩ = some (.int .i64 0) := HF128.out.cell 0
              have f0 := HF128.out.free 0
              have q1 : W128.cell? ⟨F, 1, none⟩ = some (.int .i64 0) := HF128.out.cell 1
              have f1 := HF128.out.free 1
              have q2 : W128.cell? ⟨F, 2, none⟩ = some (.string ⟨#[]⟩) := HF128.out.cell 2
              have f2 := HF128.out.free 2
              go_simp
              obtain ⟨W130, hW130⟩ : ∃ Wk, (((W128.setCell ⟨F, 0, none⟩ (.int .i64 (a.1 : Int))).setCell ⟨F, 1, none⟩ (.int .i64 (a.2.1 : Int))).setCell ⟨F, 2, none⟩ (.string a.2.2)) = Wk := ⟨_, rfl⟩
              have HB130 := hide (show Below w.heap.size w W130 by rw [← hW130]; exact ((HB128.out.setCell (p := ⟨F, 0, none⟩) HLF.out _).setCell (p := ⟨F, 1, none⟩) HLF.out _).setCell (p := ⟨F, 2, none⟩) HLF.out _)
              have HF130 := hide (show Blk W130 F [.int .i64 (a.1 : Int), .int .i64 (a.2.1 : Int), .string a.2.2] 100 by rw [← hW130]; exact ((HF128.out.set 0 _).set 1 _).set 2 _)
              have HG130 := hide (show Blk W130 G [.int .i64 0, .int .i64 0, .string ⟨#[]⟩] 100 by rw [← hW130]; exact ((HG128.out.other _ HNE.out.symm).other _ HNE.out.symm).other _ HNE.out.symm)
              rw [hW130]
              clear hW130 q0 q1 q2 f0 f1 f2
              refine hK.out _ _ (HS.out _ HB130.out) (fun hHeld => ?_)
              clear hK K
              try simp only [Act.put, List.setIfInBounds_toArray, List.set_cons_zero, List.set_cons_succ]
              refine wpAnyH_ready (rs := [19]) (by kernel_rfl) (by simp) ?_
              refine (AllReadyH.cons (o := ?o131) ?h131 (fun K hK => ?s131) AllReadyH.nil)
              case h131 => (simp only [List.getElem?_toArray, List.getElem?_cons_succ, List.getElem?_cons_zero]; rfl)
              case s131 =>
                have q0 : W130.cell? ⟨G, 0, none⟩ = some (.int .i64 0) := HG130.out.cell 0
                have f0 := HG130.out.free 0
                have q1 : W130.cell? ⟨G, 1, none⟩ = some (.int .i64 0) := HG130.out.cell 1
                have f1 := HG130.out.free 1
                have q2 : W130.cell? ⟨G, 2, none⟩ = some (.string ⟨#[]⟩) := HG130.out.cell 2
                have f2 := HG130.out.free 2
                go_simp
                obtain ⟨W132, hW132⟩ : ∃ Wk, (((W130.setCell ⟨G, 0, none⟩ (.int .i64 (b.1 : Int))).setCell ⟨G, 1, none⟩ (.int .i64 (b.2.1 : Int))).setCell ⟨G, 2, none⟩ (.string b.2.2)) = Wk := ⟨_, rfl⟩
                have HB132 := hide (show Below w.heap.size w W132 by rw [← hW132]; exact ((HB130.out.setCell (p := ⟨G, 0, none⟩) HLG.out _).setCell (p := ⟨G, 1, none⟩) HLG.out _).setCell (p := ⟨G, 2, none⟩) HLG.out _)
                have HG132 := hide (show Blk W132 G [.int .i64 (b.1 : Int), .int .i64 (b.2.1 : Int), .string b.2.2] 100 by rw [← hW132]; exact ((HG130.out.set 0 _).set 1 _).set 2 _)
                have HF132 := hide (show Blk W132 F [.int .i64 (a.1 : Int), .int .i64 (a.2.1 : Int), .string a.2.2] 100 by rw [← hW132]; exact ((HF130.out.other _ HNE.out).other _ HNE.out).other _ HNE.out)
                rw [hW132]
                clear hW132 q0 q1 q2 f0 f1 f2
                refine hK.out _ _ (HS.out _ HB132.out) (fun hHeld => ?_)
                clear hK K
                try simp only [Act.put, List.setIfInBounds_toArray, List.set_cons_zero, List.set_cons_succ]
                refine wpAnyH_done (by kernel_rfl) ?_ _
                clear hHeld
                go_wp2_with fail
                go_meet
                exact ⟨_, _, rfl, rfl, HF132.out, HG132.out, HB132.out, HLF.out, HLG.out⟩
        case s125 =>
          go_simp
          obtain ⟨W133, hW133⟩ : ∃ Wk, W120.alloc (.cells #[.int .i64 0, .int .i64 0, .string ⟨#[]⟩] 100) = Wk := ⟨_, rfl⟩
          obtain ⟨F, hF⟩ : ∃ X, W120.heap.size = X := ⟨_, rfl⟩
          have HB133 := hide (show Below w.heap.size w W133 by rw [← hW133]; exact HB120.out.alloc HB120.out.size _)
          have HF133 := hide (show Blk W133 F [.int .i64 0, .int .i64 0, .string ⟨#[]⟩] 100 by rw [← hW133, ← hF]; exact Blk.new W120 _ _)
          have HLF := hide (show w.heap.size ≤ F by have := HB120.out.size; omega)
          have HNE := hide (show F ≠ G by have := HG120.out.lt; omega)
          have HG133 := hide (show Blk W133 G [.int .i64 0, .int .i64 0, .string ⟨#[]⟩] 100 by rw [← hW133]; exact HG120.out.alloc _)
          rw [hW133, hF]
          clear hW133 hF
          refine hK.out _ _ (HS.out _ HB133.out) (fun hHeld => ?_)
          clear hK K
          try simp only [Act.put, List.setIfInBounds_toArray, List.set_cons_zero, List.set_cons_succ]
          refine wpAnyH_ready (rs := [15, 18]) (by kernel_rfl) (by simp) ?_
          refine (AllReadyH.cons (o := ?o134) ?h134 (fun K hK => ?s134) (AllReadyH.cons (o := ?o135) ?h135 (fun K hK => ?s135) AllReadyH.nil))
          case h134 => (simp only [List.getElem?_toArray, List.getElem?_cons_succ, List.getElem?_cons_zero]; rfl)
          case h135 => (simp only [List.getElem?_toArray, List.getElem?_cons_succ, List.getElem?_cons_zero]; rfl)
          case s134 =>
            obtain ⟨_, _, _, _, b0, b1, b2⟩ := HS.out _ HB133.out
            go_simp
            clear b0 b1 b2
            refine hK.out _ _ (HS.out _ HB133.out) (fun hHeld => ?_)
            clear hK K
            try simp only [Act.put, List.setIfInBounds_toArray, List.set_cons_zero, List.set_cons_succ]
            refine wpAnyH_ready (rs := [18]) (by kernel_rfl) (by simp) ?_
            refine (AllReadyH.cons (o := ?o137) ?h137 (fun K hK => ?s137) AllReadyH.nil)
            case h137 => (simp only [List.getElem?_toArray, List.getElem?_cons_succ, List.getElem?_cons_zero]; rfl)
            case s137 =>
              have q0 : W133.cell? ⟨F, 0, none⟩ = some (.int .i64 0) := HF133.out.cell 0
              have f0 := HF133.out.free 0
              have q1 : W133.cell? ⟨F, 1, none⟩ = some (.int .i64 0) := HF133.out.cell 1
              have f1 := HF133.out.free 1
              have q2 : W133.cell? ⟨F, 2, none⟩ = some (.string ⟨#[]⟩) := HF133.out.cell 2
              have f2 := HF133.out.free 2
              go_simp
              obtain ⟨W138, hW138⟩ : ∃ Wk, (((W133.setCell ⟨F, 0, none⟩ (.int .i64 (a.1 : Int))).setCell ⟨F, 1, none⟩ (.int .i64 (a.2.1 : Int))).setCell ⟨F, 2, none⟩ (.string a.2.2)) = Wk := ⟨_, rfl⟩
              have HB138 := hide (show Below w.heap.size w W138 by rw [← hW138]; exact ((HB133.out.setCell (p := ⟨F, 0, none⟩) HLF.out _).setCell (p := ⟨F, 1, none⟩) HLF.out _).setCell (p := ⟨F, 2, none⟩) HLF.out _)
              have HF138 := hide (show Blk W138 F [.int .i64 (a.1 : Int), .int .i64 (a.2.1 : Int), .string a.2.2] 100 by rw [← hW138]; exact ((HF133.out.set 0 _).set 1 _).set 2 _)
              have HG138 := hide (show Blk W138 G [.int .i64 0, .int .i64 0, .string ⟨#[]⟩] 100 by rw [← hW138]; exact ((HG133.out.other _ HNE.out.symm).other _ HNE.out.symm).other _ HNE.out.symm)
              rw [hW138]
              clear hW138 q0 q1 q2 f0 f1 f2
              refine hK.out _ _ (HS.out _ HB138.out) (fun hHeld => ?_)
              clear hK K
              try simp only [Act.put, List.setIfInBounds_toArray, List.set_cons_zero, List.set_cons_succ]
              refine wpAnyH_ready (rs := [19]) (by kernel_rfl) (by simp) ?_
              refine (AllReadyH.cons (o := ?o139) ?h139 (fun K hK => ?s139) AllReadyH.nil)
              case h139 => (simp only [List.getElem?_toArray, List.getElem?_cons_succ, List.getElem?_cons_zero]; rfl)
              case s139 =>
                have q0 : W138.cell? ⟨G, 0, none⟩ = some (.int .i64 0) := HG138.out.cell 0
                have f0 := HG138.out.free 0
                have q1 : W138.cell? ⟨G, 1, none⟩ = some (.int .i64 0) := HG138.out.cell 1
                have f1 := HG138.out.free 1
                have q2 : W138.cell? ⟨G, 2, none⟩ = some (.string ⟨#[]⟩) := HG138.out.cell 2
                have f2 := HG138.out.free 2
                go_simp
                obtain ⟨W140, hW140⟩ : ∃ Wk, (((W138.setCell ⟨G, 0, none⟩ (.int .i64 (b.1 : Int))).setCell ⟨G, 1, none⟩ (.int .i64 (b.2.1 : Int))).setCell ⟨G, 2, none⟩ (.string b.2.2)) = Wk := ⟨_, rfl⟩
                have HB140 := hide (show Below w.heap.size w W140 by rw [← hW140]; exact ((HB138.out.setCell (p := ⟨G, 0, none⟩) HLG.out _).setCell (p := ⟨G, 1, none⟩) HLG.out _).setCell (p := ⟨G, 2, none⟩) HLG.out _)
                have HG140 := hide (show Blk W140 G [.int .i64 (b.1 : Int), .int .i64 (b.2.1 : Int), .string b.2.2] 100 by rw [← hW140]; exact ((HG138.out.set 0 _).set 1 _).set 2 _)
                have HF140 := hide (show Blk W140 F [.int .i64 (a.1 : Int), .int .i64 (a.2.1 : Int), .string a.2.2] 100 by rw [← hW140]; exact ((HF138.out.other _ HNE.out).other _ HNE.out).other _ HNE.out)
                rw [hW140]
                clear hW140 q0 q1 q2 f0 f1 f2
                refine hK.out _ _ (HS.out _ HB140.out) (fun hHeld => ?_)
                clear hK K
                try simp only [Act.put, List.setIfInBounds_toArray, List.set_cons_zero, List.set_cons_succ]
                refine wpAnyH_done (by kernel_rfl) ?_ _
                clear hHeld
                go_wp2_with fail
                go_meet
                exact ⟨_, _, rfl, rfl, HF140.out, HG140.out, HB140.out, HLF.out, HLG.out⟩
          case s135 =>
            have q0 : W133.cell? ⟨F, 0, none⟩ = some (.int .i64 0) := HF133.out.cell 0
            have f0 := HF133.out.free 0
            have q1 : W133.cell? ⟨F, 1, none⟩ = some (.int .i64 0) := HF133.out.cell 1
            have f1 := HF133.out.free 1
            have q2 : W133.cell? ⟨F, 2, none⟩ = some (.string ⟨#[]⟩) := HF133.out.cell 2
            have f2 := HF133.out.free 2
            go_simp
            obtain ⟨W141, hW141⟩ : ∃ Wk, (((W133.setCell ⟨F, 0, none⟩ (.int .i64 (a.1 : Int))).setCell ⟨F, 1, none⟩ (.int .i64 (a.2.1 : Int))).setCell ⟨F, 2, none⟩ (.string a.2.2)) = Wk := ⟨_, rfl⟩
            have HB141 := hide (show Below w.heap.size w W141 by rw [← hW141]; exact ((HB133.out.setCell (p := ⟨F, 0, none⟩) HLF.out _).setCell (p := ⟨F, 1, none⟩) HLF.out _).setCell (p := ⟨F, 2, none⟩) HLF.out _)
            have HF141 := hide (show Blk W141 F [.int .i64 (a.1 : Int), .int .i64 (a.2.1 : Int), .string a.2.2] 100 by rw [← hW141]; exact ((HF133.out.set 0 _).set 1 _).set 2 _)
            have HG141 := hide (show Blk W141 G [.int .i64 0, .int .i64 0, .string ⟨#[]⟩] 100 by rw [← hW141]; exact ((HG133.out.other _ HNE.out.symm).other _ HNE.out.symm).other _ HNE.out.symm)
            rw [hW141]
            clear hW141 q0 q1 q2 f0 f1 f2
            refine hK.out _ _ (HS.out _ HB141.out) (fun hHeld => ?_)
            clear hK K
            try simp only [Act.put, List.setIfInBounds_toArray, List.set_cons_zero, List.set_cons_succ]
            refine wpAnyH_ready (rs := [15]) (by kernel_rfl) (by simp) ?_
            refine (AllReadyH.cons (o := ?o142) ?h142 (fun K hK => ?s142) AllReadyH.nil)
            case h142 => (simp only [List.getElem?_toArray, List.getElem?_cons_succ, List.getElem?_cons_zero]; rfl)
            case s142 =>
              obtain ⟨_, _, _, _, b0, b1, b2⟩ := HS.out _ HB141.out
              go_simp
              clear b0 b1 b2
              refine hK.out _ _ (HS.out _ HB141.out) (fun hHeld => ?_)
              clear hK K
              try simp only [Act.put, List.setIfInBounds_toArray, List.set_cons_zero, List.set_cons_succ]
              refine wpAnyH_ready (rs := [19]) (by kernel_rfl) (by simp) ?_
              refine (AllReadyH.cons (o := ?o144) ?h144 (fun K hK => ?s144) AllReadyH.nil)
              case h144 => (simp only [List.getElem?_toArray, List.getElem?_cons_succ, List.getElem?_cons_zero]; rfl)
              case s144 =>
                have q0 : W141.cell? ⟨G, 0, none⟩ = some (.int .i64 0) := HG141.out.cell 0
                have f0 := HG141.out.free 0
                have q1 : W141.cell? ⟨G, 1, none⟩ = some (.int .i64 0) := HG141.out.cell 1
                have f1 := HG141.out.free 1
                have q2 : W141.cell? ⟨G, 2, none⟩ = some (.string ⟨#[]⟩) := HG141.out.cell 2
                have f2 := HG141.out.free 2
                go_simp
                obtain ⟨W145, hW145⟩ : ∃ Wk, (((W141.setCell ⟨G, 0, none⟩ (.int .i64 (b.1 : Int))).setCell ⟨G, 1, none⟩ (.int .i64 (b.2.1 : Int))).setCell ⟨G, 2, none⟩ (.string b.2.2)) = Wk := ⟨_, rfl⟩
                have HB145 := hide (show Below w.heap.size w W145 by rw [← hW145]; exact ((HB141.out.setCell (p := ⟨G, 0, none⟩) HLG.out _).setCell (p := ⟨G, 1, none⟩) HLG.out _).setCell (p := ⟨G, 2, none⟩) HLG.out _)
                have HG145 := hide (show Blk W145 G [.int .i64 (b.1 : Int), .int .i64 (b.2.1 : Int), .string b.2.2] 100 by rw [← hW145]; exact ((HG141.out.set 0 _).set 1 _).set 2 _)
                have HF145 := hide (show Blk W145 F [.int .i64 (a.1 : Int), .int .i64 (a.2.1 : Int), .string a.2.2] 100 by rw [← hW145]; exact ((HF141.out.other _ HNE.out).other _ HNE.out).other _ HNE.out)
                rw [hW145]
                clear hW145 q0 q1 q2 f0 f1 f2
                refine hK.out _ _ (HS.out _ HB145.out) (fun hHeld => ?_)
                clear hK K
                try simp only [Act.put, List.setIfInBounds_toArray, List.set_cons_zero, List.set_cons_succ]
                refine wpAnyH_done (by kernel_rfl) ?_ _
                clear hHeld
                go_wp2_with fail
                go_meet
                exact ⟨_, _, rfl, rfl, HF145.out, HG145.out, HB145.out, HLF.out, HLG.out⟩
      case s122 =>
        go_simp
        obtain ⟨W146, hW146⟩ : ∃ Wk, W120.alloc (.cells #[.int .i64 0, .int .i64 0, .string ⟨#[]⟩] 100) = Wk := ⟨_, rfl⟩
        obtain ⟨F, hF⟩ : ∃ X, W120.heap.size = X := ⟨_, rfl⟩
        have HB146 := hide (show Below w.heap.size w W146 by rw [← hW146]; exact HB120.out.alloc HB120.out.size _)
        have HF146 := hide (show Blk W146 F [.int .i64 0, .int .i64 0, .string ⟨#[]⟩] 100 by rw [← hW146, ← hF]; exact Blk.new W120 _ _)
        have HLF := hide (show w.heap.size ≤ F by have := HB120.out.size; omega)
        have HNE := hide (show F ≠ G by have := HG120.out.lt; omega)
        have HG146 := hide (show Blk W146 G [.int .i64 0, .int .i64 0, .string ⟨#[]⟩] 100 by rw [← hW146]; exact HG120.out.alloc _)
        rw [hW146, hF]
        clear hW146 hF
        refine hK.out _ _ (HS.out _ HB146.out) (fun hHeld => ?_)
        clear hK K
        try simp only [Act.put, List.setIfInBounds_toArray, List.set_cons_zero, List.set_cons_succ]
        refine wpAnyH_ready (rs := [11, 18]) (by kernel_rfl) (by simp) ?_
        refine (AllReadyH.cons (o := ?o147) ?h147 (fun K hK => ?s147) (AllReadyH.cons (o := ?o148) ?h148 (fun K hK => ?s148) AllReadyH.nil))
        case h147 => (simp only [List.getElem?_toArray, List.getElem?_cons_succ, List.getElem?_cons_zero]; rfl)
        case h148 => (simp only [List.getElem?_toArray, List.getElem?_cons_succ, List.getElem?_cons_zero]; rfl)
        case s147 =>
          have c0 := (HS.out _ HB146.out).1
          go_simp
          clear c0
          refine hK.out _ _ (HS.out _ HB146.out) (fun hHeld => ?_)
          clear hK K
          try simp only [Act.put, List.setIfInBounds_toArray, List.set_cons_zero, List.set_cons_succ]
          refine tk 14 hHeld (h := ?_)
          refine wpAnyH_ready (rs := [15, 18]) (by kernel_rfl) (by simp) ?_
          refine (AllReadyH.cons (o := ?o150) ?h150 (fun K hK => ?s150) (AllReadyH.cons (o := ?o151) ?h151 (fun K hK => ?s151) AllReadyH.nil))
          case h150 => (simp only [List.getElem?_toArray, List.getElem?_cons_succ, List.getElem?_cons_zero]; rfl)
          case h151 => (simp only [List.getElem?_toArray, List.getElem?_cons_succ, List.getElem?_cons_zero]; rfl)
          case s150 =>
            obtain ⟨_, _, _, _, b0, b1, b2⟩ := HS.out _ HB146.out
            go_simp
            clear b0 b1 b2
            refine hK.out _ _ (HS.out _ HB146.out) (fun hHeld => ?_)
            clear hK K
            try simp only [Act.put, List.setIfInBounds_toArray, List.set_cons_zero, List.set_cons_succ]
            refine wpAnyH_ready (rs := [18]) (by kernel_rfl) (by simp) ?_
            refine (AllReadyH.cons (o := ?o153) ?h153 (fun K hK => ?s153) AllReadyH.nil)
            case h153 => (simp only [List.getElem?_toArray, List.getElem?_cons_succ, List.getElem?_cons_zero]; rfl)
            case s153 =>
              have q0 : W146.cell? ⟨F, 0, none⟩ = some (.int .i64 0) := HF146.out.cell 0
              have f0 := HF146.out.free 0
              have q1 : W146.cell? ⟨F, 1, none⟩ = some (.int .i64 0) := HF146.out.cell 1
              have f1 := HF146.out.free 1
              have q2 : W146.cell? ⟨F, 2, none⟩ = some (.string ⟨#[]⟩) := HF146.out.cell 2
              have f2 := HF146.out.free 2
              go_simp
              obtain ⟨W154, hW154⟩ : ∃ Wk, (((W146.setCell ⟨F, 0, none⟩ (.int .i64 (a.1 : Int))).setCell ⟨F, 1, none⟩ (.int .i64 (a.2.1 : Int))).setCell ⟨F, 2, none⟩ (.string a.2.2)) = Wk := ⟨_, rfl⟩
              have HB154 := hide (show Below w.heap.size w W154 by rw [← hW154]; exact ((HB146.out.setCell (p := ⟨F, 0, none⟩) HLF.out _).setCell (p := ⟨F, 1, none⟩) HLF.out _).setCell (p := ⟨F, 2, none⟩) HLF.out _)
              have HF154 := hide (show Blk W154 F [.int .i64 (a.1 : Int), .int .i64 (a.2.1 : Int), .string a.2.2] 100 by rw [← hW154]; exact ((HF146.out.set 0 _).set 1 _).set 2 _)
              have HG154 := hide (show Blk W154 G [.int .i64 0, .int .i64 0, .string ⟨#[]⟩] 100 by rw [← hW154]; exact ((HG146.out.other _ HNE.out.symm).other _ HNE.out.symm).other _ HNE.out.symm)
              rw [hW154]
              clear hW154 q0 q1 q2 f0 f1 f2
              refine hK.out _ _ (HS.out _ HB154.out) (fun hHeld => ?_)
              clear hK K
              try simp only [Act.put, List.setIfInBounds_toArray, List.set_cons_zero, List.set_cons_succ]
              refine wpAnyH_ready (rs := [19]) (by kernel_rfl) (by simp) ?_
              refine (AllReadyH.cons (o := ?o155) ?h155 (fun K hK => ?s155) AllReadyH.nil)
              case h155 => (simp only [List.getElem?_toArray, List.getElem?_cons_succ, List.getElem?_cons_zero]; rfl)
              case s155 =>
                have q0 : W154.cell? ⟨G, 0, none⟩ = some (.int .i64 0) := HG154.out.cell 0
                have f0 := HG154.out.free 0
                have q1 : W154.cell? ⟨G, 1, none⟩ = some (.int .i64 0) := HG154.out.cell 1
                have f1 := HG154.out.free 1
                have q2 : W154.cell? ⟨G, 2, none⟩ = some (.string ⟨#[]⟩) := HG154.out.cell 2
                have f2 := HG154.out.free 2
                go_simp
                obtain ⟨W156, hW156⟩ : ∃ Wk, (((W154.setCell ⟨G, 0, none⟩ (.int .i64 (b.1 : Int))).setCell ⟨G, 1, none⟩ (.int .i64 (b.2.1 : Int))).setCell ⟨G, 2, none⟩ (.string b.2.2)) = Wk := ⟨_, rfl⟩
                have HB156 := hide (show Below w.heap.size w W156 by rw [← hW156]; exact ((HB154.out.setCell (p := ⟨G, 0, none⟩) HLG.out _).setCell (p := ⟨G, 1, none⟩) HLG.out _).setCell (p := ⟨G, 2, none⟩) HLG.out _)
                have HG156 := hide (show Blk W156 G [.int .i64 (b.1 : Int), .int .i64 (b.2.1 : Int), .string b.2.2] 100 by rw [← hW156]; exact ((HG154.out.set 0 _).set 1 _).set 2 _)
                have HF156 := hide (show Blk W156 F [.int .i64 (a.1 : Int), .int .i64 (a.2.1 : Int), .string a.2.2] 100 by rw [← hW156]; exact ((HF154.out.other _ HNE.out).other _ HNE.out).other _ HNE.out)
                rw [hW156]
                clear hW156 q0 q1 q2 f0 f1 f2
                refine hK.out _ _ (HS.out _ HB156.out) (fun hHeld => ?_)
                clear hK K
                try simp only [Act.put, List.setIfInBounds_toArray, List.set_cons_zero, List.set_cons_succ]
                refine wpAnyH_done (by kernel_rfl) ?_ _
                clear hHeld
                go_wp2_with fail
                go_meet
                exact ⟨_, _, rfl, rfl, HF156.out, HG156.out, HB156.out, HLF.out, HLG.out⟩
          case s151 =>
            have q0 : W146.cell? ⟨F, 0, none⟩ = some (.int .i64 0) := HF146.out.cell 0
            have f0 := HF146.out.free 0
            have q1 : W146.cell? ⟨F, 1, none⟩ = some (.int .i64 0) := HF146.out.cell 1
            have f1 := HF146.out.free 1
            have q2 : W146.cell? ⟨F, 2, none⟩ = some (.string ⟨#[]⟩) := HF146.out.cell 2
            have f2 := HF146.out.free 2
            go_simp
            obtain ⟨W157, hW157⟩ : ∃ Wk, (((W146.setCell ⟨F, 0, none⟩ (.int .i64 (a.1 : Int))).setCell ⟨F, 1, none⟩ (.int .i64 (a.2.1 : Int))).setCell ⟨F, 2, none⟩ (.string a.2.2)) = Wk := ⟨_, rfl⟩
            have HB157 := hide (show Below w.heap.size w W157 by rw [← hW157]; exact ((HB146.out.setCell (p := ⟨F, 0, none⟩) HLF.out _).setCell (p := ⟨F, 1, none⟩) HLF.out _).setCell (p := ⟨F, 2, none⟩) HLF.out _)
            have HF157 := hide (show Blk W157 F [.int .i64 (a.1 : Int), .int .i64 (a.2.1 : Int), .string a.2.2] 100 by rw [← hW157]; exact ((HF146.out.set 0 _).set 1 _).set 2 _)
            have HG157 := hide (show Blk W157 G [.int .i64 0, .int .i64 0, .string ⟨#[]⟩] 100 by rw [← hW157]; exact ((HG146.out.other _ HNE.out.symm).other _ HNE.out.symm).other _ HNE.out.symm)
            rw [hW157]
            clear hW157 q0 q1 q2 f0 f1 f2
            refine hK.out _ _ (HS.out _ HB157.out) (fun hHeld => ?_)
            clear hK K
            try simp only [Act.put, List.setIfInBounds_toArray, List.set_cons_zero, List.set_cons_succ]
            refine wpAnyH_ready (rs := [15]) (by kernel_rfl) (by simp) ?_
            refine (AllReadyH.cons (o := ?o158) ?h158 (fun K hK => ?s158) AllReadyH.nil)
            case h158 => (simp only [List.getElem?_toArray, List.getElem?_cons_succ, List.getElem?_cons_zero]; rfl)
            case s158 =>
              obtain ⟨_, _, _, _, b0, b1, b2⟩ := HS.out _ HB157.out
              go_simp
              clear b0 b1 b2
              refine hK.out _ _ (HS.out _ HB157.out) (fun hHeld => ?_)
              clear hK K
              try simp only [Act.put, List.setIfInBounds_toArray, List.set_cons_zero, List.set_cons_succ]
              refine wpAnyH_ready (rs := [19]) (by kernel_rfl) (by simp) ?_
              refine (AllReadyH.cons (o := ?o160) ?h160 (fun K hK => ?s160) AllReadyH.nil)
              case h160 => (simp only [List.getElem?_toArray, List.getElem?_cons_succ, List.getElem?_cons_zero]; rfl)
              case s160 =>
                have q0 : W157.cell? ⟨G, 0, none⟩ = some (.int .i64 0) := HG157.out.cell 0
                have f0 := HG157.out.free 0
                have q1 : W157.cell? ⟨G, 1, none⟩ = some (.int .i64 0) := HG157.out.cell 1
                have f1 := HG157.out.free 1
                have q2 : W157.cell? ⟨G, 2, none⟩ = some (.string ⟨#[]⟩) := HG157.out.cell 2
                have f2 := HG157.out.free 2
                go_simp
                obtain ⟨W161, hW161⟩ : ∃ Wk, (((W157.setCell ⟨G, 0, none⟩ (.int .i64 (b.1 : Int))).setCell ⟨G, 1, none⟩ (.int .i64 (b.2.1 : Int))).setCell ⟨G, 2, none⟩ (.string b.2.2)) = Wk := ⟨_, rfl⟩
                have HB161 := hide (show Below w.heap.size w W161 by rw [← hW161]; exact ((HB157.out.setCell (p := ⟨G, 0, none⟩) HLG.out _).setCell (p := ⟨G, 1, none⟩) HLG.out _).setCell (p := ⟨G, 2, none⟩) HLG.out _)
                have HG161 := hide (show Blk W161 G [.int .i64 (b.1 : Int), .int .i64 (b.2.1 : Int), .string b.2.2] 100 by rw [← hW161]; exact ((HG157.out.set 0 _).set 1 _).set 2 _)
                have HF161 := hide (show Blk W161 F [.int .i64 (a.1 : Int), .int .i64 (a.2.1 : Int), .string a.2.2] 100 by rw [← hW161]; exact ((HF157.out.other _ HNE.out).other _ HNE.out).other _ HNE.out)
                rw [hW161]
                clear hW161 q0 q1 q2 f0 f1 f2
                refine hK.out _ _ (HS.out _ HB161.out) (fun hHeld => ?_)
                clear hK K
                try simp only [Act.put, List.setIfInBounds_toArray, List.set_cons_zero, List.set_cons_succ]
                refine wpAnyH_done (by kernel_rfl) ?_ _
                clear hHeld
                go_wp2_with fail
                go_meet
                exact ⟨_, _, rfl, rfl, HF161.out, HG161.out, HB161.out, HLF.out, HLG.out⟩
        case s148 =>
          have q0 : W146.cell? ⟨F, 0, none⟩ = some (.int .i64 0) := HF146.out.cell 0
          have f0 := HF146.out.free 0
          have q1 : W146.cell? ⟨F, 1, none⟩ = some (.int .i64 0) := HF146.out.cell 1
          have f1 := HF146.out.free 1
          have q2 : W146.cell? ⟨F, 2, none⟩ = some (.string ⟨#[]⟩) := HF146.out.cell 2
          have f2 := HF146.out.free 2
          go_simp
          obtain ⟨W162, hW162⟩ : ∃ Wk, (((W146.setCell ⟨F, 0, none⟩ (.int .i64 (a.1 : Int))).setCell ⟨F, 1, none⟩ (.int .i64 (a.2.1 : Int))).setCell ⟨F, 2, none⟩ (.string a.2.2)) = Wk := ⟨_, rfl⟩
          have HB162 := hide (show Below w.heap.size w W162 by rw [← hW162]; exact ((HB146.out.setCell (p := ⟨F, 0, none⟩) HLF.out _).setCell (p := ⟨F, 1, none⟩) HLF.out _).setCell (p := ⟨F, 2, none⟩) HLF.out _)
          have HF162 := hide (show Blk W162 F [.int .i64 (a.1 : Int), .int .i64 (a.2.1 : Int), .string a.2.2] 100 by rw [← hW162]; exact ((HF146.out.set 0 _).set 1 _).set 2 _)
          have HG162 := hide (show Blk W162 G [.int .i64 0, .int .i64 0, .string ⟨#[]⟩] 100 by rw [← hW162]; exact ((HG146.out.other _ HNE.out.symm).other _ HNE.out.symm).other _ HNE.out.symm)
          rw [hW162]
          clear hW162 q0 q1 q2 f0 f1 f2
          refine hK.out _ _ (HS.out _ HB162.out) (fun hHeld => ?_)
          clear hK K
          try simp only [Act.put, List.setIfInBounds_toArray, List.set_cons_zero, List.set_cons_succ]
          refine wpAnyH_ready (rs := [11]) (by kernel_rfl) (by simp) ?_
          refine (AllReadyH.cons (o := ?o163) ?h163 (fun K hK => ?s163) AllReadyH.nil)
          case h163 => (simp only [List.getElem?_toArray, List.getElem?_cons_succ, List.getElem?_cons_zero]; rfl)
          case s163 =>
            have c0 := (HS.out _ HB162.out).1
            go_simp
            clear c0
            refine hK.out _ _ (HS.out _ HB162.out) (fun hHeld => ?_)
            clear hK K
            try simp only [Act.put, List.setIfInBounds_toArray, List.set_cons_zero, List.set_cons_succ]
            refine tk 14 hHeld (h := ?_)
            refine wpAnyH_ready (rs := [15]) (by kernel_rfl) (by simp) ?_
            refine (AllReadyH.cons (o := ?o165) ?h165 (fun K hK => ?s165) AllReadyH.nil)
            case h165 => (simp only [List.getElem?_toArray, List.getElem?_cons_succ, List.getElem?_cons_zero]; rfl)
            case s165 =>
              obtain ⟨_, _, _, _, b0, b1, b2⟩ := HS.out _ HB162.out
              go_simp
              clear b0 b1 b2
              refine hK.out _ _ (HS.out _ HB162.out) (fun hHeld => ?_)
              clear hK K
              try simp only [Act.put, List.setIfInBounds_toArray, List.set_cons_zero, List.set_cons_succ]
              refine wpAnyH_ready (rs := [19]) (by kernel_rfl) (by simp) ?_
              refine (AllReadyH.cons (o := ?o167) ?h167 (fun K hK => ?s167) AllReadyH.nil)
              case h167 => (simp only [List.getElem?_toArray, List.getElem?_cons_succ, List.getElem?_cons_zero]; rfl)
              case s167 =>
                have q0 : W162.cell? ⟨G, 0, none⟩ = some (.int .i64 0) := HG162.out.cell 0
                have f0 := HG162.out.free 0
                have q1 : W162.cell? ⟨G, 1, none⟩ = some (.int .i64 0) := HG162.out.cell 1
                have f1 := HG162.out.free 1
                have q2 : W162.cell? ⟨G, 2, none⟩ = some (.string ⟨#[]⟩) := HG162.out.cell 2
                have f2 := HG162.out.free 2
                go_simp
                obtain ⟨W168, hW168⟩ : ∃ Wk, (((W162.setCell ⟨G, 0, none⟩ (.int .i64 (b.1 : Int))).setCell ⟨G, 1, none⟩ (.int .i64 (b.2.1 : Int))).setCell ⟨G, 2, none⟩ (.string b.2.2)) = Wk := ⟨_, rfl⟩
                have HB168 := hide (show Below w.heap.size w W168 by rw [← hW168]; exact ((HB162.out.setCell (p := ⟨G, 0, none⟩) HLG.out _).setCell (p := ⟨G, 1, none⟩) HLG.out _).setCell (p := ⟨G, 2, none⟩) HLG.out _)
                have HG168 := hide (show Blk W168 G [.int .i64 (b.1 : Int), .int .i64 (b.2.1 : Int), .string b.2.2] 100 by rw [← hW168]; exact ((HG162.out.set 0 _).set 1 _).set 2 _)
                have HF168 := hide (show Blk W168 F [.int .i64 (a.1 : Int), .int .i64 (a.2.1 : Int), .string a.2.2] 100 by rw [← hW168]; exact ((HF162.out.other _ HNE.out).other _ HNE.out).other _ HNE.out)
                rw [hW168]
                clear hW168 q0 q1 q2 f0 f1 f2
                refine hK.out _ _ (HS.out _ HB168.out) (fun hHeld => ?_)
                clear hK K
                try simp only [Act.put, List.setIfInBounds_toArray, List.set_cons_zero, List.set_cons_succ]
                refine wpAnyH_done (by kernel_rfl) ?_ _
                clear hHeld
                go_wp2_with fail
                go_meet
                exact ⟨_, _, rfl, rfl, HF168.out, HG168.out, HB168.out, HLF.out, HLG.out⟩
  case rest =>
    obtain ⟨F, G, rfl, rfl, HF, HG, HBc, HLFG⟩ := hcut
    have a0 : wc.cell? ⟨F, 0, none⟩ = some (.int .i64 (a.1 : Int)) := HF.out.cell 0
    have a1 : wc.cell? ⟨F, 1, none⟩ = some (.int .i64 (a.2.1 : Int)) := HF.out.cell 1
    go_wp2_with fail
    go_quiet (fail)
    generalize hV : World.drewN wc _ = V1
    have HF1 := hide (show Blk V1 F [.int .i64 (a.1 : Int), .int .i64 (a.2.1 : Int), .string a.2.2] 100 by rw [← hV]; exact HF.out)
    have HG1 := hide (show Blk V1 G [.int .i64 (b.1 : Int), .int .i64 (b.2.1 : Int), .string b.2.2] 100 by rw [← hV]; exact HG.out)
    have HB1 := hide (show Below w.heap.size w V1 by rw [← hV]; exact below_drewN HBc.out _)
    clear hV a0 a1
    go_wp2_with fail
    have HT := hide (fun (V : World) (h : Blk V F [.int .i64 (a.1 : Int), .int .i64 (a.2.1 : Int), .string a.2.2] 100 ∧ Blk V G [.int .i64 (b.1 : Int), .int .i64 (b.2.1 : Int), .string b.2.2] 100) => (⟨h.1.cell 2, h.2.cell 2⟩ : V.cell? ⟨F, 2, none⟩ = some (.string a.2.2) ∧ V.cell? ⟨G, 2, none⟩ = some (.string b.2.2)))
    refine wp_region_held_drew (S := fun V => V.cell? ⟨F, 2, none⟩ = some (.string a.2.2) ∧ V.cell? ⟨G, 2, none⟩ = some (.string b.2.2)) (by kernel_rfl) (HT.out _ ⟨HF1.out, HG1.out⟩) (fun hHeld => ?_)
    refine tk 0 hHeld (h := ?_)
    refine tk 1 hHeld (h := ?_)
    refine tk 2 hHeld (h := ?_)
    refine tk 3 hHeld (h := ?_)
    refine tk 5 hHeld (h := ?_)
    refine tk 6 hHeld (h := ?_)
    refine tk 8 hHeld (h := ?_)
    refine tk 9 hHeld (h := ?_)
    refine tk 10 hHeld (h := ?_)
    refine tk 11 hHeld (h := ?_)
    refine tk 12 hHeld (h := ?_)
    refine tk 13 hHeld (h := ?_)
    refine tk 14 hHeld (h := ?_)
    refine tk 15 hHeld (h := ?_)
    refine tk 16 hHeld (h := ?_)
    have HF2 := hide (show Blk V1.drew F [.int .i64 (a.1 : Int), .int .i64 (a.2.1 : Int), .string a.2.2] 100 from HF1.out)
    have HG2 := hide (show Blk V1.drew G [.int .i64 (b.1 : Int), .int .i64 (b.2.1 : Int), .string b.2.2] 100 from HG1.out)
    have HB2 := hide (HB1.out.drew)
    generalize World.drew V1 = V2 at HF2 HG2 HB2 hHeld ⊢
    have HLF := hide HLFG.out.1
    have HLG := hide HLFG.out.2
    refine wpAnyH_ready (rs := [4, 17]) (by kernel_rfl) (by simp) ?_
    refine (AllReadyH.cons (o := ?o169) ?h169 (fun K hK => ?s169) (AllReadyH.cons (o := ?o170) ?h170 (fun K hK => ?s170) AllReadyH.nil))
    case h169 => (simp only [List.getElem?_toArray, List.getElem?_cons_succ, List.getElem?_cons_zero]; rfl)
    case h170 => (simp only [List.getElem?_toArray, List.getElem?_cons_succ, List.getElem?_cons_zero]; rfl)
    case s169 =>
      have c0 := (HS.out _ HB2.out).1
      go_simp
      clear c0
      refine hK.out _ _ (HT.out _ ⟨HF2.out, HG2.out⟩) (fun hHeld => ?_)
      clear hK K
      try simp only [Act.put, List.setIfInBounds_toArray, List.set_cons_zero, List.set_cons_succ]
      refine tk 7 hHeld (h := ?_)
      refine wpAnyH_ready (rs := [17]) (by kernel_rfl) (by simp) ?_
      refine (AllReadyH.cons (o := ?o172) ?h172 (fun K hK => ?s172) AllReadyH.nil)
      case h172 => (simp only [List.getElem?_toArray, List.getElem?_cons_succ, List.getElem?_cons_zero]; rfl)
      case s172 =>
        go_simp
        go_at_call 40
        refine (HJ.out _ HB2.out).mono ?_
        rintro e w173 ⟨rfl, hb173⟩
        have HB173 := hide (HB2.out.trans (hb173.mono HB2.out.size))
        have HF173 := hide (HF2.out.on hb173)
        have HG173 := hide (HG2.out.on hb173)
        clear hb173
        try go_wp2_with fail
        refine hK.out _ _ (HT.out _ ⟨HF173.out, HG173.out⟩) (fun hHeld => ?_)
        clear hK K
        try simp only [Act.put, List.setIfInBounds_toArray, List.set_cons_zero, List.set_cons_succ]
        refine tk 18 hHeld (h := ?_)
        refine wpAnyH_ready (rs := [19]) (by kernel_rfl) (by simp) ?_
        refine (AllReadyH.cons (o := ?o174) ?h174 (fun K hK => ?s174) AllReadyH.nil)
        case h174 => (simp only [List.getElem?_toArray, List.getElem?_cons_succ, List.getElem?_cons_zero]; rfl)
        case s174 =>
          go_simp
          obtain ⟨W175, hW175⟩ : ∃ Wk, w173.alloc (.cells #[.int .i64 ((a.1 : Int) + 1), .int .i64 (hf : Int), .string r] 100) = Wk := ⟨_, rfl⟩
          have HNW := hide (show ∀ j u, [.int .i64 ((a.1 : Int) + 1), .int .i64 (hf : Int), .string r][j]? = some u → W175.cell? ((⟨w173.heap.size, 0, none⟩ : Addr).add j) = some u by rw [← hW175]; intro j u h; rw [Addr.add_mid, Nat.zero_add]; exact ((Blk.new w173 [.int .i64 ((a.1 : Int) + 1), .int .i64 (hf : Int), .string r] 100).cell j).trans h)
          have HZ := hide (show W175.heap.size = w173.heap.size + 1 by rw [← hW175]; exact World.size_alloc _ _)
          have HB175 := hide (show Below w.heap.size w W175 by rw [← hW175]; exact HB173.out.alloc HB173.out.size _)
          have HF175 := hide (show Blk W175 F [.int .i64 (a.1 : Int), .int .i64 (a.2.1 : Int), .string a.2.2] 100 by rw [← hW175]; exact HF173.out.alloc _)
          have HG175 := hide (show Blk W175 G [.int .i64 (b.1 : Int), .int .i64 (b.2.1 : Int), .string b.2.2] 100 by rw [← hW175]; exact HG173.out.alloc _)
          rw [hW175]
          clear hW175
          refine hK.out _ _ (HT.out _ ⟨HF175.out, HG175.out⟩) (fun hHeld => ?_)
          clear hK K
          try simp only [Act.put, List.setIfInBounds_toArray, List.set_cons_zero, List.set_cons_succ]
          refine wpAnyH_ready (rs := [20]) (by kernel_rfl) (by simp) ?_
          refine AllReadyH.cons (o := ?o177) ?h177 (fun K hK => ?s177) AllReadyH.nil
          case h177 => (simp only [List.getElem?_toArray, List.getElem?_cons_succ, List.getElem?_cons_zero]; rfl)
          refine step_append_lies _ (by rfl) (.tmp 43) (.tmp 55) 96 (by rfl) lo 100 i1 (.agg #[.int .i64 0, .int .i64 0, .string ⟨#[]⟩]) 3 32 Tryz.underlying96 hi1 hy0 hy1 hy2 (by rfl) (by decide) (.slice (some ⟨g, 0, none⟩) m nc) m (nodC pre) (by rfl) (owns_kept HRL.out (Kept.of_below (F := fun _ => False) HB175.out) (fun _ _ e => e)) ⟨w173.heap.size, 0, none⟩ 1 1 [.int .i64 ((a.1 : Int) + 1), .int .i64 (hf : Int), .string r] (by rfl) (by rfl) HNW.out (fun u hu => by simp at hu; rcases hu with rfl | rfl | rfl <;> rfl) (by decide) N1.out N2.out (Nat.le_trans HLO.out HB175.out.size) (w173.heap.size + 1) HZ.out ?_
          intro g2 cap w8 hown hgrow hat hlt
          have hK8 := Kept.grown (F := fun q => (Value.slice (some ⟨g, 0, none⟩) m nc).ownBlock = some q) (Kept.of_below HB175.out) hgrow (fun q e => .inl e)
          have hgr : Kept (fun q => q = g) W175 w8 := (kept_grown hgrow).mono (fun q _ e => by have e2 : some g = some q := e; simpa using e2.symm)
          have hFg : ∀ q, w.heap.size ≤ q → ¬ q = g := fun q hq e => by have := HGL.out; omega
          have HF8 := hide (blkY HF175.out hgr (hFg F HLF.out))
          have HG8 := hide (blkY HG175.out hgr (hFg G HLG.out))
          have HS8 := hide (blkY HSB.out hK8 HSG.out)
          have HAT := hide (show (Value.slice (some ⟨g, 0, none⟩) m nc).ownBlock = some g2 ∨ w.heap.size ≤ g2 by
            rcases hat with e | e
            · exact .inl e
            · have := HB175.out.size; have := HZ.out; exact .inr (by omega))
          have HGS := hide (show g2 ≠ S by
            rcases HAT.out with e | e
            · intro e2; subst e2; exact HSG.out e
            · have := HSL.out; omega)
          have HOW := hide hown
          have HK8 := hide hK8
          clear hown hgrow hat hlt hK8 hgr hFg
          refine hK.out _ _ (HT.out _ ⟨HF8.out, HG8.out⟩) (fun hHeld => ?_)
          clear hK K
          try simp only [Act.put, List.setIfInBounds_toArray, List.set_cons_zero, List.set_cons_succ]
          refine tk 21 hHeld (h := ?_)
          refine tk 22 hHeld (h := ?_)
          have f1 := HS8.out.free o
          have c1 : w8.cell? ⟨S, o, none⟩ = some (.slice (some ⟨g, 0, none⟩) (m + 2) nc) := (HS8.out.cell o).trans HOC.out
          have HS9 := hide (HS8.out.set o (.slice (some ⟨g2, 0, none⟩) (m + 1) cap))
          have HF9 := hide (HF8.out.other (a := ⟨S, o, none⟩) (.slice (some ⟨g2, 0, none⟩) (m + 1) cap) (fun e => by have := HLF.out; have := HSL.out; dsimp only at e; omega))
          have HG9 := hide (HG8.out.other (a := ⟨S, o, none⟩) (.slice (some ⟨g2, 0, none⟩) (m + 1) cap) (fun e => by have := HLG.out; have := HSL.out; dsimp only at e; omega))
          have HOF := hide (owns_kept HOW.out (kept_set w8 ⟨S, o, none⟩ (.slice (some ⟨g2, 0, none⟩) (m + 1) cap)) (fun q e hk => by
            have e' : g2 = q := by simpa [Value.ownBlock] using e
            exact HGS.out (e'.trans hk)))
          have HKF := hide (show Kept (fun q => q = S ∨ (Value.slice (some ⟨g, 0, none⟩) m nc).ownBlock = some q) w (w8.setCell ⟨S, o, none⟩ (.slice (some ⟨g2, 0, none⟩) (m + 1) cap)) from (HK8.out.mono (fun q _ e => .inr e)).setCell (p := ⟨S, o, none⟩) (.inl (.inl rfl)) _)
          refine wpAnyH_ready (rs := [23]) (by kernel_rfl) (by simp) ?_
          refine AllReadyH.cons (o := ?o178) ?h178 (fun K hK => ?s178) AllReadyH.nil
          case h178 => (simp only [List.getElem?_toArray, List.getElem?_cons_succ, List.getElem?_cons_zero]; rfl)
          go_simp
          clear f1 c1
          refine hK.out _ _ (HT.out _ ⟨HF9.out, HG9.out⟩) (fun hHeld => ?_)
          clear hK K
          try simp only [Act.put, List.setIfInBounds_toArray, List.set_cons_zero, List.set_cons_succ]
          refine wpAnyH_done (by kernel_rfl) ?_ _
          clear hHeld
          go_wp2
          go_end0
          exact ⟨rfl, g2, cap, HS9.out, by rw [HSN.out]; exact HOF.out, HKF.out, HAT.out⟩
    case s170 =>
      go_simp
      go_at_call 40
      refine (HJ.out _ HB2.out).mono ?_
      rintro e w179 ⟨rfl, hb179⟩
      have HB179 := hide (HB2.out.trans (hb179.mono HB2.out.size))
      have HF179 := hide (HF2.out.on hb179)
      have HG179 := hide (HG2.out.on hb179)
      clear hb179
      try go_wp2_with fail
      refine hK.out _ _ (HT.out _ ⟨HF179.out, HG179.out⟩) (fun hHeld => ?_)
      clear hK K
      try simp only [Act.put, List.setIfInBounds_toArray, List.set_cons_zero, List.set_cons_succ]
      refine tk 18 hHeld (h := ?_)
      refine wpAnyH_ready (rs := [4, 19]) (by kernel_rfl) (by simp) ?_
      refine (AllReadyH.cons (o := ?o180) ?h180 (fun K hK => ?s180) (AllReadyH.cons (o := ?o181) ?h181 (fun K hK => ?s181) AllReadyH.nil))
      case h180 => (simp only [List.getElem?_toArray, List.getElem?_cons_succ, List.getElem?_cons_zero]; rfl)
      case h181 => (simp only [List.getElem?_toArray, List.getElem?_cons_succ, List.getElem?_cons_zero]; rfl)
      case s180 =>
        have c0 := (HS.out _ HB179.out).1
        go_simp
        clear c0
        refine hK.out _ _ (HT.out _ ⟨HF179.out, HG179.out⟩) (fun hHeld => ?_)
        clear hK K
        try simp only [Act.put, List.setIfInBounds_toArray, List.set_cons_zero, List.set_cons_succ]
        refine tk 7 hHeld (h := ?_)
        refine wpAnyH_ready (rs := [19]) (by kernel_rfl) (by simp) ?_
        refine (AllReadyH.cons (o := ?o183) ?h183 (fun K hK => ?s183) AllReadyH.nil)
        case h183 => (simp only [List.getElem?_toArray, List.getElem?_cons_succ, List.getElem?_cons_zero]; rfl)
        case s183 =>
          go_simp
          obtain ⟨W184, hW184⟩ : ∃ Wk, w179.alloc (.cells #[.int .i64 ((a.1 : Int) + 1), .int .i64 (hf : Int), .string r] 100) = Wk := ⟨_, rfl⟩
          have HNW := hide (show ∀ j u, [.int .i64 ((a.1 : Int) + 1), .int .i64 (hf : Int), .string r][j]? = some u → W184.cell? ((⟨w179.heap.size, 0, none⟩ : Addr).add j) = some u by rw [← hW184]; intro j u h; rw [Addr.add_mid, Nat.zero_add]; exact ((Blk.new w179 [.int .i64 ((a.1 : Int) + 1), .int .i64 (hf : Int), .string r] 100).cell j).trans h)
          have HZ := hide (show W184.heap.size = w179.heap.size + 1 by rw [← hW184]; exact World.size_alloc _ _)
          have HB184 := hide (show Below w.heap.size w W184 by rw [← hW184]; exact HB179.out.alloc HB179.out.size _)
          have HF184 := hide (show Blk W184 F [.int .i64 (a.1 : Int), .int .i64 (a.2.1 : Int), .string a.2.2] 100 by rw [← hW184]; exact HF179.out.alloc _)
          have HG184 := hide (show Blk W184 G [.int .i64 (b.1 : Int), .int .i64 (b.2.1 : Int), .string b.2.2] 100 by rw [← hW184]; exact HG179.out.alloc _)
          rw [hW184]
          clear hW184
          refine hK.out _ _ (HT.out _ ⟨HF184.out, HG184.out⟩) (fun hHeld => ?_)
          clear hK K
          try simp only [Act.put, List.setIfInBounds_toArray, List.set_cons_zero, List.set_cons_succ]
          refine wpAnyH_ready (rs := [20]) (by kernel_rfl) (by simp) ?_
          refine AllReadyH.cons (o := ?o186) ?h186 (fun K hK => ?s186) AllReadyH.nil
          case h186 => (simp only [List.getElem?_toArray, List.getElem?_cons_succ, List.getElem?_cons_zero]; rfl)
          refine step_append_lies _ (by rfl) (.tmp 43) (.tmp 55) 96 (by rfl) lo 100 i1 (.agg #[.int .i64 0, .int .i64 0, .string ⟨#[]⟩]) 3 32 Tryz.underlying96 hi1 hy0 hy1 hy2 (by rfl) (by decide) (.slice (some ⟨g, 0, none⟩) m nc) m (nodC pre) (by rfl) (owns_kept HRL.out (Kept.of_below (F := fun _ => False) HB184.out) (fun _ _ e => e)) ⟨w179.heap.size, 0, none⟩ 1 1 [.int .i64 ((a.1 : Int) + 1), .int .i64 (hf : Int), .string r] (by rfl) (by rfl) HNW.out (fun u hu => by simp at hu; rcases hu with rfl | rfl | rfl <;> rfl) (by decide) N1.out N2.out (Nat.le_trans HLO.out HB184.out.size) (w179.heap.size + 1) HZ.out ?_
          intro g2 cap w8 hown hgrow hat hlt
          have hK8 := Kept.grown (F := fun q => (Value.slice (some ⟨g, 0, none⟩) m nc).ownBlock = some q) (Kept.of_below HB184.out) hgrow (fun q e => .inl e)
          have hgr : Kept (fun q => q = g) W184 w8 := (kept_grown hgrow).mono (fun q _ e => by have e2 : some g = some q := e; simpa using e2.symm)
          have hFg : ∀ q, w.heap.size ≤ q → ¬ q = g := fun q hq e => by have := HGL.out; omega
          have HF8 := hide (blkY HF184.out hgr (hFg F HLF.out))
          have HG8 := hide (blkY HG184.out hgr (hFg G HLG.out))
          have HS8 := hide (blkY HSB.out hK8 HSG.out)
          have HAT := hide (show (Value.slice (some ⟨g, 0, none⟩) m nc).ownBlock = some g2 ∨ w.heap.size ≤ g2 by
            rcases hat with e | e
            · exact .inl e
            · have := HB184.out.size; have := HZ.out; exact .inr (by omega))
          have HGS := hide (show g2 ≠ S by
            rcases HAT.out with e | e
            · intro e2; subst e2; exact HSG.out e
            · have := HSL.out; omega)
          have HOW := hide hown
          have HK8 := hide hK8
          clear hown hgrow hat hlt hK8 hgr hFg
          refine hK.out _ _ (HT.out _ ⟨HF8.out, HG8.out⟩) (fun hHeld => ?_)
          clear hK K
          try simp only [Act.put, List.setIfInBounds_toArray, List.set_cons_zero, List.set_cons_succ]
          refine tk 21 hHeld (h := ?_)
          refine tk 22 hHeld (h := ?_)
          have f1 := HS8.out.free o
          have c1 : w8.cell? ⟨S, o, none⟩ = some (.slice (some ⟨g, 0, none⟩) (m + 2) nc) := (HS8.out.cell o).trans HOC.out
          have HS9 := hide (HS8.out.set o (.slice (some ⟨g2, 0, none⟩) (m + 1) cap))
          have HF9 := hide (HF8.out.other (a := ⟨S, o, none⟩) (.slice (some ⟨g2, 0, none⟩) (m + 1) cap) (fun e => by have := HLF.out; have := HSL.out; dsimp only at e; omega))
          have HG9 := hide (HG8.out.other (a := ⟨S, o, none⟩) (.slice (some ⟨g2, 0, none⟩) (m + 1) cap) (fun e => by have := HLG.out; have := HSL.out; dsimp only at e; omega))
          have HOF := hide (owns_kept HOW.out (kept_set w8 ⟨S, o, none⟩ (.slice (some ⟨g2, 0, none⟩) (m + 1) cap)) (fun q e hk => by
            have e' : g2 = q := by simpa [Value.ownBlock] using e
            exact HGS.out (e'.trans hk)))
          have HKF := hide (show Kept (fun q => q = S ∨ (Value.slice (some ⟨g, 0, none⟩) m nc).ownBlock = some q) w (w8.setCell ⟨S, o, none⟩ (.slice (some ⟨g2, 0, none⟩) (m + 1) cap)) from (HK8.out.mono (fun q _ e => .inr e)).setCell (p := ⟨S, o, none⟩) (.inl (.inl rfl)) _)
          refine wpAnyH_ready (rs := [23]) (by kernel_rfl) (by simp) ?_
          refine AllReadyH.cons (o := ?o187) ?h187 (fun K hK => ?s187) AllReadyH.nil
          case h187 => (simp only [List.getElem?_toArray, List.getElem?_cons_succ, List.getElem?_cons_zero]; rfl)
          go_simp
          clear f1 c1
          refine hK.out _ _ (HT.out _ ⟨HF9.out, HG9.out⟩) (fun hHeld => ?_)
          clear hK K
          try simp only [Act.put, List.setIfInBounds_toArray, List.set_cons_zero, List.set_cons_succ]
          refine wpAnyH_done (by kernel_rfl) ?_ _
          clear hHeld
          go_wp2
          go_end0
          exact ⟨rfl, g2, cap, HS9.out, by rw [HSN.out]; exact HOF.out, HKF.out, HAT.out⟩
      case s181 =>
        go_simp
        obtain ⟨W188, hW188⟩ : ∃ Wk, w179.alloc (.cells #[.int .i64 ((a.1 : Int) + 1), .int .i64 (hf : Int), .string r] 100) = Wk := ⟨_, rfl⟩
        have HNW := hide (show ∀ j u, [.int .i64 ((a.1 : Int) + 1), .int .i64 (hf : Int), .string r][j]? = some u → W188.cell? ((⟨w179.heap.size, 0, none⟩ : Addr).add j) = some u by rw [← hW188]; intro j u h; rw [Addr.add_mid, Nat.zero_add]; exact ((Blk.new w179 [.int .i64 ((a.1 : Int) + 1), .int .i64 (hf : Int), .string r] 100).cell j).trans h)
        have HZ := hide (show W188.heap.size = w179.heap.size + 1 by rw [← hW188]; exact World.size_alloc _ _)
        have HB188 := hide (show Below w.heap.size w W188 by rw [← hW188]; exact HB179.out.alloc HB179.out.size _)
        have HF188 := hide (show Blk W188 F [.int .i64 (a.1 : Int), .int .i64 (a.2.1 : Int), .string a.2.2] 100 by rw [← hW188]; exact HF179.out.alloc _)
        have HG188 := hide (show Blk W188 G [.int .i64 (b.1 : Int), .int .i64 (b.2.1 : Int), .string b.2.2] 100 by rw [← hW188]; exact HG179.out.alloc _)
        rw [hW188]
        clear hW188
        refine hK.out _ _ (HT.out _ ⟨HF188.out, HG188.out⟩) (fun hHeld => ?_)
        clear hK K
        try simp only [Act.put, List.setIfInBounds_toArray, List.set_cons_zero, List.set_cons_succ]
        refine wpAnyH_ready (rs := [4]) (by kernel_rfl) (by simp) ?_
        refine (AllReadyH.cons (o := ?o189) ?h189 (fun K hK => ?s189) AllReadyH.nil)
        case h189 => (simp only [List.getElem?_toArray, List.getElem?_cons_succ, List.getElem?_cons_zero]; rfl)
        case s189 =>
          have c0 := (HS.out _ HB188.out).1
          go_simp
          clear c0
          refine hK.out _ _ (HT.out _ ⟨HF188.out, HG188.out⟩) (fun hHeld => ?_)
          clear hK K
          try simp only [Act.put, List.setIfInBounds_toArray, List.set_cons_zero, List.set_cons_succ]
          refine tk 7 hHeld (h := ?_)
          refine wpAnyH_ready (rs := [20]) (by kernel_rfl) (by simp) ?_
          refine AllReadyH.cons (o := ?o192) ?h192 (fun K hK => ?s192) AllReadyH.nil
          case h192 => (simp only [List.getElem?_toArray, List.getElem?_cons_succ, List.getElem?_cons_zero]; rfl)
          refine step_append_lies _ (by rfl) (.tmp 43) (.tmp 55) 96 (by rfl) lo 100 i1 (.agg #[.int .i64 0, .int .i64 0, .string ⟨#[]⟩]) 3 32 Tryz.underlying96 hi1 hy0 hy1 hy2 (by rfl) (by decide) (.slice (some ⟨g, 0, none⟩) m nc) m (nodC pre) (by rfl) (owns_kept HRL.out (Kept.of_below (F := fun _ => False) HB188.out) (fun _ _ e => e)) ⟨w179.heap.size, 0, none⟩ 1 1 [.int .i64 ((a.1 : Int) + 1), .int .i64 (hf : Int), .string r] (by rfl) (by rfl) HNW.out (fun u hu => by simp at hu; rcases hu with rfl | rfl | rfl <;> rfl) (by decide) N1.out N2.out (Nat.le_trans HLO.out HB188.out.size) (w179.heap.size + 1) HZ.out ?_
          intro g2 cap w8 hown hgrow hat hlt
          have hK8 := Kept.grown (F := fun q => (Value.slice (some ⟨g, 0, none⟩) m nc).ownBlock = some q) (Kept.of_below HB188.out) hgrow (fun q e => .inl e)
          have hgr : Kept (fun q => q = g) W188 w8 := (kept_grown hgrow).mono (fun q _ e => by have e2 : some g = some q := e; simpa using e2.symm)
          have hFg : ∀ q, w.heap.size ≤ q → ¬ q = g := fun q hq e => by have := HGL.out; omega
          have HF8 := hide (blkY HF188.out hgr (hFg F HLF.out))
          have HG8 := hide (blkY HG188.out hgr (hFg G HLG.out))
          have HS8 := hide (blkY HSB.out hK8 HSG.out)
          have HAT := hide (show (Value.slice (some ⟨g, 0, none⟩) m nc).ownBlock = some g2 ∨ w.heap.size ≤ g2 by
            rcases hat with e | e
            · exact .inl e
            · have := HB188.out.size; have := HZ.out; exact .inr (by omega))
          have HGS := hide (show g2 ≠ S by
            rcases HAT.out with e | e
            · intro e2; subst e2; exact HSG.out e
            · have := HSL.out; omega)
          have HOW := hide hown
          have HK8 := hide hK8
          clear hown hgrow hat hlt hK8 hgr hFg
          refine hK.out _ _ (HT.out _ ⟨HF8.out, HG8.out⟩) (fun hHeld => ?_)
          clear hK K
          try simp only [Act.put, List.setIfInBounds_toArray, List.set_cons_zero, List.set_cons_succ]
          refine tk 21 hHeld (h := ?_)
          refine tk 22 hHeld (h := ?_)
          have f1 := HS8.out.free o
          have c1 : w8.cell? ⟨S, o, none⟩ = some (.slice (some ⟨g, 0, none⟩) (m + 2) nc) := (HS8.out.cell o).trans HOC.out
          have HS9 := hide (HS8.out.set o (.slice (some ⟨g2, 0, none⟩) (m + 1) cap))
          have HF9 := hide (HF8.out.other (a := ⟨S, o, none⟩) (.slice (some ⟨g2, 0, none⟩) (m + 1) cap) (fun e => by have := HLF.out; have := HSL.out; dsimp only at e; omega))
          have HG9 := hide (HG8.out.other (a := ⟨S, o, none⟩) (.slice (some ⟨g2, 0, none⟩) (m + 1) cap) (fun e => by have := HLG.out; have := HSL.out; dsimp only at e; omega))
          have HOF := hide (owns_kept HOW.out (kept_set w8 ⟨S, o, none⟩ (.slice (some ⟨g2, 0, none⟩) (m + 1) cap)) (fun q e hk => by
            have e' : g2 = q := by simpa [Value.ownBlock] using e
            exact HGS.out (e'.trans hk)))
          have HKF := hide (show Kept (fun q => q = S ∨ (Value.slice (some ⟨g, 0, none⟩) m nc).ownBlock = some q) w (w8.setCell ⟨S, o, none⟩ (.slice (some ⟨g2, 0, none⟩) (m + 1) cap)) from (HK8.out.mono (fun q _ e => .inr e)).setCell (p := ⟨S, o, none⟩) (.inl (.inl rfl)) _)
          refine wpAnyH_ready (rs := [23]) (by kernel_rfl) (by simp) ?_
          refine AllReadyH.cons (o := ?o193) ?h193 (fun K hK => ?s193) AllReadyH.nil
          case h193 => (simp only [List.getElem?_toArray, List.getElem?_cons_succ, List.getElem?_cons_zero]; rfl)
          go_simp
          clear f1 c1
          refine hK.out _ _ (HT.out _ ⟨HF9.out, HG9.out⟩) (fun hHeld => ?_)
          clear hK K
          try simp only [Act.put, List.setIfInBounds_toArray, List.set_cons_zero, List.set_cons_succ]
          refine wpAnyH_done (by kernel_rfl) ?_ _
          clear hHeld
          go_wp2
          go_end0
          exact ⟨rfl, g2, cap, HS9.out, by rw [HSN.out]; exact HOF.out, HKF.out, HAT.out⟩
end Go.Proofs.YtgaoeoijdpdjiaaGreatDoor
