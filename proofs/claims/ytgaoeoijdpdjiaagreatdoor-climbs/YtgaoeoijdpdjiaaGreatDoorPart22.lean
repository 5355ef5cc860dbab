/-
  A walk's stack takes a leaf.
-/
import Derived.Test.YtgaoeoijdpdjiaaGreatDoorPart21
namespace Go.Proofs.YtgaoeoijdpdjiaaGreatDoor
open Go.RowKit
/-- A stack's cells: its nodes, the leaf that is taken next, how many it takes yet. -/
def stkC (cs : List Value) (o : Nat) (nv : Value) (nx lf : Int) : List Value := ((cs.set o nv).set (o + 1) (.int .i64 nx)).set (o + 2) (.int .i64 lf)
theorem stkC_set (cs : List Value) (o : Nat) (nv nv2 : Value) (nx lf : Int) : (stkC cs o nv nx lf).set o nv2 = stkC cs o nv2 nx lf := by
  unfold stkC
  rw [List.set_comm _ _ (show o + 2 ≠ o by omega), List.set_comm _ _ (show o + 1 ≠ o by omega), List.set_set]
theorem stkC_get (cs : List Value) (o : Nat) (nv : Value) (nx lf : Int) (h : o + 2 < cs.length) : (stkC cs o nv nx lf)[o]? = some nv := by
  unfold stkC
  rw [List.getElem?_set_ne (by omega), List.getElem?_set_ne (by omega), List.getElem?_set_self (by omega)]
theorem stkC_len (cs : List Value) (o : Nat) (nv : Value) (nx lf : Int) : (stkC cs o nv nx lf).length = cs.length := by simp [stkC]
theorem take_none (S o : Nat) (cs : List Value) (f1 f2 : Value) (w : World) (hS : Blk w S cs 137) (ho : cs[o + 2]? = some (.int .i64 0)) :
    Calls Tryz.prog 85 #[.pointer (some ⟨S, o, none⟩), f1, f2] w fun e w' => e = .returned (.tuple #[]) ∧ w' = w := by
  have c2 : w.cell? ⟨S, o + 2, none⟩ = some (.int .i64 0) := (hS.cell _).trans ho
  clear hS ho
  go_enter Tryz.func85, Tryz.ntmps85
  go_wp2
  (try simp only [Exit.inBlock, Exit.then])
  refine bodyPost_ret (results_none rfl _ _ _) rfl ?_
  exact ⟨rfl, rfl⟩
/-- One step of joining: the last two nodes become one. -/
def JStep (jn : Nat → Nat → ByteArray → ByteArray → ByteArray) (x y : List Nd) : Prop := ∃ pre a b, x = pre ++ [a, b] ∧ a.1 = b.1 ∧ pre.length ≤ 100 ∧ a.1 ≤ 100 ∧ a.2.1 ≤ 100 ∧ a.2.2.size ≤ 16 ∧ b.2.2.size ≤ 16 ∧ y = pre ++ [(a.1 + 1, a.2.1 / 2, jn (a.1 + 1) (a.2.1 / 2) a.2.2 b.2.2)]
def JEnd (x : List Nd) : Prop := x.length ≤ 1 ∨ ∃ pre a b, x = pre ++ [a, b] ∧ pre.length ≤ 100 ∧ a.1 ≠ b.1
/-- The stack in memory. -/
def StkI (lo S o : Nat) (cs : List Value) (nx lf : Int) (na0 : Value) (ns : List Nd) (w w' : World) : Prop := ∃ na nc, Blk w' S (stkC cs o (.slice na ns.length nc) nx lf) 137 ∧ w'.ownsRow lo 100 3 (.slice na ns.length nc) ns.length (nodC ns) ∧ Kept (fun q => q = S ∨ na0.ownBlock = some q) w w' ∧ ∀ q, (Value.slice na ns.length nc).ownBlock = some q → na0.ownBlock = some q ∨ w.heap.size ≤ q
theorem owns_loY {w : World} {lo : Nat} {e : TypeId} {sz : Nat} {v : Value} {n : Nat} {xs : List Value} (h : w.ownsRow lo e sz v n xs) : ∀ q, v.ownBlock = some q → lo ≤ q ∧ q < w.heap.size := by
  intro q hq
  rcases h.2 with ⟨rfl, _⟩ | ⟨g, cap, cur, rfl, hb, hg, _⟩
  · cases hq
  · have e1 : g = q := by simpa [Value.ownBlock] using hq
    subst e1
    exact ⟨hb, (Array.getElem?_eq_some_iff.1 hg).1⟩
theorem StkI.below {lo S o : Nat} {cs : List Value} {nx lf : Int} {na0 : Value} {ns : List Nd} {w w' : World} (h : StkI lo S o cs nx lf na0 ns w w') (hlS : lo ≤ S) (hna : ∀ q, na0.ownBlock = some q → lo ≤ q) (hlo : lo ≤ w.heap.size) : Below lo w w' := by
  obtain ⟨na, nc, h1, h2, h3, h4⟩ := h
  exact h3.below (fun k hk => hk.elim (fun e => e ▸ hlS) (fun e => hna _ e)) hlo
theorem StkI.on {lo S o : Nat} {cs : List Value} {nx lf : Int} {na0 : Value} {ns : List Nd} {w w' w2 : World} (h : StkI lo S o cs nx lf na0 ns w w') (hb : Below w'.heap.size w' w2) : StkI lo S o cs nx lf na0 ns w w2 := by
  obtain ⟨na, nc, h1, h2, h3, h4⟩ := h
  have k : Kept (fun _ => False) w' w2 := Kept.of_below hb
  exact ⟨na, nc, blkY h1 k (fun e => e), owns_kept h2 k (fun _ _ e => e), h3.trans k (fun _ e => e.elim), h4⟩
theorem stk_end {lo S o : Nat} {cs : List Value} {nx lf : Int} {na0 : Value} {ns : List Nd} {w w' : World} (h : StkI lo S o cs nx lf na0 ns w w') (hol : o + 2 < cs.length) (hE : JEnd ns) :
    Calls Tryz.prog 160 #[.pointer (some ⟨S, o, none⟩)] w' fun e w2 => e = .returned (.bool false) ∧ Below w'.heap.size w' w2 := by
  obtain ⟨na, nc, h1, h2, h3, h4⟩ := h
  rcases hE with hE | ⟨pre, a, b, rfl, hp, hne⟩
  · exact twins_less S o ns.length _ na nc w' h1 (stkC_get _ _ _ _ _ hol) hE
  · have hl : (pre ++ [a, b]).length = pre.length + 2 := by simp
    rw [hl] at h1 h2
    refine (twins_two lo S o _ na nc pre a b w' h1 (stkC_get _ _ _ _ _ hol) h2 hp).mono ?_
    rintro e w2 ⟨rfl, hb⟩
    exact ⟨by rw [show (a.1 == b.1) = false from by simpa using hne], hb⟩
theorem stk_on {jn : Nat → Nat → ByteArray → ByteArray → ByteArray} {lo S o : Nat} {cs : List Value} {nx lf : Int} {na0 : Value} {ns ns2 : List Nd} {w w' : World} (h : StkI lo S o cs nx lf na0 ns w w') (hol : o + 2 < cs.length) (hE : JStep jn ns ns2) :
    Calls Tryz.prog 160 #[.pointer (some ⟨S, o, none⟩)] w' fun e w2 => e = .returned (.bool true) ∧ Below w'.heap.size w' w2 := by
  obtain ⟨na, nc, h1, h2, h3, h4⟩ := h
  obtain ⟨pre, a, b, rfl, hab, hp, -⟩ := hE
  have hl : (pre ++ [a, b]).length = pre.length + 2 := by simp
  rw [hl] at h1 h2
  refine (twins_two lo S o _ na nc pre a b w' h1 (stkC_get _ _ _ _ _ hol) h2 hp).mono ?_
  rintro e w2 ⟨rfl, hb⟩
  exact ⟨by rw [show (a.1 == b.1) = true from by simpa using hab], hb⟩
theorem stk_join {jn : Nat → Nat → ByteArray → ByteArray → ByteArray} {lo S o : Nat} {cs : List Value} {nx lf : Int} {na0 : Value} {ns ns2 : List Nd} {w w' : World} (tr : Value) (h : StkI lo S o cs nx lf na0 ns w w') (hlo : lo ≤ w.heap.size) (hlS : lo ≤ S) (hna : ∀ q, na0.ownBlock = some q → lo ≤ q) (hol : o + 2 < cs.length) (hE : JStep jn ns ns2)
    (hJ : ∀ (h k : Nat) (a b : ByteArray) (V : World), a.size ≤ 16 → b.size ≤ 16 → Below lo w V → Calls Tryz.prog 40 #[tr, .int .i64 (h : Int), .int .i64 (k : Int), .string a, .string b] V fun e w' => e = .returned (.string (jn h k a b)) ∧ Below V.heap.size V w') :
    Calls Tryz.prog 161 #[.pointer (some ⟨S, o, none⟩), .func (.func 40) #[tr] #[]] w' fun e w2 => e = .returned (.tuple #[]) ∧ StkI lo S o cs nx lf na0 ns2 w w2 ∧ ns2.length < ns.length := by
  have hbl := h.below hlS hna hlo
  obtain ⟨na, nc, h1, h2, h3, h4⟩ := h
  obtain ⟨pre, a, b, rfl, hab, hp, ha1, ha2, hs1, hs2, rfl⟩ := hE
  have hl : (pre ++ [a, b]).length = pre.length + 2 := by simp
  rw [hl] at h1 h2 h4
  refine (joinLast_on lo S o _ na nc pre a b tr (jn (a.1 + 1) (a.2.1 / 2) a.2.2 b.2.2) w' h1 (stkC_get _ _ _ _ _ hol) h2 hp (Nat.le_trans hlo h3.size) ha1 ha2 (fun V hV => hJ (a.1 + 1) (a.2.1 / 2) _ _ V hs1 hs2 (hbl.trans (hV.mono (Nat.le_trans hlo h3.size))))).mono ?_
  rintro e w2 ⟨rfl, g2, c2, k1, k2, k3, k4⟩
  have hl2 : (pre ++ [(a.1 + 1, a.2.1 / 2, jn (a.1 + 1) (a.2.1 / 2) a.2.2 b.2.2)]).length = pre.length + 1 := by simp
  rw [stkC_set] at k1
  refine ⟨rfl, ⟨some ⟨g2, 0, none⟩, c2, by rw [hl2]; exact k1, by rw [hl2]; exact k2, h3.trans k3 (fun i hi => ?_), fun q hq => ?_⟩, by rw [hl, hl2]; omega⟩
  · rcases hi with rfl | hi
    · exact .inl (.inl rfl)
    · rcases h4 _ hi with e | e
      · exact .inl (.inr e)
      · exact .inr e
  · have e1 : g2 = q := by simpa [Value.ownBlock] using hq
    subst e1
    rcases k4 with e | e
    · exact h4 _ e
    · exact .inr (Nat.le_trans h3.size e)
def stkLen (S o : Nat) (w : World) : Nat := match w.cell? ⟨S, o, none⟩ with | some (.slice _ n _) => n | _ => 0
theorem StkI.len {lo S o : Nat} {cs : List Value} {nx lf : Int} {na0 : Value} {ns : List Nd} {w w' : World} (h : StkI lo S o cs nx lf na0 ns w w') (hol : o + 2 < cs.length) : stkLen S o w' = ns.length := by
  obtain ⟨na, nc, h1, h2, h3, h4⟩ := h
  unfold stkLen
  rw [(h1.cell o).trans (stkC_get _ _ _ _ _ hol)]
set_option maxRecDepth 20000 in
set_option maxHeartbeats 8000000 in
theorem take_on (lo S o : Nat) (cs : List Value) (na : Option Addr) (nc : Nat) (ns : List Nd) (nx lf : Nat) (tr : Value) (y : ByteArray) (jn : Nat → Nat → ByteArray → ByteArray → ByteArray) (r : Nat) (l : Nat → List Nd) (w : World) (hS : Blk w S cs 137) (ho : cs[o]? = some (.slice na ns.length nc)) (ho1 : cs[o + 1]? = some (.int .i64 (nx : Int))) (ho2 : cs[o + 2]? = some (.int .i64 ((lf + 1 : Nat) : Int))) (hr : w.ownsRow lo 100 3 (.slice na ns.length nc) ns.length (nodC ns)) (hn : ns.length ≤ 100) (hnx : nx ≤ 100) (hlf : lf ≤ 100) (hlo : lo ≤ w.heap.size) (hlS : lo ≤ S) (hT : Tn w) (hTB : 0 < lo)
    (hl0 : l 0 = ns ++ [(0, nx, y)]) (hst : ∀ i, i < r → JStep jn (l i) (l (i + 1))) (hend : JEnd (l r))
    (hL : ∀ V, Tn V → Calls Tryz.prog 39 #[tr, .int .i64 (nx : Int)] V fun e w' => e = .returned (.string y) ∧ Below V.heap.size V w')
    (hJ : ∀ (h k : Nat) (a b : ByteArray) (V : World), a.size ≤ 16 → b.size ≤ 16 → Tn V → Calls Tryz.prog 40 #[tr, .int .i64 (h : Int), .int .i64 (k : Int), .string a, .string b] V fun e w' => e = .returned (.string (jn h k a b)) ∧ Below V.heap.size V w') :
    Calls Tryz.prog 85 #[.pointer (some ⟨S, o, none⟩), .func (.func 39) #[tr] #[], .func (.func 40) #[tr] #[]] w fun e w' => e = .returned (.tuple #[]) ∧ StkI lo S o cs ((nx : Int) + 1) lf (.slice na ns.length nc) (l r) w w' := by
  obtain ⟨i1, hi1, hy0, hy1, hy2⟩ := info_parts infoNd
  have hen : ∀ (args : Array Value) (V : World), Sem.run Tryz.prog (callFunc 39 args) V = .ok (.enter 39 args) V := fun args V => enter_y _ _ Tryz.func39 (by kernel_rfl) (by kernel_rfl) args V
  have c2 : w.cell? ⟨S, o + 2, none⟩ = some (.int .i64 ((lf : Int) + 1)) := (hS.cell _).trans (by rw [ho2]; simp)
  have hol : o + 2 < cs.length := (List.getElem?_eq_some_iff.1 ho2).1
  have HOL := hide hol
  have HLL := hide (fun (V : World) (h : Below w.heap.size w V) => hL V (hT.below (h.mono hlo) hTB))
  have HLO := hide hlo
  have HLS := hide hlS
  have HSG := hide (owns_neY hr hS (by decide))
  have HSB := hide hS
  have HRO := hide hr
  have HC0 := hide ((hS.cell o).trans ho)
  have HC1 := hide ((hS.cell (o + 1)).trans ho1)
  have HC2 := hide c2
  have HNA := hide (fun q hq => (owns_loY hr q hq).1)
  have HOC := hide ho
  have HSL := hide hS.lt
  have HL0 := hide hl0
  have HST := hide hst
  have HEN := hide hend
  have HJJ := hide (fun (h k : Nat) (a b : ByteArray) (V : World) (ha : a.size ≤ 16) (hb : b.size ≤ 16) (hV : Below lo w V) => hJ h k a b V ha hb (hT.below hV hTB))
  have HSN := hide (nodC_snoc ns (0, nx, y))
  have N1 : Hid (ns.length + 1 ≤ maxLen) := by show _ ≤ _; unfold maxLen; omega
  have N2 : Hid ((ns.length + 1) * 32 ≤ 140737488355328) := by show _ ≤ _; omega
  have w1 : IntKind.i64.wrap ((nx : Int) + 1) = (nx : Int) + 1 := by rw [IntKind.wrap_i64] <;> omega
  have w2 : IntKind.i64.wrap ((lf : Int) + 1 - 1) = (lf : Int) := by rw [IntKind.wrap_i64] <;> omega
  have w3 : IntKind.i64.wrap (lf : Int) = (lf : Int) := by rw [IntKind.wrap_i64] <;> omega
  have e1 : ((lf : Int) + 1 == 0) = false := by
    have : (lf : Int) + 1 ≠ 0 := by omega
    simpa using this
  obtain ⟨m, hm⟩ : ∃ m, ns.length = m := ⟨_, rfl⟩
  rw [hm] at HSG HRO HC0 HOC N1 N2 HNA ⊢
  have HM := hide hm
  clear hS ho ho1 ho2 hr hn hnx hlf hlo hlS hT hTB hl0 hst hend hL hJ hm hol
  go_enter Tryz.func85, Tryz.ntmps85
  go_upto_region 1 with fail
  clear c2
  have HT := hide (fun (V : World) (h : V.cell? ⟨S, o + 1, none⟩ = w.cell? ⟨S, o + 1, none⟩) => (h.trans HC1.out : V.cell? ⟨S, o + 1, none⟩ = some (.int .i64 (nx : Int))))
  have HTB := hide (fun (V : World) (h : Below w.heap.size w V) => HT.out V (h.cell HSL.out))
  go_cut [0, 1, 2] from 11 to 30 (fun x0 x1 x2 wx => x0 = .pointer (some ⟨S, o, none⟩) ∧ x1 = .func (.func 39) #[tr] #[] ∧ x2 = .func (.func 40) #[tr] #[] ∧ Hid (∃ g2 c2, Blk wx S (cs.set o (.slice (some ⟨g2, 0, none⟩) (m + 1) c2)) 137 ∧ wx.ownsRow lo 100 3 (.slice (some ⟨g2, 0, none⟩) (m + 1) c2) (m + 1) (nodC (ns ++ [(0, nx, y)])) ∧ Kept (fun q => q = S ∨ (Value.slice na m nc).ownBlock = some q) w wx ∧ ((Value.slice na m nc).ownBlock = some g2 ∨ w.heap.size ≤ g2)))
  case first =>
    refine wp_region_held_drew (S := fun V => V.cell? ⟨S, o + 1, none⟩ = some (.int .i64 (nx : Int))) (by kernel_rfl) (HTB.out _ (Below.refl w.heap.size w).drew) (fun hHeld => ?_)
    refine tk 0 hHeld (h := ?_)
    refine tk 1 hHeld (h := ?_)
    refine tk 2 hHeld (h := ?_)
    refine tk 3 hHeld (h := ?_)
    refine tk 5 hHeld (h := ?_)
    refine tk 6 hHeld (h := ?_)
    refine tk 7 hHeld (h := ?_)
    refine tk 8 hHeld (h := ?_)
    refine tk 9 hHeld (h := ?_)
    refine tk 10 hHeld (h := ?_)
    refine tk 11 hHeld (h := ?_)
    refine tk 12 hHeld (h := ?_)
    refine tk 13 hHeld (h := ?_)
    have HB2 := hide ((Below.refl w.heap.size w).drew)
    generalize World.drew w = V2 at HB2 hHeld ⊢
    refine wpAnyH_ready (rs := [4, 14]) (by kernel_rfl) (by simp) ?_
    refine (AllReadyH.cons (o := ?o1) ?h1 (fun K hK => ?s1) (AllReadyH.cons (o := ?o2) ?h2 (fun K hK => ?s2) AllReadyH.nil))
    case h1 => (simp only [List.getElem?_toArray, List.getElem?_cons_succ, List.getElem?_cons_zero]; rfl)
    case h2 => (simp only [List.getElem?_toArray, List.getElem?_cons_succ, List.getElem?_cons_zero]; rfl)
    case s1 =>
      have c0 : V2.cell? ⟨S, o, none⟩ = some (.slice na m nc) := (HB2.out.cell HSL.out).trans HC0.out
      go_simp
      clear c0
      refine hK.out _ _ (HTB.out _ HB2.out) (fun hHeld => ?_)
      clear hK K
      try simp only [Act.put, List.setIfInBounds_toArray, List.set_cons_zero, List.set_cons_succ]
      refine wpAnyH_ready (rs := [14]) (by kernel_rfl) (by simp) ?_
      refine (AllReadyH.cons (o := ?o4) ?h4 (fun K hK => ?s4) AllReadyH.nil)
      case h4 => (simp only [List.getElem?_toArray, List.getElem?_cons_succ, List.getElem?_cons_zero]; rfl)
      case s4 =>
        go_simp
        go_at_call 39
        refine (HLL.out _ HB2.out).mono ?_
        rintro e w5 ⟨rfl, hb5⟩
        have HB5 := hide (HB2.out.trans (hb5.mono HB2.out.size))
        clear hb5
        try go_wp2_with fail
        refine hK.out _ _ (HTB.out _ HB5.out) (fun hHeld => ?_)
        clear hK K
        try simp only [Act.put, List.setIfInBounds_toArray, List.set_cons_zero, List.set_cons_succ]
        refine tk 15 hHeld (h := ?_)
        refine wpAnyH_ready (rs := [16]) (by kernel_rfl) (by simp) ?_
        refine (AllReadyH.cons (o := ?o6) ?h6 (fun K hK => ?s6) AllReadyH.nil)
        case h6 => (simp only [List.getElem?_toArray, List.getElem?_cons_succ, List.getElem?_cons_zero]; rfl)
        case s6 =>
          go_simp
          obtain ⟨W7, hW7⟩ : ∃ Wk, w5.alloc (.cells #[.int .i64 0, .int .i64 (nx : Int), .string y] 100) = Wk := ⟨_, rfl⟩
          have HNW := hide (show ∀ j u, [.int .i64 0, .int .i64 (nx : Int), .string y][j]? = some u → W7.cell? ((⟨w5.heap.size, 0, none⟩ : Addr).add j) = some u by rw [← hW7]; intro j u h; rw [Addr.add_mid, Nat.zero_add]; exact ((Blk.new w5 [.int .i64 0, .int .i64 (nx : Int), .string y] 100).cell j).trans h)
          have HZ := hide (show W7.heap.size = w5.heap.size + 1 by rw [← hW7]; exact World.size_alloc _ _)
          have HB7 := hide (show Below w.heap.size w W7 by rw [← hW7]; exact HB5.out.alloc HB5.out.size _)
          rw [hW7]
          clear hW7
          refine hK.out _ _ (HTB.out _ HB7.out) (fun hHeld => ?_)
          clear hK K
          try simp only [Act.put, List.setIfInBounds_toArray, List.set_cons_zero, List.set_cons_succ]
          refine wpAnyH_ready (rs := [17]) (by kernel_rfl) (by simp) ?_
          refine AllReadyH.cons (o := ?o8) ?h8 (fun K hK => ?s8) AllReadyH.nil
          case h8 => (simp only [List.getElem?_toArray, List.getElem?_cons_succ, List.getElem?_cons_zero]; rfl)
          refine step_append_lies _ (by rfl) (.tmp 15) (.tmp 27) 96 (by rfl) lo 100 i1 (.agg #[.int .i64 0, .int .i64 0, .string ⟨#[]⟩]) 3 32 Tryz.underlying96 hi1 hy0 hy1 hy2 (by rfl) (by decide) (.slice na m nc) m (nodC ns) (by rfl) (owns_kept HRO.out (Kept.of_below (F := fun _ => False) HB7.out) (fun _ _ e => e)) ⟨w5.heap.size, 0, none⟩ 1 1 [.int .i64 0, .int .i64 (nx : Int), .string y] (by rfl) (by rfl) HNW.out (fun u hu => by simp at hu; rcases hu with rfl | rfl | rfl <;> rfl) (by decide) N1.out N2.out (Nat.le_trans HLO.out HB7.out.size) (w5.heap.size + 1) HZ.out ?_
          intro g2 cap w8 hown hgrow hat hlt
          have hK8 := Kept.grown (F := fun q => (Value.slice na m nc).ownBlock = some q) (Kept.of_below HB7.out) hgrow (fun q e => .inl e)
          have HS8 := hide (blkY HSB.out hK8 HSG.out)
          have HAT := hide (show (Value.slice na m nc).ownBlock = some g2 ∨ w.heap.size ≤ g2 by
            rcases hat with e | e
            · exact .inl e
            · have := HB7.out.size; have := HZ.out; exact .inr (by omega))
          have HGS := hide (show g2 ≠ S by
            rcases HAT.out with e | e
            · intro e2; subst e2; exact HSG.out e
            · have := HSL.out; omega)
          have HOW := hide hown
          have HK8 := hide hK8
          have HT8 := hide (HT.out w8 (hK8.cell (p := ⟨S, o + 1, none⟩) HSL.out HSG.out))
          clear hown hgrow hat hlt hK8
          refine hK.out _ _ (HT8.out) (fun hHeld => ?_)
          clear hK K
          try simp only [Act.put, List.setIfInBounds_toArray, List.set_cons_zero, List.set_cons_succ]
          refine tk 18 hHeld (h := ?_)
          refine tk 19 hHeld (h := ?_)
          have f1 := HS8.out.free o
          have c1 : w8.cell? ⟨S, o, none⟩ = some (.slice na m nc) := (HS8.out.cell o).trans HOC.out
          have HS9 := hide (HS8.out.set o (.slice (some ⟨g2, 0, none⟩) (m + 1) cap))
          have HT9 := hide (show (w8.setCell ⟨S, o, none⟩ (.slice (some ⟨g2, 0, none⟩) (m + 1) cap)).cell? ⟨S, o + 1, none⟩ = some (.int .i64 (nx : Int)) from (World.cell?_setCell_other _ _ _ _ (by simp)).trans HT8.out)
          have HOF := hide (owns_kept HOW.out (kept_set w8 ⟨S, o, none⟩ (.slice (some ⟨g2, 0, none⟩) (m + 1) cap)) (fun q e hk => by
            have e' : g2 = q := by simpa [Value.ownBlock] using e
            exact HGS.out (e'.trans hk)))
          have HKF := hide (show Kept (fun q => q = S ∨ (Value.slice na m nc).ownBlock = some q) w (w8.setCell ⟨S, o, none⟩ (.slice (some ⟨g2, 0, none⟩) (m + 1) cap)) from (HK8.out.mono (fun q _ e => .inr e)).setCell (p := ⟨S, o, none⟩) (.inl (.inl rfl)) _)
          refine wpAnyH_ready (rs := [20]) (by kernel_rfl) (by simp) ?_
          refine AllReadyH.cons (o := ?o9) ?h9 (fun K hK => ?s9) AllReadyH.nil
          case h9 => (simp only [List.getElem?_toArray, List.getElem?_cons_succ, List.getElem?_cons_zero]; rfl)
          go_simp
          clear f1 c1
          refine hK.out _ _ (HT9.out) (fun hHeld => ?_)
          clear hK K
          try simp only [Act.put, List.setIfInBounds_toArray, List.set_cons_zero, List.set_cons_succ]
          refine wpAnyH_done (by kernel_rfl) ?_ _
          clear hHeld
          go_wp2_with fail
          go_meet
          exact ⟨rfl, rfl, rfl, g2, cap, HS9.out, by rw [HSN.out]; exact HOF.out, HKF.out, HAT.out⟩
    case s2 =>
      go_simp
      go_at_call 39
      refine (HLL.out _ HB2.out).mono ?_
      rintro e w10 ⟨rfl, hb10⟩
      have HB10 := hide (HB2.out.trans (hb10.mono HB2.out.size))
      clear hb10
      try go_wp2_with fail
      refine hK.out _ _ (HTB.out _ HB10.out) (fun hHeld => ?_)
      clear hK K
      try simp only [Act.put, List.setIfInBounds_toArray, List.set_cons_zero, List.set_cons_succ]
      refine tk 15 hHeld (h := ?_)
      refine wpAnyH_ready (rs := [4, 16]) (by kernel_rfl) (by simp) ?_
      refine (AllReadyH.cons (o := ?o11) ?h11 (fun K hK => ?s11) (AllReadyH.cons (o := ?o12) ?h12 (fun K hK => ?s12) AllReadyH.nil))
      case h11 => (simp only [List.getElem?_toArray, List.getElem?_cons_succ, List.getElem?_cons_zero]; rfl)
      case h12 => (simp only [List.getElem?_toArray, List.getElem?_cons_succ, List.getElem?_cons_zero]; rfl)
      case s11 =>
        have c0 : w10.cell? ⟨S, o, none⟩ = some (.slice na m nc) := (HB10.out.cell HSL.out).trans HC0.out
        go_simp
        clear c0
        refine hK.out _ _ (HTB.out _ HB10.out) (fun hHeld => ?_)
        clear hK K
        try simp only [Act.put, List.setIfInBounds_toArray, List.set_cons_zero, List.set_cons_succ]
        refine wpAnyH_ready (rs := [16]) (by kernel_rfl) (by simp) ?_
        refine (AllReadyH.cons (o := ?o14) ?h14 (fun K hK => ?s14) AllReadyH.nil)
        case h14 => (simp only [List.getElem?_toArray, List.getElem?_cons_succ, List.getElem?_cons_zero]; rfl)
        case s14 =>
          go_simp
          obtain ⟨W15, hW15⟩ : ∃ Wk, w10.alloc (.cells #[.int .i64 0, .int .i64 (nx : Int), .string y] 100) = Wk := ⟨_, rfl⟩
          have HNW := hide (show ∀ j u, [.int .i64 0, .int .i64 (nx : Int), .string y][j]? = some u → W15.cell? ((⟨w10.heap.size, 0, none⟩ : Addr).add j) = some u by rw [← hW15]; intro j u h; rw [Addr.add_mid, Nat.zero_add]; exact ((Blk.new w10 [.int .i64 0, .int .i64 (nx : Int), .string y] 100).cell j).trans h)
          have HZ := hide (show W15.heap.size = w10.heap.size + 1 by rw [← hW15]; exact World.size_alloc _ _)
          have HB15 := hide (show Below w.heap.size w W15 by rw [← hW15]; exact HB10.out.alloc HB10.out.size _)
          rw [hW15]
          clear hW15
          refine hK.out _ _ (HTB.out _ HB15.out) (fun hHeld => ?_)
          clear hK K
          try simp only [Act.put, List.setIfInBounds_toArray, List.set_cons_zero, List.set_cons_succ]
          refine wpAnyH_ready (rs := [17]) (by kernel_rfl) (by simp) ?_
          refine AllReadyH.cons (o := ?o16) ?h16 (fun K hK => ?s16) AllReadyH.nil
          case h16 => (simp only [List.getElem?_toArray, List.getElem?_cons_succ, List.getElem?_cons_zero]; rfl)
          refine step_append_lies _ (by rfl) (.tmp 15) (.tmp 27) 96 (by rfl) lo 100 i1 (.agg #[.int .i64 0, .int .i64 0, .string ⟨#[]⟩]) 3 32 Tryz.underlying96 hi1 hy0 hy1 hy2 (by rfl) (by decide) (.slice na m nc) m (nodC ns) (by rfl) (owns_kept HRO.out (Kept.of_below (F := fun _ => False) HB15.out) (fun _ _ e => e)) ⟨w10.heap.size, 0, none⟩ 1 1 [.int .i64 0, .int .i64 (nx : Int), .string y] (by rfl) (by rfl) HNW.out (fun u hu => by simp at hu; rcases hu with rfl | rfl | rfl <;> rfl) (by decide) N1.out N2.out (Nat.le_trans HLO.out HB15.out.size) (w10.heap.size + 1) HZ.out ?_
          intro g2 cap w8 hown hgrow hat hlt
          have hK8 := Kept.grown (F := fun q => (Value.slice na m nc).ownBlock = some q) (Kept.of_below HB15.out) hgrow (fun q e => .inl e)
          have HS8 := hide (blkY HSB.out hK8 HSG.out)
          have HAT := hide (show (Value.slice na m nc).ownBlock = some g2 ∨ w.heap.size ≤ g2 by
            rcases hat with e | e
            · exact .inl e
            · have := HB15.out.size; have := HZ.out; exact .inr (by omega))
          have HGS := hide (show g2 ≠ S by
            rcases HAT.out with e | e
            · intro e2; subst e2; exact HSG.out e
            · have := HSL.out; omega)
          have HOW := hide hown
          have HK8 := hide hK8
          have HT8 := hide (HT.out w8 (hK8.cell (p := ⟨S, o + 1, none⟩) HSL.out HSG.out))
          clear hown hgrow hat hlt hK8
          refine hK.out _ _ (HT8.out) (fun hHeld => ?_)
          clear hK K
          try simp only [Act.put, List.setIfInBounds_toArray, List.set_cons_zero, List.set_cons_succ]
          refine tk 18 hHeld (h := ?_)
          refine tk 19 hHeld (h := ?_)
          have f1 := HS8.out.free o
          have c1 : w8.cell? ⟨S, o, none⟩ = some (.slice na m nc) := (HS8.out.cell o).trans HOC.out
          have HS9 := hide (HS8.out.set o (.slice (some ⟨g2, 0, none⟩) (m + 1) cap))
          have HT9 := hide (show (w8.setCell ⟨S, o, none⟩ (.slice (some ⟨g2, 0, none⟩) (m + 1) cap)).cell? ⟨S, o + 1, none⟩ = some (.int .i64 (nx : Int)) from (World.cell?_setCell_other _ _ _ _ (by simp)).trans HT8.out)
          have HOF := hide (owns_kept HOW.out (kept_set w8 ⟨S, o, none⟩ (.slice (some ⟨g2, 0, none⟩) (m + 1) cap)) (fun q e hk => by
            have e' : g2 = q := by simpa [Value.ownBlock] using e
            exact HGS.out (e'.trans hk)))
          have HKF := hide (show Kept (fun q => q = S ∨ (Value.slice na m nc).ownBlock = some q) w (w8.setCell ⟨S, o, none⟩ (.slice (some ⟨g2, 0, none⟩) (m + 1) cap)) from (HK8.out.mono (fun q _ e => .inr e)).setCell (p := ⟨S, o, none⟩) (.inl (.inl rfl)) _)
          refine wpAnyH_ready (rs := [20]) (by kernel_rfl) (by simp) ?_
          refine AllReadyH.cons (o := ?o17) ?h17 (fun K hK => ?s17) AllReadyH.nil
          case h17 => (simp only [List.getElem?_toArray, List.getElem?_cons_succ, List.getElem?_cons_zero]; rfl)
          go_simp
          clear f1 c1
          refine hK.out _ _ (HT9.out) (fun hHeld => ?_)
          clear hK K
          try simp only [Act.put, List.setIfInBounds_toArray, List.set_cons_zero, List.set_cons_succ]
          refine wpAnyH_done (by kernel_rfl) ?_ _
          clear hHeld
          go_wp2_with fail
          go_meet
          exact ⟨rfl, rfl, rfl, g2, cap, HS9.out, by rw [HSN.out]; exact HOF.out, HKF.out, HAT.out⟩
      case s12 =>
        go_simp
        obtain ⟨W18, hW18⟩ : ∃ Wk, w10.alloc (.cells #[.int .i64 0, .int .i64 (nx : Int), .string y] 100) = Wk := ⟨_, rfl⟩
        have HNW := hide (show ∀ j u, [.int .i64 0, .int .i64 (nx : Int), .string y][j]? = some u → W18.cell? ((⟨w10.heap.size, 0, none⟩ : Addr).add j) = some u by rw [← hW18]; intro j u h; rw [Addr.add_mid, Nat.zero_add]; exact ((Blk.new w10 [.int .i64 0, .int .i64 (nx : Int), .string y] 100).cell j).trans h)
        have HZ := hide (show W18.heap.size = w10.heap.size + 1 by rw [← hW18]; exact World.size_alloc _ _)
        have HB18 := hide (show Below w.heap.size w W18 by rw [← hW18]; exact HB10.out.alloc HB10.out.size _)
        rw [hW18]
        clear hW18
        refine hK.out _ _ (HTB.out _ HB18.out) (fun hHeld => ?_)
        clear hK K
        try simp only [Act.put, List.setIfInBounds_toArray, List.set_cons_zero, List.set_cons_succ]
        refine wpAnyH_ready (rs := [4]) (by kernel_rfl) (by simp) ?_
        refine (AllReadyH.cons (o := ?o19) ?h19 (fun K hK => ?s19) AllReadyH.nil)
        case h19 => (simp only [List.getElem?_toArray, List.getElem?_cons_succ, List.getElem?_cons_zero]; rfl)
        case s19 =>
          have c0 : W18.cell? ⟨S, o, none⟩ = some (.slice na m nc) := (HB18.out.cell HSL.out).trans HC0.out
          go_simp
          clear c0
          refine hK.out _ _ (HTB.out _ HB18.out) (fun hHeld => ?_)
          clear hK K
          try simp only [Act.put, List.setIfInBounds_toArray, List.set_cons_zero, List.set_cons_succ]
          refine wpAnyH_ready (rs := [17]) (by kernel_rfl) (by simp) ?_
          refine AllReadyH.cons (o := ?o21) ?h21 (fun K hK => ?s21) AllReadyH.nil
          case h21 => (simp only [List.getElem?_toArray, List.getElem?_cons_succ, List.getElem?_cons_zero]; rfl)
          refine step_append_lies _ (by rfl) (.tmp 15) (.tmp 27) 96 (by rfl) lo 100 i1 (.agg #[.int .i64 0, .int .i64 0, .string ⟨#[]⟩]) 3 32 Tryz.underlying96 hi1 hy0 hy1 hy2 (by rfl) (by decide) (.slice na m nc) m (nodC ns) (by rfl) (owns_kept HRO.out (Kept.of_below (F := fun _ => False) HB18.out) (fun _ _ e => e)) ⟨w10.heap.size, 0, none⟩ 1 1 [.int .i64 0, .int .i64 (nx : Int), .string y] (by rfl) (by rfl) HNW.out (fun u hu => by simp at hu; rcases hu with rfl | rfl | rfl <;> rfl) (by decide) N1.out N2.out (Nat.le_trans HLO.out HB18.out.size) (w10.heap.size + 1) HZ.out ?_
          intro g2 cap w8 hown hgrow hat hlt
          have hK8 := Kept.grown (F := fun q => (Value.slice na m nc).ownBlock = some q) (Kept.of_below HB18.out) hgrow (fun q e => .inl e)
          have HS8 := hide (blkY HSB.out hK8 HSG.out)
          have HAT := hide (show (Value.slice na m nc).ownBlock = some g2 ∨ w.heap.size ≤ g2 by
            rcases hat with e | e
            · exact .inl e
            · have := HB18.out.size; have := HZ.out; exact .inr (by omega))
          have HGS := hide (show g2 ≠ S by
            rcases HAT.out with e | e
            · intro e2; subst e2; exact HSG.out e
            · have := HSL.out; omega)
          have HOW := hide hown
          have HK8 := hide hK8
          have HT8 := hide (HT.out w8 (hK8.cell (p := ⟨S, o + 1, none⟩) HSL.out HSG.out))
          clear hown hgrow hat hlt hK8
          refine hK.out _ _ (HT8.out) (fun hHeld => ?_)
          clear hK K
          try simp only [Act.put, List.setIfInBounds_toArray, List.set_cons_zero, List.set_cons_succ]
          refine tk 18 hHeld (h := ?_)
          refine tk 19 hHeld (h := ?_)
          have f1 := HS8.out.free o
          have c1 : w8.cell? ⟨S, o, none⟩ = some (.slice na m nc) := (HS8.out.cell o).trans HOC.out
          have HS9 := hide (HS8.out.set o (.slice (some ⟨g2, 0, none⟩) (m + 1) cap))
          have HT9 := hide (show (w8.setCell ⟨S, o, none⟩ (.slice (some ⟨g2, 0, none⟩) (m + 1) cap)).cell? ⟨S, o + 1, none⟩ = some (.int .i64 (nx : Int)) from (World.cell?_setCell_other _ _ _ _ (by simp)).trans HT8.out)
          have HOF := hide (owns_kept HOW.out (kept_set w8 ⟨S, o, none⟩ (.slice (some ⟨g2, 0, none⟩) (m + 1) cap)) (fun q e hk => by
            have e' : g2 = q := by simpa [Value.ownBlock] using e
            exact HGS.out (e'.trans hk)))
          have HKF := hide (show Kept (fun q => q = S ∨ (Value.slice na m nc).ownBlock = some q) w (w8.setCell ⟨S, o, none⟩ (.slice (some ⟨g2, 0, none⟩) (m + 1) cap)) from (HK8.out.mono (fun q _ e => .inr e)).setCell (p := ⟨S, o, none⟩) (.inl (.inl rfl)) _)
          refine wpAnyH_ready (rs := [20]) (by kernel_rfl) (by simp) ?_
          refine AllReadyH.cons (o := ?o22) ?h22 (fun K hK => ?s22) AllReadyH.nil
          case h22 => (simp only [List.getElem?_toArray, List.getElem?_cons_succ, List.getElem?_cons_zero]; rfl)
          go_simp
          clear f1 c1
          refine hK.out _ _ (HT9.out) (fun hHeld => ?_)
          clear hK K
          try simp only [Act.put, List.setIfInBounds_toArray, List.set_cons_zero, List.set_cons_succ]
          refine wpAnyH_done (by kernel_rfl) ?_ _
          clear hHeld
          go_wp2_with fail
          go_meet
          exact ⟨rfl, rfl, rfl, g2, cap, HS9.out, by rw [HSN.out]; exact HOF.out, HKF.out, HAT.out⟩
  case rest =>
    obtain ⟨rfl, rfl, rfl, HC⟩ := hcut
    obtain ⟨g2, c2, k1, k2, k3, k4⟩ := HC.out
    have b1 : wc.cell? ⟨S, o + 1, none⟩ = some (.int .i64 (nx : Int)) := by
      rw [k1.cell, List.getElem?_set_ne (by omega), ← HSB.out.cell]
      exact HC1.out
    have f1 := k1.free (o + 1)
    have b2 : wc.cell? ⟨S, o + 2, none⟩ = some (.int .i64 ((lf : Int) + 1)) := by
      rw [k1.cell, List.getElem?_set_ne (by omega), ← HSB.out.cell]
      exact HC2.out
    have f2 := k1.free (o + 2)
    have HD := hide ((k1.set (o + 1) (.int .i64 ((nx : Int) + 1))).set (o + 2) (.int .i64 (lf : Int)))
    have HK1 := hide k1
    have HK := hide (show StkI lo S o cs ((nx : Int) + 1) lf (.slice na m nc) (l 0) w ((wc.setCell ⟨S, o + 1, none⟩ (.int .i64 ((nx : Int) + 1))).setCell ⟨S, o + 2, none⟩ (.int .i64 (lf : Int))) by
      have hl : (l 0).length = m + 1 := by rw [HL0.out, List.length_append, HM.out]; rfl
      have hgS : g2 ≠ S := by
        rcases k4 with e | e
        · intro e2; subst e2; exact HSG.out e
        · have := HSL.out; omega
      refine ⟨some ⟨g2, 0, none⟩, c2, by rw [hl]; exact HD.out, ?_, (k3.setCell (p := ⟨S, o + 1, none⟩) (.inl (.inl rfl)) _).setCell (p := ⟨S, o + 2, none⟩) (.inl (.inl rfl)) _, fun q hq => ?_⟩
      · rw [hl, HL0.out]
        have hq : ∀ q, (Value.slice (some ⟨g2, 0, none⟩) (m + 1) c2).ownBlock = some q → ¬ q = S := fun q e hk => hgS ((by simpa [Value.ownBlock] using e : g2 = q).trans hk)
        exact owns_kept (owns_kept k2 (kept_set wc ⟨S, o + 1, none⟩ _) hq) (kept_set _ ⟨S, o + 2, none⟩ _) hq
      · have e1 : g2 = q := by simpa [Value.ownBlock] using hq
        exact e1 ▸ k4)
    clear k1 k2 k3 k4
    go_wp2_with fail
    generalize (wc.setCell ⟨S, o + 1, none⟩ (.int .i64 ((nx : Int) + 1))).setCell ⟨S, o + 2, none⟩ (.int .i64 (lf : Int)) = wd at HK ⊢
    clear b1 f1 b2 f2 HD HK1
    go_loopw [] (fun wr => Hid (∃ i, i ≤ r ∧ StkI lo S o cs ((nx : Int) + 1) lf (.slice na m nc) (l i) w wr)) (fun wr => stkLen S o wr)
    case atStart => exact ⟨0, Nat.zero_le _, HK.out⟩
    case round =>
      obtain ⟨i, hi, hI⟩ := hrel.out
      have HI := hide hI
      have HLN := hide (hI.len HOL.out)
      clear hI hrel
      by_cases hlt : i < r
      · have HS2 := hide (stk_on HI.out HOL.out (HST.out i hlt))
        have HJ2 := hide (fun (V : World) (hb : Below wr.heap.size wr V) => stk_join tr (HI.out.on hb) HLO.out HLS.out HNA.out HOL.out (HST.out i hlt) HJJ.out)
        go_wp2_with fail
        go_at_call 160
        refine HS2.out.mono ?_
        rintro e w3 ⟨rfl, hb3⟩
        have HB3 := hide hb3
        clear hb3
        go_wp2_with fail
        go_at_call 161
        refine (HJ2.out w3 HB3.out).mono ?_
        rintro e w4 ⟨rfl, h4, h5⟩
        have H4 := hide h4
        have H5 := hide h5
        clear h4 h5
        go_wp2_with fail
        go_roundw
        case rel => exact ⟨i + 1, hlt, H4.out⟩
        case measure => rw [HLN.out, H4.out.len HOL.out]; exact H5.out
      · obtain rfl : i = r := by omega
        have HS2 := hide (stk_end HI.out HOL.out HEN.out)
        go_wp2_with fail
        go_at_call 160
        refine HS2.out.mono ?_
        rintro e w3 ⟨rfl, hb3⟩
        have HB3 := hide hb3
        clear hb3
        go_wp2_with fail
        go_end0
        exact ⟨rfl, HI.out.on HB3.out⟩
end Go.Proofs.YtgaoeoijdpdjiaaGreatDoor
