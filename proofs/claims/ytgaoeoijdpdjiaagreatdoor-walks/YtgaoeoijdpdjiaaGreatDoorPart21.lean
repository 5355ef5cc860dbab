/-
  A walk's stack takes a leaf. A walk's stack by heights and numbers alone: what it holds when it has taken so many leaves, and how one more is joined. A walk: a whole node. A walk in memory: its object, its path, its stacks, their rows of nodes.
-/
import Derived.Test.YtgaoeoijdpdjiaaGreatDoorPart20
namespace Go.Proofs.YtgaoeoijdpdjiaaGreatDoor
open Go.RowKit
/-- A stack's cells: its nodes, the leaf that is taken next, how many it takes yet. -/
def stkC (cs : List Value) (o : Nat) (nv : Value) (nx lf : Int) : List Value := ((cs.set o nv).set (o + 1) (.int .i64 nx)).set (o + 2) (.int .i64 lf)
theorem stkC_set (cs : List Value) (o : Nat) (nv nv2 : Value) (nx lf : Int) : (stkC cs o nv nx lf).set o nv2 = stkC cs o nv2 nx lf := by
  unfold stkC
  rw [List.set_comm _ _ (show o + 2 ≠ o by omega), List.set_comm _ _ (show o + 1 ≠ o by omega), List.set_set]
theorem stkC_get (cs : List Value) (o : Nat) (nv : Value) (nx lf : Int) (h : o + 2 < cs.length) : (stkC cs o nv nx lf)[o]? = some nv := by
  unfold stkC
  rw [List.getElem?_set_ne (by omega), List.getElem?_set_ne (by omega), List.getElem?_set_self (by omega)]
theorem stkC_len (cs : List Value) (o : Nat) (nv : Value) (nx lf : Int) : (stkC cs o nv nx lf).length = cs.length := by simp [stkC]
theorem take_none (S o : Nat) (cs : List Value) (f1 f2 : Value) (w : World) (hS : Blk w S cs 137) (ho : cs[o + 2]? = some (.int .i64 0)) :
    Calls Tryz.prog 85 #[.pointer (some ⟨S, o, none⟩), f1, f2] w fun e w' => e = .returned (.tuple #[]) ∧ w' = w := by
  have c2 : w.cell? ⟨S, o + 2, none⟩ = some (.int .i64 0) := (hS.cell _).trans ho
  clear hS ho
  go_enter Tryz.func85, Tryz.ntmps85
  go_wp2
  (try simp only [Exit.inBlock, Exit.then])
  refine bodyPost_ret (results_none rfl _ _ _) rfl ?_
  exact ⟨rfl, rfl⟩
/-- One step of joining: the last two nodes become one. -/
def JStep (jn : Nat → Nat → ByteArray → ByteArray → ByteArray) (x y : List Nd) : Prop := ∃ pre a b, x = pre ++ [a, b] ∧ a.1 = b.1 ∧ pre.length ≤ 100 ∧ a.1 ≤ 100 ∧ a.2.1 ≤ 100 ∧ a.2.2.size ≤ 16 ∧ b.2.2.size ≤ 16 ∧ y = pre ++ [(a.1 + 1, a.2.1 / 2, jn (a.1 + 1) (a.2.1 / 2) a.2.2 b.2.2)]
def JEnd (x : List Nd) : Prop := x.length ≤ 1 ∨ ∃ pre a b, x = pre ++ [a, b] ∧ pre.length ≤ 100 ∧ a.1 ≠ b.1
/-- The stack in memory. -/
def StkI (lo S o : Nat) (cs : List Value) (nx lf : Int) (na0 : Value) (ns : List Nd) (w w' : World) : Prop := ∃ na nc, Blk w' S (stkC cs o (.slice na ns.length nc) nx lf) 137 ∧ w'.ownsRow lo 100 3 (.slice na ns.length nc) ns.length (nodC ns) ∧ Kept (fun q => q = S ∨ na0.ownBlock = some q) w w' ∧ ∀ q, (Value.slice na ns.length nc).ownBlock = some q → na0.ownBlock = some q ∨ w.heap.size ≤ q
theorem owns_loY {w : World} {lo : Nat} {e : TypeId} {sz : Nat} {v : Value} {n : Nat} {xs : List Value} (h : w.ownsRow lo e sz v n xs) : ∀ q, v.ownBlock = some q → lo ≤ q ∧ q < w.heap.size := by
  intro q hq
  rcases h.2 with ⟨rfl, _⟩ | ⟨g, cap, cur, rfl, hb, hg, _⟩
  · cases hq
  · have e1 : g = q := by simpa [Value.ownBlock] using hq
    subst e1
    exact ⟨hb, (Array.getElem?_eq_some_iff.1 hg).1⟩
theorem StkI.below {lo S o : Nat} {cs : List Value} {nx lf : Int} {na0 : Value} {ns : List Nd} {w w' : World} (h : StkI lo S o cs nx lf na0 ns w w') (hlS : lo ≤ S) (hna : ∀ q, na0.ownBlock = some q → lo ≤ q) (hlo : lo ≤ w.heap.size) : Below lo w w' := by
  obtain ⟨na, nc, h1, h2, h3, h4⟩ := h
  exact h3.below (fun k hk => hk.elim (fun e => e ▸ hlS) (fun e => hna _ e)) hlo
theorem StkI.on {lo S o : Nat} {cs : List Value} {nx lf : Int} {na0 : Value} {ns : List Nd} {w w' w2 : World} (h : StkI lo S o cs nx lf na0 ns w w') (hb : Below w'.heap.size w' w2) : StkI lo S o cs nx lf na0 ns w w2 := by
  obtain ⟨na, nc, h1, h2, h3, h4⟩ := h
  have k : Kept (fun _ => False) w' w2 := Kept.of_below hb
  exact ⟨na, nc, blkY h1 k (fun e => e), owns_kept h2 k (fun _ _ e => e), h3.trans k (fun _ e => e.elim), h4⟩
theorem stk_end {lo S o : Nat} {cs : List Value} {nx lf : Int} {na0 : Value} {ns : List Nd} {w w' : World} (h : StkI lo S o cs nx lf na0 ns w w') (hol : o + 2 < cs.length) (hE : JEnd ns) :
    Calls Tryz.prog 160 #[.pointer (some ⟨S, o, none⟩)] w' fun e w2 => e = .returned (.bool false) ∧ Below w'.heap.size w' w2 := by
  obtain ⟨na, nc, h1, h2, h3, h4⟩ := h
  rcases hE with hE | ⟨pre, a, b, rfl, hp, hne⟩
  · exact twins_less S o ns.length _ na nc w' h1 (stkC_get _ _ _ _ _ hol) hE
  · have hl : (pre ++ [a, b]).length = pre.length + 2 := by simp
    rw [hl] at h1 h2
    refine (twins_two lo S o _ na nc pre a b w' h1 (stkC_get _ _ _ _ _ hol) h2 hp).mono ?_
    rintro e w2 ⟨rfl, hb⟩
    exact ⟨by rw [show (a.1 == b.1) = false from by simpa using hne], hb⟩
theorem stk_on {jn : Nat → Nat → ByteArray → ByteArray → ByteArray} {lo S o : Nat} {cs : List Value} {nx lf : Int} {na0 : Value} {ns ns2 : List Nd} {w w' : World} (h : StkI lo S o cs nx lf na0 ns w w') (hol : o + 2 < cs.length) (hE : JStep jn ns ns2) :
    Calls Tryz.prog 160 #[.pointer (some ⟨S, o, none⟩)] w' fun e w2 => e = .returned (.bool true) ∧ Below w'.heap.size w' w2 := by
  obtain ⟨na, nc, h1, h2, h3, h4⟩ := h
  obtain ⟨pre, a, b, rfl, hab, hp, -⟩ := hE
  have hl : (pre ++ [a, b]).length = pre.length + 2 := by simp
  rw [hl] at h1 h2
  refine (twins_two lo S o _ na nc pre a b w' h1 (stkC_get _ _ _ _ _ hol) h2 hp).mono ?_
  rintro e w2 ⟨rfl, hb⟩
  exact ⟨by rw [show (a.1 == b.1) = true from by simpa using hab], hb⟩
theorem stk_join {jn : Nat → Nat → ByteArray → ByteArray → ByteArray} {lo S o : Nat} {cs : List Value} {nx lf : Int} {na0 : Value} {ns ns2 : List Nd} {w w' : World} (tr : Value) (h : StkI lo S o cs nx lf na0 ns w w') (hlo : lo ≤ w.heap.size) (hlS : lo ≤ S) (hna : ∀ q, na0.ownBlock = some q → lo ≤ q) (hol : o + 2 < cs.length) (hE : JStep jn ns ns2)
    (hJ : ∀ (h k : Nat) (a b : ByteArray) (V : World), a.size ≤ 16 → b.size ≤ 16 → Below lo w V → Calls Tryz.prog 40 #[tr, .int .i64 (h : Int), .int .i64 (k : Int), .string a, .string b] V fun e w' => e = .returned (.string (jn h k a b)) ∧ Below V.heap.size V w') :
    Calls Tryz.prog 161 #[.pointer (some ⟨S, o, none⟩), .func (.func 40) #[tr] #[]] w' fun e w2 => e = .returned (.tuple #[]) ∧ StkI lo S o cs nx lf na0 ns2 w w2 ∧ ns2.length < ns.length := by
  have hbl := h.below hlS hna hlo
  obtain ⟨na, nc, h1, h2, h3, h4⟩ := h
  obtain ⟨pre, a, b, rfl, hab, hp, ha1, ha2, hs1, hs2, rfl⟩ := hE
  have hl : (pre ++ [a, b]).length = pre.length + 2 := by simp
  rw [hl] at h1 h2 h4
  refine (joinLast_on lo S o _ na nc pre a b tr (jn (a.1 + 1) (a.2.1 / 2) a.2.2 b.2.2) w' h1 (stkC_get _ _ _ _ _ hol) h2 hp (Nat.le_trans hlo h3.size) ha1 ha2 (fun V hV => hJ (a.1 + 1) (a.2.1 / 2) _ _ V hs1 hs2 (hbl.trans (hV.mono (Nat.le_trans hlo h3.size))))).mono ?_
  rintro e w2 ⟨rfl, g2, c2, k1, k2, k3, k4⟩
  have hl2 : (pre ++ [(a.1 + 1, a.2.1 / 2, jn (a.1 + 1) (a.2.1 / 2) a.2.2 b.2.2)]).length = pre.length + 1 := by simp
  rw [stkC_set] at k1
  refine ⟨rfl, ⟨some ⟨g2, 0, none⟩, c2, by rw [hl2]; exact k1, by rw [hl2]; exact k2, h3.trans k3 (fun i hi => ?_), fun q hq => ?_⟩, by rw [hl, hl2]; omega⟩
  · rcases hi with rfl | hi
    · exact .inl (.inl rfl)
    · rcases h4 _ hi with e | e
      · exact .inl (.inr e)
      · exact .inr e
  · have e1 : g2 = q := by simpa [Value.ownBlock] using hq
    subst e1
    rcases k4 with e | e
    · exact h4 _ e
    · exact .inr (Nat.le_trans h3.size e)
def stkLen (S o : Nat) (w : World) : Nat := match w.cell? ⟨S, o, none⟩ with | some (.slice _ n _) => n | _ => 0
theorem StkI.len {lo S o : Nat} {cs : List Value} {nx lf : Int} {na0 : Value} {ns : List Nd} {w w' : World} (h : StkI lo S o cs nx lf na0 ns w w') (hol : o + 2 < cs.length) : stkLen S o w' = ns.length := by
  obtain ⟨na, nc, h1, h2, h3, h4⟩ := h
  unfold stkLen
  rw [(h1.cell o).trans (stkC_get _ _ _ _ _ hol)]
set_option maxRecDepth 20000 in
set_option maxHeartbeats 8000000 in
theorem take_on (lo S o : Nat) (cs : List Value) (na : Option Addr) (nc : Nat) (ns : List Nd) (nx lf : Nat) (tr : Value) (y : ByteArray) (jn : Nat → Nat → ByteArray → ByteArray → ByteArray) (r : Nat) (l : Nat → List Nd) (w : World) (hS : Blk w S cs 137) (ho : cs[o]? = some (.slice na ns.length nc)) (ho1 : cs[o + 1]? = some (.int .i64 (nx : Int))) (ho2 : cs[o + 2]? = some (.int .i64 ((lf + 1 : Nat) : Int))) (hr : w.ownsRow lo 100 3 (.slice na ns.length nc) ns.length (nodC ns)) (hn : ns.length ≤ 100) (hnx : nx ≤ 100) (hlf : lf ≤ 100) (hlo : lo ≤ w.heap.size) (hlS : lo ≤ S) (hT : Tn w) (hTB : 0 < lo)
    (hl0 : l 0 = ns ++ [(0, nx, y)]) (hst : ∀ i, i < r → JStep jn (l i) (l (i + 1))) (hend : JEnd (l r))
    (hL : ∀ V, Tn V → Calls Tryz.prog 39 #[tr, .int .i64 (nx : Int)] V fun e w' => e = .returned (.string y) ∧ Below V.heap.size V w')
    (hJ : ∀ (h k : Nat) (a b : ByteArray) (V : World), a.size ≤ 16 → b.size ≤ 16 → Tn V → Calls Tryz.prog 40 #[tr, .int .i64 (h : Int), .int .i64 (k : Int), .string a, .string b] V fun e w' => e = .returned (.string (jn h k a b)) ∧ Below V.heap.size V w') :
    Calls Tryz.prog 85 #[.pointer (some ⟨S, o, none⟩), .func (.func 39) #[tr] #[], .func (.func 40) #[tr] #[]] w fun e w' => e = .returned (.tuple #[]) ∧ StkI lo S o cs ((nx : Int) + 1) lf (.slice na ns.length nc) (l r) w w' := by
  obtain ⟨i1, hi1, hy0, hy1, hy2⟩ := info_parts infoNd
  have hen : ∀ (args : Array Value) (V : World), Sem.run Tryz.prog (callFunc 39 args) V = .ok (.enter 39 args) V := fun args V => enter_y _ _ Tryz.func39 (by kernel_rfl) (by kernel_rfl) args V
  have c2 : w.cell? ⟨S, o + 2, none⟩ = some (.int .i64 ((lf : Int) + 1)) := (hS.cell _).trans (by rw [ho2]; simp)
  have hol : o + 2 < cs.length := (List.getElem?_eq_some_iff.1 ho2).1
  have HOL := hide hol
  have HLL := hide (fun (V : World) (h : Below w.heap.size w V) => hL V (hT.below (h.mono hlo) hTB))
  have HLO := hide hlo
  have HLS := hide hlS
  have HSG := hide (owns_neY hr hS (by decide))
  have HSB := hide hS
  have HRO := hide hr
  have HC0 := hide ((hS.cell o).trans ho)
  have HC1 := hide ((hS.cell (o + 1)).trans ho1)
  have HC2 := hide c2
  have HNA := hide (fun q hq => (owns_loY hr q hq).1)
  have HOC := hide ho
  have HSL := hide hS.lt
  have HL0 := hide hl0
  have HST := hide hst
  have HEN := hide hend
  have HJJ := hide (fun (h k : Nat) (a b : ByteArray) (V : World) (ha : a.size ≤ 16) (hb : b.size ≤ 16) (hV : Below lo w V) => hJ h k a b V ha hb (hT.below hV hTB))
  have HSN := hide (nodC_snoc ns (0, nx, y))
  have N1 : Hid (ns.length + 1 ≤ maxLen) := by show _ ≤ _; unfold maxLen; omega
  have N2 : Hid ((ns.length + 1) * 32 ≤ 140737488355328) := by show _ ≤ _; omega
  have w1 : IntKind.i64.wrap ((nx : Int) + 1) = (nx : Int) + 1 := by rw [IntKind.wrap_i64] <;> omega
  have w2 : IntKind.i64.wrap ((lf : Int) + 1 - 1) = (lf : Int) := by rw [IntKind.wrap_i64] <;> omega
  have w3 : IntKind.i64.wrap (lf : Int) = (lf : Int) := by rw [IntKind.wrap_i64] <;> omega
  have e1 : ((lf : Int) + 1 == 0) = false := by
    have : (lf : Int) + 1 ≠ 0 := by omega
    simpa using this
  obtain ⟨m, hm⟩ : ∃ m, ns.length = m := ⟨_, rfl⟩
  rw [hm] at HSG HRO HC0 HOC N1 N2 HNA ⊢
  have HM := hide hm
  clear hS ho ho1 ho2 hr hn hnx hlf hlo hlS hT hTB hl0 hst hend hL hJ hm hol
  go_enter Tryz.func85, Tryz.ntmps85
  go_upto_region 1 with fail
  clear c2
  have HT := hide (fun (V : World) (h : V.cell? ⟨S, o + 1, none⟩ = w.cell? ⟨S, o + 1, none⟩) => (h.trans HC1.out : V.cell? ⟨S, o + 1, none⟩ = some (.int .i64 (nx : Int))))
  have HTB := hide (fun (V : World) (h : Below w.heap.size w V) => HT.out V (h.cell HSL.out))
  go_cut [0, 1, 2] from 11 to 30 (fun x0 x1 x2 wx => x0 = .pointer (some ⟨S, o, none⟩) ∧ x1 = .func (.func 39) #[tr] #[] ∧ x2 = .func (.func 40) #[tr] #[] ∧ Hid (∃ g2 c2, Blk wx S (cs.set o (.slice (some ⟨g2, 0, none⟩) (m + 1) c2)) 137 ∧ wx.ownsRow lo 100 3 (.slice (some ⟨g2, 0, none⟩) (m + 1) c2) (m + 1) (nodC (ns ++ [(0, nx, y)])) ∧ Kept (fun q => q = S ∨ (Value.slice na m nc).ownBlock = some q) w wx ∧ ((Value.slice na m nc).ownBlock = some g2 ∨ w.heap.size ≤ g2)))
  case first =>
    refine wp_region_held_drew (S := fun V => V.cell? ⟨S, o + 1, none⟩ = some (.int .i64 (nx : Int))) (by kernel_rfl) (HTB.out _ (Below.refl w.heap.size w).drew) (fun hHeld => ?_)
    refine tk 0 hHeld (h := ?_)
    refine tk 1 hHeld (h := ?_)
    refine tk 2 hHeld (h := ?_)
    refine tk 3 hHeld (h := ?_)
    refine tk 5 hHeld (h := ?_)
    refine tk 6 hHeld (h := ?_)
    refine tk 7 hHeld (h := ?_)
    refine tk 8 hHeld (h := ?_)
    refine tk 9 hHeld (h := ?_)
    refine tk 10 hHeld (h := ?_)
    refine tk 11 hHeld (h := ?_)
    refine tk 12 hHeld (h := ?_)
    refine tk 13 hHeld (h := ?_)
    have HB2 := hide ((Below.refl w.heap.size w).drew)
    generalize World.drew w = V2 at HB2 hHeld ⊢
    refine wpAnyH_ready (rs := [4, 14]) (by kernel_rfl) (by simp) ?_
    refine (AllReadyH.cons (o := ?o1) ?h1 (fun K hK => ?s1) (AllReadyH.cons (o := ?o2) ?h2 (fun K hK => ?s2) AllReadyH.nil))
    case h1 => (simp only [List.getElem?_toArray, List.getElem?_cons_succ, List.getElem?_cons_zero]; rfl)
    case h2 => (simp only [List.getElem?_toArray, List.getElem?_cons_succ, List.getElem?_cons_zero]; rfl)
    case s1 =>
      have c0 : V2.cell? ⟨S, o, none⟩ = some (.slice na m nc) := (HB2.out.cell HSL.out).trans HC0.out
      go_simp
      clear c0
      refine hK.out _ _ (HTB.out _ HB2.out) (fun hHeld => ?_)
      clear hK K
      try simp only [Act.put, List.setIfInBounds_toArray, List.set_cons_zero, List.set_cons_succ]
      refine wpAnyH_ready (rs := [14]) (by kernel_rfl) (by simp) ?_
      refine (AllReadyH.cons (o := ?o4) ?h4 (fun K hK => ?s4) AllReadyH.nil)
      case h4 => (simp only [List.getElem?_toArray, List.getElem?_cons_succ, List.getElem?_cons_zero]; rfl)
      case s4 =>
        go_simp
        go_at_call 39
        refine (HLL.out _ HB2.out).mono ?_
        rintro e w5 ⟨rfl, hb5⟩
        have HB5 := hide (HB2.out.trans (hb5.mono HB2.out.size))
        clear hb5
        try go_wp2_with fail
        refine hK.out _ _ (HTB.out _ HB5.out) (fun hHeld => ?_)
        clear hK K
        try simp only [Act.put, List.setIfInBounds_toArray, List.set_cons_zero, List.set_cons_succ]
        refine tk 15 hHeld (h := ?_)
        refine wpAnyH_ready (rs := [16]) (by kernel_rfl) (by simp) ?_
        refine (AllReadyH.cons (o := ?o6) ?h6 (fun K hK => ?s6) AllReadyH.nil)
        case h6 => (simp only [List.getElem?_toArray, List.getElem?_cons_succ, List.getElem?_cons_zero]; rfl)
        case s6 =>
          go_simp
          obtain ⟨W7, hW7⟩ : ∃ Wk, w5.alloc (.cells #[.int .i64 0, .int .i64 (nx : Int), .string y] 100) = Wk := ⟨_, rfl⟩
          have HNW := hide (show ∀ j u, [.int .i64 0, .int .i64 (nx : Int), .string y][j]? = some u → W7.cell? ((⟨w5.heap.size, 0, none⟩ : Addr).add j) = some u by rw [← hW7]; intro j u h; rw [Addr.add_mid, Nat.zero_add]; exact ((Blk.new w5 [.int .i64 0, .int .i64 (nx : Int), .string y] 100).cell j).trans h)
          have HZ := hide (show W7.heap.size = w5.heap.size + 1 by rw [← hW7]; exact World.size_alloc _ _)
          have HB7 := hide (show Below w.heap.size w W7 by rw [← hW7]; exact HB5.out.alloc HB5.out.size _)
          rw [hW7]
          clear hW7
          refine hK.out _ _ (HTB.out _ HB7.out) (fun hHeld => ?_)
          clear hK K
          try simp only [Act.put, List.setIfInBounds_toArray, List.set_cons_zero, List.set_cons_succ]
          refine wpAnyH_ready (rs := [17]) (by kernel_rfl) (by simp) ?_
          refine AllReadyH.cons (o := ?o8) ?h8 (fun K hK => ?s8) AllReadyH.nil
          case h8 => (simp only [List.getElem?_toArray, List.getElem?_cons_succ, List.getElem?_cons_zero]; rfl)
          refine step_append_lies _ (by rfl) (.tmp 15) (.tmp 27) 96 (by rfl) lo 100 i1 (.agg #[.int .i64 0, .int .i64 0, .string ⟨#[]⟩]) 3 32 Tryz.underlying96 hi1 hy0 hy1 hy2 (by rfl) (by decide) (.slice na m nc) m (nodC ns) (by rfl) (owns_kept HRO.out (Kept.of_below (F := fun _ => False) HB7.out) (fun _ _ e => e)) ⟨w5.heap.size, 0, none⟩ 1 1 [.int .i64 0, .int .i64 (nx : Int), .string y] (by rfl) (by rfl) HNW.out (fun u hu => by simp at hu; rcases hu with rfl | rfl | rfl <;> rfl) (by decide) N1.out N2.out (Nat.le_trans HLO.out HB7.out.size) (w5.heap.size + 1) HZ.out ?_
          intro g2 cap w8 hown hgrow hat hlt
          have hK8 := Kept.grown (F := fun q => (Value.slice na m nc).ownBlock = some q) (Kept.of_below HB7.out) hgrow (fun q e => .inl e)
          have HS8 := hide (blkY HSB.out hK8 HSG.out)
          have HAT := hide (show (Value.slice na m nc).ownBlock = some g2 ∨ w.heap.size ≤ g2 by
            rcases hat with e | e
            · exact .inl e
            · have := HB7.out.size; have := HZ.out; exact .inr (by omega))
          have HGS := hide (show g2 ≠ S by
            rcases HAT.out with e | e
            · intro e2; subst e2; exact HSG.out e
            · have := HSL.out; omega)
          have HOW := hide hown
          have HK8 := hide hK8
          have HT8 := hide (HT.out w8 (hK8.cell (p := ⟨S, o + 1, none⟩) HSL.out HSG.out))
          clear hown hgrow hat hlt hK8
          refine hK.out _ _ (HT8.out) (fun hHeld => ?_)
          clear hK K
          try simp only [Act.put, List.setIfInBounds_toArray, List.set_cons_zero, List.set_cons_succ]
          refine tk 18 hHeld (h := ?_)
          refine tk 19 hHeld (h := ?_)
          have f1 := HS8.out.free o
          have c1 : w8.cell? ⟨S, o, none⟩ = some (.slice na m nc) := (HS8.out.cell o).trans HOC.out
          have HS9 := hide (HS8.out.set o (.slice (some ⟨g2, 0, none⟩) (m + 1) cap))
          have HT9 := hide (show (w8.setCell ⟨S, o, none⟩ (.slice (some ⟨g2, 0, none⟩) (m + 1) cap)).cell? ⟨S, o + 1, none⟩ = some (.int .i64 (nx : Int)) from (World.cell?_setCell_other _ _ _ _ (by simp)).trans HT8.out)
          have HOF := hide (owns_kept HOW.out (kept_set w8 ⟨S, o, none⟩ (.slice (some ⟨g2, 0, none⟩) (m + 1) cap)) (fun q e hk => by
            have e' : g2 = q := by simpa [Value.ownBlock] using e
            exact HGS.out (e'.trans hk)))
          have HKF := hide (show Kept (fun q => q = S ∨ (Value.slice na m nc).ownBlock = some q) w (w8.setCell ⟨S, o, none⟩ (.slice (some ⟨g2, 0, none⟩) (m + 1) cap)) from (HK8.out.mono (fun q _ e => .inr e)).setCell (p := ⟨S, o, none⟩) (.inl (.inl rfl)) _)
          refine wpAnyH_ready (rs := [20]) (by kernel_rfl) (by simp) ?_
          refine AllReadyH.cons (o := ?o9) ?h9 (fun K hK => ?s9) AllReadyH.nil
          case h9 => (simp only [List.getElem?_toArray, List.getElem?_cons_succ, List.getElem?_cons_zero]; rfl)
          go_simp
          clear f1 c1
          refine hK.out _ _ (HT9.out) (fun hHeld => ?_)
          clear hK K
          try simp only [Act.put, List.setIfInBounds_toArray, List.set_cons_zero, List.set_cons_succ]
          refine wpAnyH_done (by kernel_rfl) ?_ _
          clear hHeld
          go_wp2_with fail
          go_meet
          exact ⟨rfl, rfl, rfl, g2, cap, HS9.out, by rw [HSN.out]; exact HOF.out, HKF.out, HAT.out⟩
    case s2 =>
      go_simp
      go_at_call 39
      refine (HLL.out _ HB2.out).mono ?_
      rintro e w10 ⟨rfl, hb10⟩
      have HB10 := hide (HB2.out.trans (hb10.mono HB2.out.size))
      clear hb10
      try go_wp2_with fail
      refine hK.out _ _ (HTB.out _ HB10.out) (fun hHeld => ?_)
      clear hK K
      try simp only [Act.put, List.setIfInBounds_toArray, List.set_cons_zero, List.set_cons_succ]
      refine tk 15 hHeld (h := ?_)
      refine wpAnyH_ready (rs := [4, 16]) (by kernel_rfl) (by simp) ?_
      refine (AllReadyH.cons (o := ?o11) ?h11 (fun K hK => ?s11) (AllReadyH.cons (o := ?o12) ?h12 (fun K hK => ?s12) AllReadyH.nil))
      case h11 => (simp only [List.getElem?_toArray, List.getElem?_cons_succ, List.getElem?_cons_zero]; rfl)
      case h12 => (simp only [List.getElem?_toArray, List.getElem?_cons_succ, List.getElem?_cons_zero]; rfl)
      case s11 =>
        have c0 : w10.cell? ⟨S, o, none⟩ = some (.slice na m nc) := (HB10.out.cell HSL.out).trans HC0.out
        go_simp
        clear c0
        refine hK.out _ _ (HTB.out _ HB10.out) (fun hHeld => ?_)
        clear hK K
        try simp only [Act.put, List.setIfInBounds_toArray, List.set_cons_zero, List.set_cons_succ]
        refine wpAnyH_ready (rs := [16]) (by kernel_rfl) (by simp) ?_
        refine (AllReadyH.cons (o := ?o14) ?h14 (fun K hK => ?s14) AllReadyH.nil)
        case h14 => (simp only [List.getElem?_toArray, List.getElem?_cons_succ, List.getElem?_cons_zero]; rfl)
        case s14 =>
          go_simp
          obtain ⟨W15, hW15⟩ : ∃ Wk, w10.alloc (.cells #[.int .i64 0, .int .i64 (nx : Int), .string y] 100) = Wk := ⟨_, rfl⟩
          have HNW := hide (show ∀ j u, [.int .i64 0, .int .i64 (nx : Int), .string y][j]? = some u → W15.cell? ((⟨w10.heap.size, 0, none⟩ : Addr).add j) = some u by rw [← hW15]; intro j u h; rw [Addr.add_mid, Nat.zero_add]; exact ((Blk.new w10 [.int .i64 0, .int .i64 (nx : Int), .string y] 100).cell j).trans h)
          have HZ := hide (show W15.heap.size = w10.heap.size + 1 by rw [← hW15]; exact World.size_alloc _ _)
          have HB15 := hide (show Below w.heap.size w W15 by rw [← hW15]; exact HB10.out.alloc HB10.out.size _)
          rw [hW15]
          clear hW15
          refine hK.out _ _ (HTB.out _ HB15.out) (fun hHeld => ?_)
          clear hK K
          try simp only [Act.put, List.setIfInBounds_toArray, List.set_cons_zero, List.set_cons_succ]
          refine wpAnyH_ready (rs := [17]) (by kernel_rfl) (by simp) ?_
          refine AllReadyH.cons (o := ?o16) ?h16 (fun K hK => ?s16) AllReadyH.nil
          case h16 => (simp only [List.getElem?_toArray, List.getElem?_cons_succ, List.getElem?_cons_zero]; rfl)
          refine step_append_lies _ (by rfl) (.tmp 15) (.tmp 27) 96 (by rfl) lo 100 i1 (.agg #[.int .i64 0, .int .i64 0, .string ⟨#[]⟩]) 3 32 Tryz.underlying96 hi1 hy0 hy1 hy2 (by rfl) (by decide) (.slice na m nc) m (nodC ns) (by rfl) (owns_kept HRO.out (Kept.of_below (F := fun _ => False) HB15.out) (fun _ _ e => e)) ⟨w10.heap.size, 0, none⟩ 1 1 [.int .i64 0, .int .i64 (nx : Int), .string y] (by rfl) (by rfl) HNW.out (fun u hu => by simp at hu; rcases hu with rfl | rfl | rfl <;> rfl) (by decide) N1.out N2.out (Nat.le_trans HLO.out HB15.out.size) (w10.heap.size + 1) HZ.out ?_
          intro g2 cap w8 hown hgrow hat hlt
          have hK8 := Kept.grown (F := fun q => (Value.slice na m nc).ownBlock = some q) (Kept.of_below HB15.out) hgrow (fun q e => .inl e)
          have HS8 := hide (blkY HSB.out hK8 HSG.out)
          have HAT := hide (show (Value.slice na m nc).ownBlock = some g2 ∨ w.heap.size ≤ g2 by
            rcases hat with e | e
            · exact .inl e
            · have := HB15.out.size; have := HZ.out; exact .inr (by omega))
          have HGS := hide (show g2 ≠ S by
            rcases HAT.out with e | e
            · intro e2; subst e2; exact HSG.out e
            · have := HSL.out; omega)
          have HOW := hide hown
          have HK8 := hide hK8
          have HT8 := hide (HT.out w8 (hK8.cell (p := ⟨S, o + 1, none⟩) HSL.out HSG.out))
          clear hown hgrow hat hlt hK8
          refine hK.out _ _ (HT8.out) (fun hHeld => ?_)
          clear hK K
          try simp only [Act.put, List.setIfInBounds_toArray, List.set_cons_zero, List.set_cons_succ]
          refine tk 18 hHeld (h := ?_)
          refine tk 19 hHeld (h := ?_)
          have f1 := HS8.out.free o
          have c1 : w8.cell? ⟨S, o, none⟩ = some (.slice na m nc) := (HS8.out.cell o).trans HOC.out
          have HS9 := hide (HS8.out.set o (.slice (some ⟨g2, 0, none⟩) (m + 1) cap))
          have HT9 := hide (show (w8.setCell ⟨S, o, none⟩ (.slice (some ⟨g2, 0, none⟩) (m + 1) cap)).cell? ⟨S, o + 1, none⟩ = some (.int .i64 (nx : Int)) from (World.cell?_setCell_other _ _ _ _ (by simp)).trans HT8.out)
          have HOF := hide (owns_kept HOW.out (kept_set w8 ⟨S, o, none⟩ (.slice (some ⟨g2, 0, none⟩) (m + 1) cap)) (fun q e hk => by
            have e' : g2 = q := by simpa [Value.ownBlock] using e
            exact HGS.out (e'.trans hk)))
          have HKF := hide (show Kept (fun q => q = S ∨ (Value.slice na m nc).ownBlock = some q) w (w8.setCell ⟨S, o, none⟩ (.slice (some ⟨g2, 0, none⟩) (m + 1) cap)) from (HK8.out.mono (fun q _ e => .inr e)).setCell (p := ⟨S, o, none⟩) (.inl (.inl rfl)) _)
          refine wpAnyH_ready (rs := [20]) (by kernel_rfl) (by simp) ?_
          refine AllReadyH.cons (o := ?o17) ?h17 (fun K hK => ?s17) AllReadyH.nil
          case h17 => (simp only [List.getElem?_toArray, List.getElem?_cons_succ, List.getElem?_cons_zero]; rfl)
          go_simp
          clear f1 c1
          refine hK.out _ _ (HT9.out) (fun hHeld => ?_)
          clear hK K
          try simp only [Act.put, List.setIfInBounds_toArray, List.set_cons_zero, List.set_cons_succ]
          refine wpAnyH_done (by kernel_rfl) ?_ _
          clear hHeld
          go_wp2_with fail
          go_meet
          exact ⟨rfl, rfl, rfl, g2, cap, HS9.out, by rw [HSN.out]; exact HOF.out, HKF.out, HAT.out⟩
      case s12 =>
        go_simp
        obtain ⟨W18, hW18⟩ : ∃ Wk, w10.alloc (.cells #[.int .i64 0, .int .i64 (nx : Int), .string y] 100) = Wk := ⟨_, rfl⟩
        have HNW := hide (show ∀ j u, [.int .i64 0, .int .i64 (nx : Int), .string y][j]? = some u → W18.cell? ((⟨w10.heap.size, 0, none⟩ : Addr).add j) = some u by rw [← hW18]; intro j u h; rw [Addr.add_mid, Nat.zero_add]; exact ((Blk.new w10 [.int .i64 0, .int .i64 (nx : Int), .string y] 100).cell j).trans h)
        have HZ := hide (show W18.heap.size = w10.heap.size + 1 by rw [← hW18]; exact World.size_alloc _ _)
        have HB18 := hide (show Below w.heap.size w W18 by rw [← hW18]; exact HB10.out.alloc HB10.out.size _)
        rw [hW18]
        clear hW18
        refine hK.out _ _ (HTB.out _ HB18.out) (fun hHeld => ?_)
        clear hK K
        try simp only [Act.put, List.setIfInBounds_toArray, List.set_cons_zero, List.set_cons_succ]
        refine wpAnyH_ready (rs := [4]) (by kernel_rfl) (by simp) ?_
        refine (AllReadyH.cons (o := ?o19) ?h19 (fun K hK => ?s19) AllReadyH.nil)
        case h19 => (simp only [List.getElem?_toArray, List.getElem?_cons_succ, List.getElem?_cons_zero]; rfl)
        case s19 =>
          have c0 : W18.cell? ⟨S, o, none⟩ = some (.slice na m nc) := (HB18.out.cell HSL.out).trans HC0.out
          go_simp
          clear c0
          refine hK.out _ _ (HTB.out _ HB18.out) (fun hHeld => ?_)
          clear hK K
          try simp only [Act.put, List.setIfInBounds_toArray, List.set_cons_zero, List.set_cons_succ]
          refine wpAnyH_ready (rs := [17]) (by kernel_rfl) (by simp) ?_
          refine AllReadyH.cons (o := ?o21) ?h21 (fun K hK => ?s21) AllReadyH.nil
          case h21 => (simp only [List.getElem?_toArray, List.getElem?_cons_succ, List.getElem?_cons_zero]; rfl)
          refine step_append_lies _ (by rfl) (.tmp 15) (.tmp 27) 96 (by rfl) lo 100 i1 (.agg #[.int .i64 0, .int .i64 0, .string ⟨#[]⟩]) 3 32 Tryz.underlying96 hi1 hy0 hy1 hy2 (by rfl) (by decide) (.slice na m nc) m (nodC ns) (by rfl) (owns_kept HRO.out (Kept.of_below (F := fun _ => False) HB18.out) (fun _ _ e => e)) ⟨w10.heap.size, 0, none⟩ 1 1 [.int .i64 0, .int .i64 (nx : Int), .string y] (by rfl) (by rfl) HNW.out (fun u hu => by simp at hu; rcases hu with rfl | rfl | rfl <;> rfl) (by decide) N1.out N2.out (Nat.le_trans HLO.out HB18.out.size) (w10.heap.size + 1) HZ.out ?_
          intro g2 cap w8 hown hgrow hat hlt
          have hK8 := Kept.grown (F := fun q => (Value.slice na m nc).ownBlock = some q) (Kept.of_below HB18.out) hgrow (fun q e => .inl e)
          have HS8 := hide (blkY HSB.out hK8 HSG.out)
          have HAT := hide (show (Value.slice na m nc).ownBlock = some g2 ∨ w.heap.size ≤ g2 by
            rcases hat with e | e
            · exact .inl e
            · have := HB18.out.size; have := HZ.out; exact .inr (by omega))
          have HGS := hide (show g2 ≠ S by
            rcases HAT.out with e | e
            · intro e2; subst e2; exact HSG.out e
            · have := HSL.out; omega)
          have HOW := hide hown
          have HK8 := hide hK8
          have HT8 := hide (HT.out w8 (hK8.cell (p := ⟨S, o + 1, none⟩) HSL.out HSG.out))
          clear hown hgrow hat hlt hK8
          refine hK.out _ _ (HT8.out) (fun hHeld => ?_)
          clear hK K
          try simp only [Act.put, List.setIfInBounds_toArray, List.set_cons_zero, List.set_cons_succ]
          refine tk 18 hHeld (h := ?_)
          refine tk 19 hHeld (h := ?_)
          have f1 := HS8.out.free o
          have c1 : w8.cell? ⟨S, o, none⟩ = some (.slice na m nc) := (HS8.out.cell o).trans HOC.out
          have HS9 := hide (HS8.out.set o (.slice (some ⟨g2, 0, none⟩) (m + 1) cap))
          have HT9 := hide (show (w8.setCell ⟨S, o, none⟩ (.slice (some ⟨g2, 0, none⟩) (m + 1) cap)).cell? ⟨S, o + 1, none⟩ = some (.int .i64 (nx : Int)) from (World.cell?_setCell_other _ _ _ _ (by simp)).trans HT8.out)
          have HOF := hide (owns_kept HOW.out (kept_set w8 ⟨S, o, none⟩ (.slice (some ⟨g2, 0, none⟩) (m + 1) cap)) (fun q e hk => by
            have e' : g2 = q := by simpa [Value.ownBlock] using e
            exact HGS.out (e'.trans hk)))
          have HKF := hide (show Kept (fun q => q = S ∨ (Value.slice na m nc).ownBlock = some q) w (w8.setCell ⟨S, o, none⟩ (.slice (some ⟨g2, 0, none⟩) (m + 1) cap)) from (HK8.out.mono (fun q _ e => .inr e)).setCell (p := ⟨S, o, none⟩) (.inl (.inl rfl)) _)
          refine wpAnyH_ready (rs := [20]) (by kernel_rfl) (by simp) ?_
          refine AllReadyH.cons (o := ?o22) ?h22 (fun K hK => ?s22) AllReadyH.nil
          case h22 => (simp only [List.getElem?_toArray, List.getElem?_cons_succ, List.getElem?_cons_zero]; rfl)
          go_simp
          clear f1 c1
          refine hK.out _ _ (HT9.out) (fun hHeld => ?_)
          clear hK K
          try simp only [Act.put, List.setIfInBounds_toArray, List.set_cons_zero, List.set_cons_succ]
          refine wpAnyH_done (by kernel_rfl) ?_ _
          clear hHeld
          go_wp2_with fail
          go_meet
          exact ⟨rfl, rfl, rfl, g2, cap, HS9.out, by rw [HSN.out]; exact HOF.out, HKF.out, HAT.out⟩
  case rest =>
    obtain ⟨rfl, rfl, rfl, HC⟩ := hcut
    obtain ⟨g2, c2, k1, k2, k3, k4⟩ := HC.out
    have b1 : wc.cell? ⟨S, o + 1, none⟩ = some (.int .i64 (nx : Int)) := by
      rw [k1.cell, List.getElem?_set_ne (by omega), ← HSB.out.cell]
      exact HC1.out
    have f1 := k1.free (o + 1)
    have b2 : wc.cell? ⟨S, o + 2, none⟩ = some (.int .i64 ((lf : Int) + 1)) := by
      rw [k1.cell, List.getElem?_set_ne (by omega), ← HSB.out.cell]
      exact HC2.out
    have f2 := k1.free (o + 2)
    have HD := hide ((k1.set (o + 1) (.int .i64 ((nx : Int) + 1))).set (o + 2) (.int .i64 (lf : Int)))
    have HK1 := hide k1
    have HK := hide (show StkI lo S o cs ((nx : Int) + 1) lf (.slice na m nc) (l 0) w ((wc.setCell ⟨S, o + 1, none⟩ (.int .i64 ((nx : Int) + 1))).setCell ⟨S, o + 2, none⟩ (.int .i64 (lf : Int))) by
      have hl : (l 0).length = m + 1 := by rw [HL0.out, List.length_append, HM.out]; rfl
      have hgS : g2 ≠ S := by
        rcases k4 with e | e
        · intro e2; subst e2; exact HSG.out e
        · have := HSL.out; omega
      refine ⟨some ⟨g2, 0, none⟩, c2, by rw [hl]; exact HD.out, ?_, (k3.setCell (p := ⟨S, o + 1, none⟩) (.inl (.inl rfl)) _).setCell (p := ⟨S, o + 2, none⟩) (.inl (.inl rfl)) _, fun q hq => ?_⟩
      · rw [hl, HL0.out]
        have hq : ∀ q, (Value.slice (some ⟨g2, 0, none⟩) (m + 1) c2).ownBlock = some q → ¬ q = S := fun q e hk => hgS ((by simpa [Value.ownBlock] using e : g2 = q).trans hk)
        exact owns_kept (owns_kept k2 (kept_set wc ⟨S, o + 1, none⟩ _) hq) (kept_set _ ⟨S, o + 2, none⟩ _) hq
      · have e1 : g2 = q := by simpa [Value.ownBlock] using hq
        exact e1 ▸ k4)
    clear k1 k2 k3 k4
    go_wp2_with fail
    generalize (wc.setCell ⟨S, o + 1, none⟩ (.int .i64 ((nx : Int) + 1))).setCell ⟨S, o + 2, none⟩ (.int .i64 (lf : Int)) = wd at HK ⊢
    clear b1 f1 b2 f2 HD HK1
    go_loopw [] (fun wr => Hid (∃ i, i ≤ r ∧ StkI lo S o cs ((nx : Int) + 1) lf (.slice na m nc) (l i) w wr)) (fun wr => stkLen S o wr)
    case atStart => exact ⟨0, Nat.zero_le _, HK.out⟩
    case round =>
      obtain ⟨i, hi, hI⟩ := hrel.out
      have HI := hide hI
      have HLN := hide (hI.len HOL.out)
      clear hI hrel
      by_cases hlt : i < r
      · have HS2 := hide (stk_on HI.out HOL.out (HST.out i hlt))
        have HJ2 := hide (fun (V : World) (hb : Below wr.heap.size wr V) => stk_join tr (HI.out.on hb) HLO.out HLS.out HNA.out HOL.out (HST.out i hlt) HJJ.out)
        go_wp2_with fail
        go_at_call 160
        refine HS2.out.mono ?_
        rintro e w3 ⟨rfl, hb3⟩
        have HB3 := hide hb3
        clear hb3
        go_wp2_with fail
        go_at_call 161
        refine (HJ2.out w3 HB3.out).mono ?_
        rintro e w4 ⟨rfl, h4, h5⟩
        have H4 := hide h4
        have H5 := hide h5
        clear h4 h5
        go_wp2_with fail
        go_roundw
        case rel => exact ⟨i + 1, hlt, H4.out⟩
        case measure => rw [HLN.out, H4.out.len HOL.out]; exact H5.out
      · obtain rfl : i = r := by omega
        have HS2 := hide (stk_end HI.out HOL.out HEN.out)
        go_wp2_with fail
        go_at_call 160
        refine HS2.out.mono ?_
        rintro e w3 ⟨rfl, hb3⟩
        have HB3 := hide hb3
        clear hb3
        go_wp2_with fail
        go_end0
        exact ⟨rfl, HI.out.on HB3.out⟩
end Go.Proofs.YtgaoeoijdpdjiaaGreatDoor

namespace Go.Proofs.YtgaoeoijdpdjiaaGreatDoor
open Go.RowKit
abbrev Hk : Type := Nat × Nat
/-- The nodes over t leaves from the leaf f on, none above the height h, the greatest first. -/
def binH : Nat → Nat → Nat → List Hk
  | f, t, 0 => if 1 ≤ t then [(0, f)] else []
  | f, t, k + 1 => if 2 ^ (k + 1) ≤ t then (k + 1, f / 2 ^ (k + 1)) :: binH (f + 2 ^ (k + 1)) (t - 2 ^ (k + 1)) k else binH f t k
def ndT (tv : Nat → Nat → ByteArray) (p : Hk) : Nd := (p.1, p.2, tv p.1 p.2)
def jstR : List Hk → Option (List Hk)
  | b :: a :: pre => if a.1 == b.1 && a.2 % 2 == 0 && b.2 == a.2 + 1 then some (pre.reverse ++ [(a.1 + 1, a.2 / 2)]) else none
  | _ => none
def jst (x : List Hk) : Option (List Hk) := jstR x.reverse
def jenR : List Hk → Bool
  | b :: a :: _ => a.1 != b.1
  | _ => true
def jit (x : List Hk) : Nat → List Hk
  | 0 => x
  | n + 1 => (jst (jit x n)).getD []
def fine (x : List Hk) : Bool := decide (x.length ≤ 100) && x.all (fun p => decide (p.1 ≤ 100) && decide (p.2 ≤ 100))
def okR (x y : List Hk) (r : Nat) : Bool := (List.range r).all (fun i => (jst (jit x i)).isSome) && (List.range (r + 1)).all (fun i => fine (jit x i)) && jenR (jit x r).reverse && jit x r == y
def okT (h q t : Nat) : Bool := (List.range 5).any (fun r => okR (binH (q * 2 ^ h) t h ++ [(0, q * 2 ^ h + t)]) (binH (q * 2 ^ h) (t + 1) h) r)
theorem okT_all : ((List.range 4).all fun h => (List.range 16).all fun q => (List.range 8).all fun t => !(decide ((q + 1) * 2 ^ h ≤ 16) && decide (t < 2 ^ h)) || okT h q t) = true := by kernel_rfl
theorem okT_on {h q t : Nat} (hh : h < 4) (hq : (q + 1) * 2 ^ h ≤ 16) (ht : t < 2 ^ h) : okT h q t = true := by
  have p1 : 1 ≤ 2 ^ h := Nat.one_le_two_pow
  have hq2 : q < 16 := by
    have := Nat.mul_le_mul_left (q + 1) p1
    omega
  have p2 : 2 ^ h ≤ 2 ^ 3 := Nat.pow_le_pow_right (by decide) (by omega)
  have a := List.all_eq_true.1 (List.all_eq_true.1 (List.all_eq_true.1 okT_all h (List.mem_range.2 hh)) q (List.mem_range.2 hq2)) t (List.mem_range.2 (by omega))
  have b : (decide ((q + 1) * 2 ^ h ≤ 16) && decide (t < 2 ^ h)) = true := by
    rw [decide_eq_true hq, decide_eq_true ht]; rfl
  rw [b] at a
  simpa using a
theorem fine_on {x : List Hk} (h : fine x = true) : x.length ≤ 100 ∧ ∀ p ∈ x, p.1 ≤ 100 ∧ p.2 ≤ 100 := by
  unfold fine at h
  rw [Bool.and_eq_true] at h
  refine ⟨of_decide_eq_true h.1, fun p hp => ?_⟩
  have := List.all_eq_true.1 h.2 p hp
  rw [Bool.and_eq_true] at this
  exact ⟨of_decide_eq_true this.1, of_decide_eq_true this.2⟩
theorem jst_step {tv : Nat → Nat → ByteArray} {jn : Nat → Nat → ByteArray → ByteArray → ByteArray} (hT : ∀ h k, jn (h + 1) k (tv h (2 * k)) (tv h (2 * k + 1)) = tv (h + 1) k) (hs : ∀ h k, (tv h k).size ≤ 16) {x y : List Hk} (h : jst x = some y) (hf : fine x = true) : JStep jn (x.map (ndT tv)) (y.map (ndT tv)) := by
  obtain ⟨f1, f2⟩ := fine_on hf
  unfold jst at h
  match hx : x.reverse with
  | [] => rw [hx] at h; cases h
  | [_] => rw [hx] at h; cases h
  | b :: a :: pre =>
    rw [hx] at h
    simp only [jstR] at h
    have ex : x = pre.reverse ++ [a, b] := by rw [← List.reverse_reverse x, hx]; simp
    by_cases hc : (a.1 == b.1 && a.2 % 2 == 0 && b.2 == a.2 + 1) = true
    · rw [if_pos hc] at h
      simp only [Bool.and_eq_true, beq_iff_eq] at hc
      obtain ⟨⟨c1, c2⟩, c3⟩ := hc
      have ey : y = pre.reverse ++ [(a.1 + 1, a.2 / 2)] := (Option.some.inj h).symm
      have ma : a ∈ x := by rw [ex]; simp
      have hl : x.length = pre.length + 2 := by rw [ex]; simp
      refine ⟨pre.reverse.map (ndT tv), ndT tv a, ndT tv b, by rw [ex]; simp, c1, by simp; omega, (f2 a ma).1, (f2 a ma).2, hs _ _, hs _ _, ?_⟩
      rw [ey, List.map_append]
      have e1 : jn (a.1 + 1) (a.2 / 2) (tv a.1 a.2) (tv b.1 b.2) = tv (a.1 + 1) (a.2 / 2) := by
        have := hT a.1 (a.2 / 2)
        rw [show 2 * (a.2 / 2) = a.2 by omega, ← c3] at this
        rw [← c1]
        exact this
      show _ ++ [ndT tv (a.1 + 1, a.2 / 2)] = _
      simp only [ndT]
      rw [e1]
    · rw [if_neg hc] at h
      cases h
theorem jen_end {tv : Nat → Nat → ByteArray} {x : List Hk} (h : jenR x.reverse = true) (hf : fine x = true) : JEnd (x.map (ndT tv)) := by
  obtain ⟨f1, -⟩ := fine_on hf
  match hx : x.reverse with
  | [] => left; have : x.length = 0 := by rw [← List.length_reverse, hx]; rfl
          simp [this]
  | [_] => left; have : x.length = 1 := by rw [← List.length_reverse, hx]; rfl
           simp [this]
  | b :: a :: pre =>
    rw [hx] at h
    have ex : x = pre.reverse ++ [a, b] := by rw [← List.reverse_reverse x, hx]; simp
    have hl : x.length = pre.length + 2 := by rw [ex]; simp
    refine .inr ⟨pre.reverse.map (ndT tv), ndT tv a, ndT tv b, by rw [ex]; simp, by simp; omega, ?_⟩
    simpa [jenR, ndT] using h
/-- One more leaf is taken. -/
theorem sk_take {tv : Nat → Nat → ByteArray} {jn : Nat → Nat → ByteArray → ByteArray → ByteArray} (hT : ∀ h k, jn (h + 1) k (tv h (2 * k)) (tv h (2 * k + 1)) = tv (h + 1) k) (hs : ∀ h k, (tv h k).size ≤ 16) {h q t : Nat} (hh : h < 4) (hq : (q + 1) * 2 ^ h ≤ 16) (ht : t < 2 ^ h) :
    ∃ (r : Nat) (l : Nat → List Nd), l 0 = (binH (q * 2 ^ h) t h).map (ndT tv) ++ [(0, q * 2 ^ h + t, tv 0 (q * 2 ^ h + t))] ∧ (∀ i, i < r → JStep jn (l i) (l (i + 1))) ∧ JEnd (l r) ∧ l r = (binH (q * 2 ^ h) (t + 1) h).map (ndT tv) := by
  have a := okT_on hh hq ht
  unfold okT at a
  obtain ⟨r, -, hr⟩ := List.any_eq_true.1 a
  unfold okR at hr
  simp only [Bool.and_eq_true] at hr
  obtain ⟨⟨⟨r1, r2⟩, r3⟩, r4⟩ := hr
  refine ⟨r, fun i => (jit (binH (q * 2 ^ h) t h ++ [(0, q * 2 ^ h + t)]) i).map (ndT tv), by simp [jit, ndT], fun i hi => ?_, jen_end r3 (List.all_eq_true.1 r2 r (List.mem_range.2 (by omega))), congrArg (List.map (ndT tv)) (beq_iff_eq.1 r4)⟩
  have s1 := List.all_eq_true.1 r1 i (List.mem_range.2 hi)
  obtain ⟨y, hy⟩ := Option.isSome_iff_exists.1 s1
  have e2 : jit (binH (q * 2 ^ h) t h ++ [(0, q * 2 ^ h + t)]) (i + 1) = y := by show (jst _).getD [] = y; rw [hy]; rfl
  show JStep jn _ ((jit _ (i + 1)).map _)
  rw [e2]
  exact jst_step hT hs hy (List.all_eq_true.1 r2 i (List.mem_range.2 (by omega)))
theorem binH_len_all : ((List.range 4).all fun h => (List.range 16).all fun q => (List.range 9).all fun t => !(decide ((q + 1) * 2 ^ h ≤ 16) && decide (t ≤ 2 ^ h)) || decide ((binH (q * 2 ^ h) t h).length ≤ 4)) = true := by kernel_rfl
theorem binH_len {h q t : Nat} (hh : h < 4) (hq : (q + 1) * 2 ^ h ≤ 16) (ht : t ≤ 2 ^ h) : (binH (q * 2 ^ h) t h).length ≤ 4 := by
  have p1 : 1 ≤ 2 ^ h := Nat.one_le_two_pow
  have hq2 : q < 16 := by
    have := Nat.mul_le_mul_left (q + 1) p1
    omega
  have p2 : 2 ^ h ≤ 2 ^ 3 := Nat.pow_le_pow_right (by decide) (by omega)
  have a := List.all_eq_true.1 (List.all_eq_true.1 (List.all_eq_true.1 binH_len_all h (List.mem_range.2 hh)) q (List.mem_range.2 hq2)) t (List.mem_range.2 (by omega))
  have b : (decide ((q + 1) * 2 ^ h ≤ 16) && decide (t ≤ 2 ^ h)) = true := by
    rw [decide_eq_true hq, decide_eq_true ht]; rfl
  rw [b] at a
  simpa using a
theorem binH_none (f h : Nat) : binH f 0 h = [] := by
  induction h with
  | zero => rfl
  | succ k ih => unfold binH; rw [if_neg (by have : 1 ≤ 2 ^ (k + 1) := Nat.one_le_two_pow; omega)]; exact ih
theorem binH_whole (q h : Nat) : binH (q * 2 ^ h) (2 ^ h) h = [(h, q)] := by
  cases h with
  | zero => simp [binH]
  | succ k =>
    unfold binH
    rw [if_pos (Nat.le_refl _), Nat.sub_self, binH_none, Nat.mul_div_cancel _ (Nat.two_pow_pos _)]
end Go.Proofs.YtgaoeoijdpdjiaaGreatDoor

namespace Go.Proofs.YtgaoeoijdpdjiaaGreatDoor
open Go.RowKit
theorem begun_any (a b : Int) (w : World) : Calls Tryz.prog 151 #[.int .i64 a, .int .i64 b] w fun e w' => e = .returned (.agg #[.slice none 0 0, .int .i64 a, .int .i64 b]) ∧ Below w.heap.size w w' := by
  go_enter Tryz.func151, Tryz.ntmps151
  go_wp2_with fail
  refine bodyPost_ret (v := .agg #[.slice none 0 0, .int .i64 a, .int .i64 b]) (by simp [results, Tryz.results151, go_sem]) rfl ⟨rfl, ?_⟩
  exact (Below.refl _ _).alloc (Nat.le_refl _) _
theorem exec_shl {ev : Operand → Value} {x y : Operand} {d : Option Nat} {ty : TypeId} {ps : String} {af : Array Edge} {g : Option (Nat × Bool)} {a r : Int} {h : Nat} {V : World} (hx : ev x = .int .i64 a) (hy : ev y = .int .i64 (h : Int)) (hh : h ≤ 64) (hw : IntKind.i64.wrap (a * 2 ^ h) = r) :
    (execOp ev { dst := d, op := Op.binOp BinOp.shl 3 x y 3, type := ty, pos := ps, after := af, guard := g }).run Tryz.prog V = .ok (.value (.int .i64 r)) V := by
  have s1 := shift_shl .i64 .i64 a (h : Int) (by omega) (by show (h : Int) ≤ 64; omega)
  simp only [Int.toNat_natCast, hw] at s1
  go_simp
theorem pow_small {h q : Nat} (hh : h < 4) (hq : (q + 1) * 2 ^ h ≤ 16) : IntKind.i64.wrap ((1 : Int) * 2 ^ h) = ((2 ^ h : Nat) : Int) ∧ IntKind.i64.wrap ((q : Int) * 2 ^ h) = ((q * 2 ^ h : Nat) : Int) ∧ 1 ≤ 2 ^ h ∧ 2 ^ h ≤ 8 ∧ q * 2 ^ h + 2 ^ h ≤ 16 := by
  have p2 : 2 ^ h ≤ 2 ^ 3 := Nat.pow_le_pow_right (by decide) (by omega)
  have p1 : 1 ≤ 2 ^ h := Nat.one_le_two_pow
  have e1 : ((2 : Int) ^ h) = ((2 ^ h : Nat) : Int) := by simp
  have e2 : q * 2 ^ h + 2 ^ h ≤ 16 := by rw [Nat.add_mul, Nat.one_mul] at hq; exact hq
  have e3 : (q : Int) * ((2 ^ h : Nat) : Int) = ((q * 2 ^ h : Nat) : Int) := by simp
  rw [e1, e3]
  refine ⟨?_, ?_, p1, by omega, e2⟩
  · generalize 2 ^ h = z at *
    rw [IntKind.wrap_i64] <;> omega
  · generalize q * 2 ^ h = y at *
    rw [IntKind.wrap_i64] <;> omega
def leftAt (S : Nat) (w : World) : Nat := match w.cell? ⟨S, 2, none⟩ with | some (.int _ n) => n.toNat | _ => 0
set_option maxRecDepth 20000 in
set_option maxHeartbeats 8000000 in
theorem whole_on (W : Nat) (ws : List Value) (tr : Value) (h q : Nat) (tv : Nat → Nat → ByteArray) (jn : Nat → Nat → ByteArray → ByteArray → ByteArray) (w : World) (hW : Blk w W ws 134)
    (h0 : ws[0]? = some (.func (.func 39) #[tr] #[])) (h1 : ws[1]? = some (.func (.func 40) #[tr] #[])) (hh : h < 4) (hq : (q + 1) * 2 ^ h ≤ 16) (hT : Tn w)
    (hjn : ∀ h k, jn (h + 1) k (tv h (2 * k)) (tv h (2 * k + 1)) = tv (h + 1) k) (hs : ∀ h k, (tv h k).size ≤ 16)
    (hL : ∀ (k : Nat) (V : World), k < 16 → Tn V → Calls Tryz.prog 39 #[tr, .int .i64 (k : Int)] V fun e w' => e = .returned (.string (tv 0 k)) ∧ Below V.heap.size V w')
    (hJ : ∀ (h k : Nat) (a b : ByteArray) (V : World), a.size ≤ 16 → b.size ≤ 16 → Tn V → Calls Tryz.prog 40 #[tr, .int .i64 (h : Int), .int .i64 (k : Int), .string a, .string b] V fun e w' => e = .returned (.string (jn h k a b)) ∧ Below V.heap.size V w') :
    Calls Tryz.prog 72 #[.pointer (some ⟨W, 0, none⟩), .int .i64 (h : Int), .int .i64 (q : Int)] w fun e w' => e = .returned (.agg #[.int .i64 (h : Int), .int .i64 (q : Int), .string (tv h q)]) ∧ Below w.heap.size w w' := by
  obtain ⟨s1, s2, s3, s4, s5⟩ := pow_small hh hq
  have SH1 := hide s1
  have SH2 := hide s2
  have HP := hide (And.intro s3 (And.intro s4 s5))
  have HH := hide (show h ≤ 64 by omega)
  have HB := hide (fun (a b : Int) (V : World) => begun_any a b V)
  have HW0 := hide hW
  have HC0 := hide h0
  have HC1 := hide h1
  have HTN := hide hT
  have htr := hT.pos
  have HTK := hide (fun (t : Nat) (ht : t < 2 ^ h) => sk_take hjn hs hh hq ht)
  have HTL := hide (fun (t : Nat) (ht : t ≤ 2 ^ h) => binH_len hh hq ht)
  have HLF := hide hL
  have HJF := hide hJ
  obtain ⟨w1, e1⟩ : ∃ W1, w.alloc (.cells #[.int .i64 0, .int .i64 0, .string ⟨#[]⟩] 100) = W1 := ⟨_, rfl⟩
  obtain ⟨R, e2⟩ : ∃ X, w.heap.size = X := ⟨_, rfl⟩
  have HR := hide (show Blk w1 R [.int .i64 0, .int .i64 0, .string ⟨#[]⟩] 100 by rw [← e1, ← e2]; exact Blk.new w _ _)
  have HW1 := hide (show Below R w w1 by rw [← e1, ← e2]; exact (Below.refl _ _).alloc (Nat.le_refl _) _)
  have HRL := hide (show w1.heap.size = R + 1 by rw [← e1, World.size_alloc, e2])
  have HWK := hide (show Blk w1 W ws 134 by rw [← e1]; exact hW.alloc _)
  have HTR := hide (show 0 < R by rw [← e2]; exact htr)
  clear htr
  rw [e2]
  go_enter Tryz.func72, Tryz.ntmps72
  clear hW h0 h1 hT hjn hs hL hJ s1 s2 s3 s4 s5
  go_upto_region 1 with fail
  (try rw [e1])
  (try rw [e2])
  clear e1 e2 hh hq
  go_cut [7] from 8 to 13 (fun x7 wx => ∃ S, x7 = .pointer (some ⟨S, 0, none⟩) ∧ Hid (Blk wx S [.slice none 0 0, .int .i64 ((q * 2 ^ h : Nat) : Int), .int .i64 ((2 ^ h : Nat) : Int)] 137 ∧ Below w1.heap.size w1 wx ∧ w1.heap.size ≤ S))
  case first =>
    refine wp_region_held_drew (S := fun _ => True) (by kernel_rfl) trivial (fun hHeld => ?_)
    have HB0 := hide ((Below.refl w1.heap.size w1).drew)
    generalize World.drew w1 = V2 at HB0 hHeld ⊢
    refine tk 0 hHeld (h := ?_)
    refine tk 1 hHeld (h := ?_)
    refine tk 2 hHeld (hy := fun V hSV => exec_shl rfl rfl HH.out SH2.out) (h := ?_)
    refine tk 3 hHeld (h := ?_)
    refine tk 4 hHeld (hy := fun V hSV => exec_shl rfl rfl HH.out SH1.out) (h := ?_)
    refine wpAnyH_ready (rs := [5, 6]) (by kernel_rfl) (by simp) ?_
    refine (AllReadyH.cons (o := ?o1) ?h1 (fun K hK => ?s1) (AllReadyH.cons (o := ?o2) ?h2 (fun K hK => ?s2) AllReadyH.nil))
    case h1 => (simp only [List.getElem?_toArray, List.getElem?_cons_succ, List.getElem?_cons_zero]; rfl)
    case h2 => (simp only [List.getElem?_toArray, List.getElem?_cons_succ, List.getElem?_cons_zero]; rfl)
    case s1 =>
      go_simp
      go_at_call 151
      refine (HB.out _ _ V2).mono ?_
      rintro e w3 ⟨rfl, hb3⟩
      have HB3 := hide (HB0.out.trans (hb3.mono HB0.out.size))
      have HY3 := hide hb3
      clear hb3
      try go_wp2_with fail
      refine hK.out _ _ trivial (fun hHeld => ?_)
      clear hK K
      try simp only [Act.put, List.setIfInBounds_toArray, List.set_cons_zero, List.set_cons_succ]
      refine wpAnyH_ready (rs := [6]) (by kernel_rfl) (by simp) ?_
      refine (AllReadyH.cons (o := ?o4) ?h4 (fun K hK => ?s4) AllReadyH.nil)
      case h4 => (simp only [List.getElem?_toArray, List.getElem?_cons_succ, List.getElem?_cons_zero]; rfl)
      case s4 =>
        go_simp
        obtain ⟨S, hS⟩ : ∃ X, w3.heap.size = X := ⟨_, rfl⟩
        obtain ⟨U5, hU⟩ : ∃ Wk, w3.alloc (.cells #[.slice none 0 0, .int .i64 0, .int .i64 0] 137) = Wk := ⟨_, rfl⟩
        have HB5 := hide (show Below w1.heap.size w1 U5 by rw [← hU]; exact HB3.out.alloc HB3.out.size _)
        have HS5 := hide (show Blk U5 S [.slice none 0 0, .int .i64 0, .int .i64 0] 137 by rw [← hU, ← hS]; exact Blk.new w3 _ _)
        have HLS := hide (show w1.heap.size ≤ S by have := HB3.out.size; omega)
        rw [hU, hS]
        clear hU hS
        refine hK.out _ _ trivial (fun hHeld => ?_)
        clear hK K
        try simp only [Act.put, List.setIfInBounds_toArray, List.set_cons_zero, List.set_cons_succ]
        refine wpAnyH_ready (rs := [7]) (by kernel_rfl) (by simp) ?_
        refine (AllReadyH.cons (o := ?o6) ?h6 (fun K hK => ?s6) AllReadyH.nil)
        case h6 => (simp only [List.getElem?_toArray, List.getElem?_cons_succ, List.getElem?_cons_zero]; rfl)
        case s6 =>
          have q0 : U5.cell? ⟨S, 0, none⟩ = some (.slice none 0 0) := HS5.out.cell 0
          have f0 := HS5.out.free 0
          have q1 : U5.cell? ⟨S, 1, none⟩ = some (.int .i64 0) := HS5.out.cell 1
          have f1 := HS5.out.free 1
          have q2 : U5.cell? ⟨S, 2, none⟩ = some (.int .i64 0) := HS5.out.cell 2
          have f2 := HS5.out.free 2
          go_simp
          clear q0 q1 q2 f0 f1 f2
          refine hK.out _ _ trivial (fun hHeld => ?_)
          clear hK K
          try simp only [Act.put, List.setIfInBounds_toArray, List.set_cons_zero, List.set_cons_succ]
          refine wpAnyH_done (by kernel_rfl) ?_ _
          clear hHeld
          go_wp2_with fail
          go_meet
          exact ⟨S, rfl, ((HS5.out.set 0 _).set 1 _).set 2 _, ((HB5.out.setCell (p := ⟨S, 0, none⟩) HLS.out _).setCell (p := ⟨S, 1, none⟩) HLS.out _).setCell (p := ⟨S, 2, none⟩) HLS.out _, HLS.out⟩
    case s2 =>
      go_simp
      obtain ⟨S, hS⟩ : ∃ X, V2.heap.size = X := ⟨_, rfl⟩
      obtain ⟨U7, hU⟩ : ∃ Wk, V2.alloc (.cells #[.slice none 0 0, .int .i64 0, .int .i64 0] 137) = Wk := ⟨_, rfl⟩
      have HB7 := hide (show Below w1.heap.size w1 U7 by rw [← hU]; exact HB0.out.alloc HB0.out.size _)
      have HS7 := hide (show Blk U7 S [.slice none 0 0, .int .i64 0, .int .i64 0] 137 by rw [← hU, ← hS]; exact Blk.new V2 _ _)
      have HLS := hide (show w1.heap.size ≤ S by have := HB0.out.size; omega)
      rw [hU, hS]
      clear hU hS
      refine hK.out _ _ trivial (fun hHeld => ?_)
      clear hK K
      try simp only [Act.put, List.setIfInBounds_toArray, List.set_cons_zero, List.set_cons_succ]
      refine wpAnyH_ready (rs := [5]) (by kernel_rfl) (by simp) ?_
      refine (AllReadyH.cons (o := ?o8) ?h8 (fun K hK => ?s8) AllReadyH.nil)
      case h8 => (simp only [List.getElem?_toArray, List.getElem?_cons_succ, List.getElem?_cons_zero]; rfl)
      case s8 =>
        go_simp
        go_at_call 151
        refine (HB.out _ _ U7).mono ?_
        rintro e w9 ⟨rfl, hb9⟩
        have HB9 := hide (HB7.out.trans (hb9.mono HB7.out.size))
        have HY9 := hide hb9
        clear hb9
        try go_wp2_with fail
        refine hK.out _ _ trivial (fun hHeld => ?_)
        clear hK K
        try simp only [Act.put, List.setIfInBounds_toArray, List.set_cons_zero, List.set_cons_succ]
        have HS10 := hide (blkY HS7.out (Kept.of_below (F := fun _ => False) HY9.out) (fun e => e))
        refine wpAnyH_ready (rs := [7]) (by kernel_rfl) (by simp) ?_
        refine (AllReadyH.cons (o := ?o11) ?h11 (fun K hK => ?s11) AllReadyH.nil)
        case h11 => (simp only [List.getElem?_toArray, List.getElem?_cons_succ, List.getElem?_cons_zero]; rfl)
        case s11 =>
          have q0 : w9.cell? ⟨S, 0, none⟩ = some (.slice none 0 0) := HS10.out.cell 0
          have f0 := HS10.out.free 0
          have q1 : w9.cell? ⟨S, 1, none⟩ = some (.int .i64 0) := HS10.out.cell 1
          have f1 := HS10.out.free 1
          have q2 : w9.cell? ⟨S, 2, none⟩ = some (.int .i64 0) := HS10.out.cell 2
          have f2 := HS10.out.free 2
          go_simp
          clear q0 q1 q2 f0 f1 f2
          refine hK.out _ _ trivial (fun hHeld => ?_)
          clear hK K
          try simp only [Act.put, List.setIfInBounds_toArray, List.set_cons_zero, List.set_cons_succ]
          refine wpAnyH_done (by kernel_rfl) ?_ _
          clear hHeld
          go_wp2_with fail
          go_meet
          exact ⟨S, rfl, ((HS10.out.set 0 _).set 1 _).set 2 _, ((HB9.out.setCell (p := ⟨S, 0, none⟩) HLS.out _).setCell (p := ⟨S, 1, none⟩) HLS.out _).setCell (p := ⟨S, 2, none⟩) HLS.out _, HLS.out⟩
  case rest =>
    obtain ⟨S, rfl, HC⟩ := hcut
    have HLS := hide HC.out.2.2
    go_wp2_with fail
    go_loopw [] (fun wr => Hid (∃ t, t ≤ 2 ^ h ∧ ∃ na nc, Blk wr S [.slice na ((binH (q * 2 ^ h) t h).map (ndT tv)).length nc, .int .i64 ((q * 2 ^ h + t : Nat) : Int), .int .i64 ((2 ^ h - t : Nat) : Int)] 137 ∧ wr.ownsRow w1.heap.size 100 3 (.slice na ((binH (q * 2 ^ h) t h).map (ndT tv)).length nc) ((binH (q * 2 ^ h) t h).map (ndT tv)).length (nodC ((binH (q * 2 ^ h) t h).map (ndT tv))) ∧ Below w1.heap.size w1 wr)) (fun wr => leftAt S wr)
    case atStart =>
      refine ⟨0, Nat.zero_le _, none, 0, ?_, ?_, HC.out.2.1⟩
      · rw [binH_none]; exact HC.out.1
      · rw [binH_none]; exact ⟨rfl, .inl ⟨rfl, rfl⟩⟩
    case round =>
      obtain ⟨t, ht, na, nc, hB, hO, hBl⟩ := hrel.out
      have HBX := hide hB
      have HOX := hide hO
      have HBL := hide hBl
      clear hrel hO hBl
      have HTW := hide ((HTN.out.below HW1.out HTR.out).on HBL.out)
      have HLV := hide (show leftAt S wr = 2 ^ h - t by unfold leftAt; rw [show wr.cell? ⟨S, 2, none⟩ = some (.int .i64 ((2 ^ h - t : Nat) : Int)) from hB.cell 2]; rfl)
      by_cases hlt : t < 2 ^ h
      · have hp : (0 : Int) < ((2 ^ h - t : Nat) : Int) := by omega
        have c2 : wr.cell? ⟨S, 2, none⟩ = some (.int .i64 ((2 ^ h - t : Nat) : Int)) := hB.cell 2
        have HSS := hide (fun (V : World) (hb : Below wr.heap.size wr V) => show V.cell? ⟨W, 0, none⟩ = some (.func (.func 39) #[tr] #[]) ∧ V.cell? ⟨W, 1, none⟩ = some (.func (.func 40) #[tr] #[]) from ⟨(hb.cell (p := ⟨W, 0, none⟩) (Nat.lt_of_lt_of_le HWK.out.lt HBL.out.size)).trans ((HBL.out.cell (p := ⟨W, 0, none⟩) HWK.out.lt).trans ((HWK.out.cell 0).trans HC0.out)), (hb.cell (p := ⟨W, 1, none⟩) (Nat.lt_of_lt_of_le HWK.out.lt HBL.out.size)).trans ((HBL.out.cell (p := ⟨W, 1, none⟩) HWK.out.lt).trans ((HWK.out.cell 1).trans HC1.out))⟩)
        obtain ⟨r, l, l0, l1, l2, l3⟩ := HTK.out t hlt
        obtain ⟨lf, hlf⟩ : ∃ lf, 2 ^ h - t = lf + 1 := ⟨2 ^ h - t - 1, by omega⟩
        have HTA := hide (fun (V : World) (hb : Below wr.heap.size wr V) => take_on w1.heap.size S 0 [.slice na ((binH (q * 2 ^ h) t h).map (ndT tv)).length nc, .int .i64 ((q * 2 ^ h + t : Nat) : Int), .int .i64 ((2 ^ h - t : Nat) : Int)] na nc ((binH (q * 2 ^ h) t h).map (ndT tv)) (q * 2 ^ h + t) lf tr (tv 0 (q * 2 ^ h + t)) jn r l V (blkY HBX.out (Kept.of_below (F := fun _ => False) hb) (fun e => e)) rfl rfl (by rw [← hlf]; rfl) (owns_kept HOX.out (Kept.of_below (F := fun _ => False) hb) (fun _ _ e => e)) (by rw [List.length_map]; have := HTL.out t ht; omega) (by have := HP.out; omega) (by have := HP.out; omega) (Nat.le_trans HBL.out.size hb.size) HLS.out (HTW.out.on hb) (Nat.lt_of_lt_of_le HTR.out (by have := HRL.out; omega)) l0 l1 l2 (fun V2 hV2 => HLF.out _ V2 (by have := HP.out; omega) hV2) (fun a b c d V2 e1 e2 hV2 => HJF.out a b c d V2 e1 e2 hV2))
        have HL3 := hide l3
        have HLE := hide hlf
        have HLT := hide hlt
        clear hB l0 l1 l2 l3 hlf hlt ht
        go_wp2_with fail
        clear hp c2
        refine wp_region_held_drew (S := fun V => V.cell? ⟨W, 0, none⟩ = some (.func (.func 39) #[tr] #[]) ∧ V.cell? ⟨W, 1, none⟩ = some (.func (.func 40) #[tr] #[])) (by kernel_rfl) (HSS.out _ (Below.refl wr.heap.size wr).drew) (fun hHeld => ?_)
        have HB0 := hide ((Below.refl wr.heap.size wr).drew)
        generalize World.drew wr = V2 at HB0 hHeld ⊢
        refine tk 0 hHeld (h := ?_)
        refine tk 1 hHeld (h := ?_)
        refine tk 2 hHeld (h := ?_)
        refine tk 3 hHeld (h := ?_)
        refine tk 4 hHeld (h := ?_)
        refine tk 5 hHeld (h := ?_)
        refine tk 6 hHeld (h := ?_)
        refine tk 7 hHeld (h := ?_)
        refine wpAnyH_ready (rs := [8]) (by kernel_rfl) (by simp) ?_
        refine AllReadyH.cons (o := ?o90) ?h90 (fun K hK => ?s90) AllReadyH.nil
        case h90 => (simp only [List.getElem?_toArray, List.getElem?_cons_succ, List.getElem?_cons_zero]; rfl)
        go_simp
        go_at_call 85
        refine (HTA.out V2 HB0.out).mono ?_
        rintro e w5 ⟨rfl, hI⟩
        have HI := hide hI
        have HB5 := hide (show Below w1.heap.size w1 w5 from HBL.out.trans ((HB0.out.mono HBL.out.size).trans (hI.below HLS.out (fun q hq => (owns_loY HOX.out q hq).1) (Nat.le_trans HBL.out.size HB0.out.size))))
        have HS5 := hide (show w5.cell? ⟨W, 0, none⟩ = some (.func (.func 39) #[tr] #[]) ∧ w5.cell? ⟨W, 1, none⟩ = some (.func (.func 40) #[tr] #[]) by
          exact ⟨(HB5.out.cell (p := ⟨W, 0, none⟩) HWK.out.lt).trans ((HWK.out.cell 0).trans HC0.out), (HB5.out.cell (p := ⟨W, 1, none⟩) HWK.out.lt).trans ((HWK.out.cell 1).trans HC1.out)⟩)
        clear hI
        (try go_wp2_with fail)
        refine hK.out _ _ HS5.out (fun hHeld => ?_)
        clear hK K
        try simp only [Act.put, List.setIfInBounds_toArray, List.set_cons_zero, List.set_cons_succ]
        refine wpAnyH_done (by kernel_rfl) ?_ _
        clear hHeld
        go_wp2_with fail
        go_roundw
        case rel =>
          obtain ⟨na2, nc2, j1, j2, -, -⟩ := HI.out
          rw [HL3.out] at j1 j2
          have e1 : 2 ^ h - (t + 1) = lf := by have := HLE.out; omega
          refine ⟨t + 1, HLT.out, na2, nc2, ?_, j2, HB5.out⟩
          rw [e1]
          exact j1
        case measure =>
          obtain ⟨na2, nc2, j1, -, -, -⟩ := HI.out
          rw [HLV.out, HLE.out]
          unfold leftAt
          rw [show w5.cell? ⟨S, 2, none⟩ = some (.int .i64 (lf : Int)) from j1.cell 2]
          show (lf : Int).toNat < lf + 1
          omega
      · obtain rfl : t = 2 ^ h := by omega
        have hp : ¬ (0 : Int) < ((2 ^ h - 2 ^ h : Nat) : Int) := by omega
        have c2 : wr.cell? ⟨S, 2, none⟩ = some (.int .i64 ((2 ^ h - 2 ^ h : Nat) : Int)) := hB.cell 2
        have c0 : wr.cell? ⟨S, 0, none⟩ = some (.slice na ((binH (q * 2 ^ h) (2 ^ h) h).map (ndT tv)).length nc) := hB.cell 0
        have ho := HOX.out
        rw [binH_whole] at c0 ho
        change wr.cell? _ = some (.slice na 1 nc) at c0
        change wr.ownsRow _ _ 3 (.slice na 1 nc) 1 [.int .i64 (h : Int), .int .i64 (q : Int), .string (tv h q)] at ho
        obtain ⟨g, cap, hgv, hg1, hg2⟩ := ho.form (by omega)
        simp only [Value.slice.injEq] at hgv
        obtain ⟨rfl, _, rfl⟩ := hgv
        have y0 : wr.cell? ⟨g, 0, none⟩ = some (.int .i64 (h : Int)) := ho.cellAt 0 (by omega)
        have y1 : wr.cell? ⟨g, 1, none⟩ = some (.int .i64 (q : Int)) := ho.cellAt 1 (by omega)
        have y2 : wr.cell? ⟨g, 2, none⟩ = some (.string (tv h q)) := ho.cellAt 2 (by omega)
        have HRB := hide (blkY HR.out (Kept.of_below (F := fun _ => False) HBL.out) (fun e => e))
        have r0 : wr.cell? ⟨R, 0, none⟩ = some (.int .i64 0) := HRB.out.cell 0
        have r1 : wr.cell? ⟨R, 1, none⟩ = some (.int .i64 0) := HRB.out.cell 1
        have r2 : wr.cell? ⟨R, 2, none⟩ = some (.string ⟨#[]⟩) := HRB.out.cell 2
        have f0 := HRB.out.free 0
        have f1 := HRB.out.free 1
        have f2 := HRB.out.free 2
        have HF := hide (show Blk (((wr.setCell ⟨R, 0, none⟩ (.int .i64 (h : Int))).setCell ⟨R, 1, none⟩ (.int .i64 (q : Int))).setCell ⟨R, 2, none⟩ (.string (tv h q))) R [.int .i64 (h : Int), .int .i64 (q : Int), .string (tv h q)] 100 from ((HRB.out.set 0 _).set 1 _).set 2 _)
        have HFB := hide (show Below R w (((wr.setCell ⟨R, 0, none⟩ (.int .i64 (h : Int))).setCell ⟨R, 1, none⟩ (.int .i64 (q : Int))).setCell ⟨R, 2, none⟩ (.string (tv h q))) from (((HW1.out.trans (HBL.out.mono (by have := HRL.out; omega))).setCell (p := ⟨R, 0, none⟩) (Nat.le_refl _) _).setCell (p := ⟨R, 1, none⟩) (Nat.le_refl _) _).setCell (p := ⟨R, 2, none⟩) (Nat.le_refl _) _)
        have z0 := HF.out.cell 0
        have z1 := HF.out.cell 1
        have z2 := HF.out.cell 2
        clear hB ho hlt ht
        go_wp2_with fail
        refine bodyPost_ret (v := .agg #[.int .i64 (h : Int), .int .i64 (q : Int), .string (tv h q)]) (by simp [results, Tryz.results72, go_sem, z0, z1, z2]) rfl ⟨rfl, ?_⟩
        exact HFB.out
end Go.Proofs.YtgaoeoijdpdjiaaGreatDoor

namespace Go.Proofs.YtgaoeoijdpdjiaaGreatDoor
open Go.RowKit
structure StkR where
  na : Option Addr
  nc : Nat
  ns : List Nd
  nx : Int
  lf : Int
def StkR.v (K : StkR) : Value := .slice K.na K.ns.length K.nc
def StkR.cells (K : StkR) : List Value := [K.v, .int .i64 K.nx, .int .i64 K.lf]
structure Wk where
  W : Nat
  lf : Value
  jf : Value
  lv : Int
  at' : Int
  pv : Value
  sv : Value
  ps : List ByteArray
  Ks : List StkR
def Wk.foot (k : Wk) (q : Nat) : Prop := q = k.W ∨ k.pv.ownBlock = some q ∨ k.sv.ownBlock = some q ∨ ∃ K ∈ k.Ks, K.v.ownBlock = some q
def Wk.obj (k : Wk) : List Value := [k.lf, k.jf, .int .i64 k.lv, .int .i64 k.at', k.pv, k.sv]
structure Wk.In (lo : Nat) (k : Wk) (w : World) : Prop where
  obj : Blk w k.W k.obj 134
  path : w.ownsRow lo 9 1 k.pv k.ps.length (k.ps.map .string)
  stks : w.ownsRow lo 137 3 k.sv k.Ks.length (k.Ks.flatMap StkR.cells)
  rows : ∀ K ∈ k.Ks, w.ownsRow lo 100 3 K.v K.ns.length (nodC K.ns)
  apart : k.Ks.Pairwise (fun A B => ∀ q, A.v.ownBlock = some q → B.v.ownBlock ≠ some q)
  low : lo ≤ k.W
theorem Wk.In.foot_lt {lo : Nat} {k : Wk} {w : World} (h : k.In lo w) : ∀ q, k.foot q → lo ≤ q ∧ q < w.heap.size := by
  intro q hq
  rcases hq with rfl | e | e | ⟨K, hK, e⟩
  · exact ⟨h.low, h.obj.lt⟩
  · exact owns_loY h.path q e
  · exact owns_loY h.stks q e
  · exact owns_loY (h.rows K hK) q e
theorem Wk.In.kept {lo : Nat} {k : Wk} {F : Nat → Prop} {w w' : World} (h : k.In lo w) (hk : Kept F w w') (hn : ∀ q, k.foot q → ¬ F q) : k.In lo w' where
  obj := blkY h.obj hk (hn _ (.inl rfl))
  path := owns_kept h.path hk (fun q e => hn q (.inr (.inl e)))
  stks := owns_kept h.stks hk (fun q e => hn q (.inr (.inr (.inl e))))
  rows := fun K hK => owns_kept (h.rows K hK) hk (fun q e => hn q (.inr (.inr (.inr ⟨K, hK, e⟩))))
  apart := h.apart
  low := h.low
theorem Wk.In.on {lo : Nat} {k : Wk} {w w' : World} (h : k.In lo w) (hb : Below w.heap.size w w') : k.In lo w' := h.kept (Kept.of_below (F := fun _ => False) hb) (fun _ _ e => e)
theorem stkR_len (Ks : List StkR) : (Ks.flatMap StkR.cells).length = Ks.length * 3 := flat_length StkR.cells 3 Ks (fun _ _ => rfl)
theorem stkR_get {Ks : List StkR} {h : Nat} {K : StkR} (hK : Ks[h]? = some K) (i : Nat) (hi : i < 3) : (Ks.flatMap StkR.cells)[h * 3 + i]? = K.cells[i]? := flat_get StkR.cells 3 Ks h K i (fun _ _ => rfl) hK hi
theorem stkR_set {Ks : List StkR} {h : Nat} {K K2 : StkR} (hK : Ks[h]? = some K) : (Ks.set h K2).flatMap StkR.cells = stkC (Ks.flatMap StkR.cells) (h * 3) K2.v K2.nx K2.lf := by
  induction Ks generalizing h with
  | nil => cases hK
  | cons A Ks ih =>
    cases h with
    | zero => rfl
    | succ h =>
      have e := ih (h := h) hK
      have e3 : (h + 1) * 3 = h * 3 + 3 := by omega
      rw [List.set_cons_succ, List.flatMap_cons, e, List.flatMap_cons, e3]
      rfl
theorem stkC_take {cur : List Value} {n o : Nat} (nv : Value) (nx lf : Int) : (stkC cur o nv nx lf).take n = stkC (cur.take n) o nv nx lf := by
  unfold stkC
  rw [List.take_set, List.take_set, List.take_set]
/-- The stacks' block. -/
theorem Wk.In.block {lo : Nat} {k : Wk} {w : World} (h : k.In lo w) {i : Nat} {K : StkR} (hK : k.Ks[i]? = some K) :
    ∃ S c cur, k.sv = .slice (some ⟨S, 0, none⟩) k.Ks.length c ∧ lo ≤ S ∧ Blk w S cur 137 ∧ k.Ks.length ≤ c ∧ c ≤ maxLen ∧ cur.length = c * 3 ∧ cur.take (k.Ks.length * 3) = k.Ks.flatMap StkR.cells ∧ cur[i * 3]? = some K.v ∧ cur[i * 3 + 1]? = some (.int .i64 K.nx) ∧ cur[i * 3 + 2]? = some (.int .i64 K.lf) := by
  have hi := (List.getElem?_eq_some_iff.1 hK).1
  rcases h.stks.2 with ⟨-, e⟩ | ⟨S, c, cur, hv, hb, hg, h1, h2, h3, h4⟩
  · omega
  · have hc : ∀ j, j < 3 → cur.toList[i * 3 + j]? = K.cells[j]? := fun j hj => by
      rw [← stkR_get hK j hj, ← h4, List.getElem?_take_of_lt (by omega)]
    exact ⟨S, c, cur.toList, hv, hb, by unfold Blk; rw [hg], h1, h2, by simpa using h3, h4, hc 0 (by decide), hc 1 (by decide), hc 2 (by decide)⟩
/-- What a stack has taken, the walk has. -/
theorem Wk.In.taken {lo : Nat} {k : Wk} {w w' : World} (h : k.In lo w) {i : Nat} {K : StkR} (hK : k.Ks[i]? = some K) {S c : Nat} {cur : List Value} (hv : k.sv = .slice (some ⟨S, 0, none⟩) k.Ks.length c) (hS : lo ≤ S) (hB : Blk w S cur 137) (hl : k.Ks.length ≤ c) (hc : c ≤ maxLen) (hcl : cur.length = c * 3) (hcu : cur.take (k.Ks.length * 3) = k.Ks.flatMap StkR.cells) {nx lf : Int} {ns : List Nd} (hI : StkI lo S (i * 3) cur nx lf K.v ns w w') :
    ∃ na nc, Wk.In lo { k with Ks := k.Ks.set i ⟨na, nc, ns, nx, lf⟩ } w' ∧ Kept k.foot w w' ∧ ∀ q, (StkR.v ⟨na, nc, ns, nx, lf⟩).ownBlock = some q → K.v.ownBlock = some q ∨ w.heap.size ≤ q := by
  obtain ⟨na, nc, h1, h2, h3, h4⟩ := hI
  have hi := (List.getElem?_eq_some_iff.1 hK).1
  have hm : K ∈ k.Ks := List.mem_of_getElem? hK
  have hsv : k.sv.ownBlock = some S := by rw [hv]; rfl
  have hpS : k.pv.ownBlock ≠ some S := owns_neY h.path hB (by decide)
  have hrS : ∀ A ∈ k.Ks, A.v.ownBlock ≠ some S := fun A hA => owns_neY (h.rows A hA) hB (by decide)
  have hSW : S ≠ k.W := fun e => by
    have a : w.heap[k.W]? = _ := h.obj
    have b : w.heap[S]? = _ := hB
    rw [e, a] at b
    simp only [Option.some.injEq, Obj.cells.injEq] at b
    exact absurd b.2.1 (by decide)
  have hKW : K.v.ownBlock ≠ some k.W := owns_neY (h.rows K hm) h.obj (by decide)
  have hkf : Kept k.foot w w' := h3.mono (fun q _ e => by
    rcases e with rfl | e
    · exact .inr (.inr (.inl hsv))
    · exact .inr (.inr (.inr ⟨K, hm, e⟩)))
  have hap : ∀ j A, k.Ks[j]? = some A → j ≠ i → ∀ q, A.v.ownBlock = some q → K.v.ownBlock ≠ some q := fun j A hA hne q e => by
    obtain ⟨hj, ej⟩ := List.getElem?_eq_some_iff.1 hA
    obtain ⟨hi', ei⟩ := List.getElem?_eq_some_iff.1 hK
    rcases Nat.lt_or_gt_of_ne hne with hlt | hlt
    · have := (List.pairwise_iff_getElem.1 h.apart) j i hj hi' hlt q (by rw [ej]; exact e)
      rwa [ei] at this
    · intro e2
      have := (List.pairwise_iff_getElem.1 h.apart) i j hi' hj hlt q (by rw [ei]; exact e2)
      rw [ej] at this
      exact this e
  refine ⟨na, nc, ⟨?_, ?_, ?_, ?_, ?_, h.low⟩, hkf, h4⟩
  · exact blkY h.obj h3 (fun e => e.elim (fun e => hSW e.symm) (fun e => hKW e))
  · refine owns_kept h.path h3 (fun q e hq => ?_)
    rcases hq with rfl | hq
    · exact hpS e
    · have a := h.rows K hm
      rcases a.2 with ⟨e1, -⟩ | ⟨g, c1, cu1, e1, -, hg, -⟩
      · rw [e1] at hq; cases hq
      · have e2 : g = q := by rw [e1] at hq; simpa [Value.ownBlock] using hq
        subst e2
        rcases h.path.2 with ⟨e3, -⟩ | ⟨g3, c3, cu3, e3, -, hg3, -⟩
        · rw [e3] at e; cases e
        · have e4 : g3 = g := by rw [e3] at e; simpa [Value.ownBlock] using e
          subst e4
          rw [hg] at hg3
          simp only [Option.some.injEq, Obj.cells.injEq] at hg3
          exact absurd hg3.2.1 (by decide)
  · refine ⟨by rw [stkR_len], .inr ⟨S, c, (stkC cur (i * 3) (.slice na ns.length nc) nx lf).toArray, by rw [List.length_set]; exact hv, hS, h1, by rw [List.length_set]; exact hl, hc, by simp [stkC_len, hcl], ?_⟩⟩
    rw [List.length_set, stkR_set hK]
    show (stkC cur (i * 3) _ nx lf).take (k.Ks.length * 3) = _
    rw [stkC_take, hcu]
    rfl
  · intro A hA
    obtain ⟨j, hj⟩ := List.getElem?_of_mem hA
    by_cases hji : j = i
    · subst hji
      rw [List.getElem?_set_self (by simpa using hi)] at hj
      cases hj
      exact h2
    · rw [List.getElem?_set_ne (fun e => hji e.symm)] at hj
      have hA2 : A ∈ k.Ks := List.mem_of_getElem? hj
      refine owns_kept (h.rows A hA2) h3 (fun q e hq => ?_)
      rcases hq with rfl | hq
      · exact hrS A hA2 e
      · exact hap j A hj hji q e hq
  · rw [List.pairwise_iff_getElem]
    have hnew : ∀ j A, k.Ks[j]? = some A → j ≠ i → ∀ q, A.v.ownBlock = some q → (StkR.v ⟨na, nc, ns, nx, lf⟩).ownBlock ≠ some q := fun j A hA hne q e e2 => by
      rcases h4 q e2 with e3 | e3
      · exact hap j A hA hne q e e3
      · have := (owns_loY (h.rows A (List.mem_of_getElem? hA)) q e).2
        omega
    intro a b ha hb hab q
    have ha' : a < k.Ks.length := by simpa using ha
    have hb' : b < k.Ks.length := by simpa using hb
    by_cases h1 : i = a
    · subst h1
      rw [List.getElem_set_self, List.getElem_set_ne (by omega)]
      intro e e2
      exact hnew b _ (List.getElem?_eq_getElem hb') (by omega) q e2 e
    · rw [List.getElem_set_ne h1]
      by_cases h2 : i = b
      · subst h2
        rw [List.getElem_set_self]
        intro e
        exact hnew a _ (List.getElem?_eq_getElem ha') (by omega) q e
      · rw [List.getElem_set_ne h2]
        exact (List.pairwise_iff_getElem.1 h.apart) a b ha' hb' hab q
end Go.Proofs.YtgaoeoijdpdjiaaGreatDoor
