/-
  Sign, over the hall's invariant.
-/
import Derived.Test.YtgaoeoijdpdjiabGreatDoorPart47
namespace Go.Proofs.YtgaoeoijdpdjiabGreatDoor
open Go.RowKit

section
variable {P : OP} {j : Nat} {g : GH} {w w' : World}
/-- A signature came out: it is put into the list, and Verify knows it. -/
theorem gives (Kp : OPk P) (h : HI P j g w) (hj : j ≤ 2199023255552) {i G S : Nat} {tm : Int} {z1 z2 z3 msg : ByteArray} {bat nx q2 sb2 sq2 : Nat} {st2 : DSt} (hz : P.seed z1 z2 z3) (hm : msg.size ≤ 200) (hnx : nx < P.tot) (hgo : g.gone ≤ nx) (hil : i < g.Ss.length)
    (hS : Calls Tryz.prog 52 #[.pointer (some ⟨G, 0, none⟩), .string msg] w fun e w' => e = .returned (.tuple #[.string (sigS P.k P.b P.x P.e P.f P.t P.l z1 z2 z3 msg nx), .int .i64 0]) ∧ ∃ c' F', HI P (j + 1) { g with c := c', F := F', st := st2, sq := sq2, sb := sb2, gone := nx + 1, Ss := g.Ss.set i ⟨G, S, g.D, tm, z1, z2, z3, bat, nx + 1, q2, sb2, false⟩ } w') :
    Calls Tryz.prog 57 #[.pointer (some ⟨P.H, 0, none⟩), .pointer (some ⟨G, 0, none⟩), .string msg] w fun e w' => e = .returned (.bool true) ∧ ∃ g', HI P (j + 1) g' w' := by
  obtain ⟨q1, q3, q4⟩ := Kp.sz hz
  obtain ⟨hrk, hb16⟩ := Kp.rk hz
  have h4 := Kp.tot4
  obtain ⟨ga, gc, hgv⟩ := owns_len h.rg
  obtain ⟨hz4, hval⟩ := sig_head P.k P.b P.x P.e P.f P.t P.l z1 z2 z3 msg nx (by omega)
  have cn := h.cnt
  have cb := cn.b
  refine (signs_yes P.lo P.H G g.SD P.k P.b P.x P.t P.l P.s1 P.s2 P.s3 P.o1 P.o2 P.o3 g.sv g.bv ga g.L.length gc g.L msg _ (headS P.k P.b P.x P.t P.l ++ P.rootZ z1 z3 ++ z3) nx _ w Kp.R.t2 Kp.R.l2 hz4 hval hnx rfl (by omega) (fun p hp => by have := h.gl p hp; omega) ?_ ?_ ?_ hS ?_ (fun V hT => verY P.k P.b P.x P.e P.f P.t P.l Kp.R z1 z2 z3 msg nx q1 q3 q4 hm hnx V hT)).mono ?_
  · rw [← hgv]
    intro e
    have a := h.cg _ e
    have b := h.cH
    omega
  · rintro V ⟨c', F', hh⟩
    have e1 := hh.hall
    have e2 := hh.rg
    rw [← hgv]
    exact ⟨e1, e2, hh.big⟩
  · rintro V V' ⟨c', F', hh⟩ hk
    rw [← hgv] at hk
    refine Kp.T.below (hh.low.trans (hk.below (fun q e => ?_) hh.big)) Kp.TB
    rcases e with rfl | e
    · exact Kp.lH
    · exact (hh.rg.lt q e).1
  · rintro V ⟨c', F', hh⟩
    obtain ⟨m1, m2, _⟩ := hh.mem i ⟨G, S, g.D, tm, z1, z2, z3, bat, nx + 1, q2, sb2, false⟩ (List.getElem?_set_self hil)
    exact sgKey_on G S _ _ V m1 (key_on S g.D tm P.k P.b P.x P.t P.l (P.rootZ z1 z3) z3 z1 z2 _ _ _ _ _ _ _ V m2 (by omega) (by omega))
  · rintro e w' ⟨rfl, V, gb, cap, ⟨c', F', hh⟩, k1, k2, k3, k4⟩
    rw [← hgv] at k3 k4
    have cn2 := hh.cnt
    exact ⟨rfl, hh.give (Nat.lt_succ_self nx) k1 k2 k3 k4 Kp.lH ⟨cn2.w0, cn2.w1, cn2.y0, cn2.y1, cn2.t0, cn2.t1, cn2.a, by show g.L.length + 1 ≤ j + 1; omega⟩⟩

set_option maxHeartbeats 1000000 in
theorem do_sign (Kp : OPk P) (h : HI P j g w) (hj : j ≤ 2199023255552) (kd a bb : Int) (tx : ByteArray) (ka : Option Addr) (kn kc : Nat) (bt : Nat) (hk1 : -9223372036854775808 ≤ kd) (hk2 : kd ≤ 9223372036854775807) (ha1 : -9223372036854775808 ≤ a) (ha2 : a ≤ 9223372036854775807) (hb1 : -9223372036854775808 ≤ bb) (hb2 : bb ≤ 9223372036854775807) (hbt : pickZ bb 64 = bt) (hbt2 : bt < 64) (hk : pickZ kd 9 = 2)
    (hpk : ∀ n : Nat, 1 ≤ n → ∃ p : Nat, pickZ a n = p ∧ p < n) :
    Calls Tryz.prog 19 #[.pointer (some ⟨P.H, 0, none⟩), .agg #[.int .i64 kd, .int .i64 a, .int .i64 bb, .string tx, .slice ka kn kc], .int .i64 P.n] w fun e w' => e = .returned (.bool true) ∧ ∃ g', HI P (j + 1) g' w' := by
  have cn := h.cnt
  have hlj := cn.a
  by_cases hp : 0 < g.Ss.length
  · obtain ⟨g1, cap, hsv, hcap, hgl, hcell⟩ := h.len_pos hp
    obtain ⟨i, hi, hi2⟩ := hpk g.Ss.length hp
    obtain ⟨s, hs⟩ : ∃ s, g.Ss[i]? = some s := ⟨_, List.getElem?_eq_getElem hi2⟩
    refine step_sign P.H g.SD P.k P.b P.x P.t P.l P.s1 P.s2 P.s3 P.o1 P.o2 P.o3 g1 g.Ss.length cap s.G i g.bv g.gv kd a bb tx ka kn kc P.n bt _ w (by rw [← hsv]; exact h.hall) hk1 hk2 hb1 hb2 hbt hbt2 hk ha1 ha2 (by omega) hi hi2 hcap hgl (hcell i s hs) (fun V hbV => ?_)
    have hV := h.below hbV
    have hms := upS_size tx 200
    generalize upS tx 200 = msg at hms ⊢
    obtain ⟨m1, m2, m3, m4, m5⟩ := hV.mem i s hs
    have hwho := hV.who i s hs
    rcases hV.which hs with ⟨tm2, d1, d2, d3⟩ | ⟨d1, d2, d3, d4, d5⟩
    · refine signs_no P.H s.G msg 9 _ V (by decide) ((sgSign_on s.G s.S msg _ 9 _ V m1 (ssign_over s.S s.D tm2 s.tm P.k P.b P.x P.t P.l _ s.z3 s.z1 s.z2 _ s.bat s.nx s.q s.bd _ s.ov msg V m2 d1 d2 d3)).mono ?_)
      rintro e w' ⟨rfl, hb⟩
      exact ⟨rfl, g, (hV.below hb).next⟩
    · obtain ⟨G, S, D, tm, z1, z2, z3, bat, nx, q, bd, ov⟩ := s
      dsimp only at d1 d2 d3 m1 m2 m3 m4 m5 hwho
      subst d1 d3
      have nS : ¬ g.F S := hV.nF (by omega)
      have e1 : q = g.sq := d5.q
      have e2 : bd = g.sb := d5.bd
      have e3 : nx ≤ g.sb := d5.hi
      have e4 : g.gone ≤ nx := d5.lo
      have h4 := Kp.tot4
      have hone := d5.one
      have hbm : bd ≤ P.tot ∧ q ≤ 5000 := by
        rcases hV.ji.base with ⟨x1, x2⟩ | ⟨_, ⟨_, _, _, _, _, x4, x3⟩, _⟩
        · omega
        · omega
      obtain ⟨q1, q3, q4⟩ := Kp.sz hwho.1
      by_cases hsp : nx = P.tot
      · refine signs_no P.H G msg 10 _ V (by decide) ((sgSign_on G S msg _ 10 _ V m1 (ssign_spent P.lo S g.D g.st g.F tm P.k P.b P.x P.t P.l _ z3 z1 z2 _ bat nx q bd _ msg V m2 hV.dsk nS d2.symm hms (by omega))).mono ?_)
        rintro e w' ⟨rfl, hb⟩
        exact ⟨rfl, g, (hV.below hb).next⟩
      · have hnx : nx < P.tot := by omega
        have hSI : ∀ V : World, Tn V → Calls Tryz.prog 171 #[.agg #[.int .i64 P.k, .int .i64 P.b, .int .i64 P.x, .int .i64 P.t, .int .i64 P.l, .string (P.rootZ z1 z3), .string z3], .agg #[.string z1, .string z2, .string z3], .int .i64 nx, .string msg] V fun e w' => e = .returned (.string (sigS P.k P.b P.x P.e P.f P.t P.l z1 z2 z3 msg nx)) ∧ Below V.heap.size V w' := fun V hT => signY P.k P.b P.x P.e P.f P.t P.l Kp.R z1 z2 z3 msg nx q1 q3 q4 hms hnx V hT
        have hv : IntKind.i64.wrap ((nx : Int) + 1) = (nx : Int) + 1 := by rw [IntKind.wrap_i64] <;> omega
        by_cases hnb : nx = bd
        · rcases resv_do Kp hV hs d5 hj bat (by omega) (by omega) (by omega) with ⟨st2, nb, k1, k2, k3, k4, k5⟩ | ⟨st2, c, k1, k2, k3, k4⟩
          · refine gives (i := i) (S := S) (tm := tm) (bat := bat) (q2 := q + 1) (sb2 := nb) (sq2 := g.sq + 1) (st2 := st2) Kp hV hj hwho.1 hms hnx e4 hi2 ((sgSign_on G S msg _ 0 _ V m1 (ssign_res P.lo S g.D g.st g.F tm P.k P.b P.x P.t P.l (P.rootZ z1 z3) z3 z1 z2 _ bat nx q bd _ msg _ nb st2 V m2 hV.dsk nS d2.symm (by omega) (by omega) (by omega) hv (hV.T Kp) Kp.TB m5 hV.big hms hSI (fun V2 hb2 => k5 V2 (hV.below hb2)))).mono ?_)
            rintro e w' ⟨rfl, l1, F', l2, l3, l4⟩
            refine ⟨rfl, ?_⟩
            obtain ⟨c', hh⟩ := hV.change (s' := ⟨G, S, g.D, tm, z1, z2, z3, bat, nx + 1, q + 1, nb, false⟩) (gone2 := nx + 1) hs rfl rfl rfl rfl hwho rfl d4 l1 l2 l3 l4 k1 (by omega) (by omega) (k4.n.trans hV.stn) k4.t (fun _ => ⟨d5.id, by show q + 1 = g.sq + 1; omega, rfl, Nat.le_refl _, by show nx + 1 ≤ nb; omega, by omega⟩) (hV.cntN k4 (by decide) (by decide))
            exact ⟨c', F', hh⟩
          · refine signs_no P.H G msg c _ V k1 ((sgSign_on G S msg _ c _ V m1 (ssign_fail P.lo S g.D g.st g.F tm P.k P.b P.x P.t P.l _ z3 z1 z2 _ bat nx q bd _ msg c st2 k1 V m2 hV.dsk nS d2.symm (by omega) (by omega) (by omega) hms (fun V2 hb2 => k4 V2 (hV.below hb2)))).mono ?_)
            rintro e w' ⟨rfl, l1, F', l2, l3, l4⟩
            refine ⟨rfl, ?_⟩
            obtain ⟨c', hh⟩ := hV.change (s' := ⟨G, S, g.D, tm, z1, z2, z3, bat, nx, q, bd, true⟩) hs rfl rfl rfl rfl hwho rfl d4 l1 l2 l3 l4 k2 (Nat.le_refl _) hV.gs (k3.n.trans hV.stn) k3.t (fun e => by simp at e) (hV.cntN k3 (by decide) (by decide))
            exact ⟨_, hh⟩
        · refine gives (i := i) (S := S) (tm := tm) (bat := bat) (q2 := q) (sb2 := bd) (sq2 := g.sq) (st2 := g.st) Kp hV hj hwho.1 hms hnx e4 hi2 ((sgSign_on G S msg _ 0 _ V m1 (ssign_more P.lo S g.D g.st g.F tm P.k P.b P.x P.t P.l (P.rootZ z1 z3) z3 z1 z2 _ bat nx q bd _ msg _ V m2 hV.dsk nS d2.symm (by omega) (by omega) hv (hV.T Kp) Kp.TB m5 hV.big hms hSI)).mono ?_)
          rintro e w' ⟨rfl, l1, F', l2, l3, l4⟩
          refine ⟨rfl, ?_⟩
          have hji : JI P.tot g.st g.jid g.sq bd := by rw [e2]; exact hV.ji
          obtain ⟨c', hh⟩ := hV.change (s' := ⟨G, S, g.D, tm, z1, z2, z3, bat, nx + 1, q, bd, false⟩) (gone2 := nx + 1) hs rfl rfl rfl rfl hwho rfl d4 l1 l2 l3 l4 hji (by omega) (by omega) hV.stn rfl (fun _ => ⟨d5.id, e1, rfl, Nat.le_refl _, by show nx + 1 ≤ bd; omega, hone⟩) (hV.cntN (Nr.refl _) (by decide) (by decide))
          exact ⟨c', F', hh⟩
  · have h0 : g.Ss.length = 0 := by omega
    obtain ⟨sa, sc, hsv⟩ := owns_len h.rs
    refine (step_none2 P.H g.SD P.k P.b P.x P.t P.l P.s1 P.s2 P.s3 P.o1 P.o2 P.o3 sa g.Ss.length sc g.bv g.gv kd a bb tx ka kn kc P.n bt w (by rw [← hsv]; exact h.hall) hk1 hk2 hb1 hb2 hbt hbt2 hk h0).mono ?_
    rintro e w' ⟨rfl, hb⟩
    exact ⟨rfl, g, (h.below hb).next⟩

/-- Any step. -/
theorem do_step (Kp : OPk P) (h : HI P j g w) (hj : j ≤ 2199023255552) (hlo : P.lo ≤ P.Wd.heap.size) (kd a bb : Int) (tx : ByteArray) (ka : Option Addr) (kn kc : Nat) (K : List Bool) (hk1 : -9223372036854775808 ≤ kd) (hk2 : kd ≤ 9223372036854775807) (ha1 : -9223372036854775808 ≤ a) (ha2 : a ≤ 9223372036854775807) (hb1 : -9223372036854775808 ≤ bb) (hb2 : bb ≤ 9223372036854775807) (hts : tx.size ≤ maxLen) (hK : KOk P P.Wd (.slice ka kn kc) K) :
    Calls Tryz.prog 19 #[.pointer (some ⟨P.H, 0, none⟩), .agg #[.int .i64 kd, .int .i64 a, .int .i64 bb, .string tx, .slice ka kn kc], .int .i64 P.n] w fun e w' => e = .returned (.bool true) ∧ ∃ g', HI P (j + 1) g' w' := by
  have hp9 := pickZ_bd kd 9 (by decide)
  have hp64 := pickZ_bd bb 64 (by decide)
  have hp8 := pickZ_bd bb 8 (by decide)
  have hpk : ∀ n : Nat, 1 ≤ n → ∃ p : Nat, pickZ a n = p ∧ p < n := fun n hn => by
    have := pickZ_bd a n (by omega)
    exact ⟨(pickZ a n).toNat, by omega, by omega⟩
  obtain ⟨bt, hbt⟩ : ∃ bt : Nat, pickZ bb 64 = bt := ⟨(pickZ bb 64).toNat, by omega⟩
  obtain ⟨c, hc⟩ : ∃ c : Nat, pickZ kd 9 = c := ⟨(pickZ kd 9).toNat, by omega⟩
  by_cases h3 : 3 < c
  · exact do_disk Kp h hj hlo kd a bb tx ka kn kc K bt c hk1 hk2 ha1 ha2 hb1 hb2 hts hK hbt (by omega) hc h3 (by omega) hpk hp8
  · match c, h3, hc with
    | 0, _, hc => exact do_make Kp h hj kd a bb tx ka kn kc bt hk1 hk2 ha1 ha2 hb1 hb2 hbt (by omega) hc
    | 1, _, hc => exact do_open Kp h hj kd a bb tx ka kn kc bt hk1 hk2 ha1 ha2 hb1 hb2 hbt (by omega) hc
    | 2, _, hc => exact do_sign Kp h hj kd a bb tx ka kn kc bt hk1 hk2 ha1 ha2 hb1 hb2 hbt (by omega) hc hpk
    | 3, _, hc => exact do_reserve Kp h hj kd a bb tx ka kn kc bt hk1 hk2 ha1 ha2 hb1 hb2 hbt (by omega) hc hpk
    | c + 4, h3, _ => exact absurd (by omega) h3
end
end Go.Proofs.YtgaoeoijdpdjiabGreatDoor
