/-
  The steps by which a signer begins, over any disk: those that refuse, the last record, the first one. A disk, a signer over it, as package signet hands them out.
-/
import Derived.Test.YtgaoeoijdpdjiabGreatDoorPart29
import Derived.Test.YtgaoeoijdpdjiabGreatDoorPart18
namespace Go.Proofs.YtgaoeoijdpdjiabGreatDoor
open Go.RowKit

set_option maxRecDepth 20000 in
theorem oread_err (Q : World → Prop) (O D : Nat) (i c : Int) (s : ByteArray) (w : World) (h0 : w.cell? ⟨O, 0, none⟩ = some (.pointer (some ⟨D, 0, none⟩))) (hc : c ≠ 0)
    (hR : Calls Tryz.prog 103 #[.pointer (some ⟨D, 0, none⟩), .int .i64 i] w fun e w' => e = .returned (.tuple #[.string s, .int .i64 c]) ∧ Q w') :
    Calls Tryz.prog 182 #[.pointer (some ⟨O, 0, none⟩), .int .i64 i] w fun e w' => e = .returned (.int .i64 c) ∧ Q w' := by
  have HR := hide hR
  have e1 : (c == 0) = false := by simpa using hc
  have e2 : (c != 0) = true := by simpa using hc
  clear hR hc
  go_enter Tryz.func182, Tryz.ntmps182
  go_wp2_with fail
  refine HR.out.mono ?_
  rintro e w1 ⟨rfl, hq1⟩
  have HQ1 := hide hq1
  clear hq1
  go_wp2
  go_ret
  exact ⟨rfl, HQ1.out⟩
set_option maxRecDepth 20000 in
theorem orefuse_yes (O n : Nat) (a : Option Addr) (c : Nat) (w : World) (hn : 0 < n) (h3 : w.cell? ⟨O, 3, none⟩ = some (.slice a n c)) :
    Calls Tryz.prog 110 #[.pointer (some ⟨O, 0, none⟩)] w fun e w' => e = .returned (.int .i64 7) ∧ w' = w := by
  have hn2 : (0 : Int) < (n : Int) := by omega
  go_enter Tryz.func110, Tryz.ntmps110
  go_wp2
  go_ret
  exact ⟨rfl, rfl⟩

section
variable {lo O SB D : Nat} {T : TypeId} {sv : List Value} {st : DSt} {id : ByteArray} {tot : Int} {L : List Rec} {lst : Rec} {F F' : Nat → Prop} {V V' : World} {fv : Value}

theorem g_read_no (h : OPG lo O SB D T sv st id tot L lst F V V' F' fv) (hO : O < V.heap.size) (nO : ¬ F O) (hS : SB < V.heap.size) (nS : ¬ F SB) (i c : Int) (x : ByteArray) (hx : rdAns st i = (x, c)) (hc : c ≠ 0) :
    Calls Tryz.prog 182 #[.pointer (some ⟨O, 0, none⟩), .int .i64 i] V' fun e w' => e = .returned (.int .i64 c) ∧ ∃ F2, OPG lo O SB D T sv (rdSt st i) id tot L lst F V w' F2 fv := by
  refine oread_err _ O D i c x V' (h.o.cell 0) hc ?_
  refine (dread_any lo D st F' i V' h.k).mono ?_
  rw [hx]
  rintro e w' ⟨rfl, hl⟩
  exact ⟨rfl, h.dl hO nO hS nS hl⟩

theorem g_refuse (h : OPG lo O SB D T sv st id tot L lst F V V' F' fv) :
    Calls Tryz.prog 110 #[.pointer (some ⟨O, 0, none⟩)] V' fun e w' => ∃ c, e = .returned (.int .i64 c) ∧ (c = 0 ∧ L = [] ∨ c = 7 ∧ L ≠ []) ∧ w' = V' := by
  obtain ⟨a, c, rfl⟩ := owns_len h.row
  cases L with
  | nil =>
    refine (orefuse_no O a c V' (h.o.cell 3)).mono ?_
    rintro e w' ⟨rfl, rfl⟩
    exact ⟨0, rfl, .inl ⟨rfl, rfl⟩, rfl⟩
  | cons r L =>
    refine (orefuse_yes O _ a c V' (by simp) (h.o.cell 3)).mono ?_
    rintro e w' ⟨rfl, rfl⟩
    exact ⟨7, rfl, .inr ⟨rfl, by simp⟩, rfl⟩

/-- The last record of the key. -/
theorem g_take (h : OPG lo O SB D T sv st id tot L ⟨0, 0, ⟨#[]⟩⟩ F V V' F' fv) (hO : O < V.heap.size) (nO : ¬ F O) (hOS : SB ≠ O) (hL : L.length ≤ 100) :
    Calls Tryz.prog 172 #[.pointer (some ⟨O, 0, none⟩)] V' fun e w' => ∃ c, e = .returned (.int .i64 c) ∧ (c = 8 ∧ (takeJ id tot ⟨0, 0, ⟨#[]⟩⟩ L L.length).q = 0 ∨ c = 0 ∧ (takeJ id tot ⟨0, 0, ⟨#[]⟩⟩ L L.length).q ≠ 0) ∧ OPG lo O SB D T sv st id tot L (takeJ id tot ⟨0, 0, ⟨#[]⟩⟩ L L.length) F V w' F' fv := by
  have n1 := h.nO hO nO
  rcases h.row.2 with ⟨hn, h0⟩ | ⟨g, cap, cur, hv, hb, hg, hc, _, hs, ht⟩
  · have hL0 : L = [] := List.eq_nil_of_length_eq_zero h0
    subst hL0
    obtain ⟨a, c, rfl⟩ := owns_len h.row
    refine (takeLast_none D O c id tot a V' h.o).mono ?_
    rintro e w' ⟨rfl, rfl⟩
    exact ⟨8, rfl, .inl ⟨rfl, by simp [takeJ]⟩, h⟩
  · subst hv
    have hgO : g ≠ O := fun e => n1.2 (by rw [← e]; rfl)
    have hcell : ∀ (j : Nat) (r : Rec), L[j]? = some r → ∀ (m : Nat) (u : Value), [Value.int .i64 r.q, .int .i64 r.b, .string r.d][m]? = some u → V'.cell? ⟨g, j * 3 + m, none⟩ = some u := by
      intro j r hr m u hu
      have hg' : V'.heap[g]? = some (.cells cur.toList.toArray 186 (0, 0)) := by simpa using hg
      exact flat_range (fun r : Rec => [Value.int .i64 r.q, .int .i64 r.b, .string r.d]) 3 L j r (fun _ _ => rfl) hr hg' ht m u hu
    refine (takeLast_any D O g id tot L.length cap L V' rfl hL h.o (Array.getElem?_eq_some_iff.1 hg).1 hgO (fun j r hr => ⟨hcell j r hr 0 _ rfl, hcell j r hr 1 _ rfl, hcell j r hr 2 _ rfl⟩)).mono ?_
    rintro e w' ⟨he, hB, hk⟩
    have fin : OPG lo O SB D T sv st id tot L (takeJ id tot ⟨0, 0, ⟨#[]⟩⟩ L L.length) F V w' F' (.slice (some ⟨g, 0, none⟩) L.length cap) :=
      ⟨h.k.kept hk (fun k hk2 e => n1.1 (by rw [← (show k = O from e)]; exact hk2)), owns_kept h.row hk (fun k e hk2 => n1.2 (by rw [e]; exact congrArg some hk2)), hB, hk.blk h.s hOS, h.kept.trans hk (fun i hi => .inl (.inl hi)), h.foot, h.no⟩
    rcases he with ⟨rfl, hq⟩ | ⟨rfl, hq⟩
    · exact ⟨8, rfl, .inl ⟨rfl, hq⟩, fin⟩
    · exact ⟨0, rfl, .inr ⟨rfl, hq⟩, fin⟩

/-- The first record. -/
theorem g_lay {lb0 lq0 : Int} {ld0 : ByteArray} (h : OPG lo O SB D T sv st id tot L ⟨lq0, lb0, ld0⟩ F V V' F' fv) (hO : O < V.heap.size) (nO : ¬ F O) (hS : SB < V.heap.size) (nS : ¬ F SB) (hOS : SB ≠ O) (hlo : lo ≤ V.heap.size) (hid : id.size = 8) (r0 : 0 ≤ st.writes) (r1 : st.writes < 9223372036854775807) :
    Calls Tryz.prog 111 #[.pointer (some ⟨O, 0, none⟩)] V' fun e w' => ∃ c, e = .returned (.int .i64 c) ∧ c = wrAns st 1 (sealS 1 0 id) ∧ ∃ F2, OPG lo O SB D T sv (wrSt st 1 (sealS 1 0 id)) id tot L ⟨1, 0, id⟩ F V w' F2 fv := by
  have n1 := h.nO hO nO
  have KW : Kept (fun k => k = O) V' (((V'.setCell ⟨O, 4, none⟩ (.int .i64 1)).setCell ⟨O, 5, none⟩ (.int .i64 0)).setCell ⟨O, 6, none⟩ (.string id)) := ((kept_set V' ⟨O, 4, none⟩ _).setCell (p := ⟨O, 5, none⟩) (.inl rfl) _).setCell (p := ⟨O, 6, none⟩) (.inl rfl) _
  have oW := ((h.o.set 4 (.int .i64 1)).set 5 (.int .i64 0)).set 6 (.string id)
  have hW : OPG lo O SB D T sv st id tot L ⟨1, 0, id⟩ F V (((V'.setCell ⟨O, 4, none⟩ (.int .i64 1)).setCell ⟨O, 5, none⟩ (.int .i64 0)).setCell ⟨O, 6, none⟩ (.string id)) F' fv :=
    ⟨h.k.kept KW (fun k hk2 e => n1.1 (by rw [← (show k = O from e)]; exact hk2)), owns_kept h.row KW (fun k e hk2 => n1.2 (by rw [e]; exact congrArg some hk2)), oW, KW.blk h.s hOS, h.kept.trans KW (fun i hi => .inl (.inl hi)), h.foot, h.no⟩
  refine layFirst_on (fun c w' => c = wrAns st 1 (sealS 1 0 id) ∧ ∃ F2, OPG lo O SB D T sv (wrSt st 1 (sealS 1 0 id)) id tot L ⟨1, 0, id⟩ F V w' F2 fv) O D id ld0 tot lq0 lb0 fv V' _ h.o rfl ?_ ?_
  · rintro c V2 ⟨_, F2, h2⟩
    exact h2.o
  · intro V2 hb
    have h2 := hW.below hb
    refine (jlay_any lo D st F' 1 0 1 id V2 h2.k (Nat.le_trans hlo h2.kept.size) r0 r1 ⟨by decide, by decide, by decide, by decide, hid⟩ (by decide) (by decide)).mono ?_
    rintro e w' ⟨rfl, hl⟩
    exact ⟨_, rfl, rfl, h2.dl hO nO hS nS hl⟩
end
end Go.Proofs.YtgaoeoijdpdjiabGreatDoor

namespace Go.Proofs.YtgaoeoijdpdjiabGreatDoor
open Go.RowKit

set_option maxRecDepth 20000 in
theorem skRead_on (SD D : Nat) (i : Int) (z : ByteArray) (c : Int) (Q : World → Prop) (w : World) (hG : Blk w SD [.pointer (some ⟨D, 0, none⟩)] 135)
    (h : Calls Tryz.prog 103 #[.pointer (some ⟨D, 0, none⟩), .int .i64 i] w fun e w' => e = .returned (.tuple #[.string z, .int .i64 c]) ∧ Q w') :
    Calls Tryz.prog 61 #[.pointer (some ⟨SD, 0, none⟩), .int .i64 i] w fun e w' => e = .returned (.tuple #[.string z, .int .i64 c]) ∧ Q w' := by
  have H := hide h
  have c0 : w.cell? ⟨SD, 0, none⟩ = some (.pointer (some ⟨D, 0, none⟩)) := hG.cell 0
  clear h hG
  go_enter Tryz.func61, Tryz.ntmps61
  go_wp2_with fail
  refine H.out.mono ?_
  rintro e w1 ⟨rfl, hq⟩
  have HQ := hide hq
  clear hq
  go_wp2
  go_ret2
  exact ⟨rfl, HQ.out⟩
set_option maxRecDepth 20000 in
theorem skTrouble_on (SD D : Nat) (i c : Int) (Q : World → Prop) (w : World) (hG : Blk w SD [.pointer (some ⟨D, 0, none⟩)] 135)
    (h : Calls Tryz.prog 113 #[.pointer (some ⟨D, 0, none⟩), .int .i64 i] w fun e w' => e = .returned (.int .i64 c) ∧ Q w') :
    Calls Tryz.prog 70 #[.pointer (some ⟨SD, 0, none⟩), .int .i64 i] w fun e w' => e = .returned (.int .i64 c) ∧ Q w' := by
  have H := hide h
  have c0 : w.cell? ⟨SD, 0, none⟩ = some (.pointer (some ⟨D, 0, none⟩)) := hG.cell 0
  clear h hG
  go_enter Tryz.func70, Tryz.ntmps70
  go_wp2_with fail
  refine H.out.mono ?_
  rintro e w1 ⟨rfl, hq⟩
  have HQ := hide hq
  clear hq
  go_wp2
  go_ret
  exact ⟨rfl, HQ.out⟩
theorem dtrouble_any (lo D : Nat) (st : DSt) (F : Nat → Prop) (k : Int) (w : World) (h : DSk lo D st w F) (hk0 : 0 ≤ k) (hk : k ≤ 9223372036854775807) :
    Calls Tryz.prog 113 #[.pointer (some ⟨D, 0, none⟩), .int .i64 k] w fun e w' => e = .returned (.int .i64 0) ∧ DL lo D { st with trouble := k } F w w' := by
  obtain ⟨E, pv, hd, rfl⟩ := h
  refine (trouble_any lo D E pv st k w hd hk).mono ?_
  rw [if_neg (by omega), if_neg (by omega)]
  rintro e w' ⟨rfl, a, b⟩
  exact ⟨rfl, dl_mk a (foot_of_D b) (fun k e => .inl e)⟩

/-- All of it lies in memory. -/
structure IOS (lo SD D G S : Nat) (st : DSt) (vs : List Value) (F : Nat → Prop) (w : World) : Prop where
  d : Blk w SD [.pointer (some ⟨D, 0, none⟩)] 135
  g : Blk w G [.pointer (some ⟨S, 0, none⟩)] 142
  s : Blk w S vs 188
  k : DSk lo D st w F
  nd : ¬ F SD
  ng : ¬ F G
  ns : ¬ F S
  sd : S ≠ SD
  sg : S ≠ G
  ld : lo ≤ SD
  ls : lo ≤ S
/-- What a call leaves. -/
def IOL (lo SD D G S : Nat) (st : DSt) (vs : List Value) (F : Nat → Prop) (w w' : World) : Prop := ∃ F', IOS lo SD D G S st vs F' w' ∧ Kept (fun k => k = S ∨ F k) w w' ∧ ∀ k, F' k → F k ∨ w.heap.size ≤ k
section
variable {lo SD D G S : Nat} {st s2 : DSt} {vs v2 : List Value} {F : Nat → Prop} {w w' w2 : World}
theorem IOS.below (h : IOS lo SD D G S st vs F w) (hb : Below w.heap.size w w') : IOS lo SD D G S st vs F w' := ⟨h.d.on hb, h.g.on hb, h.s.on hb, h.k.below hb, h.nd, h.ng, h.ns, h.sd, h.sg, h.ld, h.ls⟩
theorem ios_of {F' : Nat → Prop} (h : IOS lo SD D G S st vs F w) (hB : Blk w' S v2 188) (hd : DSk lo D s2 w' F') (hk : Kept (fun k => k = S ∨ F k) w w') (hf : ∀ k, F' k → F k ∨ w.heap.size ≤ k) : IOS lo SD D G S s2 v2 F' w' := by
  have n : ∀ g, g < w.heap.size → ¬ F g → ¬ F' g := fun g hg hn h => by
    rcases hf g h with h | h
    · exact hn h
    · omega
  exact ⟨hk.blk h.d (by rintro (e | e) <;> first | exact h.sd e.symm | exact h.nd e), hk.blk h.g (by rintro (e | e) <;> first | exact h.sg e.symm | exact h.ng e), hB, hd, n _ h.d.lt h.nd, n _ h.g.lt h.ng, n _ h.s.lt h.ns, h.sd, h.sg, h.ld, h.ls⟩
theorem IOS.sgl (h : IOS lo SD D G S st vs F w) (k : SGL lo S D s2 v2 F w w') : IOL lo SD D G S s2 v2 F w w' := by
  obtain ⟨a, F', b, c, d⟩ := k
  exact ⟨F', ios_of h a b c d, c, d⟩
theorem IOS.dl (h : IOS lo SD D G S st vs F w) (k : DL lo D s2 F w w') : IOL lo SD D G S s2 vs F w w' := by
  have hs := k.blk h.s h.ns
  obtain ⟨F', b, c, d⟩ := k
  have c' : Kept (fun k => k = S ∨ F k) w w' := c.mono (fun _ _ e => .inr e)
  exact ⟨F', ios_of h hs b c' d, c', d⟩
theorem IOL.refl (h : IOS lo SD D G S st vs F w) : IOL lo SD D G S st vs F w w := ⟨F, h, Kept.refl _ _, fun _ hk => .inl hk⟩
theorem IOL.then (h : IOL lo SD D G S st vs F w w') (hb : Below w'.heap.size w' w2) : IOL lo SD D G S st vs F w w2 := by
  obtain ⟨F', a, b, c⟩ := h
  exact ⟨F', a.below hb, b.after hb, c⟩
theorem IOL.of_below (hb : Below w.heap.size w w') (h : IOL lo SD D G S st vs F w' w2) : IOL lo SD D G S st vs F w w2 := by
  obtain ⟨F', a, b, c⟩ := h
  refine ⟨F', a, (Kept.of_below (F := fun k => k = S ∨ F k) hb).trans b (fun i hi => .inl hi), fun i hi => ?_⟩
  rcases c i hi with h | h
  · exact .inl h
  · exact .inr (Nat.le_trans hb.size h)
theorem IOL.trans (h : IOL lo SD D G S st vs F w w') (k : ∀ F', IOS lo SD D G S st vs F' w' → IOL lo SD D G S s2 v2 F' w' w2) : IOL lo SD D G S s2 v2 F w w2 := by
  obtain ⟨F1, a, b, c⟩ := h
  obtain ⟨F2, a2, b2, c2⟩ := k F1 a
  refine ⟨F2, a2, b.trans b2 (fun i hi => ?_), fun i hi => ?_⟩
  · rcases hi with rfl | hi
    · exact .inl (.inl rfl)
    · rcases c i hi with h | h
      · exact .inl (.inr h)
      · exact .inr h
  · rcases c2 i hi with h | h
    · exact c i h
    · exact .inr (Nat.le_trans b.size h)
theorem IOL.low (h : IOL lo SD D G S st vs F w w') (hS : lo ≤ S) (hF : ∀ k, F k → lo ≤ k) (hlo : lo ≤ w.heap.size) : Below lo w w' := by
  obtain ⟨F1, a, b, c⟩ := h
  refine b.below (fun k hk => ?_) hlo
  rcases hk with rfl | hk
  · exact hS
  · exact hF k hk
theorem IOL.blk (h : IOL lo SD D G S st vs F w w') {g : Nat} {us : List Value} {T : TypeId} (hg : Blk w g us T) (h1 : g ≠ S) (h2 : ¬ F g) : Blk w' g us T := by
  obtain ⟨F1, a, b, c⟩ := h
  exact b.blk hg (by rintro (e | e) <;> first | exact h1 e | exact h2 e)
end
theorem ioCount (lo SD D G S : Nat) (st : DSt) (vs : List Value) (F : Nat → Prop) (w : World) (h : IOS lo SD D G S st vs F w) :
    Calls Tryz.prog 69 #[.pointer (some ⟨SD, 0, none⟩)] w fun e w' => e = .returned (.agg #[.int .i64 st.writes, .int .i64 st.syncs, .int .i64 st.pend.length]) ∧ Below w.heap.size w w' := by
  obtain ⟨E, pv, hd, hF⟩ := h.k
  have nd := h.nd
  rw [hF] at nd
  exact scount_any lo SD st _ w ⟨D, E, pv, h.d, hd, fun e => nd (.inl e), fun e => nd (.inr (.inl e)), fun e => nd (.inr (.inr e)), h.ld, rfl⟩
theorem ioRead (lo SD D G S : Nat) (st : DSt) (vs : List Value) (F : Nat → Prop) (i : Int) (w : World) (h : IOS lo SD D G S st vs F w) :
    Calls Tryz.prog 61 #[.pointer (some ⟨SD, 0, none⟩), .int .i64 i] w fun e w' => e = .returned (.tuple #[.string (rdAns st i).1, .int .i64 (rdAns st i).2]) ∧ IOL lo SD D G S (rdSt st i) vs F w w' :=
  skRead_on SD D i _ _ _ w h.d ((dread_any lo D st F i w h.k).mono (by
    rintro e w' ⟨rfl, hl⟩
    exact ⟨rfl, h.dl hl⟩))
theorem ioTrouble (lo SD D G S : Nat) (st : DSt) (vs : List Value) (F : Nat → Prop) (k : Int) (w : World) (h : IOS lo SD D G S st vs F w) (hk0 : 0 ≤ k) (hk : k ≤ 9223372036854775807) :
    Calls Tryz.prog 70 #[.pointer (some ⟨SD, 0, none⟩), .int .i64 k] w fun e w' => e = .returned (.int .i64 0) ∧ IOL lo SD D G S { st with trouble := k } vs F w w' :=
  skTrouble_on SD D k _ _ w h.d ((dtrouble_any lo D st F k w h.k hk0 hk).mono (by
    rintro e w' ⟨rfl, hl⟩
    exact ⟨rfl, h.dl hl⟩))
end Go.Proofs.YtgaoeoijdpdjiabGreatDoor
