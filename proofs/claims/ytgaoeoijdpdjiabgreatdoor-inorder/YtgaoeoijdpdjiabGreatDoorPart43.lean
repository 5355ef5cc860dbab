/-
  A disk, a signer over it, as package signet hands them out.
-/
import Derived.Test.YtgaoeoijdpdjiabGreatDoorPart42
import Derived.Test.YtgaoeoijdpdjiabGreatDoorPart31
namespace Go.Proofs.YtgaoeoijdpdjiabGreatDoor
open Go.RowKit

set_option maxRecDepth 20000 in
theorem skRead_on (SD D : Nat) (i : Int) (z : ByteArray) (c : Int) (Q : World → Prop) (w : World) (hG : Blk w SD [.pointer (some ⟨D, 0, none⟩)] 135)
    (h : Calls Tryz.prog 103 #[.pointer (some ⟨D, 0, none⟩), .int .i64 i] w fun e w' => e = .returned (.tuple #[.string z, .int .i64 c]) ∧ Q w') :
    Calls Tryz.prog 61 #[.pointer (some ⟨SD, 0, none⟩), .int .i64 i] w fun e w' => e = .returned (.tuple #[.string z, .int .i64 c]) ∧ Q w' := by
  have H := hide h
  have c0 : w.cell? ⟨SD, 0, none⟩ = some (.pointer (some ⟨D, 0, none⟩)) := hG.cell 0
  clear h hG
  go_enter Tryz.func61, Tryz.ntmps61
  go_wp2_with fail
  refine H.out.mono ?_
  rintro e w1 ⟨rfl, hq⟩
  have HQ := hide hq
  clear hq
  go_wp2
  go_ret2
  exact ⟨rfl, HQ.out⟩
set_option maxRecDepth 20000 in
theorem skTrouble_on (SD D : Nat) (i c : Int) (Q : World → Prop) (w : World) (hG : Blk w SD [.pointer (some ⟨D, 0, none⟩)] 135)
    (h : Calls Tryz.prog 113 #[.pointer (some ⟨D, 0, none⟩), .int .i64 i] w fun e w' => e = .returned (.int .i64 c) ∧ Q w') :
    Calls Tryz.prog 70 #[.pointer (some ⟨SD, 0, none⟩), .int .i64 i] w fun e w' => e = .returned (.int .i64 c) ∧ Q w' := by
  have H := hide h
  have c0 : w.cell? ⟨SD, 0, none⟩ = some (.pointer (some ⟨D, 0, none⟩)) := hG.cell 0
  clear h hG
  go_enter Tryz.func70, Tryz.ntmps70
  go_wp2_with fail
  refine H.out.mono ?_
  rintro e w1 ⟨rfl, hq⟩
  have HQ := hide hq
  clear hq
  go_wp2
  go_ret
  exact ⟨rfl, HQ.out⟩
theorem dtrouble_any (lo D : Nat) (st : DSt) (F : Nat → Prop) (k : Int) (w : World) (h : DSk lo D st w F) (hk0 : 0 ≤ k) (hk : k ≤ 9223372036854775807) :
    Calls Tryz.prog 113 #[.pointer (some ⟨D, 0, none⟩), .int .i64 k] w fun e w' => e = .returned (.int .i64 0) ∧ DL lo D { st with trouble := k } F w w' := by
  obtain ⟨E, pv, hd, rfl⟩ := h
  refine (trouble_any lo D E pv st k w hd hk).mono ?_
  rw [if_neg (by omega), if_neg (by omega)]
  rintro e w' ⟨rfl, a, b⟩
  exact ⟨rfl, dl_mk a (foot_of_D b) (fun k e => .inl e)⟩

/-- All of it lies in memory. -/
structure IOS (lo SD D G S : Nat) (st : DSt) (vs : List Value) (F : Nat → Prop) (w : World) : Prop where
  d : Blk w SD [.pointer (some ⟨D, 0, none⟩)] 135
  g : Blk w G [.pointer (some ⟨S, 0, none⟩)] 142
  s : Blk w S vs 188
  k : DSk lo D st w F
  nd : ¬ F SD
  ng : ¬ F G
  ns : ¬ F S
  sd : S ≠ SD
  sg : S ≠ G
  ld : lo ≤ SD
  ls : lo ≤ S
/-- What a call leaves. -/
def IOL (lo SD D G S : Nat) (st : DSt) (vs : List Value) (F : Nat → Prop) (w w' : World) : Prop := ∃ F', IOS lo SD D G S st vs F' w' ∧ Kept (fun k => k = S ∨ F k) w w' ∧ ∀ k, F' k → F k ∨ w.heap.size ≤ k
section
variable {lo SD D G S : Nat} {st s2 : DSt} {vs v2 : List Value} {F : Nat → Prop} {w w' w2 : World}
theorem IOS.below (h : IOS lo SD D G S st vs F w) (hb : Below w.heap.size w w') : IOS lo SD D G S st vs F w' := ⟨h.d.on hb, h.g.on hb, h.s.on hb, h.k.below hb, h.nd, h.ng, h.ns, h.sd, h.sg, h.ld, h.ls⟩
theorem ios_of {F' : Nat → Prop} (h : IOS lo SD D G S st vs F w) (hB : Blk w' S v2 188) (hd : DSk lo D s2 w' F') (hk : Kept (fun k => k = S ∨ F k) w w') (hf : ∀ k, F' k → F k ∨ w.heap.size ≤ k) : IOS lo SD D G S s2 v2 F' w' := by
  have n : ∀ g, g < w.heap.size → ¬ F g → ¬ F' g := fun g hg hn h => by
    rcases hf g h with h | h
    · exact hn h
    · omega
  exact ⟨hk.blk h.d (by rintro (e | e) <;> first | exact h.sd e.symm | exact h.nd e), hk.blk h.g (by rintro (e | e) <;> first | exact h.sg e.symm | exact h.ng e), hB, hd, n _ h.d.lt h.nd, n _ h.g.lt h.ng, n _ h.s.lt h.ns, h.sd, h.sg, h.ld, h.ls⟩
theorem IOS.sgl (h : IOS lo SD D G S st vs F w) (k : SGL lo S D s2 v2 F w w') : IOL lo SD D G S s2 v2 F w w' := by
  obtain ⟨a, F', b, c, d⟩ := k
  exact ⟨F', ios_of h a b c d, c, d⟩
theorem IOS.dl (h : IOS lo SD D G S st vs F w) (k : DL lo D s2 F w w') : IOL lo SD D G S s2 vs F w w' := by
  have hs := k.blk h.s h.ns
  obtain ⟨F', b, c, d⟩ := k
  have c' : Kept (fun k => k = S ∨ F k) w w' := c.mono (fun _ _ e => .inr e)
  exact ⟨F', ios_of h hs b c' d, c', d⟩
theorem IOL.refl (h : IOS lo SD D G S st vs F w) : IOL lo SD D G S st vs F w w := ⟨F, h, Kept.refl _ _, fun _ hk => .inl hk⟩
theorem IOL.then (h : IOL lo SD D G S st vs F w w') (hb : Below w'.heap.size w' w2) : IOL lo SD D G S st vs F w w2 := by
  obtain ⟨F', a, b, c⟩ := h
  exact ⟨F', a.below hb, b.after hb, c⟩
theorem IOL.of_below (hb : Below w.heap.size w w') (h : IOL lo SD D G S st vs F w' w2) : IOL lo SD D G S st vs F w w2 := by
  obtain ⟨F', a, b, c⟩ := h
  refine ⟨F', a, (Kept.of_below (F := fun k => k = S ∨ F k) hb).trans b (fun i hi => .inl hi), fun i hi => ?_⟩
  rcases c i hi with h | h
  · exact .inl h
  · exact .inr (Nat.le_trans hb.size h)
theorem IOL.trans (h : IOL lo SD D G S st vs F w w') (k : ∀ F', IOS lo SD D G S st vs F' w' → IOL lo SD D G S s2 v2 F' w' w2) : IOL lo SD D G S s2 v2 F w w2 := by
  obtain ⟨F1, a, b, c⟩ := h
  obtain ⟨F2, a2, b2, c2⟩ := k F1 a
  refine ⟨F2, a2, b.trans b2 (fun i hi => ?_), fun i hi => ?_⟩
  · rcases hi with rfl | hi
    · exact .inl (.inl rfl)
    · rcases c i hi with h | h
      · exact .inl (.inr h)
      · exact .inr h
  · rcases c2 i hi with h | h
    · exact c i h
    · exact .inr (Nat.le_trans b.size h)
theorem IOL.low (h : IOL lo SD D G S st vs F w w') (hS : lo ≤ S) (hF : ∀ k, F k → lo ≤ k) (hlo : lo ≤ w.heap.size) : Below lo w w' := by
  obtain ⟨F1, a, b, c⟩ := h
  refine b.below (fun k hk => ?_) hlo
  rcases hk with rfl | hk
  · exact hS
  · exact hF k hk
theorem IOL.blk (h : IOL lo SD D G S st vs F w w') {g : Nat} {us : List Value} {T : TypeId} (hg : Blk w g us T) (h1 : g ≠ S) (h2 : ¬ F g) : Blk w' g us T := by
  obtain ⟨F1, a, b, c⟩ := h
  exact b.blk hg (by rintro (e | e) <;> first | exact h1 e | exact h2 e)
end
theorem ioCount (lo SD D G S : Nat) (st : DSt) (vs : List Value) (F : Nat → Prop) (w : World) (h : IOS lo SD D G S st vs F w) :
    Calls Tryz.prog 69 #[.pointer (some ⟨SD, 0, none⟩)] w fun e w' => e = .returned (.agg #[.int .i64 st.writes, .int .i64 st.syncs, .int .i64 st.pend.length]) ∧ Below w.heap.size w w' := by
  obtain ⟨E, pv, hd, hF⟩ := h.k
  have nd := h.nd
  rw [hF] at nd
  exact scount_any lo SD st _ w ⟨D, E, pv, h.d, hd, fun e => nd (.inl e), fun e => nd (.inr (.inl e)), fun e => nd (.inr (.inr e)), h.ld, rfl⟩
theorem ioRead (lo SD D G S : Nat) (st : DSt) (vs : List Value) (F : Nat → Prop) (i : Int) (w : World) (h : IOS lo SD D G S st vs F w) :
    Calls Tryz.prog 61 #[.pointer (some ⟨SD, 0, none⟩), .int .i64 i] w fun e w' => e = .returned (.tuple #[.string (rdAns st i).1, .int .i64 (rdAns st i).2]) ∧ IOL lo SD D G S (rdSt st i) vs F w w' :=
  skRead_on SD D i _ _ _ w h.d ((dread_any lo D st F i w h.k).mono (by
    rintro e w' ⟨rfl, hl⟩
    exact ⟨rfl, h.dl hl⟩))
theorem ioTrouble (lo SD D G S : Nat) (st : DSt) (vs : List Value) (F : Nat → Prop) (k : Int) (w : World) (h : IOS lo SD D G S st vs F w) (hk0 : 0 ≤ k) (hk : k ≤ 9223372036854775807) :
    Calls Tryz.prog 70 #[.pointer (some ⟨SD, 0, none⟩), .int .i64 k] w fun e w' => e = .returned (.int .i64 0) ∧ IOL lo SD D G S { st with trouble := k } vs F w w' :=
  skTrouble_on SD D k _ _ w h.d ((dtrouble_any lo D st F k w h.k hk0 hk).mono (by
    rintro e w' ⟨rfl, hl⟩
    exact ⟨rfl, h.dl hl⟩))
end Go.Proofs.YtgaoeoijdpdjiabGreatDoor
