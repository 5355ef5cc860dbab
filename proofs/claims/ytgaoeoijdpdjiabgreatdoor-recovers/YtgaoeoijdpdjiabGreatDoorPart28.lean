/-
  The journal: a record is laid on the disk. The disk by itself: every call, in one word. The first record of a key. The steps by which a signer begins: sync, read, refuse. The program's IsIndex. slices.Grow of nil. slices.Concat of three lists of texts. From a leaf up to the root: what a climb makes. From a leaf up to the root: the program's climb. Is it the place of a leaf? The program's isLeafOf. The statement's own sown: seeds that are right, out of any texts.
-/
import Derived.Test.YtgaoeoijdpdjiabGreatDoorPart18
import Derived.Test.YtgaoeoijdpdjiabGreatDoorPart26
import Derived.Test.YtgaoeoijdpdjiabGreatDoorPart25
import Derived.Test.YtgaoeoijdpdjiabGreatDoorPart2
import Derived.Test.YtgaoeoijdpdjiabGreatDoorPart23
import Derived.Test.YtgaoeoijdpdjiabGreatDoorPart27
import Derived.Lib.AppendZeros
import Derived.Deep.Upon
import Derived.Test.YtgaoeoijdpdjiabGreatDoorPart6
import Derived.Test.YtgaoeoijdpdjiabGreatDoorPart12
namespace Go.Proofs.YtgaoeoijdpdjiabGreatDoor
open Go.RowKit
set_option maxRecDepth 20000 in
theorem lay_on (Q : Int → World → Prop) (D : Nat) (q b q2 : Int) (d : ByteArray) (w : World) (h : RecR q b d) (hq : Int.tmod q 2 = q2) (_hv : IntKind.i64.wrap q2 = q2)
    (hW : ∀ V : World, Below w.heap.size w V → Calls Tryz.prog 104 #[.pointer (some ⟨D, 0, none⟩), .int .i64 q2, .string (sealS q b d)] V fun e w' => ∃ c, e = .returned (.int .i64 c) ∧ Q c w') :
    Calls Tryz.prog 183 #[.pointer (some ⟨D, 0, none⟩), .agg #[.int .i64 q, .int .i64 b, .string d]] w fun e w' => ∃ c, e = .returned (.int .i64 c) ∧ Q c w' := by
  have HS := hide (fun V : World => seal_yes q b d V h)
  have HW := hide hW
  have HK := hide (Blk.new w [.int .i64 q, .int .i64 b, .string d] 186)
  clear hW h
  generalize sealS q b d = z at HS HW
  go_enter Tryz.func183, Tryz.ntmps183
  go_wp2_with fail
  refine (HS.out _).mono ?_
  rintro e w1 ⟨rfl, hb1⟩
  have c0 : w1.cell? ⟨w.heap.size, 0, none⟩ = some (.int .i64 q) := (HK.out.on hb1).cell 0
  have HB := hide (((Below.refl w.heap.size w).alloc (Nat.le_refl _) _).trans (hb1.mono (by simp)))
  clear hb1
  go_wp2_with fail
  refine (HW.out _ HB.out).mono ?_
  rintro e w2 ⟨c, rfl, hQ⟩
  have HQ := hide hQ
  clear hQ
  go_wp2
  go_ret
  exact ⟨c, rfl, HQ.out⟩
end Go.Proofs.YtgaoeoijdpdjiabGreatDoor

namespace Go.Proofs.YtgaoeoijdpdjiabGreatDoor
open Go.RowKit
/-- A disk lies at block D: F are the blocks that are its own. -/
def DSk (lo D : Nat) (st : DSt) (w : World) (F : Nat → Prop) : Prop := ∃ E pv, DAt lo D E pv st w ∧ F = DFoot D E pv
/-- What a call leaves. -/
def DL (lo D : Nat) (st : DSt) (F : Nat → Prop) (w w' : World) : Prop := ∃ F', DSk lo D st w' F' ∧ Kept F w w' ∧ ∀ k, F' k → F k ∨ w.heap.size ≤ k
section
variable {lo D : Nat} {st s2 : DSt} {w w' w2 : World} {F G : Nat → Prop}
theorem DSk.lt (h : DSk lo D st w F) : ∀ k, F k → lo ≤ k ∧ k < w.heap.size := by
  obtain ⟨E, pv, hd, rfl⟩ := h
  exact hd.lt
theorem DSk.self (h : DSk lo D st w F) : F D := by
  obtain ⟨E, pv, hd, rfl⟩ := h
  exact .inl rfl
theorem DSk.kept (h : DSk lo D st w F) (hk : Kept G w w') (hn : ∀ k, F k → ¬ G k) : DSk lo D st w' F := by
  obtain ⟨E, pv, hd, rfl⟩ := h
  exact ⟨E, pv, hd.kept hk hn, rfl⟩
theorem DSk.below (h : DSk lo D st w F) (hb : Below w.heap.size w w') : DSk lo D st w' F := h.kept (Kept.of_below (F := fun _ => False) hb) (fun _ _ hf => hf)
theorem DSk.ok (h : DSk lo D st w F) : DOk st := by
  obtain ⟨E, pv, hd, _⟩ := h
  exact hd.ok
theorem DSk.term (h : DSk lo D st w F) : w.cell? ⟨D, 5, none⟩ = some (.int .i64 st.term) := by
  obtain ⟨E, pv, hd, _⟩ := h
  exact hd.c5
theorem DSk.sectors (h : DSk lo D st w F) : ∃ a, w.cell? ⟨D, 0, none⟩ = some (.slice a st.n st.n) := by
  obtain ⟨E, pv, hd, _⟩ := h
  exact ⟨_, hd.c0⟩
theorem DSk.ltD (h : DSk lo D st w F) : D < w.heap.size := (h.lt D h.self).2
theorem DL.of_below (hb : Below w.heap.size w w') (k : DL lo D s2 F w' w2) (_hF : ∀ i, F i → i < w.heap.size) : DL lo D s2 F w w2 := by
  obtain ⟨F2, d2, k2, f2⟩ := k
  refine ⟨F2, d2, (Kept.of_below (F := F) hb).trans k2 (fun i hi => .inl hi), fun i hi => ?_⟩
  rcases f2 i hi with h | h
  · exact .inl h
  · exact .inr (Nat.le_trans hb.size h)
theorem DL.refl (h : DSk lo D st w F) : DL lo D st F w w := ⟨F, h, Kept.refl _ _, fun _ hk => .inl hk⟩
theorem DL.then (k : DL lo D st F w w') (hb : Below w'.heap.size w' w2) : DL lo D st F w w2 := by
  obtain ⟨F2, d2, k2, f2⟩ := k
  exact ⟨F2, d2.below hb, k2.after hb, f2⟩
theorem DL.blk (k : DL lo D st F w w') {g : Nat} {vs : List Value} {T : TypeId} (h : Blk w g vs T) (hn : ¬ F g) : Blk w' g vs T := by
  obtain ⟨F2, d2, k2, f2⟩ := k
  unfold Blk at h ⊢
  rw [k2.block g (Blk.lt h) hn]; exact h
end
theorem dl_mk {lo D E : Nat} {pv pv' : Value} {st : DSt} {w w' : World} (hd : DAt lo D E pv' st w') (hk : Kept (DFoot D E pv) w w') (ho : ∀ k, pv'.ownBlock = some k → pv.ownBlock = some k ∨ w.heap.size ≤ k) : DL lo D st (DFoot D E pv) w w' := by
  refine ⟨_, ⟨E, pv', hd, rfl⟩, hk, ?_⟩
  rintro k (rfl | rfl | e)
  · exact .inl (.inl rfl)
  · exact .inl (.inr (.inl rfl))
  · rcases ho k e with h | h
    · exact .inl (.inr (.inr h))
    · exact .inr h
theorem dwrite_any (lo D : Nat) (st : DSt) (F : Nat → Prop) (i : Int) (t : ByteArray) (w : World) (h : DSk lo D st w F) (hlo : lo ≤ w.heap.size) (hw : 0 ≤ st.writes) (hw2 : st.writes < 9223372036854775807) :
    Calls Tryz.prog 104 #[.pointer (some ⟨D, 0, none⟩), .int .i64 i, .string t] w fun e w' => e = .returned (.int .i64 (wrAns st i t)) ∧ DL lo D (wrSt st i t) F w w' := by
  obtain ⟨E, pv, hd, rfl⟩ := h
  by_cases hi : 0 ≤ i ∧ i < st.n
  · by_cases ht : t.size = 32
    · by_cases hf : st.trouble = 1 ∨ st.pend.length = 16
      · rw [show wrAns st i t = 5 by rw [wrAns, if_neg (fun hn => hn hi), if_neg (fun hn => hn ht), if_pos hf], show wrSt st i t = { st with trouble := tick st.trouble } by rw [wrSt, if_neg (fun hn => hn hi), if_neg (fun hn => hn ht), if_pos hf]]
        refine (write_dsk lo D E pv st i t w hd hi ht hf).mono ?_
        rintro e w' ⟨rfl, a, b⟩
        exact ⟨rfl, dl_mk a (foot_of_D b) (fun k e => .inl e)⟩
      · rw [show wrAns st i t = 0 by rw [wrAns, if_neg (fun hn => hn hi), if_neg (fun hn => hn ht), if_neg hf], show wrSt st i t = { st with trouble := tick st.trouble, pend := st.pend ++ [(i.toNat, t)], writes := st.writes + 1 } by rw [wrSt, if_neg (fun hn => hn hi), if_neg (fun hn => hn ht), if_neg hf]]
        obtain ⟨k, rfl⟩ := Int.eq_ofNat_of_zero_le hi.1
        refine (write_ok lo D E pv st k t w hd hlo (by omega) ht (fun e => hf (.inl e)) (fun e => hf (.inr e)) hw hw2).mono ?_
        rintro e w' ⟨rfl, pv', a, b, c⟩
        exact ⟨rfl, dl_mk (by simpa using a) b c⟩
    · rw [show wrAns st i t = 2 by rw [wrAns, if_neg (fun hn => hn hi), if_pos ht], show wrSt st i t = st by rw [wrSt, if_neg (fun hn => hn hi), if_pos ht]]
      refine (write_arg lo D E pv st i t w hd hi ht).mono ?_
      rintro e w' ⟨rfl, rfl⟩
      exact ⟨rfl, dl_mk hd (Kept.refl _ _) (fun k e => .inl e)⟩
  · rw [show wrAns st i t = 4 by rw [wrAns, if_pos hi], show wrSt st i t = st by rw [wrSt, if_pos hi]]
    refine (write_sec lo D E pv st i t w hd hi).mono ?_
    rintro e w' ⟨rfl, rfl⟩
    exact ⟨rfl, dl_mk hd (Kept.refl _ _) (fun k e => .inl e)⟩
theorem dsync_any (lo D : Nat) (st : DSt) (F : Nat → Prop) (w : World) (h : DSk lo D st w F) (hw : 0 ≤ st.syncs) (hw2 : st.syncs < 9223372036854775807) :
    Calls Tryz.prog 105 #[.pointer (some ⟨D, 0, none⟩)] w fun e w' => e = .returned (.int .i64 (syAns st)) ∧ DL lo D (sySt st) F w w' := by
  obtain ⟨E, pv, hd, rfl⟩ := h
  by_cases ht : st.trouble = 1
  · rw [show syAns st = 5 by rw [syAns, if_pos ht], show sySt st = { st with trouble := tick st.trouble } by rw [sySt, if_pos ht]]
    refine (sync_no lo D E pv st w hd ht).mono ?_
    rintro e w' ⟨rfl, a, b⟩
    exact ⟨rfl, dl_mk a (foot_of_D b) (fun k e => .inl e)⟩
  · rw [show syAns st = 0 by rw [syAns, if_neg ht], show sySt st = { st with trouble := tick st.trouble, dur := laidJ st st.pend.length, pend := [], syncs := st.syncs + 1 } by rw [sySt, if_neg ht]]
    refine (sync_ok lo D E pv st w hd ht hw hw2).mono ?_
    rintro e w' ⟨rfl, a, b⟩
    exact ⟨rfl, dl_mk a b (fun k e => by simp [Value.ownBlock] at e)⟩
theorem dread_any (lo D : Nat) (st : DSt) (F : Nat → Prop) (i : Int) (w : World) (h : DSk lo D st w F) :
    Calls Tryz.prog 103 #[.pointer (some ⟨D, 0, none⟩), .int .i64 i] w fun e w' => e = .returned (.tuple #[.string (rdAns st i).1, .int .i64 (rdAns st i).2]) ∧ DL lo D (rdSt st i) F w w' := by
  obtain ⟨E, pv, hd, rfl⟩ := h
  refine (read_any lo D E pv st i w hd).mono ?_
  rintro e w' ⟨rfl, a, b⟩
  exact ⟨rfl, dl_mk a (foot_of_D b) (fun k e => .inl e)⟩
theorem dterm_any (lo D : Nat) (st : DSt) (F : Nat → Prop) (w : World) (h : DSk lo D st w F) (h1 : 0 ≤ st.term) (h2 : st.term < 9223372036854775807) :
    Calls Tryz.prog 173 #[.pointer (some ⟨D, 0, none⟩)] w fun e w' => e = .returned (.tuple #[]) ∧ DL lo D { st with term := st.term + 1 } F w w' := by
  obtain ⟨E, pv, hd, rfl⟩ := h
  refine (newTerm_on D st.term w hd.c5 (hd.free 5) (by rw [IntKind.wrap_i64] <;> omega)).mono ?_
  rintro e w' ⟨rfl, rfl⟩
  exact ⟨rfl, dl_mk (hd.setTerm _) (foot_of_D (kept_set w ⟨D, 5, none⟩ _)) (fun k e => .inl e)⟩
/-- A record is laid. -/
theorem jlay_any (lo D : Nat) (st : DSt) (F : Nat → Prop) (q b q2 : Int) (d : ByteArray) (w : World) (h : DSk lo D st w F) (hlo : lo ≤ w.heap.size) (hw : 0 ≤ st.writes) (hw2 : st.writes < 9223372036854775807) (hR : RecR q b d) (hq : Int.tmod q 2 = q2) (hv : IntKind.i64.wrap q2 = q2) :
    Calls Tryz.prog 183 #[.pointer (some ⟨D, 0, none⟩), .agg #[.int .i64 q, .int .i64 b, .string d]] w fun e w' => e = .returned (.int .i64 (wrAns st q2 (sealS q b d))) ∧ DL lo D (wrSt st q2 (sealS q b d)) F w w' := by
  refine (lay_on (fun c w' => c = wrAns st q2 (sealS q b d) ∧ DL lo D (wrSt st q2 (sealS q b d)) F w w') D q b q2 d w hR hq hv ?_).mono ?_
  · intro V hb
    refine (dwrite_any lo D st F q2 (sealS q b d) V (h.below hb) (Nat.le_trans hlo hb.size) hw hw2).mono ?_
    rintro e w' ⟨rfl, hl⟩
    exact ⟨_, rfl, rfl, hl.of_below hb (fun i hi => (h.lt i hi).2)⟩
  · rintro e w' ⟨c, rfl, rfl, hl⟩
    exact ⟨rfl, hl⟩
end Go.Proofs.YtgaoeoijdpdjiabGreatDoor

namespace Go.Proofs.YtgaoeoijdpdjiabGreatDoor
open Go.RowKit
/-- What Make and Open have found out so far. -/
def opC (D : Nat) (id : ByteArray) (tot : Int) (fv : Value) (q b : Int) (d : ByteArray) : List Value := [.pointer (some ⟨D, 0, none⟩), .string id, .int .i64 tot, fv, .int .i64 q, .int .i64 b, .string d]
set_option maxRecDepth 20000 in
set_option maxHeartbeats 2000000 in
theorem layFirst_on (Q : Int → World → Prop) (O D : Nat) (id i0 : ByteArray) (tot s0 b0 : Int) (fv : Value) (w W : World) (hO : Blk w O (opC D id tot fv s0 b0 i0) 246)
    (hW : ((w.setCell ⟨O, 4, none⟩ (.int .i64 1)).setCell ⟨O, 5, none⟩ (.int .i64 0)).setCell ⟨O, 6, none⟩ (.string id) = W)
    (hQ : ∀ c V, Q c V → Blk V O (opC D id tot fv 1 0 id) 246)
    (hL : ∀ V : World, Below W.heap.size W V → Calls Tryz.prog 183 #[.pointer (some ⟨D, 0, none⟩), .agg #[.int .i64 1, .int .i64 0, .string id]] V fun e w' => ∃ c, e = .returned (.int .i64 c) ∧ Q c w') :
    Calls Tryz.prog 111 #[.pointer (some ⟨O, 0, none⟩)] w fun e w' => ∃ c, e = .returned (.int .i64 c) ∧ Q c w' := by
  have HL := hide hL
  have c0 : w.cell? ⟨O, 0, none⟩ = some (.pointer (some ⟨D, 0, none⟩)) := hO.cell 0
  have c1 : w.cell? ⟨O, 1, none⟩ = some (.string id) := hO.cell 1
  have c4 : w.cell? ⟨O, 4, none⟩ = some (.int .i64 s0) := hO.cell 4
  have c5 : w.cell? ⟨O, 5, none⟩ = some (.int .i64 b0) := hO.cell 5
  have c6 : w.cell? ⟨O, 6, none⟩ = some (.string i0) := hO.cell 6
  have f4 := hO.free 4
  have f5 := hO.free 5
  have f6 := hO.free 6
  have HBW := hide (show Blk W O (opC D id tot fv 1 0 id) 246 by rw [← hW]; exact ((hO.set 4 _).set 5 _).set 6 _)
  have HS := hide (fun (V : World) (h : Blk V O (opC D id tot fv 1 0 id) 246) => (⟨h.cell 0, h.cell 4, h.cell 5, h.cell 6⟩ : V.cell? ⟨O, 0, none⟩ = some (.pointer (some ⟨D, 0, none⟩)) ∧ V.cell? ⟨O, 4, none⟩ = some (.int .i64 1) ∧ V.cell? ⟨O, 5, none⟩ = some (.int .i64 0) ∧ V.cell? ⟨O, 6, none⟩ = some (.string id)))
  have HQ := hide hQ
  have HWE := hide hW
  clear hL hQ hW hO
  go_enter Tryz.func111, Tryz.ntmps111
  go_wp2_with fail
  rw [HWE.out]
  clear c0 c1 c4 c5 c6 f4 f5 f6
  have hS : Blk W.drew O (opC D id tot fv 1 0 id) 246 := HBW.out
  go_region_held3 (fun V => V.cell? ⟨O, 0, none⟩ = some (.pointer (some ⟨D, 0, none⟩)) ∧ V.cell? ⟨O, 4, none⟩ = some (.int .i64 1) ∧ V.cell? ⟨O, 5, none⟩ = some (.int .i64 0) ∧ V.cell? ⟨O, 6, none⟩ = some (.string id)) (exact HS.out _ hS) (first | (go_at_call 183; refine (HL.out _ (Below.refl W.heap.size W).drew).mono ?_; rintro e wN ⟨c, rfl, hq⟩; have hS := HQ.out _ _ hq))
  have HQ9 := hide hq
  clear hq hS
  go_wp2
  go_ret
  exact ⟨c, rfl, HQ9.out⟩
end Go.Proofs.YtgaoeoijdpdjiabGreatDoor

namespace Go.Proofs.YtgaoeoijdpdjiabGreatDoor
open Go.RowKit
set_option maxRecDepth 20000 in
theorem osync_on (Q : Int → World → Prop) (O D : Nat) (w : World) (h0 : w.cell? ⟨O, 0, none⟩ = some (.pointer (some ⟨D, 0, none⟩)))
    (hS : Calls Tryz.prog 105 #[.pointer (some ⟨D, 0, none⟩)] w fun e w' => ∃ c, e = .returned (.int .i64 c) ∧ Q c w') :
    Calls Tryz.prog 107 #[.pointer (some ⟨O, 0, none⟩)] w fun e w' => ∃ c, e = .returned (.int .i64 c) ∧ Q c w' := by
  have HS := hide hS
  clear hS
  go_enter Tryz.func107, Tryz.ntmps107
  go_wp2_with fail
  refine HS.out.mono ?_
  rintro e w2 ⟨c, rfl, hQ⟩
  have HQ := hide hQ
  clear hQ
  go_wp2
  go_ret
  exact ⟨c, rfl, HQ.out⟩
set_option maxRecDepth 20000 in
theorem oread_no (Q : World → Prop) (O D : Nat) (i : Int) (s : ByteArray) (w : World) (h0 : w.cell? ⟨O, 0, none⟩ = some (.pointer (some ⟨D, 0, none⟩))) (hs : isRec s = false) (hQ : ∀ V V', Q V → Below V.heap.size V V' → Q V')
    (hR : Calls Tryz.prog 103 #[.pointer (some ⟨D, 0, none⟩), .int .i64 i] w fun e w' => e = .returned (.tuple #[.string s, .int .i64 0]) ∧ Q w') :
    Calls Tryz.prog 182 #[.pointer (some ⟨O, 0, none⟩), .int .i64 i] w fun e w' => e = .returned (.int .i64 0) ∧ Q w' := by
  have HR := hide hR
  have HU := hide (fun V : World => unseal_any s V)
  rw [unsV_no hs] at HU
  have HQ := hide hQ
  clear hR hs hQ
  go_enter Tryz.func182, Tryz.ntmps182
  go_wp2_with fail
  refine HR.out.mono ?_
  rintro e w1 ⟨rfl, hq1⟩
  have HQ1 := hide hq1
  clear hq1
  go_wp2_with fail
  refine (HU.out _).mono ?_
  rintro e w2 ⟨rfl, hb2⟩
  have HQ2 := hide (HQ.out _ _ HQ1.out hb2)
  clear hb2
  go_wp2
  go_ret
  exact ⟨rfl, HQ.out _ _ HQ2.out ((Below.refl _ _).alloc (Nat.le_refl _) _)⟩
set_option maxRecDepth 20000 in
theorem oreadEven_on (Q : Int → World → Prop) (O : Nat) (w : World)
    (hR : Calls Tryz.prog 182 #[.pointer (some ⟨O, 0, none⟩), .int .i64 0] w fun e w' => ∃ c, e = .returned (.int .i64 c) ∧ Q c w') :
    Calls Tryz.prog 108 #[.pointer (some ⟨O, 0, none⟩)] w fun e w' => ∃ c, e = .returned (.int .i64 c) ∧ Q c w' := by
  have HR := hide hR
  clear hR
  go_enter Tryz.func108, Tryz.ntmps108
  go_wp2_with fail
  refine HR.out.mono ?_
  rintro e w1 ⟨c, rfl, hq1⟩
  have HQ1 := hide hq1
  clear hq1
  go_wp2
  go_ret
  exact ⟨c, rfl, HQ1.out⟩
set_option maxRecDepth 20000 in
theorem oreadOdd_on (Q : Int → World → Prop) (O : Nat) (w : World)
    (hR : Calls Tryz.prog 182 #[.pointer (some ⟨O, 0, none⟩), .int .i64 1] w fun e w' => ∃ c, e = .returned (.int .i64 c) ∧ Q c w') :
    Calls Tryz.prog 109 #[.pointer (some ⟨O, 0, none⟩)] w fun e w' => ∃ c, e = .returned (.int .i64 c) ∧ Q c w' := by
  have HR := hide hR
  clear hR
  go_enter Tryz.func109, Tryz.ntmps109
  go_wp2_with fail
  refine HR.out.mono ?_
  rintro e w1 ⟨c, rfl, hq1⟩
  have HQ1 := hide hq1
  clear hq1
  go_wp2
  go_ret
  exact ⟨c, rfl, HQ1.out⟩
set_option maxRecDepth 20000 in
theorem orefuse_no (O : Nat) (a : Option Addr) (c : Nat) (w : World) (h3 : w.cell? ⟨O, 3, none⟩ = some (.slice a 0 c)) :
    Calls Tryz.prog 110 #[.pointer (some ⟨O, 0, none⟩)] w fun e w' => e = .returned (.int .i64 0) ∧ w' = w := by
  go_enter Tryz.func110, Tryz.ntmps110
  go_wp2
  go_ret
  exact ⟨rfl, rfl⟩
end Go.Proofs.YtgaoeoijdpdjiabGreatDoor

namespace Go.Proofs.YtgaoeoijdpdjiabGreatDoor
open Go.RowKit
set_option maxRecDepth 20000 in
set_option maxHeartbeats 4000000 in
theorem isIndex_on (k b x t l i a0 a1 a2 tot a4 a5 : Int) (w : World)
    (hM : ∀ V : World, Calls Tryz.prog 155 #[.agg #[.int .i64 k, .int .i64 b, .int .i64 x, .int .i64 t, .int .i64 l]] V fun e w' => e = .returned (.tuple #[.agg #[.int .i64 a0, .int .i64 a1, .int .i64 a2, .int .i64 tot, .int .i64 a4, .int .i64 a5], .int .i64 0]) ∧ Below V.heap.size V w') :
    Calls Tryz.prog 157 #[.agg #[.int .i64 k, .int .i64 b, .int .i64 x, .int .i64 t, .int .i64 l], .int .i64 i] w fun e w' => e = .returned (.bool (decide (0 ≤ i ∧ i < tot))) ∧ Below w.heap.size w w' := by
  have HM := hide (hM (w.alloc (.cells #[.int .i64 k, .int .i64 b, .int .i64 x, .int .i64 t, .int .i64 l] 26)))
  have HW := hide (fun V : World => within_any i tot V)
  clear hM
  generalize decide (0 ≤ i ∧ i < tot) = r at HW ⊢
  go_enter Tryz.func157, Tryz.ntmps157
  go_wp2_with fail
  refine HM.out.mono ?_
  rintro e w1 ⟨rfl, hb1⟩
  have HB1 := hide (((Below.refl w.heap.size w).alloc (Nat.le_refl _) _).trans (hb1.mono (by simp)))
  clear hb1 HM
  go_wp2_with fail
  refine (HW.out _).mono ?_
  rintro e w2 ⟨rfl, hw⟩
  obtain rfl := hw.symm
  clear hw
  go_wp2
  go_ret
  exact ⟨rfl, HB1.out.alloc HB1.out.size _⟩
end Go.Proofs.YtgaoeoijdpdjiabGreatDoor

namespace Go.Proofs.YtgaoeoijdpdjiabGreatDoor
open Go.RowKit
theorem undInt : Tryz.prog.underlying 3 = some (.int .i64) := Tryz.underlying3
set_option maxRecDepth 20000 in
set_option maxHeartbeats 4000000 in
theorem grow_nil (N : Nat) (w : World) (h1 : 1 ≤ N) (h2 : N ≤ 1000) :
    Calls Tryz.prog 301 #[.slice none 0 0, .int .i64 N] w fun e w' => ∃ g cap, e = .returned (.slice (some ⟨g, 0, none⟩) 0 cap) ∧ w'.ownsRow w.heap.size 9 1 (.slice (some ⟨g, 0, none⟩) 0 cap) 0 [] ∧ Below w.heap.size w w' := by
  obtain ⟨i0, hi, hz0, hz1, hz2⟩ := info_parts infoStr
  have hr := Lib.run_append_nil_zeros (P := Tryz.prog) w 27 3 27 9 i0 (.string ⟨#[]⟩) .i64 .i64 Tryz.underlying27 undInt hi hz0 N (by omega) (by rw [hz1]; decide) (by omega) (by rw [hz2]; omega)
  have hge := grownCap_ge w N 0 9
  have hle := grownCap_le_maxLen w N 0 9 (by unfold maxLen; omega)
  generalize grownCap w N 0 9 = cap at hr hge hle
  have HO := hide (show (w.drew.alloc (.cells (Builtin.zeroCells (Value.string ⟨#[]⟩).cells N ++ Builtin.zeroCells (Value.string ⟨#[]⟩).cells (cap - N)) 9)).ownsRow w.heap.size 9 1 (.slice (some ⟨w.heap.size, 0, none⟩) 0 cap) 0 [] by
    refine ⟨rfl, Or.inr ⟨w.heap.size, cap, _, rfl, Nat.le_refl _, World.alloc_heap_new w.drew _, Nat.zero_le _, hle, ?_, by simp⟩⟩
    simp [Builtin.zeroCells, Value.cells]
    omega)
  have HB := hide (show Below w.heap.size w (w.drew.alloc (.cells (Builtin.zeroCells (Value.string ⟨#[]⟩).cells N ++ Builtin.zeroCells (Value.string ⟨#[]⟩).cells (cap - N)) 9)) from (Below.refl w.heap.size w).drew.alloc (Nat.le_refl _) _)
  generalize w.drew.alloc (.cells (Builtin.zeroCells (Value.string ⟨#[]⟩).cells N ++ Builtin.zeroCells (Value.string ⟨#[]⟩).cells (cap - N)) 9) = W1 at hr HO HB
  have HR := hide hr
  clear hr
  have hN0 : (0 : Int) < (N : Int) := by omega
  go_enter Tryz.func301, Tryz.ntmps301
  go_wp2_with (at_builtin; refine Lib.wpList_append_run _ rfl (.tmp 20) (.tmp 21) 27 3 rfl (.slice none 0 0) (.int .i64 N) rfl rfl _ _ HR.out ?_)
  go_ret
  exact ⟨_, _, rfl, HO.out, HB.out⟩
end Go.Proofs.YtgaoeoijdpdjiabGreatDoor

namespace Go.Proofs.YtgaoeoijdpdjiabGreatDoor
open Go.RowKit
theorem strs_news {w : World} {g : Nat} {xs : List ByteArray} (h : ∀ (j : Nat) y, xs[j]? = some y → w.cell? ⟨g, j, none⟩ = some (.string y)) : ∀ j u, (xs.map Value.string)[j]? = some u → w.cell? ((⟨g, 0, none⟩ : Addr).add j) = some u := by
  intro j u hj
  rw [List.getElem?_map, Option.map_eq_some_iff] at hj
  obtain ⟨y, hy, rfl⟩ := hj
  rw [Addr.add_mid, Nat.zero_add]
  exact h j y hy
theorem strs_one (xs : List ByteArray) : ∀ u ∈ xs.map Value.string, u.oneCell' = true := by
  intro u hu
  rw [List.mem_map] at hu
  obtain ⟨y, _, rfl⟩ := hu
  rfl
theorem owns_formS {w : World} {base : Nat} {e : TypeId} {s : Nat} {v : Value} {n : Nat} {xs : List Value} (h : w.ownsRow base e s v n xs) : ∃ ao cap, v = .slice ao n cap ∧ (ao = none → n = 0 ∧ cap = 0) := by
  rcases h.2 with ⟨rfl, rfl⟩ | ⟨g, cap, cur, rfl, _⟩
  · exact ⟨none, 0, rfl, fun _ => ⟨rfl, rfl⟩⟩
  · exact ⟨_, cap, rfl, fun h => by cases h⟩
theorem owns_ltS {w : World} {base : Nat} {e : TypeId} {s : Nat} {v : Value} {n : Nat} {xs : List Value} (h : w.ownsRow base e s v n xs) : ∀ k, v.ownBlock = some k → base ≤ k ∧ k < w.heap.size := by
  intro k hk
  rcases h.2 with ⟨rfl, _⟩ | ⟨g, cap, cur, rfl, hg, hh, _⟩
  · simp [Value.ownBlock] at hk
  · simp only [Value.ownBlock, Option.some.injEq] at hk
    subst hk
    exact ⟨hg, lt_of_block hh⟩
set_option maxRecDepth 20000 in
set_option maxHeartbeats 8000000 in
theorem concat_nil (B g1 n1 c1 g2 n2 c2 : Nat) (xs1 xs2 : List ByteArray) (w : World) (h1 : xs1.length = n1) (h2 : xs2.length = n2) (m1 : 1 ≤ n1) (k1 : n1 ≤ 200) (k2 : n2 ≤ 200) (b0 : B < w.heap.size) (b1 : g1 < w.heap.size) (b2 : g2 < w.heap.size)
    (d0 : w.cell? ⟨B, 0, none⟩ = some (.slice none 0 0)) (d1 : w.cell? ⟨B, 1, none⟩ = some (.slice (some ⟨g1, 0, none⟩) n1 c1)) (d2 : w.cell? ⟨B, 2, none⟩ = some (.slice (some ⟨g2, 0, none⟩) n2 c2))
    (x1 : ∀ (j : Nat) y, xs1[j]? = some y → w.cell? ⟨g1, j, none⟩ = some (.string y)) (x2 : ∀ (j : Nat) y, xs2[j]? = some y → w.cell? ⟨g2, j, none⟩ = some (.string y)) :
    Calls Tryz.prog 251 #[.slice (some ⟨B, 0, none⟩) 3 3] w fun e w' => ∃ g c, e = .returned (.slice (some ⟨g, 0, none⟩) (n1 + n2) c) ∧ w.heap.size ≤ g ∧ n1 + n2 ≤ c ∧ g < w'.heap.size ∧ (∀ (j : Nat) y, (xs1 ++ xs2)[j]? = some y → w'.cell? ⟨g, j, none⟩ = some (.string y)) ∧ Below w.heap.size w w' := by
  obtain ⟨i0, hi, hz0, hz1, hz2⟩ := info_parts infoStr
  have HD := hide (fun (V : World) (h : Below w.heap.size w V) => (⟨(h.cell (p := ⟨B, 0, none⟩) b0).trans d0, (h.cell (p := ⟨B, 1, none⟩) b0).trans d1, (h.cell (p := ⟨B, 2, none⟩) b0).trans d2⟩ : V.cell? ⟨B, 0, none⟩ = some (.slice none 0 0) ∧ V.cell? ⟨B, 1, none⟩ = some (.slice (some ⟨g1, 0, none⟩) n1 c1) ∧ V.cell? ⟨B, 2, none⟩ = some (.slice (some ⟨g2, 0, none⟩) n2 c2)))
  have HX1 := hide (fun (V : World) (h : Below w.heap.size w V) (j : Nat) (y : ByteArray) (hj : xs1[j]? = some y) => (h.cell (p := ⟨g1, j, none⟩) b1).trans (x1 j y hj))
  have HX2 := hide (fun (V : World) (h : Below w.heap.size w V) (j : Nat) (y : ByteArray) (hj : xs2[j]? = some y) => (h.cell (p := ⟨g2, j, none⟩) b2).trans (x2 j y hj))
  have HG := hide (grow_nil (n1 + n2) w (by omega) (by omega))
  have HL1 := hide h1
  have HL2 := hide h2
  clear x1 x2 h1 h2
  go_enter Tryz.func251, Tryz.ntmps251
  go_wp2
  refine wp_loop_rounds 4 ?_
  rw [rounds_succ]
  go_wp2
  rw [rounds_succ]
  go_wp2
  rw [rounds_succ]
  go_wp2
  rw [rounds_succ]
  go_wp2_with fail
  refine HG.out.mono ?_
  rintro e w1 ⟨g, cap, rfl, ho, hb⟩
  have HO := hide ho
  have HB := hide hb
  clear ho hb HG d0 d1 d2
  obtain ⟨d0, d1, d2⟩ := HD.out w1 HB.out
  go_wp2_with fail
  refine wp_loop_rounds 4 ?_
  rw [rounds_succ]
  have hno := Go.run_append_nothing (P := Tryz.prog) w1 27 27 27 9 i0 Tryz.underlying27 hi (some ⟨g, 0, none⟩) 0 cap (Nat.zero_le _) (.slice none 0 0) (by rw [hz1]; exact ⟨.inl ⟨_, Tryz.underlying27⟩, fun _ => by simp [Builtin.lenOf], by simp [Builtin.firstCells], by simp [Builtin.firstCells], rfl, by simp⟩)
  have HNO := hide hno
  clear hno
  go_wp2_with (at_builtin; refine Lib.wpList_append_run _ rfl (.tmp 31) (.tmp 32) 27 27 rfl (.slice (some ⟨g, 0, none⟩) 0 cap) (.slice none 0 0) rfl rfl _ _ HNO.out ?_)
  have HO3 := HO
  have HB3 := HB
  go_wp2_with fail
  rw [rounds_succ]
  go_wp2_with (at_builtin; refine wpList_append_own _ rfl (.tmp 31) (.tmp 32) 27 rfl w.heap.size 9 i0 (.string ⟨#[]⟩) 1 16 Tryz.underlying27 hi hz0 hz1 hz2 rfl (by decide) (.slice (some ⟨g, 0, none⟩) 0 cap) 0 [] rfl HO3.out ⟨g1, 0, none⟩ n1 c1 (xs1.map Value.string) rfl ?e1 (strs_news (HX1.out w1 HB3.out)) (strs_one xs1) ?e2 ?e3 HB3.out.size ?_)
  case e1 => rw [List.length_map, HL1.out, Nat.mul_one]
  case e2 => unfold maxLen; omega
  case e3 => omega
  intro v4 w4 ho4 hg4 _
  try simp only [Nat.zero_add, List.nil_append] at ho4
  obtain ⟨a4, p4, hv4, _⟩ := owns_formS ho4
  subst hv4
  have HB4 := hide (HB3.out.grown hg4 HB3.out.size (fun p hp => (owns_ltS HO3.out p hp).1))
  have HO4 := hide ho4
  clear ho4 hg4 d0 d1 d2
  obtain ⟨d0, d1, d2⟩ := HD.out w4 HB4.out
  go_wp2_with fail
  rw [rounds_succ]
  go_wp2_with (at_builtin; refine wpList_append_own _ rfl (.tmp 31) (.tmp 32) 27 rfl w.heap.size 9 i0 (.string ⟨#[]⟩) 1 16 Tryz.underlying27 hi hz0 hz1 hz2 rfl (by decide) (.slice a4 n1 p4) n1 (xs1.map Value.string) rfl HO4.out ⟨g2, 0, none⟩ n2 c2 (xs2.map Value.string) rfl ?f1 (strs_news (HX2.out w4 HB4.out)) (strs_one xs2) ?f2 ?f3 HB4.out.size ?_)
  case f1 => rw [List.length_map, HL2.out, Nat.mul_one]
  case f2 => unfold maxLen; omega
  case f3 => omega
  intro v5 w5 ho5 hg5 _
  have HB5 := hide (HB4.out.grown hg5 HB4.out.size (fun p hp => (owns_ltS HO4.out p hp).1))
  have hlen : (xs1 ++ xs2).length = n1 + n2 := by simp only [List.length_append, HL1.out, HL2.out]
  have ho6 : w5.ownsRow w.heap.size 9 1 v5 (n1 + n2) ((xs1 ++ xs2).map Value.string) := by
    simp only [List.map_append]
    try simp only [List.append_assoc] at ho5
    exact ho5
  obtain ⟨gg, cc, hv5, hc5, hg51, hg52, hce5⟩ := owns_strs (ys := xs1 ++ xs2) (by rw [hlen]; exact ho6) (by rw [hlen]; omega)
  rw [hlen] at hv5 hc5
  subst hv5
  have HCE := hide hce5
  have HGG := hide (And.intro hg51 hg52)
  clear ho5 ho6 hg5 hce5 hlen d0 d1 d2
  go_wp2_with fail
  rw [rounds_succ]
  go_wp2
  go_ret
  refine ⟨gg, cc, by simp, HGG.out.1, by omega, HGG.out.2, fun j y hj => ?_, HB5.out⟩
  have h := HCE.out j y hj
  rw [Nat.zero_add] at h
  exact h
set_option maxRecDepth 20000 in
set_option maxHeartbeats 8000000 in
theorem concat_some (B g0 n0 c0 g1 n1 c1 g2 n2 c2 : Nat) (xs0 : List ByteArray) (xs1 xs2 : List ByteArray) (w : World) (h0 : xs0.length = n0) (h1 : xs1.length = n1) (h2 : xs2.length = n2) (m1 : 1 ≤ n1) (k0 : n0 ≤ 200) (k1 : n1 ≤ 200) (k2 : n2 ≤ 200) (b0 : B < w.heap.size) (b3 : g0 < w.heap.size) (b1 : g1 < w.heap.size) (b2 : g2 < w.heap.size)
    (d0 : w.cell? ⟨B, 0, none⟩ = some (.slice (some ⟨g0, 0, none⟩) n0 c0)) (d1 : w.cell? ⟨B, 1, none⟩ = some (.slice (some ⟨g1, 0, none⟩) n1 c1)) (d2 : w.cell? ⟨B, 2, none⟩ = some (.slice (some ⟨g2, 0, none⟩) n2 c2))
    (x0 : ∀ (j : Nat) y, xs0[j]? = some y → w.cell? ⟨g0, j, none⟩ = some (.string y))
    (x1 : ∀ (j : Nat) y, xs1[j]? = some y → w.cell? ⟨g1, j, none⟩ = some (.string y)) (x2 : ∀ (j : Nat) y, xs2[j]? = some y → w.cell? ⟨g2, j, none⟩ = some (.string y)) :
    Calls Tryz.prog 251 #[.slice (some ⟨B, 0, none⟩) 3 3] w fun e w' => ∃ g c, e = .returned (.slice (some ⟨g, 0, none⟩) (n0 + n1 + n2) c) ∧ w.heap.size ≤ g ∧ n0 + n1 + n2 ≤ c ∧ g < w'.heap.size ∧ (∀ (j : Nat) y, (xs0 ++ xs1 ++ xs2)[j]? = some y → w'.cell? ⟨g, j, none⟩ = some (.string y)) ∧ Below w.heap.size w w' := by
  obtain ⟨i0, hi, hz0, hz1, hz2⟩ := info_parts infoStr
  have HD := hide (fun (V : World) (h : Below w.heap.size w V) => (⟨(h.cell (p := ⟨B, 0, none⟩) b0).trans d0, (h.cell (p := ⟨B, 1, none⟩) b0).trans d1, (h.cell (p := ⟨B, 2, none⟩) b0).trans d2⟩ : V.cell? ⟨B, 0, none⟩ = some (.slice (some ⟨g0, 0, none⟩) n0 c0) ∧ V.cell? ⟨B, 1, none⟩ = some (.slice (some ⟨g1, 0, none⟩) n1 c1) ∧ V.cell? ⟨B, 2, none⟩ = some (.slice (some ⟨g2, 0, none⟩) n2 c2)))
  have HX0 := hide (fun (V : World) (h : Below w.heap.size w V) (j : Nat) (y : ByteArray) (hj : xs0[j]? = some y) => (h.cell (p := ⟨g0, j, none⟩) b3).trans (x0 j y hj))
  have HX1 := hide (fun (V : World) (h : Below w.heap.size w V) (j : Nat) (y : ByteArray) (hj : xs1[j]? = some y) => (h.cell (p := ⟨g1, j, none⟩) b1).trans (x1 j y hj))
  have HX2 := hide (fun (V : World) (h : Below w.heap.size w V) (j : Nat) (y : ByteArray) (hj : xs2[j]? = some y) => (h.cell (p := ⟨g2, j, none⟩) b2).trans (x2 j y hj))
  have HG := hide (grow_nil (n0 + n1 + n2) w (by omega) (by omega))
  have HL1 := hide h1
  have HL2 := hide h2
  have HL0 := hide h0
  clear x1 x2 h1 h2 x0 h0
  go_enter Tryz.func251, Tryz.ntmps251
  go_wp2
  refine wp_loop_rounds 4 ?_
  rw [rounds_succ]
  go_wp2
  rw [rounds_succ]
  go_wp2
  rw [rounds_succ]
  go_wp2
  rw [rounds_succ]
  go_wp2_with fail
  refine HG.out.mono ?_
  rintro e w1 ⟨g, cap, rfl, ho, hb⟩
  have HO := hide ho
  have HB := hide hb
  clear ho hb HG d0 d1 d2
  obtain ⟨d0, d1, d2⟩ := HD.out w1 HB.out
  go_wp2_with fail
  refine wp_loop_rounds 4 ?_
  rw [rounds_succ]
  go_wp2_with (at_builtin; refine wpList_append_own _ rfl (.tmp 31) (.tmp 32) 27 rfl w.heap.size 9 i0 (.string ⟨#[]⟩) 1 16 Tryz.underlying27 hi hz0 hz1 hz2 rfl (by decide) (.slice (some ⟨g, 0, none⟩) 0 cap) 0 [] rfl HO.out ⟨g0, 0, none⟩ n0 c0 (xs0.map Value.string) rfl ?a1 (strs_news (HX0.out w1 HB.out)) (strs_one xs0) ?a2 ?a3 HB.out.size ?_)
  case a1 => rw [List.length_map, HL0.out, Nat.mul_one]
  case a2 => unfold maxLen; omega
  case a3 => omega
  intro v3 w3 ho3 hg3 _
  try simp only [Nat.zero_add, List.nil_append] at ho3
  obtain ⟨a3, p3, hv3, _⟩ := owns_formS ho3
  subst hv3
  have HB3 := hide (HB.out.grown hg3 HB.out.size (fun p hp => (owns_ltS HO.out p hp).1))
  have HO3 := hide ho3
  clear ho3 hg3 d0 d1 d2
  obtain ⟨d0, d1, d2⟩ := HD.out w3 HB3.out
  go_wp2_with fail
  rw [rounds_succ]
  go_wp2_with (at_builtin; refine wpList_append_own _ rfl (.tmp 31) (.tmp 32) 27 rfl w.heap.size 9 i0 (.string ⟨#[]⟩) 1 16 Tryz.underlying27 hi hz0 hz1 hz2 rfl (by decide) (.slice a3 n0 p3) n0 (xs0.map Value.string) rfl HO3.out ⟨g1, 0, none⟩ n1 c1 (xs1.map Value.string) rfl ?e1 (strs_news (HX1.out w3 HB3.out)) (strs_one xs1) ?e2 ?e3 HB3.out.size ?_)
  case e1 => rw [List.length_map, HL1.out, Nat.mul_one]
  case e2 => unfold maxLen; omega
  case e3 => omega
  intro v4 w4 ho4 hg4 _
  try simp only [Nat.zero_add, List.nil_append] at ho4
  obtain ⟨a4, p4, hv4, _⟩ := owns_formS ho4
  subst hv4
  have HB4 := hide (HB3.out.grown hg4 HB3.out.size (fun p hp => (owns_ltS HO3.out p hp).1))
  have HO4 := hide ho4
  clear ho4 hg4 d0 d1 d2
  obtain ⟨d0, d1, d2⟩ := HD.out w4 HB4.out
  go_wp2_with fail
  rw [rounds_succ]
  go_wp2_with (at_builtin; refine wpList_append_own _ rfl (.tmp 31) (.tmp 32) 27 rfl w.heap.size 9 i0 (.string ⟨#[]⟩) 1 16 Tryz.underlying27 hi hz0 hz1 hz2 rfl (by decide) (.slice a4 (n0 + n1) p4) (n0 + n1) (xs0.map Value.string ++ xs1.map Value.string) rfl HO4.out ⟨g2, 0, none⟩ n2 c2 (xs2.map Value.string) rfl ?f1 (strs_news (HX2.out w4 HB4.out)) (strs_one xs2) ?f2 ?f3 HB4.out.size ?_)
  case f1 => rw [List.length_map, HL2.out, Nat.mul_one]
  case f2 => unfold maxLen; omega
  case f3 => omega
  intro v5 w5 ho5 hg5 _
  have HB5 := hide (HB4.out.grown hg5 HB4.out.size (fun p hp => (owns_ltS HO4.out p hp).1))
  have hlen : (xs0 ++ xs1 ++ xs2).length = (n0 + n1) + n2 := by simp only [List.length_append, HL1.out, HL2.out, HL0.out]
  have ho6 : w5.ownsRow w.heap.size 9 1 v5 ((n0 + n1) + n2) ((xs0 ++ xs1 ++ xs2).map Value.string) := by
    simp only [List.map_append, List.append_assoc]
    try simp only [List.append_assoc] at ho5
    exact ho5
  obtain ⟨gg, cc, hv5, hc5, hg51, hg52, hce5⟩ := owns_strs (ys := xs0 ++ xs1 ++ xs2) (by rw [hlen]; exact ho6) (by rw [hlen]; omega)
  rw [hlen] at hv5 hc5
  subst hv5
  have HCE := hide hce5
  have HGG := hide (And.intro hg51 hg52)
  clear ho5 ho6 hg5 hce5 hlen d0 d1 d2
  go_wp2_with fail
  rw [rounds_succ]
  go_wp2
  go_ret
  refine ⟨gg, cc, by simp, HGG.out.1, by omega, HGG.out.2, fun j y hj => ?_, HB5.out⟩
  have h := HCE.out j y hj
  rw [Nat.zero_add] at h
  exact h
end Go.Proofs.YtgaoeoijdpdjiabGreatDoor

namespace Go.Proofs.YtgaoeoijdpdjiabGreatDoor
open Go.RowKit
/-- The value of height h over the leaf number F. -/
def climbS (k b : Int) (pub : ByteArray) (p0 p1 : Int) (F : Nat) (path : List ByteArray) (y : ByteArray) : Nat → ByteArray
  | 0 => y
  | h + 1 => if F / 2 ^ h % 2 = 0 then joinS k b pub p0 p1 (h + 1 : Nat) (F / 2 ^ (h + 1) : Nat) (climbS k b pub p0 p1 F path y h) (path.getD h ⟨#[]⟩) else joinS k b pub p0 p1 (h + 1 : Nat) (F / 2 ^ (h + 1) : Nat) (path.getD h ⟨#[]⟩) (climbS k b pub p0 p1 F path y h)
theorem climbS_size (k b : Int) (pub : ByteArray) (p0 p1 : Int) (F : Nat) (path : List ByteArray) (y : ByteArray) (hk : k = 1 ∨ k = 2) (h1 : 1 ≤ b) (h2 : b ≤ 16) (hp : pub.size ≤ 16) (hy : (y.size : Int) = b) (hx : ∀ z ∈ path, (z.size : Int) = b) : ∀ h, h ≤ path.length → ((climbS k b pub p0 p1 F path y h).size : Int) = b := by
  intro h
  induction h with
  | zero => intro _; exact hy
  | succ h ih =>
    intro hl
    have e0 := ih (by omega)
    have e1 : ((path.getD h ⟨#[]⟩).size : Int) = b := by
      rw [List.getD_eq_getElem?_getD, List.getElem?_eq_getElem (by omega)]
      exact hx _ (List.getElem_mem (by omega))
    rw [climbS]
    split
    · exact joinS_size k b pub p0 p1 _ _ _ _ hk h1 h2 hp (by omega) (by omega)
    · exact joinS_size k b pub p0 p1 _ _ _ _ hk h1 h2 hp (by omega) (by omega)
theorem tdiv_two (a : Nat) : Int.tdiv (a : Int) 2 = ((a / 2 : Nat) : Int) := by rw [Int.tdiv_eq_ediv_of_nonneg (by omega)]; omega
theorem tmod_two (a : Nat) : Int.tmod (a : Int) 2 = ((a % 2 : Nat) : Int) := by rw [Int.tmod_eq_emod_of_nonneg (by omega)]; omega
end Go.Proofs.YtgaoeoijdpdjiabGreatDoor

namespace Go.Proofs.YtgaoeoijdpdjiabGreatDoor
open Go.RowKit
set_option maxRecDepth 20000 in
set_option maxHeartbeats 4000000 in
theorem sclimb_any (k b x t l : Int) (seed : ByteArray) (p0 p1 p3 : Int) (F : Nat) (g o c : Nat) (path : List ByteArray) (y : ByteArray) (w : World) (hcells : ∀ (j : Nat) z, path[j]? = some z → w.cell? ⟨g, o + j, none⟩ = some (.string z)) (hg : g < w.heap.size) (hN : path.length ≤ 64) (hF : F ≤ 1000)
    (hk : k = 1 ∨ k = 2) (h1 : 1 ≤ b) (h2 : b ≤ 16) (hs : seed.size ≤ 16) (hy : (y.size : Int) = b) (hxs : ∀ z ∈ path, (z.size : Int) = b) (hT : Tn w) :
    Calls Tryz.prog 286 #[.agg #[.int .i64 k, .int .i64 b, .int .i64 x, .int .i64 t, .int .i64 l, .string seed, .int .i64 p0, .int .i64 p1, .int .i64 F, .int .i64 p3], .string y, .slice (some ⟨g, o, none⟩) path.length c] w fun e w' => e = .returned (.string (climbS k b seed p0 p1 F path y path.length)) ∧ Below w.heap.size w w' := by
  obtain ⟨p2, hp2⟩ : ∃ p2 : Int, p2 = (F : Int) := ⟨_, rfl⟩
  rw [← hp2]
  obtain ⟨W0, hW⟩ : ∃ W0, w.alloc (.cells #[.int .i64 k, .int .i64 b, .int .i64 x, .int .i64 t, .int .i64 l, .string seed, .int .i64 p0, .int .i64 p1, .int .i64 p2, .int .i64 p3] 344) = W0 := ⟨_, rfl⟩
  have HF := hide (show TenC w.heap.size W0 k b x t l seed p0 p1 p2 p3 by subst hW; refine ⟨?_, ?_, ?_, ?_, ?_, ?_, ?_, ?_, ?_, ?_⟩ <;> simp [go_sem])
  have HB := hide (show Below w.heap.size w W0 by subst hW; exact (Below.refl _ _).alloc (Nat.le_refl _) _)
  have hz : W0.heap.size = w.heap.size + 1 := by subst hW; simp
  have HT := hide (hT.on HB.out)
  have HS := hide (fun (V : World) (h : Below W0.heap.size W0 V) => (by
    obtain ⟨c0, c1, c2, c3, c4, c5, c6, c7, c8, c9⟩ := HF.out.below h (by omega)
    exact ⟨c0, c1, c2, c3, c4, c5, c6, c7, c8, c9, h⟩ : V.cell? ⟨w.heap.size, 0, none⟩ = some (.int .i64 k) ∧ V.cell? ⟨w.heap.size, 1, none⟩ = some (.int .i64 b) ∧ V.cell? ⟨w.heap.size, 2, none⟩ = some (.int .i64 x) ∧ V.cell? ⟨w.heap.size, 3, none⟩ = some (.int .i64 t) ∧ V.cell? ⟨w.heap.size, 4, none⟩ = some (.int .i64 l) ∧ V.cell? ⟨w.heap.size, 5, none⟩ = some (.string seed) ∧ V.cell? ⟨w.heap.size, 6, none⟩ = some (.int .i64 p0) ∧ V.cell? ⟨w.heap.size, 7, none⟩ = some (.int .i64 p1) ∧ V.cell? ⟨w.heap.size, 8, none⟩ = some (.int .i64 p2) ∧ V.cell? ⟨w.heap.size, 9, none⟩ = some (.int .i64 p3) ∧ Below W0.heap.size W0 V))
  have HC0 := hide (fun (V : World) (hb : Below W0.heap.size W0 V) (j : Nat) (z : ByteArray) (hj : path[j]? = some z) => (hb.cell (p := ⟨g, o + j, none⟩) (by show g < _; omega)).trans ((HB.out.cell (p := ⟨g, o + j, none⟩) hg).trans (hcells j z hj)))
  have HCS := hide (climbS_size k b seed p0 p1 F path y hk h1 h2 hs hy hxs)
  have HJ := hide (fun (h j : Int) (u z : ByteArray) (hu : u.size ≤ 16) (hz : z.size ≤ 16) (V : World) (hb : Below W0.heap.size W0 V) => sjoin_any k b x t l seed p0 p1 p2 p3 h j u z V hk h1 h2 hs hu hz (HT.out.on hb))
  have HXS := hide hxs
  have HP2 := hide hp2
  clear hT hcells hxs hp2
  obtain ⟨c0, c1, c2, c3, c4, c5, c6, c7, c8, c9, _⟩ := HS.out W0 (Below.refl _ _)
  go_enter Tryz.func286, Tryz.ntmps286
  go_wp2_with fail
  try rw [hW]
  clear hW c0 c1 c2 c3 c4 c5 c6 c7 c8 c9
  go_loopw [1, 7, 17] (fun u n i wr => ∃ m : Nat, m ≤ path.length ∧ i = .int .i64 m ∧ n = .int .i64 ((F / 2 ^ m : Nat) : Int) ∧ u = .string (climbS k b seed p0 p1 F path y m) ∧ Hid (Below W0.heap.size W0 wr)) (fun _ _ i _ => path.length - (intOf i).toNat)
  case atStart => exact ⟨0, Nat.zero_le _, rfl, by rw [HP2.out]; simp, rfl, Below.refl _ _⟩
  case round =>
    obtain ⟨m, hm, rfl, rfl, rfl, hb⟩ := hrel
    by_cases hlt : m < path.length
    · obtain ⟨z, hz0⟩ : ∃ z, path[m]? = some z := ⟨_, List.getElem?_eq_getElem hlt⟩
      have cz := HC0.out wr hb.out m z hz0
      have hz : z.size ≤ 16 := by have := HXS.out z (List.mem_of_getElem? hz0); omega
      have HGD := hide (show path.getD m ⟨#[]⟩ = z by rw [List.getD_eq_getElem?_getD, hz0]; rfl)
      have HCM := hide (HCS.out m hm)
      have HST : Hid (climbS k b seed p0 p1 F path y (m + 1) = if F / 2 ^ m % 2 = 0 then joinS k b seed p0 p1 (m + 1 : Nat) (F / 2 ^ (m + 1) : Nat) (climbS k b seed p0 p1 F path y m) (path.getD m ⟨#[]⟩) else joinS k b seed p0 p1 (m + 1 : Nat) (F / 2 ^ (m + 1) : Nat) (path.getD m ⟨#[]⟩) (climbS k b seed p0 p1 F path y m)) := rfl
      rw [HGD.out] at HST
      have hu : (climbS k b seed p0 p1 F path y m).size ≤ 16 := by have := HCM.out; omega
      have hq1 : F / 2 ^ m ≤ 1000 := Nat.le_trans (Nat.div_le_self _ _) hF
      have HQ : Hid (F / 2 ^ m / 2 = F / 2 ^ (m + 1)) := by show F / 2 ^ m / 2 = F / 2 ^ (m + 1); rw [Nat.div_div_eq_div_mul, ← Nat.pow_succ]
      obtain ⟨q2, HQ2⟩ : ∃ q2, Hid (F / 2 ^ m / 2 = q2) := ⟨_, rfl⟩
      have hq2 : q2 ≤ 1000 := by have := HQ2.out; omega
      have hdv : Int.tdiv ((F / 2 ^ m : Nat) : Int) 2 = (q2 : Int) := by rw [tdiv_two, HQ2.out]
      have hwq : IntKind.i64.wrap (q2 : Int) = (q2 : Int) := by rw [IntKind.wrap_i64]; omega
      have HR2 : Hid (F / 2 ^ (m + 1) = q2) := HQ.out.symm.trans HQ2.out
      rw [HR2.out] at HST
      obtain ⟨d0, d1, d2, d3, d4, d5, d6, d7, d8, d9, _⟩ := HS.out wr hb.out
      have HRH := hide (HJ.out ((m : Int) + 1) (q2 : Int))
      clear hz0 HQ HGD
      by_cases hev : F / 2 ^ m % 2 = 0
      · have hmo : Int.tmod ((F / 2 ^ m : Nat) : Int) 2 = 0 := by rw [tmod_two, hev]; rfl
        have HJ1 := hide (HRH.out (climbS k b seed p0 p1 F path y m) z hu hz wr hb.out)
        have HE : Hid (climbS k b seed p0 p1 F path y (m + 1) = joinS k b seed p0 p1 ((m : Int) + 1) (q2 : Int) (climbS k b seed p0 p1 F path y m) z) := by
          show climbS k b seed p0 p1 F path y (m + 1) = _
          rw [HST.out, if_pos hev]; rfl
        clear hev HST HRH HQ2 HCM
        generalize climbS k b seed p0 p1 F path y m = u at HJ1 HE hu ⊢
        generalize F / 2 ^ m = q at hdv hmo hq1 ⊢
        go_wp2_with fail
        refine HJ1.out.mono ?_
        rintro e w1 ⟨rfl, hb1⟩
        have HB1 := hide (heldB hb.out hb1 (Nat.le_refl _))
        clear hb1 d0 d1 d2 d3 d4 d5 d6 d7 d8 d9 cz hdv hmo hwq
        go_wp2
        go_roundw
        case rel =>
          have R : ∃ m' : Nat, m' ≤ path.length ∧ Value.int .i64 ((m : Int) + 1) = .int .i64 m' ∧ Value.int .i64 (q2 : Int) = .int .i64 ((F / 2 ^ m' : Nat) : Int) ∧ Value.string (joinS k b seed p0 p1 ((m : Int) + 1) (q2 : Int) u z) = .string (climbS k b seed p0 p1 F path y m') ∧ Hid (Below W0.heap.size W0 w1) := ⟨m + 1, by omega, by go_num, by rw [HR2.out], by rw [HE.out], HB1.out⟩
          first | exact R | ((repeat apply Exists.intro); exact ⟨R, rfl⟩)
        case measure => simp [intOf]; omega
      · have hmo : Int.tmod ((F / 2 ^ m : Nat) : Int) 2 = 1 := by rw [tmod_two, show F / 2 ^ m % 2 = 1 by omega]; rfl
        have HJ1 := hide (HRH.out z (climbS k b seed p0 p1 F path y m) hz hu wr hb.out)
        have HE : Hid (climbS k b seed p0 p1 F path y (m + 1) = joinS k b seed p0 p1 ((m : Int) + 1) (q2 : Int) z (climbS k b seed p0 p1 F path y m)) := by
          show climbS k b seed p0 p1 F path y (m + 1) = _
          rw [HST.out, if_neg hev]; rfl
        clear hev HST HRH HQ2 HCM
        generalize climbS k b seed p0 p1 F path y m = u at HJ1 HE hu ⊢
        generalize F / 2 ^ m = q at hdv hmo hq1 ⊢
        go_wp2_with fail
        refine HJ1.out.mono ?_
        rintro e w1 ⟨rfl, hb1⟩
        have HB1 := hide (heldB hb.out hb1 (Nat.le_refl _))
        clear hb1 d0 d1 d2 d3 d4 d5 d6 d7 d8 d9 cz hdv hmo hwq
        go_wp2
        go_roundw
        case rel =>
          have R : ∃ m' : Nat, m' ≤ path.length ∧ Value.int .i64 ((m : Int) + 1) = .int .i64 m' ∧ Value.int .i64 (q2 : Int) = .int .i64 ((F / 2 ^ m' : Nat) : Int) ∧ Value.string (joinS k b seed p0 p1 ((m : Int) + 1) (q2 : Int) z u) = .string (climbS k b seed p0 p1 F path y m') ∧ Hid (Below W0.heap.size W0 w1) := ⟨m + 1, by omega, by go_num, by rw [HR2.out], by rw [HE.out], HB1.out⟩
          first | exact R | ((repeat apply Exists.intro); exact ⟨R, rfl⟩)
        case measure => simp [intOf]; omega
    · obtain rfl : m = path.length := by omega
      go_wp2
      go_ret
      exact ⟨rfl, HB.out.trans (hb.out.mono (by omega))⟩
end Go.Proofs.YtgaoeoijdpdjiabGreatDoor

namespace Go.Proofs.YtgaoeoijdpdjiabGreatDoor
open Go.RowKit
set_option maxRecDepth 20000 in
set_option maxHeartbeats 4000000 in
theorem isLeafOf_any (k b x : Int) (t l : Nat) (p0 p1 p2 p3 : Int) (w : World) (h1 : 1 ≤ t) (h2 : t ≤ 4) (h4 : l ≤ 3) :
    Calls Tryz.prog 323 #[.agg #[.int .i64 k, .int .i64 b, .int .i64 x, .int .i64 t, .int .i64 l], .agg #[.int .i64 p0, .int .i64 p1, .int .i64 p2, .int .i64 p3]] w fun e w' => e = .returned (.bool (leafB t l p0 p1 p2)) ∧ Below w.heap.size w w' := by
  obtain ⟨W0, hW⟩ : ∃ W0, (w.alloc (.cells #[.int .i64 k, .int .i64 b, .int .i64 x, .int .i64 t, .int .i64 l] 26)).alloc (.cells #[.int .i64 p0, .int .i64 p1, .int .i64 p2, .int .i64 p3] 91) = W0 := ⟨_, rfl⟩
  have HF := hide (show FiveC w.heap.size W0 k b x t l by subst hW; refine ⟨?_, ?_, ?_, ?_, ?_⟩ <;> simp [go_sem])
  have HP := hide (show FourC (w.heap.size + 1) W0 p0 p1 p2 p3 by subst hW; refine ⟨?_, ?_, ?_, ?_⟩ <;> simp [go_sem])
  have HB := hide (show Below w.heap.size w W0 by subst hW; exact ((Below.refl _ _).alloc (Nat.le_refl _) _).alloc (by simp) _)
  have hz : W0.heap.size ≤ w.heap.size + 2 := by subst hW; simp
  have hz' : w.heap.size + 2 ≤ W0.heap.size := by subst hW; simp
  have HS := hide (fun (V : World) (h : Below W0.heap.size W0 V) => (by
    obtain ⟨c0, c1, c2, c3, c4⟩ := HF.out.below h (by omega)
    obtain ⟨d0, d1, d2, d3⟩ := HP.out.below h (by omega)
    exact ⟨c0, c1, c2, c3, c4, d0, d1, d2, d3, h⟩ : V.cell? ⟨w.heap.size, 0, none⟩ = some (.int .i64 k) ∧ V.cell? ⟨w.heap.size, 1, none⟩ = some (.int .i64 b) ∧ V.cell? ⟨w.heap.size, 2, none⟩ = some (.int .i64 x) ∧ V.cell? ⟨w.heap.size, 3, none⟩ = some (.int .i64 t) ∧ V.cell? ⟨w.heap.size, 4, none⟩ = some (.int .i64 l) ∧ V.cell? ⟨w.heap.size + 1, 0, none⟩ = some (.int .i64 p0) ∧ V.cell? ⟨w.heap.size + 1, 1, none⟩ = some (.int .i64 p1) ∧ V.cell? ⟨w.heap.size + 1, 2, none⟩ = some (.int .i64 p2) ∧ V.cell? ⟨w.heap.size + 1, 3, none⟩ = some (.int .i64 p3) ∧ Below W0.heap.size W0 V))
  have HWI := hide (fun (v n : Int) (V : World) => within_any v n V)
  have HLV := hide (fun V : World => setsLeaves_any k b x l t V h1 h2)
  unfold leafB
  cases e1 : decide (0 ≤ p0 ∧ p0 < (l : Int)) with
  | false =>
    have HW1 := hide (fun V : World => within_any p0 l V)
    rw [e1] at HW1
    clear e1
    go_enter Tryz.func323, Tryz.ntmps323
    go_wp2_with fail
    try rw [hW]
    refine wp_region_held_drew (S := fun V => V.cell? ⟨w.heap.size, 0, none⟩ = some (.int .i64 k) ∧ V.cell? ⟨w.heap.size, 1, none⟩ = some (.int .i64 b) ∧ V.cell? ⟨w.heap.size, 2, none⟩ = some (.int .i64 x) ∧ V.cell? ⟨w.heap.size, 3, none⟩ = some (.int .i64 t) ∧ V.cell? ⟨w.heap.size, 4, none⟩ = some (.int .i64 l) ∧ V.cell? ⟨w.heap.size + 1, 0, none⟩ = some (.int .i64 p0) ∧ V.cell? ⟨w.heap.size + 1, 1, none⟩ = some (.int .i64 p1) ∧ V.cell? ⟨w.heap.size + 1, 2, none⟩ = some (.int .i64 p2) ∧ V.cell? ⟨w.heap.size + 1, 3, none⟩ = some (.int .i64 p3) ∧ Below W0.heap.size W0 V) (by kernel_rfl) (HS.out _ ((Below.refl W0.heap.size W0).drew)) (fun hHeld => ?_)
    refine tk 0 hHeld (h := ?_)
    refine tk 1 hHeld (h := ?_)
    refine tk 2 hHeld (h := ?_)
    refine tk 3 hHeld (h := ?_)
    refine wpAnyH_ready (rs := [4]) (by kernel_rfl) (by simp) ?_
    refine AllReadyH.cons (o := ?oa4) ?hoa4 (fun K hK => ?hsa4) AllReadyH.nil
    case hoa4 => (simp only [List.getElem?_toArray, List.getElem?_cons_succ, List.getElem?_cons_zero]; rfl)
    go_simp
    refine (HW1.out _).mono ?_
    rintro e w1 ⟨rfl, rfl⟩
    try go_wp2_with fail
    refine hK.out _ _ (HS.out _ ((Below.refl W0.heap.size W0).drew)) (fun hHeld => ?_)
    clear hK K
    try simp only [Act.put, List.setIfInBounds_toArray, List.set_cons_zero, List.set_cons_succ]
    refine tk 5 hHeld (h := ?_)
    refine sk 6 hHeld (h := ?_)
    refine sk 7 hHeld (h := ?_)
    refine sk 8 hHeld (h := ?_)
    refine sk 9 hHeld (h := ?_)
    refine sk 10 hHeld (h := ?_)
    refine sk 11 hHeld (h := ?_)
    refine sk 12 hHeld (h := ?_)
    refine tk 13 hHeld (h := ?_)
    refine tk 14 hHeld (h := ?_)
    refine sk 15 hHeld (h := ?_)
    refine sk 16 hHeld (h := ?_)
    refine sk 17 hHeld (h := ?_)
    refine sk 18 hHeld (h := ?_)
    refine sk 19 hHeld (h := ?_)
    refine tk 20 hHeld (h := ?_)
    refine tk 21 hHeld (h := ?_)
    refine wpAnyH_done (by kernel_rfl) ?_ _
    go_wp2
    go_ret
    exact ⟨rfl, HB.out.trans (((Below.refl W0.heap.size W0).drew).mono (by omega))⟩
  | true =>
    have hp0 : 0 ≤ p0 ∧ p0 < (l : Int) := of_decide_eq_true e1
    obtain ⟨q, hq⟩ : ∃ q : Nat, p0 = (q : Int) := ⟨p0.toNat, by omega⟩
    have HW1 := hide (fun V : World => within_any p0 l V)
    rw [e1] at HW1
    have HTR := hide (fun V : World => trees_any k b x t l q V h1 h2 h4 (by omega))
    rw [← hq] at HTR
    rw [show p0.toNat = q by omega]
    clear e1 hp0 hq
    have HW2 := hide (fun V : World => within_any p1 ((2 ^ (t * (l - 1 - q)) : Nat) : Int) V)
    generalize ((2 ^ (t * (l - 1 - q)) : Nat) : Int) = tr at HTR HW2 ⊢
    generalize decide (0 ≤ p1 ∧ p1 < tr) = bt at HW2 ⊢
    cases bt with
    | false =>
      go_enter Tryz.func323, Tryz.ntmps323
      go_wp2_with fail
      try rw [hW]
      refine wp_region_held_drew (S := fun V => V.cell? ⟨w.heap.size, 0, none⟩ = some (.int .i64 k) ∧ V.cell? ⟨w.heap.size, 1, none⟩ = some (.int .i64 b) ∧ V.cell? ⟨w.heap.size, 2, none⟩ = some (.int .i64 x) ∧ V.cell? ⟨w.heap.size, 3, none⟩ = some (.int .i64 t) ∧ V.cell? ⟨w.heap.size, 4, none⟩ = some (.int .i64 l) ∧ V.cell? ⟨w.heap.size + 1, 0, none⟩ = some (.int .i64 p0) ∧ V.cell? ⟨w.heap.size + 1, 1, none⟩ = some (.int .i64 p1) ∧ V.cell? ⟨w.heap.size + 1, 2, none⟩ = some (.int .i64 p2) ∧ V.cell? ⟨w.heap.size + 1, 3, none⟩ = some (.int .i64 p3) ∧ Below W0.heap.size W0 V) (by kernel_rfl) (HS.out _ ((Below.refl W0.heap.size W0).drew)) (fun hHeld => ?_)
      refine tk 0 hHeld (h := ?_)
      refine tk 1 hHeld (h := ?_)
      refine tk 2 hHeld (h := ?_)
      refine tk 3 hHeld (h := ?_)
      refine wpAnyH_ready (rs := [4]) (by kernel_rfl) (by simp) ?_
      refine AllReadyH.cons (o := ?ob4) ?hob4 (fun K hK => ?hsb4) AllReadyH.nil
      case hob4 => (simp only [List.getElem?_toArray, List.getElem?_cons_succ, List.getElem?_cons_zero]; rfl)
      go_simp
      refine (HW1.out _).mono ?_
      rintro e w1 ⟨rfl, rfl⟩
      try go_wp2_with fail
      refine hK.out _ _ (HS.out _ ((Below.refl W0.heap.size W0).drew)) (fun hHeld => ?_)
      clear hK K
      try simp only [Act.put, List.setIfInBounds_toArray, List.set_cons_zero, List.set_cons_succ]
      refine tk 5 hHeld (h := ?_)
      refine tk 6 hHeld (h := ?_)
      refine tk 7 hHeld (h := ?_)
      refine tk 8 hHeld (h := ?_)
      refine tk 9 hHeld (h := ?_)
      refine tk 10 hHeld (h := ?_)
      refine wpAnyH_ready (rs := [11]) (by kernel_rfl) (by simp) ?_
      refine AllReadyH.cons (o := ?ob11) ?hob11 (fun K hK => ?hsb11) AllReadyH.nil
      case hob11 => (simp only [List.getElem?_toArray, List.getElem?_cons_succ, List.getElem?_cons_zero]; rfl)
      go_simp
      refine (HTR.out _).mono ?_
      rintro e w2 ⟨rfl, hb2⟩
      have hS2 := heldB (Below.refl W0.heap.size W0).drew hb2 (Nat.le_refl _)
      try go_wp2_with fail
      refine hK.out _ _ (HS.out _ (hS2)) (fun hHeld => ?_)
      clear hK K
      try simp only [Act.put, List.setIfInBounds_toArray, List.set_cons_zero, List.set_cons_succ]
      refine wpAnyH_ready (rs := [12]) (by kernel_rfl) (by simp) ?_
      refine AllReadyH.cons (o := ?ob12) ?hob12 (fun K hK => ?hsb12) AllReadyH.nil
      case hob12 => (simp only [List.getElem?_toArray, List.getElem?_cons_succ, List.getElem?_cons_zero]; rfl)
      go_simp
      refine (HW2.out _).mono ?_
      rintro e w3 ⟨rfl, rfl⟩
      try go_wp2_with fail
      refine hK.out _ _ (HS.out _ (hS2)) (fun hHeld => ?_)
      clear hK K
      try simp only [Act.put, List.setIfInBounds_toArray, List.set_cons_zero, List.set_cons_succ]
      refine tk 13 hHeld (h := ?_)
      refine tk 14 hHeld (h := ?_)
      refine sk 15 hHeld (h := ?_)
      refine sk 16 hHeld (h := ?_)
      refine sk 17 hHeld (h := ?_)
      refine sk 18 hHeld (h := ?_)
      refine sk 19 hHeld (h := ?_)
      refine tk 20 hHeld (h := ?_)
      refine tk 21 hHeld (h := ?_)
      refine wpAnyH_done (by kernel_rfl) ?_ _
      go_wp2
      go_ret
      exact ⟨rfl, HB.out.trans ((hS2).mono (by omega))⟩
    | true =>
      have HW3 := hide (fun V : World => within_any p2 ((2 ^ t : Nat) : Int) V)
      generalize ((2 ^ t : Nat) : Int) = lv at HLV HW3 ⊢
      generalize decide (0 ≤ p2 ∧ p2 < lv) = bl at HW3 ⊢
      go_enter Tryz.func323, Tryz.ntmps323
      go_wp2_with fail
      try rw [hW]
      refine wp_region_held_drew (S := fun V => V.cell? ⟨w.heap.size, 0, none⟩ = some (.int .i64 k) ∧ V.cell? ⟨w.heap.size, 1, none⟩ = some (.int .i64 b) ∧ V.cell? ⟨w.heap.size, 2, none⟩ = some (.int .i64 x) ∧ V.cell? ⟨w.heap.size, 3, none⟩ = some (.int .i64 t) ∧ V.cell? ⟨w.heap.size, 4, none⟩ = some (.int .i64 l) ∧ V.cell? ⟨w.heap.size + 1, 0, none⟩ = some (.int .i64 p0) ∧ V.cell? ⟨w.heap.size + 1, 1, none⟩ = some (.int .i64 p1) ∧ V.cell? ⟨w.heap.size + 1, 2, none⟩ = some (.int .i64 p2) ∧ V.cell? ⟨w.heap.size + 1, 3, none⟩ = some (.int .i64 p3) ∧ Below W0.heap.size W0 V) (by kernel_rfl) (HS.out _ ((Below.refl W0.heap.size W0).drew)) (fun hHeld => ?_)
      refine tk 0 hHeld (h := ?_)
      refine tk 1 hHeld (h := ?_)
      refine tk 2 hHeld (h := ?_)
      refine tk 3 hHeld (h := ?_)
      refine wpAnyH_ready (rs := [4]) (by kernel_rfl) (by simp) ?_
      refine AllReadyH.cons (o := ?oc4) ?hoc4 (fun K hK => ?hsc4) AllReadyH.nil
      case hoc4 => (simp only [List.getElem?_toArray, List.getElem?_cons_succ, List.getElem?_cons_zero]; rfl)
      go_simp
      refine (HW1.out _).mono ?_
      rintro e w1 ⟨rfl, rfl⟩
      try go_wp2_with fail
      refine hK.out _ _ (HS.out _ ((Below.refl W0.heap.size W0).drew)) (fun hHeld => ?_)
      clear hK K
      try simp only [Act.put, List.setIfInBounds_toArray, List.set_cons_zero, List.set_cons_succ]
      refine tk 5 hHeld (h := ?_)
      refine tk 6 hHeld (h := ?_)
      refine tk 7 hHeld (h := ?_)
      refine tk 8 hHeld (h := ?_)
      refine tk 9 hHeld (h := ?_)
      refine tk 10 hHeld (h := ?_)
      refine wpAnyH_ready (rs := [11]) (by kernel_rfl) (by simp) ?_
      refine AllReadyH.cons (o := ?oc11) ?hoc11 (fun K hK => ?hsc11) AllReadyH.nil
      case hoc11 => (simp only [List.getElem?_toArray, List.getElem?_cons_succ, List.getElem?_cons_zero]; rfl)
      go_simp
      refine (HTR.out _).mono ?_
      rintro e w2 ⟨rfl, hb2⟩
      have hS2 := heldB (Below.refl W0.heap.size W0).drew hb2 (Nat.le_refl _)
      try go_wp2_with fail
      refine hK.out _ _ (HS.out _ (hS2)) (fun hHeld => ?_)
      clear hK K
      try simp only [Act.put, List.setIfInBounds_toArray, List.set_cons_zero, List.set_cons_succ]
      refine wpAnyH_ready (rs := [12]) (by kernel_rfl) (by simp) ?_
      refine AllReadyH.cons (o := ?oc12) ?hoc12 (fun K hK => ?hsc12) AllReadyH.nil
      case hoc12 => (simp only [List.getElem?_toArray, List.getElem?_cons_succ, List.getElem?_cons_zero]; rfl)
      go_simp
      refine (HW2.out _).mono ?_
      rintro e w3 ⟨rfl, rfl⟩
      try go_wp2_with fail
      refine hK.out _ _ (HS.out _ (hS2)) (fun hHeld => ?_)
      clear hK K
      try simp only [Act.put, List.setIfInBounds_toArray, List.set_cons_zero, List.set_cons_succ]
      refine tk 13 hHeld (h := ?_)
      refine tk 14 hHeld (h := ?_)
      refine tk 15 hHeld (h := ?_)
      refine tk 16 hHeld (h := ?_)
      refine tk 17 hHeld (h := ?_)
      refine wpAnyH_ready (rs := [18]) (by kernel_rfl) (by simp) ?_
      refine AllReadyH.cons (o := ?oc18) ?hoc18 (fun K hK => ?hsc18) AllReadyH.nil
      case hoc18 => (simp only [List.getElem?_toArray, List.getElem?_cons_succ, List.getElem?_cons_zero]; rfl)
      go_simp
      refine (HLV.out _).mono ?_
      rintro e w4 ⟨rfl, hb4⟩
      have hS4 := heldB hS2 hb4 (Nat.le_refl _)
      try go_wp2_with fail
      refine hK.out _ _ (HS.out _ (hS4)) (fun hHeld => ?_)
      clear hK K
      try simp only [Act.put, List.setIfInBounds_toArray, List.set_cons_zero, List.set_cons_succ]
      refine wpAnyH_ready (rs := [19]) (by kernel_rfl) (by simp) ?_
      refine AllReadyH.cons (o := ?oc19) ?hoc19 (fun K hK => ?hsc19) AllReadyH.nil
      case hoc19 => (simp only [List.getElem?_toArray, List.getElem?_cons_succ, List.getElem?_cons_zero]; rfl)
      go_simp
      refine (HW3.out _).mono ?_
      rintro e w5 ⟨rfl, rfl⟩
      try go_wp2_with fail
      refine hK.out _ _ (HS.out _ (hS4)) (fun hHeld => ?_)
      clear hK K
      try simp only [Act.put, List.setIfInBounds_toArray, List.set_cons_zero, List.set_cons_succ]
      refine tk 20 hHeld (h := ?_)
      refine tk 21 hHeld (h := ?_)
      refine wpAnyH_done (by kernel_rfl) ?_ _
      go_wp2
      go_ret
      exact ⟨rfl, HB.out.trans ((hS4).mono (by omega))⟩
end Go.Proofs.YtgaoeoijdpdjiabGreatDoor

namespace Go.Proofs.YtgaoeoijdpdjiabGreatDoor
open Go.RowKit
set_option maxRecDepth 20000 in
set_option maxHeartbeats 4000000 in
theorem sown_any (k x t l : Int) (b : Nat) (sec rnd pub : ByteArray) (w : World) (hb : b ≤ 16) (m1 : sec.size ≤ maxLen) (m2 : rnd.size ≤ maxLen) (m3 : pub.size ≤ maxLen) :
    Calls Tryz.prog 15 #[.agg #[.int .i64 k, .int .i64 b, .int .i64 x, .int .i64 t, .int .i64 l], .agg #[.string sec, .string rnd, .string pub]] w fun e w' => e = .returned (.agg #[.string (someB sec b), .string (someB rnd b), .string (someB pub b)]) ∧ Below w.heap.size w w' := by
  obtain ⟨W0, hW⟩ : ∃ W0, ((w.alloc (.cells #[.int .i64 k, .int .i64 b, .int .i64 x, .int .i64 t, .int .i64 l] 26)).alloc (.cells #[.string sec, .string rnd, .string pub] 42)).alloc (.cells #[.string ⟨#[]⟩, .string ⟨#[]⟩, .string ⟨#[]⟩] 42) = W0 := ⟨_, rfl⟩
  have HF := hide (show FiveC w.heap.size W0 k b x t l by subst hW; refine ⟨?_, ?_, ?_, ?_, ?_⟩ <;> simp [go_sem])
  have HSE := hide (show W0.cell? ⟨w.heap.size + 1, 0, none⟩ = some (.string sec) ∧ W0.cell? ⟨w.heap.size + 1, 1, none⟩ = some (.string rnd) ∧ W0.cell? ⟨w.heap.size + 1, 2, none⟩ = some (.string pub) by subst hW; refine ⟨?_, ?_, ?_⟩ <;> simp [go_sem])
  have HB := hide (show Below w.heap.size w W0 by subst hW; exact (((Below.refl _ _).alloc (Nat.le_refl _) _).alloc (by simp) _).alloc (by simp; omega) _)
  have hz : W0.heap.size ≤ w.heap.size + 3 := by subst hW; simp
  have hz' : w.heap.size + 3 ≤ W0.heap.size := by subst hW; simp
  have HBK := hide (show Blk W0 (w.heap.size + 1 + 1) [.string ⟨#[]⟩, .string ⟨#[]⟩, .string ⟨#[]⟩] 42 by
    subst hW
    have h := Blk.new ((w.alloc (.cells #[.int .i64 k, .int .i64 b, .int .i64 x, .int .i64 t, .int .i64 l] 26)).alloc (.cells #[.string sec, .string rnd, .string pub] 42)) [.string ⟨#[]⟩, .string ⟨#[]⟩, .string ⟨#[]⟩] 42
    simp only [World.size_alloc] at h
    exact h)
  have HS := hide (fun (V : World) (h : Below (w.heap.size + 1 + 1) W0 V) => (by
    obtain ⟨_, c1, _, _, _⟩ := HF.out.below h (by omega)
    exact ⟨c1, (h.cell (p := ⟨w.heap.size + 1, 0, none⟩) (by show w.heap.size + 1 < _; omega)).trans HSE.out.1, (h.cell (p := ⟨w.heap.size + 1, 1, none⟩) (by show w.heap.size + 1 < _; omega)).trans HSE.out.2.1, (h.cell (p := ⟨w.heap.size + 1, 2, none⟩) (by show w.heap.size + 1 < _; omega)).trans HSE.out.2.2⟩ : V.cell? ⟨w.heap.size, 1, none⟩ = some (.int .i64 b) ∧ V.cell? ⟨w.heap.size + 1, 0, none⟩ = some (.string sec) ∧ V.cell? ⟨w.heap.size + 1, 1, none⟩ = some (.string rnd) ∧ V.cell? ⟨w.heap.size + 1, 2, none⟩ = some (.string pub)))
  have H1 := hide (fun V : World => someN_any sec b V m1 (by omega))
  have H2 := hide (fun V : World => someN_any rnd b V m2 (by omega))
  have H3 := hide (fun V : World => someN_any pub b V m3 (by omega))
  clear m1 m2 m3
  have HWE := hide hW
  clear hW
  go_enter Tryz.func15, Tryz.ntmps15
  go_wp2_with fail
  rw [HWE.out]
  refine wp_region_held_drew (S := fun V => V.cell? ⟨w.heap.size, 1, none⟩ = some (.int .i64 b) ∧ V.cell? ⟨w.heap.size + 1, 0, none⟩ = some (.string sec) ∧ V.cell? ⟨w.heap.size + 1, 1, none⟩ = some (.string rnd) ∧ V.cell? ⟨w.heap.size + 1, 2, none⟩ = some (.string pub)) (by kernel_rfl) (HS.out _ ((Below.refl W0.heap.size W0).drew.mono (by omega))) (fun hHeld => ?_)
  refine tk 0 hHeld (h := ?_)
  refine tk 1 hHeld (h := ?_)
  refine tk 2 hHeld (h := ?_)
  refine tk 3 hHeld (h := ?_)
  refine tk 5 hHeld (h := ?_)
  refine tk 6 hHeld (h := ?_)
  refine tk 7 hHeld (h := ?_)
  refine tk 8 hHeld (h := ?_)
  refine tk 10 hHeld (h := ?_)
  refine tk 11 hHeld (h := ?_)
  refine tk 12 hHeld (h := ?_)
  refine tk 13 hHeld (h := ?_)
  refine wpAnyH_ready (rs := [4]) (by kernel_rfl) (by simp) ?_
  refine AllReadyH.cons (o := ?oa4) ?hoa4 (fun K hK => ?hsa4) AllReadyH.nil
  case hoa4 => (simp only [List.getElem?_toArray, List.getElem?_cons_succ, List.getElem?_cons_zero]; rfl)
  go_simp
  go_at_call 49
  refine (H1.out _).mono ?_
  rintro e w1 ⟨rfl, hb1⟩
  have hS1 := heldB (Below.refl W0.heap.size W0).drew hb1 (Nat.le_refl _)
  have HB1 := hide hS1
  clear hb1 hS1
  try go_wp2_with fail
  refine hK.out _ _ (HS.out _ (HB1.out.mono (by omega))) (fun hHeld => ?_)
  clear hK K
  try simp only [Act.put, List.setIfInBounds_toArray, List.set_cons_zero, List.set_cons_succ]
  refine wpAnyH_ready (rs := [9]) (by kernel_rfl) (by simp) ?_
  refine AllReadyH.cons (o := ?oa9) ?hoa9 (fun K hK => ?hsa9) AllReadyH.nil
  case hoa9 => (simp only [List.getElem?_toArray, List.getElem?_cons_succ, List.getElem?_cons_zero]; rfl)
  go_simp
  go_at_call 49
  refine (H2.out _).mono ?_
  rintro e w2 ⟨rfl, hb2⟩
  have hS2 := heldB HB1.out hb2 (Nat.le_refl _)
  have HB2 := hide hS2
  clear hb2 hS2
  try go_wp2_with fail
  refine hK.out _ _ (HS.out _ (HB2.out.mono (by omega))) (fun hHeld => ?_)
  clear hK K
  try simp only [Act.put, List.setIfInBounds_toArray, List.set_cons_zero, List.set_cons_succ]
  refine wpAnyH_ready (rs := [14]) (by kernel_rfl) (by simp) ?_
  refine AllReadyH.cons (o := ?oa14) ?hoa14 (fun K hK => ?hsa14) AllReadyH.nil
  case hoa14 => (simp only [List.getElem?_toArray, List.getElem?_cons_succ, List.getElem?_cons_zero]; rfl)
  go_simp
  go_at_call 49
  refine (H3.out _).mono ?_
  rintro e w3 ⟨rfl, hb3⟩
  have hS3 := heldB HB2.out hb3 (Nat.le_refl _)
  have HB3 := hide hS3
  have HK3 := hide (HBK.out.below hS3 (by omega))
  clear hb3 hS3
  try go_wp2_with fail
  refine hK.out _ _ (HS.out _ (HB3.out.mono (by omega))) (fun hHeld => ?_)
  clear hK K
  try simp only [Act.put, List.setIfInBounds_toArray, List.set_cons_zero, List.set_cons_succ]
  refine tk 15 hHeld (h := ?_)
  have r0 := HK3.out.cell 0
  have r1 := HK3.out.cell 1
  have r2 := HK3.out.cell 2
  have f0 := HK3.out.free 0
  have f1 := HK3.out.free 1
  have f2 := HK3.out.free 2
  simp only [List.getElem?_cons_zero, List.getElem?_cons_succ] at r0 r1 r2
  refine wpAnyH_ready (rs := [16]) (by kernel_rfl) (by simp) ?_
  refine AllReadyH.cons (o := ?oa16) ?hoa16 (fun K hK => ?hsa16) AllReadyH.nil
  case hoa16 => (simp only [List.getElem?_toArray, List.getElem?_cons_succ, List.getElem?_cons_zero]; rfl)
  go_simp
  refine hK.out _ _ (HS.out _ ((((HB3.out.mono (by omega)).setCell (by simp <;> omega) _).setCell (by simp <;> omega) _).setCell (by simp <;> omega) _)) (fun hHeld => ?_)
  clear hK K
  try simp only [Act.put, List.setIfInBounds_toArray, List.set_cons_zero, List.set_cons_succ]
  refine wpAnyH_done (by kernel_rfl) ?_ _
  go_wp2
  refine bodyPost_ret (v := .agg #[.string (someB sec b), .string (someB rnd b), .string (someB pub b)]) (by simp [results, Tryz.results15, go_sem, r0, r1, r2]) rfl ⟨rfl, ?_⟩
  have HBB := HB.out.trans (HB3.out.mono (by omega))
  iterate 3 refine Below.setCell ?_ (by simp <;> omega) _
  exact HBB
end Go.Proofs.YtgaoeoijdpdjiabGreatDoor
