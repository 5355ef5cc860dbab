/-
  The steps of Make, where nothing fails and the disk bears no record. Make, where nothing fails and the disk bears no record. A signer, as package signet hands it out. A disk, a signer over it, as package signet hands them out. A signer when nothing fails: what holds from step to step. A signer begins, whatever was found.
-/
import Derived.Test.YtgaoeoijdpdjiabGreatDoorPart34
import Derived.Test.YtgaoeoijdpdjiabGreatDoorPart28
import Derived.Test.YtgaoeoijdpdjiabGreatDoorPart29
import Derived.Test.YtgaoeoijdpdjiabGreatDoorPart6
import Derived.Test.YtgaoeoijdpdjiabGreatDoorPart36
import Derived.Test.YtgaoeoijdpdjiabGreatDoorPart26
import Derived.Test.YtgaoeoijdpdjiabGreatDoorPart38
namespace Go.Proofs.YtgaoeoijdpdjiabGreatDoor
open Go.RowKit
def mkF : List Nat := [107, 108, 109, 110, 111, 107]
def mkV : List Value := mkF.map fun f => .func (.func f) #[] #[]
theorem enter_f (f : Nat) (fn : Func) (hf : Tryz.prog.funcs[f]? = some fn) (hn : (fn.name == "runtime.NumGoroutine") = false) (hb : fn.body.isNone = false) (args : Array Value) (V : World) : Sem.run Tryz.prog (callFunc f args) V = .ok (.enter f args) V := by
  have hn' : ¬ fn.name = "runtime.NumGoroutine" := by simpa using hn
  have hb' : ¬ fn.body = none := fun e => by rw [e] at hb; simp at hb
  simp [callFunc, go_sem, hf, hn', hb']
end Go.Proofs.YtgaoeoijdpdjiabGreatDoor

namespace Go.Proofs.YtgaoeoijdpdjiabGreatDoor
open Go.RowKit
set_option maxRecDepth 20000 in
theorem below_on (S D : Nat) (w : World) (h : Blk w S [.pointer (some ⟨D, 0, none⟩)] 135) :
    Calls Tryz.prog 67 #[.pointer (some ⟨S, 0, none⟩)] w fun e w' => e = .returned (.pointer (some ⟨D, 0, none⟩)) ∧ Below w.heap.size w w' := by
  have c0 : w.cell? ⟨S, 0, none⟩ = some (.pointer (some ⟨D, 0, none⟩)) := h.cell 0
  clear h
  go_enter Tryz.func67, Tryz.ntmps67
  go_wp2
  go_ret
  exact ⟨rfl, Below.refl _ _⟩
end Go.Proofs.YtgaoeoijdpdjiabGreatDoor

namespace Go.Proofs.YtgaoeoijdpdjiabGreatDoor
open Go.RowKit
set_option maxRecDepth 20000 in
theorem sgSign_on (G S : Nat) (msg : ByteArray) (z : ByteArray) (c : Int) (Q : World → Prop) (w : World) (hG : Blk w G [.pointer (some ⟨S, 0, none⟩)] 142)
    (h : Calls Tryz.prog 99 #[.pointer (some ⟨S, 0, none⟩), .string msg] w fun e w' => e = .returned (.tuple #[.string z, .int .i64 c]) ∧ Q w') :
    Calls Tryz.prog 52 #[.pointer (some ⟨G, 0, none⟩), .string msg] w fun e w' => e = .returned (.tuple #[.string z, .int .i64 c]) ∧ Q w' := by
  have H := hide h
  have c0 : w.cell? ⟨G, 0, none⟩ = some (.pointer (some ⟨S, 0, none⟩)) := hG.cell 0
  clear h hG
  go_enter Tryz.func52, Tryz.ntmps52
  go_wp2_with fail
  refine H.out.mono ?_
  rintro e w1 ⟨rfl, hq⟩
  have HQ := hide hq
  clear hq
  go_wp2
  go_ret2
  exact ⟨rfl, HQ.out⟩
set_option maxRecDepth 20000 in
theorem sgReserve_on (G S : Nat) (m : Int) (z c : Int) (Q : World → Prop) (w : World) (hG : Blk w G [.pointer (some ⟨S, 0, none⟩)] 142)
    (h : Calls Tryz.prog 72 #[.pointer (some ⟨S, 0, none⟩), .int .i64 m] w fun e w' => e = .returned (.tuple #[.int .i64 z, .int .i64 c]) ∧ Q w') :
    Calls Tryz.prog 31 #[.pointer (some ⟨G, 0, none⟩), .int .i64 m] w fun e w' => e = .returned (.tuple #[.int .i64 z, .int .i64 c]) ∧ Q w' := by
  have H := hide h
  have c0 : w.cell? ⟨G, 0, none⟩ = some (.pointer (some ⟨S, 0, none⟩)) := hG.cell 0
  clear h hG
  go_enter Tryz.func31, Tryz.ntmps31
  go_wp2_with fail
  refine H.out.mono ?_
  rintro e w1 ⟨rfl, hq⟩
  have HQ := hide hq
  clear hq
  go_wp2
  go_ret2
  exact ⟨rfl, HQ.out⟩
set_option maxRecDepth 20000 in
set_option maxHeartbeats 2000000 in
theorem sgState_on (G S : Nat) (nx bd q : Int) (w : World) (hG : Blk w G [.pointer (some ⟨S, 0, none⟩)] 142)
    (h : ∀ V : World, Below w.heap.size w V → Calls Tryz.prog 71 #[.pointer (some ⟨S, 0, none⟩)] V fun e w' => e = .returned (.agg #[.int .i64 nx, .int .i64 bd, .int .i64 q, .bool false]) ∧ Below V.heap.size V w') :
    Calls Tryz.prog 30 #[.pointer (some ⟨G, 0, none⟩)] w fun e w' => e = .returned (.agg #[.int .i64 nx, .int .i64 bd, .int .i64 q, .bool false]) ∧ Below w.heap.size w w' := by
  obtain ⟨W0, hW⟩ : ∃ W0, w.alloc (.cells #[.int .i64 0, .int .i64 0, .int .i64 0, .bool false] 79) = W0 := ⟨_, rfl⟩
  have HB := hide (show Below w.heap.size w W0 by subst hW; exact (Below.refl _ _).alloc (Nat.le_refl _) _)
  have HK := hide (show Blk W0 w.heap.size [.int .i64 0, .int .i64 0, .int .i64 0, .bool false] 79 by rw [← hW]; exact Blk.new w _ _)
  have H := hide (h W0 HB.out)
  have c0 : W0.cell? ⟨G, 0, none⟩ = some (.pointer (some ⟨S, 0, none⟩)) := (hG.on HB.out).cell 0
  have c0' : (w.alloc (.cells #[.int .i64 0, .int .i64 0, .int .i64 0, .bool false] 79)).cell? ⟨G, 0, none⟩ = some (.pointer (some ⟨S, 0, none⟩)) := by rw [hW]; exact c0
  have HZ := hide (show w.heap.size < W0.heap.size by subst hW; simp)
  have HWE := hide hW
  clear h hG hW c0
  go_enter Tryz.func30, Tryz.ntmps30
  go_wp2_with fail
  rw [HWE.out]
  refine H.out.mono ?_
  rintro e w4 ⟨rfl, hb4⟩
  have HK4 := hide (HK.out.on hb4)
  have HB4 := hide hb4
  have r0 : w4.cell? ⟨w.heap.size, 0, none⟩ = some (.int .i64 0) := HK4.out.cell 0
  have r1 : w4.cell? ⟨w.heap.size, 1, none⟩ = some (.int .i64 0) := HK4.out.cell 1
  have r2 : w4.cell? ⟨w.heap.size, 2, none⟩ = some (.int .i64 0) := HK4.out.cell 2
  have r3 : w4.cell? ⟨w.heap.size, 3, none⟩ = some (.bool false) := HK4.out.cell 3
  have f0 := HK4.out.free 0
  have f1 := HK4.out.free 1
  have f2 := HK4.out.free 2
  have f3 := HK4.out.free 3
  clear hb4 c0'
  go_wp2
  have HK9 := hide ((((HK4.out.set 0 (.int .i64 nx)).set 1 (.int .i64 bd)).set 2 (.int .i64 q)).set 3 (.bool false))
  have v0 := HK9.out.cell 0
  have v1 := HK9.out.cell 1
  have v2 := HK9.out.cell 2
  have v3 := HK9.out.cell 3
  have HB9 := hide (HB.out.trans (((((HB4.out.mono (Nat.le_of_lt HZ.out)).setCell (p := ⟨w.heap.size, 0, none⟩) (Nat.le_refl _) (.int .i64 nx)).setCell (p := ⟨w.heap.size, 1, none⟩) (Nat.le_refl _) (.int .i64 bd)).setCell (p := ⟨w.heap.size, 2, none⟩) (Nat.le_refl _) (.int .i64 q)).setCell (p := ⟨w.heap.size, 3, none⟩) (Nat.le_refl _) (.bool false)))
  clear r0 r1 r2 r3 f0 f1 f2 f3
  generalize (((w4.setCell ⟨w.heap.size, 0, none⟩ (.int .i64 nx)).setCell ⟨w.heap.size, 1, none⟩ (.int .i64 bd)).setCell ⟨w.heap.size, 2, none⟩ (.int .i64 q)).setCell ⟨w.heap.size, 3, none⟩ (.bool false) = W9 at v0 v1 v2 v3 HB9 ⊢
  simp only [List.getElem?_cons_zero, List.getElem?_cons_succ, List.set_cons_zero, List.set_cons_succ] at v0 v1 v2 v3
  refine bodyPost_ret (v := .agg #[.int .i64 nx, .int .i64 bd, .int .i64 q, .bool false]) (by simp [results, Tryz.results30, go_sem, v0, v1, v2, v3]) rfl ⟨rfl, ?_⟩
  exact HB9.out
end Go.Proofs.YtgaoeoijdpdjiabGreatDoor

namespace Go.Proofs.YtgaoeoijdpdjiabGreatDoor
open Go.RowKit
set_option maxRecDepth 20000 in
theorem skRead_on (SD D : Nat) (i : Int) (z : ByteArray) (c : Int) (Q : World → Prop) (w : World) (hG : Blk w SD [.pointer (some ⟨D, 0, none⟩)] 135)
    (h : Calls Tryz.prog 103 #[.pointer (some ⟨D, 0, none⟩), .int .i64 i] w fun e w' => e = .returned (.tuple #[.string z, .int .i64 c]) ∧ Q w') :
    Calls Tryz.prog 61 #[.pointer (some ⟨SD, 0, none⟩), .int .i64 i] w fun e w' => e = .returned (.tuple #[.string z, .int .i64 c]) ∧ Q w' := by
  have H := hide h
  have c0 : w.cell? ⟨SD, 0, none⟩ = some (.pointer (some ⟨D, 0, none⟩)) := hG.cell 0
  clear h hG
  go_enter Tryz.func61, Tryz.ntmps61
  go_wp2_with fail
  refine H.out.mono ?_
  rintro e w1 ⟨rfl, hq⟩
  have HQ := hide hq
  clear hq
  go_wp2
  go_ret2
  exact ⟨rfl, HQ.out⟩
set_option maxRecDepth 20000 in
theorem skTrouble_on (SD D : Nat) (i c : Int) (Q : World → Prop) (w : World) (hG : Blk w SD [.pointer (some ⟨D, 0, none⟩)] 135)
    (h : Calls Tryz.prog 113 #[.pointer (some ⟨D, 0, none⟩), .int .i64 i] w fun e w' => e = .returned (.int .i64 c) ∧ Q w') :
    Calls Tryz.prog 70 #[.pointer (some ⟨SD, 0, none⟩), .int .i64 i] w fun e w' => e = .returned (.int .i64 c) ∧ Q w' := by
  have H := hide h
  have c0 : w.cell? ⟨SD, 0, none⟩ = some (.pointer (some ⟨D, 0, none⟩)) := hG.cell 0
  clear h hG
  go_enter Tryz.func70, Tryz.ntmps70
  go_wp2_with fail
  refine H.out.mono ?_
  rintro e w1 ⟨rfl, hq⟩
  have HQ := hide hq
  clear hq
  go_wp2
  go_ret
  exact ⟨rfl, HQ.out⟩
theorem dtrouble_any (lo D : Nat) (st : DSt) (F : Nat → Prop) (k : Int) (w : World) (h : DSk lo D st w F) (hk0 : 0 ≤ k) (hk : k ≤ 9223372036854775807) :
    Calls Tryz.prog 113 #[.pointer (some ⟨D, 0, none⟩), .int .i64 k] w fun e w' => e = .returned (.int .i64 0) ∧ DL lo D { st with trouble := k } F w w' := by
  obtain ⟨E, pv, hd, rfl⟩ := h
  refine (trouble_any lo D E pv st k w hd hk).mono ?_
  rw [if_neg (by omega), if_neg (by omega)]
  rintro e w' ⟨rfl, a, b⟩
  exact ⟨rfl, dl_mk a (foot_of_D b) (fun k e => .inl e)⟩
/-- All of it lies in memory. -/
structure IOS (lo SD D G S : Nat) (st : DSt) (vs : List Value) (F : Nat → Prop) (w : World) : Prop where
  d : Blk w SD [.pointer (some ⟨D, 0, none⟩)] 135
  g : Blk w G [.pointer (some ⟨S, 0, none⟩)] 142
  s : Blk w S vs 188
  k : DSk lo D st w F
  nd : ¬ F SD
  ng : ¬ F G
  ns : ¬ F S
  sd : S ≠ SD
  sg : S ≠ G
  ld : lo ≤ SD
  ls : lo ≤ S
end Go.Proofs.YtgaoeoijdpdjiabGreatDoor

namespace Go.Proofs.YtgaoeoijdpdjiabGreatDoor
open Go.RowKit
/-- A disk on which nothing is pending and nothing fails. -/
structure Calm (st : DSt) (tm q : Int) : Prop where
  n : st.n = 2
  tr : st.trouble = 0
  pe : st.pend = []
  te : st.term = tm
  wr : st.writes = q
  sy : st.syncs = q + 1
section
variable {k : Int} {b x e f t l : Nat} (R : RSet k b x e f t l) {sec rnd pub : ByteArray} (s1 : sec.size = b) (s2 : rnd.size = b) (s3 : pub.size = b) {lo SD D G S : Nat} {tm bat : Int} {kk q bd : Nat} {st : DSt} {F : Nat → Prop} {V : World}
theorem total_most (R : RSet k b x e f t l) : 2 ^ (t * l) ≤ 4096 := Nat.le_trans (Nat.pow_le_pow_right (by decide) (Nat.mul_le_mul R.t2 R.l2)) (by decide)
end
end Go.Proofs.YtgaoeoijdpdjiabGreatDoor

namespace Go.Proofs.YtgaoeoijdpdjiabGreatDoor
open Go.RowKit
set_option maxRecDepth 20000 in
set_option maxHeartbeats 8000000 in
theorem begun_fv (lo D : Nat) (st s2 : DSt) (F : Nat → Prop) (k b x t l : Int) (root pub sec rnd id di : ByteArray) (tot bat q bd z0 z1 z2 z4 z5 : Int) (sv : Value) (w : World) (hD : DSk lo D st w F) (hn : 2 ≤ st.n) (hT : Tn w) (hTB : 1 < lo) (hlo : lo ≤ w.heap.size) (hb1 : 1 ≤ bat) (hb2 : bat ≤ 64) (ht0 : 0 ≤ st.term) (ht1 : st.term < 9223372036854775807) (htm : s2.term = st.term + 1)
    (hM : ∀ V : World, Calls Tryz.prog 155 #[.agg #[.int .i64 k, .int .i64 b, .int .i64 x, .int .i64 t, .int .i64 l]] V fun e w' => e = .returned (.tuple #[.agg #[.int .i64 z0, .int .i64 z1, .int .i64 z2, .int .i64 tot, .int .i64 z4, .int .i64 z5], .int .i64 0]) ∧ Below V.heap.size V w')
    (hOf : ∀ V : World, Tn V → Calls Tryz.prog 178 #[.agg #[.int .i64 k, .int .i64 b, .int .i64 x, .int .i64 t, .int .i64 l], .agg #[.string sec, .string rnd, .string pub]] V fun e w' => e = .returned (.tuple #[.agg #[.int .i64 k, .int .i64 b, .int .i64 x, .int .i64 t, .int .i64 l, .string root, .string pub], .int .i64 0]) ∧ Below V.heap.size V w')
    (hId : ∀ V : World, Tn V → Calls Tryz.prog 179 #[.agg #[.int .i64 k, .int .i64 b, .int .i64 x, .int .i64 t, .int .i64 l, .string root, .string pub]] V fun e w' => e = .returned (.string id) ∧ Below V.heap.size V w')
    (hDone : ∀ (V : World) (O : Nat) (F1 : Nat → Prop), DSk lo D { st with term := st.term + 1 } V F1 → Kept F w V → (∀ k, F1 k → F k ∨ w.heap.size ≤ k) → w.heap.size ≤ O → ¬ F1 O → Blk V O (opC D id tot (.slice none 0 0) 0 0 ⟨#[]⟩) 246 → Calls Tryz.prog 180 #[.pointer (some ⟨O, 0, none⟩), sv] V fun e w' => e = .returned (.int .i64 0) ∧ ∃ fv, OPL lo O D s2 (opC D id tot fv q bd di) F1 V w') :
    Calls Tryz.prog 106 #[.pointer (some ⟨D, 0, none⟩), .agg #[.int .i64 k, .int .i64 b, .int .i64 x, .int .i64 t, .int .i64 l], .agg #[.string sec, .string rnd, .string pub], .int .i64 bat, sv] w fun e w' => ∃ S F', e = .returned (.tuple #[.pointer (some ⟨S, 0, none⟩), .int .i64 0]) ∧ Blk w' S (sgC D (st.term + 1) k b x t l root pub sec rnd tot bat bd q bd di false) 188 ∧ DSk lo D s2 w' F' ∧ ¬ F' S ∧ w.heap.size ≤ S ∧ Kept F w w' ∧ ∀ k, F' k → F k ∨ w.heap.size ≤ k := by
  have hFlo : ∀ i, F i → lo ≤ i ∧ i < w.heap.size := hD.lt
  obtain ⟨W0, hW⟩ : ∃ W0, (w.alloc (.cells #[.int .i64 k, .int .i64 b, .int .i64 x, .int .i64 t, .int .i64 l] 26)).alloc (.cells #[.string sec, .string rnd, .string pub] 42) = W0 := ⟨_, rfl⟩
  have HB0 := hide (show Below w.heap.size w W0 by subst hW; exact ((Below.refl _ _).alloc (Nat.le_refl _) _).alloc (by simp) _)
  have HC := hide (show Blk W0 w.heap.size [.int .i64 k, .int .i64 b, .int .i64 x, .int .i64 t, .int .i64 l] 26 by rw [← hW]; exact (Blk.new w _ _).alloc _)
  have HE := hide (show Blk W0 (w.heap.size + 1) [.string sec, .string rnd, .string pub] 42 by
    rw [← hW]
    have h := Blk.new (w.alloc (.cells #[.int .i64 k, .int .i64 b, .int .i64 x, .int .i64 t, .int .i64 l] 26)) [.string sec, .string rnd, .string pub] 42
    simp only [World.size_alloc] at h
    exact h)
  have HM := hide hM
  have HOF := hide hOf
  have HID := hide hId
  have HDN := hide hDone
  have HBT := hide (fun V : World => batch_yes bat V hb1 hb2)
  obtain ⟨sa, hsa⟩ := hD.sectors
  have HSC := hide (fun (V : World) (h : Below w.heap.size w V) => sectors_on D sa st.n st.n V ((h.cell (p := ⟨D, 0, none⟩) hD.ltD).trans hsa))
  have hnn : (2 : Int) ≤ (st.n : Int) := by omega
  have HP := hide (And.intro hD (And.intro hT (And.intro hTB (And.intro hlo (And.intro ht0 (And.intro ht1 (And.intro htm hFlo)))))))
  have HWE := hide hW
  clear hW hM hOf hId hDone hb1 hb2 hsa hD hT hTB hlo ht0 ht1 htm hFlo hn
  go_enter Tryz.func106, Tryz.ntmps106
  go_wp2_with fail
  rw [HWE.out]
  refine (HM.out _).mono ?_
  rintro e w1 ⟨rfl, hb1⟩
  obtain ⟨W1, hW1⟩ : ∃ W1, w1.alloc (.cells #[.int .i64 z0, .int .i64 z1, .int .i64 z2, .int .i64 tot, .int .i64 z4, .int .i64 z5] 158) = W1 := ⟨_, rfl⟩
  have HB1 := hide (show Below W0.heap.size W0 W1 by rw [← hW1]; exact hb1.alloc hb1.size _)
  have HZ := hide (show Blk W1 w1.heap.size [.int .i64 z0, .int .i64 z1, .int .i64 z2, .int .i64 tot, .int .i64 z4, .int .i64 z5] 158 by rw [← hW1]; exact Blk.new w1 _ _)
  have HW1 := hide hW1
  have hZw := HB0.out.size
  have hZw1 := hb1.size
  obtain ⟨Z, hZ⟩ : ∃ Z, w1.heap.size = Z := ⟨_, rfl⟩
  rw [hZ] at HZ hZw1
  have HZE := hide hZ
  have HZW := hide (Nat.le_trans hZw hZw1)
  clear hb1 hW1 hZ hZw hZw1
  go_wp2_with fail
  rw [HW1.out]
  refine (HSC.out _ (HB0.out.trans (HB1.out.mono HB0.out.size))).mono ?_
  rintro e w2 ⟨rfl, hb2⟩
  have HB2 := hide hb2
  clear hb2
  go_wp2_with fail
  refine (HBT.out _).mono ?_
  rintro e w3 ⟨rfl, hb3⟩
  have HB3 := hide (heldB HB2.out hb3 (Nat.le_refl _))
  clear hb3
  have HB03 := hide (HB1.out.trans (HB3.out.mono HB1.out.size))
  have HC3 := hide (HC.out.on HB03.out)
  have HE3 := hide (HE.out.on HB03.out)
  have c0 : w3.cell? ⟨w.heap.size, 0, none⟩ = some (.int .i64 k) := HC3.out.cell 0
  have c1 : w3.cell? ⟨w.heap.size, 1, none⟩ = some (.int .i64 b) := HC3.out.cell 1
  have c2 : w3.cell? ⟨w.heap.size, 2, none⟩ = some (.int .i64 x) := HC3.out.cell 2
  have c3 : w3.cell? ⟨w.heap.size, 3, none⟩ = some (.int .i64 t) := HC3.out.cell 3
  have c4 : w3.cell? ⟨w.heap.size, 4, none⟩ = some (.int .i64 l) := HC3.out.cell 4
  have d0 : w3.cell? ⟨w.heap.size + 1, 0, none⟩ = some (.string sec) := HE3.out.cell 0
  have d1 : w3.cell? ⟨w.heap.size + 1, 1, none⟩ = some (.string rnd) := HE3.out.cell 1
  have d2 : w3.cell? ⟨w.heap.size + 1, 2, none⟩ = some (.string pub) := HE3.out.cell 2
  have HBw3 := hide (HB0.out.trans (HB03.out.mono HB0.out.size))
  have HT3 := hide (HP.out.2.1.on HBw3.out)
  go_wp2_with fail
  refine (HOF.out _ HT3.out).mono ?_
  rintro e w4 ⟨rfl, hb4⟩
  clear c0 c1 c2 c3 c4 d0 d1 d2
  obtain ⟨W4, hW4⟩ : ∃ W4, w4.alloc (.cells #[.int .i64 k, .int .i64 b, .int .i64 x, .int .i64 t, .int .i64 l, .string root, .string pub] 184) = W4 := ⟨_, rfl⟩
  have HB4 := hide (show Below w3.heap.size w3 W4 by rw [← hW4]; exact hb4.alloc hb4.size _)
  have HKK := hide (show Blk W4 w4.heap.size [.int .i64 k, .int .i64 b, .int .i64 x, .int .i64 t, .int .i64 l, .string root, .string pub] 184 by rw [← hW4]; exact Blk.new w4 _ _)
  obtain ⟨KB, hKB⟩ : ∃ KB, w4.heap.size = KB := ⟨_, rfl⟩
  have HKBW := hide (show w.heap.size ≤ KB by rw [← hKB]; exact Nat.le_trans HBw3.out.size hb4.size)
  rw [hKB] at HKK
  have HW4 := hide hW4
  have HKE := hide hKB
  clear hb4 hW4 hKB
  have HBw4 := hide (HBw3.out.trans (HB4.out.mono HBw3.out.size))
  have HE4 := hide (HE3.out.on HB4.out)
  have HZ4 := hide ((HZ.out.on HB3.out).on HB4.out)
  have HD4 := hide (HP.out.1.below HBw4.out)
  have HNT := hide (dterm_any lo D st F W4 HD4.out HP.out.2.2.2.2.1 HP.out.2.2.2.2.2.1)
  go_wp2_with fail
  rw [HW4.out]
  refine HNT.out.mono ?_
  rintro e w5 ⟨rfl, hl5⟩
  have hnF : ∀ g, w.heap.size ≤ g → ¬ F g := fun g hg h => by have := (HP.out.2.2.2.2.2.2.2 g h).2; omega
  have HE5 := hide (hl5.blk HE4.out (hnF _ (by omega)))
  have HZ5 := hide (hl5.blk HZ4.out (hnF _ HZW.out))
  have HK5 := hide (hl5.blk HKK.out (hnF _ HKBW.out))
  have HL5 := hide (hl5.of_below HBw4.out (fun i hi => (HP.out.2.2.2.2.2.2.2 i hi).2))
  have HNF := hide hnF
  have HL5W := hide hl5
  have HSZ := hide (And.intro HE4.out.lt (And.intro HZ4.out.lt HKK.out.lt))
  clear hl5 hnF
  have HBL5 := hide (show Below lo w w5 by
    obtain ⟨F1, _, k1, _⟩ := HL5.out
    exact k1.below (fun i hi => (HP.out.2.2.2.2.2.2.2 i hi).1) HP.out.2.2.2.1)
  have HT5 := hide (show Tn w5.drew from (HP.out.2.1.below HBL5.out HP.out.2.2.1).on (Below.refl _ w5).drew)
  have HS := hide (fun (V : World) (h : Below w5.heap.size w5 V) => (by
    have q1 := HK5.out.on h
    have q2 := HZ5.out.on h
    exact ⟨q1.cell 0, q1.cell 1, q1.cell 2, q1.cell 3, q1.cell 4, q1.cell 5, q1.cell 6, q2.cell 3⟩ : V.cell? ⟨KB, 0, none⟩ = some (.int .i64 k) ∧ V.cell? ⟨KB, 1, none⟩ = some (.int .i64 b) ∧ V.cell? ⟨KB, 2, none⟩ = some (.int .i64 x) ∧ V.cell? ⟨KB, 3, none⟩ = some (.int .i64 t) ∧ V.cell? ⟨KB, 4, none⟩ = some (.int .i64 l) ∧ V.cell? ⟨KB, 5, none⟩ = some (.string root) ∧ V.cell? ⟨KB, 6, none⟩ = some (.string pub) ∧ V.cell? ⟨Z, 3, none⟩ = some (.int .i64 tot)))
  go_wp2_with fail
  try rw [HKE.out]
  try rw [HZE.out]
  refine wp_region_held_drew (S := fun V => V.cell? ⟨KB, 0, none⟩ = some (.int .i64 k) ∧ V.cell? ⟨KB, 1, none⟩ = some (.int .i64 b) ∧ V.cell? ⟨KB, 2, none⟩ = some (.int .i64 x) ∧ V.cell? ⟨KB, 3, none⟩ = some (.int .i64 t) ∧ V.cell? ⟨KB, 4, none⟩ = some (.int .i64 l) ∧ V.cell? ⟨KB, 5, none⟩ = some (.string root) ∧ V.cell? ⟨KB, 6, none⟩ = some (.string pub) ∧ V.cell? ⟨Z, 3, none⟩ = some (.int .i64 tot)) (by kernel_rfl) (HS.out _ ((Below.refl w5.heap.size w5).drew)) (fun hHeld => ?_)
  refine tk 0 hHeld (h := ?_)
  refine tk 1 hHeld (h := ?_)
  refine tk 3 hHeld (h := ?_)
  refine tk 4 hHeld (h := ?_)
  refine wpAnyH_ready (rs := [2]) (by kernel_rfl) (by simp) ?_
  refine AllReadyH.cons (o := ?oa2) ?hoa2 (fun K hK => ?hsa2) AllReadyH.nil
  case hoa2 => (simp only [List.getElem?_toArray, List.getElem?_cons_succ, List.getElem?_cons_zero]; rfl)
  go_simp
  go_at_call 179
  refine (HID.out _ HT5.out).mono ?_
  rintro e w6 ⟨rfl, hb6⟩
  have HB6 := hide (heldB (Below.refl w5.heap.size w5).drew hb6 (Nat.le_refl _))
  clear hb6
  try go_wp2_with fail
  refine hK.out _ _ (HS.out _ (HB6.out)) (fun hHeld => ?_)
  clear hK K
  try simp only [Act.put, List.setIfInBounds_toArray, List.set_cons_zero, List.set_cons_succ]
  refine tk 5 hHeld (h := ?_)
  refine wpAnyH_ready (rs := [6]) (by kernel_rfl) (by simp) ?_
  refine AllReadyH.cons (o := ?oa6) ?hoa6 (fun K hK => ?hsa6) AllReadyH.nil
  case hoa6 => (simp only [List.getElem?_toArray, List.getElem?_cons_succ, List.getElem?_cons_zero]; rfl)
  go_simp
  refine hK.out _ _ (HS.out _ (HB6.out.alloc HB6.out.size _)) (fun hHeld => ?_)
  clear hK K
  try simp only [Act.put, List.setIfInBounds_toArray, List.set_cons_zero, List.set_cons_succ]
  refine tk 7 hHeld (h := ?_)
  refine wpAnyH_done (by kernel_rfl) ?_ _
  have HOB := hide (Blk.new w6 (opC D id tot (.slice none 0 0) 0 0 ⟨#[]⟩) 246)
  have HB7 := hide (HB6.out.alloc HB6.out.size (.cells (opC D id tot (.slice none 0 0) 0 0 ⟨#[]⟩).toArray 246))
  have HOW := hide (Nat.le_trans HBL5.out.size HB6.out.size)
  have HO5 := hide HB6.out.size
  simp only [opC] at HOB HB7
  clear hHeld
  generalize w6.alloc (.cells (List.toArray [.pointer (some ⟨D, 0, none⟩), .string id, .int .i64 tot, .slice none 0 0, .int .i64 0, .int .i64 0, .string ⟨#[]⟩]) 246) = W7 at HOB HB7 ⊢
  obtain ⟨O, hO⟩ : ∃ O, w6.heap.size = O := ⟨_, rfl⟩
  rw [hO] at HOB HOW HO5 ⊢
  clear hO
  obtain ⟨F1, HD1, HK1, HF1, HF4, HNO⟩ : ∃ F1, Hid (DSk lo D { st with term := st.term + 1 } W7 F1) ∧ Hid (Kept F w W7) ∧ Hid (∀ k, F1 k → F k ∨ w.heap.size ≤ k) ∧ Hid (∀ k, F1 k → F k ∨ W4.heap.size ≤ k) ∧ Hid (¬ F1 O) := by
    obtain ⟨F1, a, b, c⟩ := HL5W.out
    refine ⟨F1, a.below HB7.out, ((Kept.of_below (F := F) HBw4.out).trans b (fun i hi => .inl hi)).after HB7.out, fun k hk => ?_, c, fun h => by have := (a.lt O h).2; have := HO5.out; omega⟩
    rcases c k hk with h | h
    · exact .inl h
    · exact .inr (Nat.le_trans HBw4.out.size h)
  have HDC := hide (HDN.out W7 O F1 HD1.out HK1.out HF1.out HOW.out HNO.out HOB.out)
  have HE7 := hide (HE5.out.on HB7.out)
  have HZ7 := hide (HZ5.out.on HB7.out)
  have HK7 := hide (HK5.out.on HB7.out)
  have HW45 := hide (show W4.heap.size ≤ w5.heap.size by obtain ⟨_, _, b, _⟩ := HL5W.out; exact b.size)
  go_wp2_with fail
  refine HDC.out.mono ?_
  rintro e w8 ⟨rfl, fv, hop1, F2, hd2, hk2, hf2⟩
  have hng : ∀ g, w.heap.size ≤ g → g < W4.heap.size → ¬ (g = O ∨ F1 g) := by
    intro g g1 g2 h
    rcases h with rfl | h
    · have := HO5.out; have := HW45.out; omega
    · rcases HF4.out g h with h | h
      · exact HNF.out g g1 h
      · omega
  have HE8 := hide (hk2.blk HE7.out (hng _ (by omega) HSZ.out.1))
  have HZ8 := hide (hk2.blk HZ7.out (hng _ HZW.out HSZ.out.2.1))
  have HK8 := hide (hk2.blk HK7.out (hng _ HKBW.out HSZ.out.2.2))
  have HO8 := hide hop1
  have HD8 := hide hd2
  have HX8 := hide (And.intro hk2 hf2)
  have HTM := hide (term_on D (st.term + 1) w8.drew (by rw [← HP.out.2.2.2.2.2.2.1]; exact hd2.term))
  clear hng hop1 hd2 hk2 hf2
  have HS14 := hide (fun (V : World) (h : Below w8.heap.size w8 V) => (by
    have q1 := HK8.out.on h
    have q2 := HZ8.out.on h
    have q3 := HE8.out.on h
    have q4 := HO8.out.on h
    exact ⟨q1.cell 0, q1.cell 1, q1.cell 2, q1.cell 3, q1.cell 4, q1.cell 5, q1.cell 6, q2.cell 3, q3.cell 0, q3.cell 1, q3.cell 2, q4.cell 4, q4.cell 5, q4.cell 6⟩ : V.cell? ⟨KB, 0, none⟩ = some (.int .i64 k) ∧ V.cell? ⟨KB, 1, none⟩ = some (.int .i64 b) ∧ V.cell? ⟨KB, 2, none⟩ = some (.int .i64 x) ∧ V.cell? ⟨KB, 3, none⟩ = some (.int .i64 t) ∧ V.cell? ⟨KB, 4, none⟩ = some (.int .i64 l) ∧ V.cell? ⟨KB, 5, none⟩ = some (.string root) ∧ V.cell? ⟨KB, 6, none⟩ = some (.string pub) ∧ V.cell? ⟨Z, 3, none⟩ = some (.int .i64 tot) ∧ V.cell? ⟨w.heap.size + 1, 0, none⟩ = some (.string sec) ∧ V.cell? ⟨w.heap.size + 1, 1, none⟩ = some (.string rnd) ∧ V.cell? ⟨w.heap.size + 1, 2, none⟩ = some (.string pub) ∧ V.cell? ⟨O, 4, none⟩ = some (.int .i64 q) ∧ V.cell? ⟨O, 5, none⟩ = some (.int .i64 bd) ∧ V.cell? ⟨O, 6, none⟩ = some (.string di)))
  go_wp2_with fail
  refine wp_region_held_drew (S := fun V => V.cell? ⟨KB, 0, none⟩ = some (.int .i64 k) ∧ V.cell? ⟨KB, 1, none⟩ = some (.int .i64 b) ∧ V.cell? ⟨KB, 2, none⟩ = some (.int .i64 x) ∧ V.cell? ⟨KB, 3, none⟩ = some (.int .i64 t) ∧ V.cell? ⟨KB, 4, none⟩ = some (.int .i64 l) ∧ V.cell? ⟨KB, 5, none⟩ = some (.string root) ∧ V.cell? ⟨KB, 6, none⟩ = some (.string pub) ∧ V.cell? ⟨Z, 3, none⟩ = some (.int .i64 tot) ∧ V.cell? ⟨w.heap.size + 1, 0, none⟩ = some (.string sec) ∧ V.cell? ⟨w.heap.size + 1, 1, none⟩ = some (.string rnd) ∧ V.cell? ⟨w.heap.size + 1, 2, none⟩ = some (.string pub) ∧ V.cell? ⟨O, 4, none⟩ = some (.int .i64 q) ∧ V.cell? ⟨O, 5, none⟩ = some (.int .i64 bd) ∧ V.cell? ⟨O, 6, none⟩ = some (.string di)) (by kernel_rfl) (HS14.out _ ((Below.refl w8.heap.size w8).drew)) (fun hHeld => ?_)
  refine tk 0 hHeld (h := ?_)
  refine tk 1 hHeld (h := ?_)
  refine tk 3 hHeld (h := ?_)
  refine tk 4 hHeld (h := ?_)
  refine tk 5 hHeld (h := ?_)
  refine tk 6 hHeld (h := ?_)
  refine tk 7 hHeld (h := ?_)
  refine tk 8 hHeld (h := ?_)
  refine tk 9 hHeld (h := ?_)
  refine tk 10 hHeld (h := ?_)
  refine tk 11 hHeld (h := ?_)
  refine tk 12 hHeld (h := ?_)
  refine tk 13 hHeld (h := ?_)
  refine tk 14 hHeld (h := ?_)
  refine tk 15 hHeld (h := ?_)
  refine tk 16 hHeld (h := ?_)
  refine wpAnyH_ready (rs := [2]) (by kernel_rfl) (by simp) ?_
  refine AllReadyH.cons (o := ?og2) ?hog2 (fun K hK => ?hsg2) AllReadyH.nil
  case hog2 => (simp only [List.getElem?_toArray, List.getElem?_cons_succ, List.getElem?_cons_zero]; rfl)
  go_simp
  go_at_call 181
  refine HTM.out.mono ?_
  rintro e w9 ⟨rfl, hb9⟩
  have HB9 := hide (heldB (Below.refl w8.heap.size w8).drew hb9 (Nat.le_refl _))
  clear hb9
  try go_wp2_with fail
  refine hK.out _ _ (HS14.out _ (HB9.out)) (fun hHeld => ?_)
  clear hK K
  try simp only [Act.put, List.setIfInBounds_toArray, List.set_cons_zero, List.set_cons_succ]
  refine tk 17 hHeld (h := ?_)
  refine wpAnyH_ready (rs := [18]) (by kernel_rfl) (by simp) ?_
  refine AllReadyH.cons (o := ?og18) ?hog18 (fun K hK => ?hsg18) AllReadyH.nil
  case hog18 => (simp only [List.getElem?_toArray, List.getElem?_cons_succ, List.getElem?_cons_zero]; rfl)
  go_simp
  refine hK.out _ _ (HS14.out _ (HB9.out.alloc HB9.out.size _)) (fun hHeld => ?_)
  clear hK K
  try simp only [Act.put, List.setIfInBounds_toArray, List.set_cons_zero, List.set_cons_succ]
  refine tk 19 hHeld (h := ?_)
  refine tk 20 hHeld (h := ?_)
  refine wpAnyH_done (by kernel_rfl) ?_ _
  have HSB := hide (Blk.new w9 (sgC D (st.term + 1) k b x t l root pub sec rnd tot bat bd q bd di false) 188)
  have HB10 := hide (HB9.out.alloc HB9.out.size (.cells (sgC D (st.term + 1) k b x t l root pub sec rnd tot bat bd q bd di false).toArray 188))
  have HSS := hide HB9.out.size
  simp only [sgC] at HSB HB10
  clear hHeld
  go_wp2
  go_ret2
  have z7 := HK1.out.size
  have z8 := HX8.out.1.size
  have zs := HSS.out
  refine ⟨w9.heap.size, F2, rfl, HSB.out, HD8.out.below HB10.out, fun h => by have := (HD8.out.lt _ h).2; omega, by omega, ?_, fun i hi => ?_⟩
  · refine (HK1.out.trans HX8.out.1 (fun i hi => ?_)).after HB10.out
    rcases hi with rfl | hi
    · exact .inr HOW.out
    · exact HF1.out i hi
  · rcases HX8.out.2 i hi with h | h
    · exact HF1.out i h
    · exact .inr (by omega)
end Go.Proofs.YtgaoeoijdpdjiabGreatDoor
