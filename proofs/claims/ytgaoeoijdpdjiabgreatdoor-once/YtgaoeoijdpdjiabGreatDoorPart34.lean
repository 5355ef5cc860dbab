/-
  A signer when nothing fails: a signature, a reservation, its state.
-/
import Derived.Test.YtgaoeoijdpdjiabGreatDoorPart33
namespace Go.Proofs.YtgaoeoijdpdjiabGreatDoor
open Go.RowKit

theorem valN_left (x y : ByteArray) : ∀ k, k ≤ x.size → valN (x ++ y) 0 k = valN x 0 k
  | 0, _ => rfl
  | k + 1, h => by rw [valN, valN, valN_left x y k (by omega), Nat.zero_add, byt_left x y k (by omega)]
theorem sig_head (k : Int) (b x e f t l : Nat) (sec rnd pub msg : ByteArray) (idx : Nat) (h : idx ≤ 4096) : 4 ≤ (sigS k b x e f t l sec rnd pub msg idx).size ∧ valN (sigS k b x e f t l sec rnd pub msg idx) 0 4 = idx := by
  unfold sigS
  rw [ByteArray.append_assoc]
  refine ⟨by rw [ByteArray.size_append, numB_size]; omega, ?_⟩
  rw [valN_left _ _ 4 (by rw [numB_size]; omega)]
  have := val_num (idx : Int) (by omega) (by omega)
  omega

/-- What holds from step to step. -/
def INV (lo SD D G S : Nat) (tm k : Int) (b x e f t l : Nat) (sec rnd pub : ByteArray) (bat : Nat) (Wd : World) (kk : Nat) (V : World) : Prop :=
  ∃ (st : DSt) (F : Nat → Prop) (q bd : Nat), IOS lo SD D G S st (ioC D tm k b x e f t l sec rnd pub bat kk q bd) F V ∧ Below lo Wd V ∧ Calm st tm q ∧ 1 ≤ q ∧ q ≤ bd + 1 ∧ kk ≤ bd ∧ bd ≤ 2 ^ (t * l)

section
variable {lo SD D G S : Nat} {tm k : Int} {b x e f t l : Nat} {sec rnd pub : ByteArray} {bat : Nat} {Wd : World} {kk : Nat} {V : World}

theorem INV.then {w' : World} (h : INV lo SD D G S tm k b x e f t l sec rnd pub bat Wd kk V) (hb : Below V.heap.size V w') (hlo : lo ≤ V.heap.size) : INV lo SD D G S tm k b x e f t l sec rnd pub bat Wd kk w' := by
  obtain ⟨st, F, q, bd, hI, hB, r⟩ := h
  exact ⟨st, F, q, bd, hI.below hb, hB.trans (hb.mono hlo), r⟩

theorem inv_iol {w' : World} {st s2 : DSt} {F : Nat → Prop} {vs : List Value} {q2 bd2 kk2 : Nat} (hI : IOS lo SD D G S st vs F V) (hB : Below lo Wd V) (hlo : lo ≤ V.heap.size) (hl : IOL lo SD D G S s2 (ioC D tm k b x e f t l sec rnd pub bat kk2 q2 bd2) F V w') (hc : Calm s2 tm q2) (h1 : 1 ≤ q2) (h2 : q2 ≤ bd2 + 1) (h3 : kk2 ≤ bd2) (h4 : bd2 ≤ 2 ^ (t * l)) : INV lo SD D G S tm k b x e f t l sec rnd pub bat Wd kk2 w' := by
  have hb := hl.low hI.ls (fun k hk => (hI.k.lt k hk).1) hlo
  obtain ⟨F', a, _, _⟩ := hl
  exact ⟨s2, F', q2, bd2, a, hB.trans hb, hc, h1, h2, h3, h4⟩

theorem keyIn (R : RSet k b x e f t l) (s1 : sec.size = b) (s3 : pub.size = b) {q bd : Nat} {st : DSt} {F : Nat → Prop} (hI : IOS lo SD D G S st (ioC D tm k b x e f t l sec rnd pub bat kk q bd) F V) :
    Calls Tryz.prog 51 #[.pointer (some ⟨G, 0, none⟩)] V fun e' w' => e' = .returned (.string (headS k b x t l ++ rootK k b x t (b * e + f) l sec pub ++ pub)) ∧ Below V.heap.size V w' := by
  obtain ⟨g1, g2, g3, g4, g5, g6⟩ := pair_small R.pr
  have hrk := rootK_size k b x t (b * e + f) l sec pub R.kk g1 g2 (by omega) (by omega) g3
  exact sgKey_on G S _ _ V hI.g (key_on S D tm k b x t l _ pub sec rnd _ _ _ _ _ _ false V hI.s (by omega) (by omega))

/-- The k-th signature. -/
theorem inv_sign (R : RSet k b x e f t l) (s1 : sec.size = b) (s2 : rnd.size = b) (s3 : pub.size = b) (hTW : Tn Wd) (hTB : 1 < lo) (hlo : lo ≤ V.heap.size) (hb1 : 1 ≤ bat) (hb2 : bat ≤ 64) (msg : ByteArray) (hm : msg.size ≤ 200) (hkk : kk < 2 ^ (t * l)) {st : DSt} {F : Nat → Prop} {q bd : Nat} (hI : IOS lo SD D G S st (ioC D tm k b x e f t l sec rnd pub bat kk q bd) F V) (hB : Below lo Wd V) (hc : Calm st tm q) (hq1 : 1 ≤ q) (hq : q ≤ bd + 1) (hkb : kk ≤ bd) (hbt : bd ≤ 2 ^ (t * l)) :
    Calls Tryz.prog 27 #[.agg #[.int .i64 k, .int .i64 b, .int .i64 x, .int .i64 t, .int .i64 l], .pointer (some ⟨SD, 0, none⟩), .pointer (some ⟨G, 0, none⟩), .int .i64 kk, .string msg] V fun e' w' => e' = .returned (.bool true) ∧ INV lo SD D G S tm k b x e f t l sec rnd pub bat Wd (kk + 1) w' ∧ Kept (fun i => i = S ∨ F i) V w' := by
  have hT4 := total_most R
  have hT : Tn V := hTW.below hB hTB
  have hTo : ∀ V : World, Calls Tryz.prog 29 #[.agg #[.int .i64 k, .int .i64 b, .int .i64 x, .int .i64 t, .int .i64 l]] V fun e' w' => e' = .returned (.int .i64 ((2 ^ (t * l) : Nat) : Int)) ∧ Below V.heap.size V w' := fun V => keepTotal_any k b x t l V R.t2 R.l2
  obtain ⟨hz, hval⟩ := sig_head k b x e f t l sec rnd pub msg kk (by omega)
  have hVe : ∀ V : World, Tn V → Calls Tryz.prog 44 #[.string (headS k b x t l ++ rootK k b x t (b * e + f) l sec pub ++ pub), .string msg, .string (sigS k b x e f t l sec rnd pub msg kk)] V fun e' w' => e' = .returned (.int .i64 0) ∧ Below V.heap.size V w' := fun V hV => verY k b x e f t l R sec rnd pub msg kk s1 s2 s3 hm hkk V hV
  have hSI : ∀ V : World, Tn V → Calls Tryz.prog 171 #[.agg #[.int .i64 k, .int .i64 b, .int .i64 x, .int .i64 t, .int .i64 l, .string (rootK k b x t (b * e + f) l sec pub), .string pub], .agg #[.string sec, .string rnd, .string pub], .int .i64 kk, .string msg] V fun e' w' => e' = .returned (.string (sigS k b x e f t l sec rnd pub msg kk)) ∧ Below V.heap.size V w' := fun V hV => signY k b x e f t l R sec rnd pub msg kk s1 s2 s3 hm hkk V hV
  have hv : IntKind.i64.wrap ((kk : Int) + 1) = (kk : Int) + 1 := by rw [IntKind.wrap_i64] <;> omega
  have hsp : (kk : Int) ≠ ((2 ^ (t * l) : Nat) : Int) := by omega
  have hwr := hc.wr
  have hck : ∀ q' bd' : Nat, sgC D tm k b x t l (rootK k b x t (b * e + f) l sec pub) pub sec rnd ((2 ^ (t * l) : Nat) : Int) bat ((kk : Int) + 1) q' bd' (idS k b x t l (rootK k b x t (b * e + f) l sec pub) pub) false = ioC D tm k b x e f t l sec rnd pub bat (kk + 1) q' bd' := fun q' bd' => by unfold ioC; rw [Int.natCast_add]; rfl
  by_cases hkd : kk = bd
  · obtain ⟨st2, nb, hc2, hnb, hRS⟩ := resv_in (rnd := rnd) (bat := (bat : Int)) (kk := kk) (lo := lo) (S := S) (D := D) R s1 s3 hc hq1 hq (by omega) bat hb1 hb2
    refine (inOrder_more lo SD D G S st st2 _ (ioC D tm k b x e f t l sec rnd pub bat (kk + 1) (q + 1) nb) F k b x t l _ kk msg (sigS k b x e f t l sec rnd pub msg kk) _ V hI hT hTB hlo (by omega) hTo ?_ (fun V F' h => keyIn R s1 s3 h) hVe hz hval (by rw [hc2.pe]; rfl) (by have := hc2.wr; rw [IntKind.wrap_i64] <;> omega) (by have := hc2.wr; omega)).mono ?_
    · intro V' hb
      have hI' := hI.below hb
      refine (sgSign_on G S msg _ 0 _ V' hI'.g (ssign_res lo S D st F tm k b x t l _ pub sec rnd _ bat kk q bd _ msg _ nb st2 V' hI'.s hI'.k hI'.ns hc.te hsp (by omega) (by omega) hv (hT.on hb) hTB hI.ls (Nat.le_trans hlo hb.size) hm hSI (fun V2 hb2 => by
        have hI2 := hI'.below hb2
        refine (hRS V2 F hI2.s hI2.k hI2.ns (Nat.le_trans hlo (Nat.le_trans hb.size hb2.size))).mono ?_
        rintro e' w' ⟨rfl, hl⟩
        exact ⟨rfl, hl⟩))).mono ?_
      rintro e' w' ⟨rfl, hl⟩
      have hl' : SGL lo S D st2 (ioC D tm k b x e f t l sec rnd pub bat (kk + 1) (q + 1) nb) F V' w' := by
        have := hck (q + 1) nb
        rw [Int.natCast_add] at this
        rw [← this]
        exact hl
      exact ⟨rfl, hI'.sgl hl'⟩
    · rintro e' w' ⟨rfl, hl⟩
      exact ⟨rfl, inv_iol hI hB hlo hl hc2 (by omega) (by omega) (by omega) (by omega), by obtain ⟨_, _, hk, _⟩ := hl; exact hk⟩
  · refine (inOrder_more lo SD D G S st st _ (ioC D tm k b x e f t l sec rnd pub bat (kk + 1) q bd) F k b x t l _ kk msg (sigS k b x e f t l sec rnd pub msg kk) _ V hI hT hTB hlo (by omega) hTo ?_ (fun V F' h => keyIn R s1 s3 h) hVe hz hval (by rw [hc.pe]; rfl) (by rw [IntKind.wrap_i64] <;> omega) (by omega)).mono ?_
    · intro V' hb
      have hI' := hI.below hb
      refine (sgSign_on G S msg _ 0 _ V' hI'.g (ssign_more lo S D st F tm k b x t l _ pub sec rnd _ bat kk q bd _ msg _ V' hI'.s hI'.k hI'.ns hc.te hsp (by omega) hv (hT.on hb) hTB hI.ls (Nat.le_trans hlo hb.size) hm hSI)).mono ?_
      rintro e' w' ⟨rfl, hl⟩
      rw [hck] at hl
      exact ⟨rfl, hI'.sgl hl⟩
    · rintro e' w' ⟨rfl, hl⟩
      exact ⟨rfl, inv_iol hI hB hlo hl hc (by omega) (by omega) (by omega) (by omega), by obtain ⟨_, _, hk, _⟩ := hl; exact hk⟩

/-- Behind the last one. -/
theorem inv_spent (R : RSet k b x e f t l) (hlo : lo ≤ V.heap.size) (msg : ByteArray) (hm : msg.size ≤ 200) (hkk : 2 ^ (t * l) ≤ kk) {st : DSt} {F : Nat → Prop} {q bd : Nat} (hI : IOS lo SD D G S st (ioC D tm k b x e f t l sec rnd pub bat kk q bd) F V) (hB : Below lo Wd V) (hc : Calm st tm q) (hq1 : 1 ≤ q) (hq : q ≤ bd + 1) (hkb : kk ≤ bd) (hbt : bd ≤ 2 ^ (t * l)) :
    Calls Tryz.prog 27 #[.agg #[.int .i64 k, .int .i64 b, .int .i64 x, .int .i64 t, .int .i64 l], .pointer (some ⟨SD, 0, none⟩), .pointer (some ⟨G, 0, none⟩), .int .i64 kk, .string msg] V fun e' w' => e' = .returned (.bool true) ∧ INV lo SD D G S tm k b x e f t l sec rnd pub bat Wd kk w' ∧ Kept (fun i => i = S ∨ F i) V w' := by
  have hTo : ∀ V : World, Calls Tryz.prog 29 #[.agg #[.int .i64 k, .int .i64 b, .int .i64 x, .int .i64 t, .int .i64 l]] V fun e' w' => e' = .returned (.int .i64 ((2 ^ (t * l) : Nat) : Int)) ∧ Below V.heap.size V w' := fun V => keepTotal_any k b x t l V R.t2 R.l2
  refine (inOrder_spent lo SD D G S st _ F k b x t l _ kk msg V hI (by omega) hc.tr hTo (fun V' F' hI' => ?_)).mono ?_
  · exact sgSign_on G S msg _ 10 _ V' hI'.g (ssign_spent lo S D _ F' tm k b x t l _ pub sec rnd _ bat kk q bd _ msg V' hI'.s hI'.k hI'.ns hc.te hm (by omega))
  · rintro e' w' ⟨rfl, hl⟩
    exact ⟨rfl, inv_iol hI hB hlo hl hc hq1 hq hkb hbt, by obtain ⟨_, _, hk, _⟩ := hl; exact hk⟩

/-- How far it is. -/
theorem inv_state {q bd : Nat} {st : DSt} {F : Nat → Prop} (hI : IOS lo SD D G S st (ioC D tm k b x e f t l sec rnd pub bat kk q bd) F V) (hc : Calm st tm q) :
    Calls Tryz.prog 30 #[.pointer (some ⟨G, 0, none⟩)] V fun e' w' => e' = .returned (.agg #[.int .i64 kk, .int .i64 bd, .int .i64 q, .bool false]) ∧ Below V.heap.size V w' :=
  sgState_on G S kk bd q V hI.g (fun V' hb => by
    have hI' := hI.below hb
    exact state_on S D tm k b x t l _ pub sec rnd _ bat kk q bd _ V' hI'.s hI'.k.ltD (by rw [← hc.te]; exact hI'.k.term))

/-- A reservation where there is something left. -/
theorem inv_reserve (R : RSet k b x e f t l) (s1 : sec.size = b) (s3 : pub.size = b) {q bd : Nat} {st : DSt} {F : Nat → Prop} (m : Nat) (hm : 1 ≤ m) (hm2 : m ≤ 64) (hI : IOS lo SD D G S st (ioC D tm k b x e f t l sec rnd pub bat kk q bd) F V) (hB : Below lo Wd V) (hlo : lo ≤ V.heap.size) (hc : Calm st tm q) (hq1 : 1 ≤ q) (hq : q ≤ bd + 1) (hkb : kk ≤ bd) (hbt : bd < 2 ^ (t * l)) :
    Calls Tryz.prog 31 #[.pointer (some ⟨G, 0, none⟩), .int .i64 m] V fun e' w' => e' = .returned (.tuple #[.int .i64 ((min (bd + m) (2 ^ (t * l)) : Nat) : Int), .int .i64 0]) ∧ INV lo SD D G S tm k b x e f t l sec rnd pub bat Wd kk w' ∧ Kept (fun i => i = S ∨ F i) V w' := by
  obtain ⟨st2, nb, hc2, hnb, hRS⟩ := resv_in (rnd := rnd) (bat := (bat : Int)) (kk := kk) (lo := lo) (S := S) (D := D) R s1 s3 hc hq1 hq hbt m hm hm2
  have hT4 := total_most R
  rw [← hnb]
  refine (sgReserve_on G S m nb 0 _ V hI.g (sreserve_yes lo S D st F tm k b x t l _ pub sec rnd _ bat kk q bd _ m nb st2 V hI.s hI.k hI.ns hc.te (by omega) (by omega) (by omega) (by omega) (fun V2 hb2 => by
    have hI2 := hI.below hb2
    refine (hRS V2 F hI2.s hI2.k hI2.ns (Nat.le_trans hlo hb2.size)).mono ?_
    rintro e' w' ⟨rfl, hl⟩
    exact ⟨rfl, hl⟩))).mono ?_
  rintro e' w' ⟨rfl, hl⟩
  have hl' : SGL lo S D st2 (ioC D tm k b x e f t l sec rnd pub bat kk (q + 1) nb) F V w' := hl
  exact ⟨rfl, inv_iol hI hB hlo (hI.sgl hl') hc2 (by omega) (by omega) (by omega) (by omega), by obtain ⟨_, _, _, hk, _⟩ := hl'; exact hk⟩
/-- A reservation where nothing is left. -/
theorem inv_none {q bd : Nat} {st : DSt} {F : Nat → Prop} (m : Nat) (hm : 1 ≤ m) (hm2 : m ≤ 64) (hI : IOS lo SD D G S st (ioC D tm k b x e f t l sec rnd pub bat kk q bd) F V) (hc : Calm st tm q) (hbt : bd = 2 ^ (t * l)) :
    Calls Tryz.prog 31 #[.pointer (some ⟨G, 0, none⟩), .int .i64 m] V fun e' w' => e' = .returned (.tuple #[.int .i64 0, .int .i64 10]) ∧ Below V.heap.size V w' :=
  sgReserve_on G S m 0 10 _ V hI.g (sreserve_spent lo S D st F tm k b x t l _ pub sec rnd _ bat kk q bd _ m V hI.s hI.k hI.ns hc.te (by omega) (by omega) (by omega))
end
end Go.Proofs.YtgaoeoijdpdjiabGreatDoor
