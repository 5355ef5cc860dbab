/-
  The statement's own first: a key on a disk of its own signs. A disk's sectors, copied to another one: what the writes make. The journal of one key on a disk, by itself: what a crash, a sync, a reservation leave of it.
-/
import Derived.Test.YtgaoeoijdpdjiabGreatDoorPart35
import Derived.Test.YtgaoeoijdpdjiabGreatDoorPart9
import Derived.Test.YtgaoeoijdpdjiabGreatDoorPart33
namespace Go.Proofs.YtgaoeoijdpdjiabGreatDoor
open Go.RowKit

section
variable {lo SD D G S : Nat} {tm k : Int} {b x e f t l : Nat} {sec rnd pub : ByteArray} {bat : Nat} {Wd : World} {kk : Nat} {V : World}
/-- A signature, when nothing fails. -/
theorem sign_in (R : RSet k b x e f t l) (s1 : sec.size = b) (s2 : rnd.size = b) (s3 : pub.size = b) (hTW : Tn Wd) (hTB : 1 < lo) (hlo : lo ≤ V.heap.size) (hb1 : 1 ≤ bat) (hb2 : bat ≤ 64) (msg : ByteArray) (hm : msg.size ≤ 200) (hkk : kk < 2 ^ (t * l)) {st : DSt} {F : Nat → Prop} {q bd : Nat} (hI : IOS lo SD D G S st (ioC D tm k b x e f t l sec rnd pub bat kk q bd) F V) (hB : Below lo Wd V) (hc : Calm st tm q) (hq1 : 1 ≤ q) (hq : q ≤ bd + 1) (hkb : kk ≤ bd) (hbt : bd ≤ 2 ^ (t * l)) :
    Calls Tryz.prog 52 #[.pointer (some ⟨G, 0, none⟩), .string msg] V fun e' w' => e' = .returned (.tuple #[.string (sigS k b x e f t l sec rnd pub msg kk), .int .i64 0]) ∧ INV lo SD D G S tm k b x e f t l sec rnd pub bat Wd (kk + 1) w' ∧ Kept (fun i => i = S ∨ F i) V w' := by
  have hT4 := total_most R
  have hT : Tn V := hTW.below hB hTB
  have hSI : ∀ V : World, Tn V → Calls Tryz.prog 171 #[.agg #[.int .i64 k, .int .i64 b, .int .i64 x, .int .i64 t, .int .i64 l, .string (rootK k b x t (b * e + f) l sec pub), .string pub], .agg #[.string sec, .string rnd, .string pub], .int .i64 kk, .string msg] V fun e' w' => e' = .returned (.string (sigS k b x e f t l sec rnd pub msg kk)) ∧ Below V.heap.size V w' := fun V hV => signY k b x e f t l R sec rnd pub msg kk s1 s2 s3 hm hkk V hV
  have hv : IntKind.i64.wrap ((kk : Int) + 1) = (kk : Int) + 1 := by rw [IntKind.wrap_i64] <;> omega
  have hsp : (kk : Int) ≠ ((2 ^ (t * l) : Nat) : Int) := by omega
  have hck : ∀ q' bd' : Nat, sgC D tm k b x t l (rootK k b x t (b * e + f) l sec pub) pub sec rnd ((2 ^ (t * l) : Nat) : Int) bat ((kk : Int) + 1) q' bd' (idS k b x t l (rootK k b x t (b * e + f) l sec pub) pub) false = ioC D tm k b x e f t l sec rnd pub bat (kk + 1) q' bd' := fun q' bd' => by unfold ioC; rw [Int.natCast_add]; rfl
  by_cases hkd : kk = bd
  · obtain ⟨st2, nb, hc2, hnb, hRS⟩ := resv_in (rnd := rnd) (bat := (bat : Int)) (kk := kk) (lo := lo) (S := S) (D := D) R s1 s3 hc hq1 hq (by omega) bat hb1 hb2
    refine (sgSign_on G S msg _ 0 _ V hI.g (ssign_res lo S D st F tm k b x t l _ pub sec rnd _ bat kk q bd _ msg _ nb st2 V hI.s hI.k hI.ns hc.te hsp (by omega) (by omega) hv hT hTB hI.ls hlo hm hSI (fun V2 hb2 => by
      have hI2 := hI.below hb2
      refine (hRS V2 F hI2.s hI2.k hI2.ns (Nat.le_trans hlo hb2.size)).mono ?_
      rintro e' w' ⟨rfl, hl⟩
      exact ⟨rfl, hl⟩))).mono ?_
    rintro e' w' ⟨rfl, hl⟩
    have hl' : SGL lo S D st2 (ioC D tm k b x e f t l sec rnd pub bat (kk + 1) (q + 1) nb) F V w' := by
      have := hck (q + 1) nb
      rw [Int.natCast_add] at this
      rw [← this]
      exact hl
    exact ⟨rfl, inv_iol hI hB hlo (hI.sgl hl') hc2 (by omega) (by omega) (by omega) (by omega), by obtain ⟨_, _, _, hk, _⟩ := hl'; exact hk⟩
  · refine (sgSign_on G S msg _ 0 _ V hI.g (ssign_more lo S D st F tm k b x t l _ pub sec rnd _ bat kk q bd _ msg _ V hI.s hI.k hI.ns hc.te hsp (by omega) hv hT hTB hI.ls hlo hm hSI)).mono ?_
    rintro e' w' ⟨rfl, hl⟩
    rw [hck] at hl
    exact ⟨rfl, inv_iol hI hB hlo (hI.sgl hl) hc (by omega) (by omega) (by omega) (by omega), by obtain ⟨_, _, _, hk, _⟩ := hl; exact hk⟩
end

set_option maxRecDepth 20000 in
set_option maxHeartbeats 4000000 in
theorem first_true {k : Int} {b x e f t l : Nat} (R : RSet k b x e f t l) (sec rnd pub msg : ByteArray) (s1 : sec.size = b) (s2 : rnd.size = b) (s3 : pub.size = b) (hm : msg.size ≤ 200) (w : World) (hT : Tn w) :
    Calls Tryz.prog 16 #[.agg #[.int .i64 k, .int .i64 b, .int .i64 x, .int .i64 t, .int .i64 l], .agg #[.string sec, .string rnd, .string pub], .string msg] w fun e' w' => e' = .returned (.bool true) ∧ Below w.heap.size w w' := by
  obtain ⟨W0, hW⟩ : ∃ W0, (w.alloc (.cells #[.int .i64 k, .int .i64 b, .int .i64 x, .int .i64 t, .int .i64 l] 26)).alloc (.cells #[.string sec, .string rnd, .string pub] 42) = W0 := ⟨_, rfl⟩
  have HB := hide (show Below w.heap.size w W0 by subst hW; exact ((Below.refl _ _).alloc (Nat.le_refl _) _).alloc (by simp) _)
  have HC := hide (show Blk W0 w.heap.size [.int .i64 k, .int .i64 b, .int .i64 x, .int .i64 t, .int .i64 l] 26 by rw [← hW]; exact (Blk.new w _ _).alloc _)
  have HE := hide (show Blk W0 (w.heap.size + 1) [.string sec, .string rnd, .string pub] 42 by
    rw [← hW]
    have h := Blk.new (w.alloc (.cells #[.int .i64 k, .int .i64 b, .int .i64 x, .int .i64 t, .int .i64 l] 26)) [.string sec, .string rnd, .string pub] 42
    simp only [World.size_alloc] at h
    exact h)
  have HT0 := hide (hT.on HB.out)
  have HTP := hide hT.pos
  have HKN := hide (knows_any W0 HT0.out)
  have HR := hide R
  have HZ := hide (And.intro s1 (And.intro s2 (And.intro s3 hm)))
  have HWE := hide hW
  clear hW hT R s1 s2 s3 hm
  go_enter Tryz.func16, Tryz.ntmps16
  go_wp2_with fail
  rw [HWE.out]
  refine HKN.out.mono ?_
  rintro e1 w1 ⟨rfl, hb1⟩
  have HB1 := hide hb1
  obtain ⟨lo, hlo⟩ : ∃ lo, w1.heap.size = lo := ⟨_, rfl⟩
  have HND := hide (snew_yes 2 w1 w1.heap.size (by decide) (by decide) (Nat.le_refl _))
  rw [hlo] at HND
  simp only [Int.cast_ofNat_Int] at HND
  have HLO := hide hlo
  clear hb1 hlo
  go_wp2_with fail
  refine HND.out.mono ?_
  rintro e1 w3 ⟨SD, F0, rfl, hs3, hf3, hb3⟩
  obtain ⟨D, E, pv, hbS, hd, n1, n2, n3, hloS, rfl⟩ := hs3
  have hC1 := HC.out.on HB1.out
  have hE1 := HE.out.on HB1.out
  have hz1 : w.heap.size < lo := by rw [← HLO.out]; exact hC1.lt
  have hz2 : w.heap.size + 1 < lo := by rw [← HLO.out]; exact hE1.lt
  have hB3 : Below lo w1 w3 := hb3
  have hC3 := hC1.below hB3 hz1
  have hE3 := hE1.below hB3 hz2
  have hz3 : lo ≤ w3.heap.size := by have := hB3.size; rw [HLO.out] at this; exact this
  have HMK := hide (made_in HR.out HZ.out.1 HZ.out.2.1 HZ.out.2.2.1 lo SD D 1 (DFoot D E pv) w1 w3 (HT0.out.on HB1.out) (Nat.lt_trans HTP.out hz1) hz3 hB3 (by decide) (by decide) hbS ⟨E, pv, hd, rfl⟩ (by rintro (e | e | e) <;> first | exact n1 e | exact n2 e | exact n3 e) hloS)
  simp only [Int.cast_ofNat_Int] at HMK
  have c0 : w3.cell? ⟨w.heap.size, 0, none⟩ = some (.int .i64 k) := hC3.cell 0
  have c1 : w3.cell? ⟨w.heap.size, 1, none⟩ = some (.int .i64 b) := hC3.cell 1
  have c2 : w3.cell? ⟨w.heap.size, 2, none⟩ = some (.int .i64 x) := hC3.cell 2
  have c3 : w3.cell? ⟨w.heap.size, 3, none⟩ = some (.int .i64 t) := hC3.cell 3
  have c4 : w3.cell? ⟨w.heap.size, 4, none⟩ = some (.int .i64 l) := hC3.cell 4
  have d0 : w3.cell? ⟨w.heap.size + 1, 0, none⟩ = some (.string sec) := hE3.cell 0
  have d1 : w3.cell? ⟨w.heap.size + 1, 1, none⟩ = some (.string rnd) := hE3.cell 1
  have d2 : w3.cell? ⟨w.heap.size + 1, 2, none⟩ = some (.string pub) := hE3.cell 2
  have HZ3 := hide (And.intro hz1 hz3)
  clear hbS hd n1 n2 n3 hloS hf3 hb3 hC1 hE1 hz1 hz2 hB3 hC3 hE3 hz3
  go_wp2_with fail
  refine HMK.out.mono ?_
  rintro e1 w5 ⟨G, S, rfl, hinv, hsz⟩
  clear c0 c1 c2 c3 c4 d0 d1 d2
  obtain ⟨st, F, q, bd, hI, hB, hc, hq1, hq, hkb, hbt⟩ := hinv
  have HK5 := hide (keyIn HR.out HZ.out.1 HZ.out.2.2.1 hI)
  have hz5 : lo ≤ w5.heap.size := Nat.le_trans HZ3.out.2 hsz
  have HSG := hide (fun (V : World) (hb : Below w5.heap.size w5 V) => sign_in (V := V) (Wd := w1) HR.out HZ.out.1 HZ.out.2.1 HZ.out.2.2.1 (HT0.out.on HB1.out) (Nat.lt_trans HTP.out HZ3.out.1) (Nat.le_trans hz5 hb.size) (by decide) (by decide) msg HZ.out.2.2.2 (Nat.two_pow_pos _) (hI.below hb) (hB.trans (hb.mono hz5)) hc hq1 hq hkb hbt)
  obtain ⟨hz4, hval⟩ := sig_head k b x e f t l sec rnd pub msg 0 (by decide)
  have HVL := hide (fun V : World => kvalue_on (sigS k b x e f t l sec rnd pub msg 0) V hz4)
  rw [hval] at HVL
  have HVE := hide (fun (V : World) (hV : Tn V) => verY k b x e f t l HR.out sec rnd pub msg 0 HZ.out.1 HZ.out.2.1 HZ.out.2.2.1 HZ.out.2.2.2 (Nat.two_pow_pos _) V hV)
  have hz4' : (4 : Int) ≤ ((sigS k b x e f t l sec rnd pub msg 0).size : Int) := by omega
  generalize sigS k b x e f t l sec rnd pub msg 0 = z at HSG HVL HVE hz4'
  generalize headS k b x t l ++ rootK k b x t (b * e + f) l sec pub ++ pub = ky at HK5 HVE
  clear hI hB hc hq1 hq hkb hbt hsz hz5 hz4 hval
  go_wp2_with fail
  refine HK5.out.mono ?_
  rintro e1 w6 ⟨rfl, hb6⟩
  have HS6 := hide (HSG.out _ hb6)
  clear hb6
  go_wp2_with fail
  refine HS6.out.mono ?_
  rintro e1 w7 ⟨rfl, hinv7, hk7⟩
  have HI7 := hide hinv7
  clear hinv7 hk7
  go_wp2_with fail
  refine (HVL.out _).mono ?_
  rintro e1 w8 ⟨rfl, hb8⟩
  obtain ⟨_, _, _, _, _, hB7, _⟩ := HI7.out
  have hB1w : Below w.heap.size w w7 := (HB.out.trans (HB1.out.mono HB.out.size)).trans (hB7.mono (Nat.le_of_lt HZ3.out.1))
  have HBW := hide (hB1w.trans (hb8.mono hB1w.size))
  have HT8 := hide (((HT0.out.on HB1.out).below hB7 (Nat.lt_trans HTP.out HZ3.out.1)).on hb8)
  clear hb8 hB7 hB1w
  go_wp2_with fail
  refine (HVE.out _ HT8.out).mono ?_
  rintro e1 w9 ⟨rfl, hb9⟩
  have HB9 := hide (HBW.out.trans (hb9.mono HBW.out.size))
  clear hb9
  go_wp2
  go_ret
  exact ⟨rfl, HB9.out⟩
end Go.Proofs.YtgaoeoijdpdjiabGreatDoor

namespace Go.Proofs.YtgaoeoijdpdjiabGreatDoor
open Go.RowKit

/-- The first j sectors, as writes. -/
def copyP (dur : List ByteArray) (j : Nat) : List (Nat × ByteArray) := (List.range j).map fun i => (i, dur.getD i ⟨#[]⟩)
theorem copyP_length (dur : List ByteArray) (j : Nat) : (copyP dur j).length = j := by simp [copyP]
theorem copyP_succ (dur : List ByteArray) (j : Nat) : copyP dur (j + 1) = copyP dur j ++ [(j, dur.getD j ⟨#[]⟩)] := by simp [copyP, List.range_succ]
theorem copy_fold (dur init : List ByteArray) (h : init.length = dur.length) : ∀ j, j ≤ dur.length → (copyP dur j).foldl (fun d p => d.set p.1 p.2) init = dur.take j ++ init.drop j
  | 0, _ => by simp [copyP]
  | j + 1, hj => by
    rw [copyP_succ, List.foldl_append, copy_fold dur init h j (by omega)]
    simp only [List.foldl_cons, List.foldl_nil]
    have hl : (dur.take j).length = j := by rw [List.length_take]; omega
    rw [List.set_append_right (h := by omega), hl, Nat.sub_self, List.drop_eq_getElem_cons (by omega), List.set_cons_zero, List.take_succ_eq_append_getElem (by omega), List.getD_eq_getElem?_getD, List.getElem?_eq_getElem (by omega), List.append_assoc]
    rfl
/-- All of them: the new disk holds what the old one did. -/
theorem copy_all (dur init : List ByteArray) (h : init.length = dur.length) (s : DSt) (hd : s.dur = init) (hp : s.pend = copyP dur dur.length) : laidJ s s.pend.length = dur := by
  rw [laidJ, List.take_length, hp, hd, copy_fold dur init h dur.length (Nat.le_refl _), List.take_length, List.drop_of_length_le (by omega), List.append_nil]
end Go.Proofs.YtgaoeoijdpdjiabGreatDoor

namespace Go.Proofs.YtgaoeoijdpdjiabGreatDoor
open Go.RowKit

/-- What may stand in a sector behind a crash. -/
def Cand (st : DSt) (s : Nat) (x : ByteArray) : Prop := st.dur[s]? = some x ∨ (s, x) ∈ st.pend
/-- The text x is the record number q of the key id. -/
def Jr (tot : Nat) (id : ByteArray) (s : Nat) (x : ByteArray) (q b : Nat) : Prop := x = sealS q b id ∧ q % 2 = s ∧ 1 ≤ q ∧ q ≤ b + 1 ∧ b ≤ tot
/-- The journal: each record is of one key; the record sq, with the bound sb, is durable. -/
structure JI (tot : Nat) (st : DSt) (id : ByteArray) (sq sb : Nat) : Prop where
  n2 : 2 ≤ st.n
  len : st.dur.length = st.n
  id8 : id.size = 8
  tot4 : tot ≤ 4096
  recs : ∀ s, s < 2 → ∀ x, Cand st s x → isRec x = true → ∃ q b, Jr tot id s x q b
  base : sq = 0 ∧ sb = 0 ∨ 1 ≤ sq ∧ (∃ x, st.dur[sq % 2]? = some x ∧ Jr tot id (sq % 2) x sq sb) ∧ (∀ x, (sq % 2, x) ∉ st.pend) ∧ ∀ x q b, Cand st ((sq + 1) % 2) x → Jr tot id ((sq + 1) % 2) x q b → q = sq + 1 ∧ sb ≤ b ∨ q < sq

theorem jr_recR {tot : Nat} {id : ByteArray} {s : Nat} {x : ByteArray} {q b : Nat} (h : Jr tot id s x q b) (h8 : id.size = 8) (h4 : tot ≤ 4096) : RecR q b id := by
  obtain ⟨_, _, h1, h2, h3⟩ := h
  exact ⟨by omega, by omega, by omega, by omega, h8⟩
theorem jr_rec {tot : Nat} {id : ByteArray} {s : Nat} {x : ByteArray} {q b : Nat} (h : Jr tot id s x q b) (h8 : id.size = 8) (h4 : tot ≤ 4096) : isRec x = true ∧ recOf x = ⟨q, b, id⟩ := by
  have hR := jr_recR h h8 h4
  obtain ⟨rfl, _⟩ := h
  obtain ⟨a, c, d⟩ := seq_seal _ _ _ hR
  refine ⟨?_, by rw [recOf, a, c, d]⟩
  rw [isRec, decide_eq_true_iff, a, c, d]
  exact ⟨sealS_size _ _ _ h8, hR, rfl⟩

section
variable {tot : Nat} {st s2 : DSt} {id : ByteArray} {sq sb : Nat}
theorem JI.same (h : JI tot st id sq sb) (hn : s2.n = st.n) (hd : s2.dur = st.dur) (hp : s2.pend = st.pend) : JI tot s2 id sq sb := by
  have hC : ∀ s x, Cand s2 s x → Cand st s x := fun s x hc => by unfold Cand at hc ⊢; rw [hd, hp] at hc; exact hc
  refine ⟨by rw [hn]; exact h.n2, by rw [hd, hn]; exact h.len, h.id8, h.tot4, fun s hs x hc hr => h.recs s hs x (hC s x hc) hr, ?_⟩
  rcases h.base with hb | ⟨h1, h2, h3, h4⟩
  · exact .inl hb
  · exact .inr ⟨h1, by rw [hd]; exact h2, by rw [hp]; exact h3, fun x q b hc hj => h4 x q b (hC _ x hc) hj⟩
/-- The sectors settle: each holds one of what might be. -/
theorem JI.settle (h : JI tot st id sq sb) (hn : s2.n = st.n) (hl : s2.dur.length = st.dur.length) (hp : s2.pend = []) (hd : ∀ s x, s2.dur[s]? = some x → Cand st s x ∧ ((∀ y, (s, y) ∉ st.pend) → st.dur[s]? = some x)) : JI tot s2 id sq sb := by
  have hC : ∀ s x, Cand s2 s x → Cand st s x := fun s x hc => by
    rcases hc with hc | hc
    · exact (hd s x hc).1
    · rw [hp] at hc; simp at hc
  refine ⟨by rw [hn]; exact h.n2, by rw [hl, hn]; exact h.len, h.id8, h.tot4, fun s hs x hc hr => h.recs s hs x (hC s x hc) hr, ?_⟩
  rcases h.base with hb | ⟨h1, ⟨x, h2, h2'⟩, h3, h4⟩
  · exact .inl hb
  · refine .inr ⟨h1, ⟨x, ?_, h2'⟩, by rw [hp]; simp, fun x q b hc hj => h4 x q b (hC _ x hc) hj⟩
    have hlt : sq % 2 < s2.dur.length := by rw [hl]; exact (List.getElem?_eq_some_iff.1 h2).1
    obtain ⟨y, hy⟩ : ∃ y, s2.dur[sq % 2]? = some y := ⟨_, List.getElem?_eq_getElem hlt⟩
    have := (hd _ y hy).2 h3
    rw [h2] at this
    rw [hy, ← this]
end

theorem fold_settle : ∀ (ps : List (Nat × ByteArray)) (d : List ByteArray) (s : Nat) (x : ByteArray), (ps.foldl (fun d p => d.set p.1 p.2) d)[s]? = some x → (d[s]? = some x ∧ (∀ y, (s, y) ∉ ps)) ∨ (s, x) ∈ ps
  | [], d, s, x, hx => .inl ⟨hx, by simp⟩
  | p :: r, d, s, x, hx => by
    rw [List.foldl_cons] at hx
    rcases fold_settle r _ s x hx with ⟨a, b⟩ | a
    · rw [List.getElem?_set] at a
      by_cases e : p.1 = s
      · rw [if_pos e] at a
        split at a
        · simp only [Option.some.injEq] at a
          right
          rw [← a, ← e]
          exact List.mem_cons_self
        · simp at a
      · rw [if_neg e] at a
        refine .inl ⟨a, fun y hy => ?_⟩
        rcases List.mem_cons.1 hy with hy | hy
        · exact e (by rw [← hy])
        · exact b y hy
    · exact .inr (List.mem_cons_of_mem _ a)

theorem fold_settleK (K : List Bool) : ∀ (ps : List ((Nat × ByteArray) × Nat)) (d : List ByteArray) (s : Nat) (x : ByteArray), (ps.foldl (fun d q => if K.getD q.2 false then d.set q.1.1 q.1.2 else d) d)[s]? = some x → d[s]? = some x ∨ ∃ i, ((s, x), i) ∈ ps
  | [], d, s, x, hx => .inl hx
  | p :: r, d, s, x, hx => by
    rw [List.foldl_cons] at hx
    rcases fold_settleK K r _ s x hx with a | ⟨i, a⟩
    · split at a
      · rw [List.getElem?_set] at a
        by_cases e : p.1.1 = s
        · rw [if_pos e] at a
          split at a
          · simp only [Option.some.injEq] at a
            right
            refine ⟨p.2, ?_⟩
            rw [← a, ← e]
            exact List.mem_cons_self
          · simp at a
        · rw [if_neg e] at a
          exact .inl a
      · exact .inl a
    · exact .inr ⟨i, List.mem_cons_of_mem _ a⟩

theorem laid_len (st : DSt) (j : Nat) : (laidJ st j).length = st.dur.length := by
  unfold laidJ
  generalize st.pend.take j = ps
  generalize st.dur = d
  induction ps generalizing d with
  | nil => rfl
  | cons p r ih => rw [List.foldl_cons, ih, List.length_set]

section
variable {tot : Nat} {st s2 : DSt} {id : ByteArray} {sq sb : Nat}
theorem laid_cand {s : Nat} {x : ByteArray} (hx : (laidJ st st.pend.length)[s]? = some x) : Cand st s x ∧ ((∀ y, (s, y) ∉ st.pend) → st.dur[s]? = some x) := by
  rw [laidJ, List.take_length] at hx
  rcases fold_settle st.pend st.dur s x hx with ⟨a, _⟩ | a
  · exact ⟨.inl a, fun _ => a⟩
  · exact ⟨.inr a, fun hn => absurd a (hn x)⟩
theorem kept_cand {K : List Bool} {s : Nat} {x : ByteArray} (hx : (keptJ st K st.pend.length)[s]? = some x) : Cand st s x ∧ ((∀ y, (s, y) ∉ st.pend) → st.dur[s]? = some x) := by
  rw [keptJ, List.take_length] at hx
  rcases fold_settleK K st.pend.zipIdx st.dur s x hx with a | ⟨i, hi⟩
  · exact ⟨.inl a, fun _ => a⟩
  · have a : (s, x) ∈ st.pend := by
      have := List.mem_zipIdx hi
      obtain ⟨_, h2, h3⟩ := this
      rw [h3]
      exact List.getElem_mem _
    exact ⟨.inr a, fun hn => absurd a (hn x)⟩
theorem JI.sync (h : JI tot st id sq sb) : JI tot (sySt st) id sq sb := by
  unfold sySt
  split
  · exact h.same rfl rfl rfl
  · exact h.settle rfl (laid_len st _) rfl (fun _ _ hx => laid_cand hx)
theorem JI.crash (h : JI tot st id sq sb) (K : List Bool) : JI tot (crSt st K) id sq sb :=
  h.settle rfl (keptJ_len st K _) rfl (fun _ _ hx => kept_cand hx)
theorem JI.read (h : JI tot st id sq sb) (i : Int) : JI tot (rdSt st i) id sq sb := by
  unfold rdSt
  split
  · exact h
  · exact h.same rfl rfl rfl
theorem JI.term (h : JI tot st id sq sb) (t : Int) : JI tot { st with term := t } id sq sb := h.same rfl rfl rfl
theorem JI.trouble (h : JI tot st id sq sb) (t : Int) : JI tot { st with trouble := t } id sq sb := h.same rfl rfl rfl
/-- A sector beyond the journal. -/
theorem JI.beyond (h : JI tot st id sq sb) (i : Int) (t : ByteArray) (hi : 2 ≤ i) : JI tot (wrSt st i t) id sq sb := by
  unfold wrSt
  split
  · exact h
  split
  · exact h
  split
  · exact h.same rfl rfl rfl
  · have hm : ∀ s x, s < 2 → (s, x) ∈ st.pend ++ [(i.toNat, t)] → (s, x) ∈ st.pend := by
      intro s x hs hx
      rw [List.mem_append, List.mem_singleton] at hx
      rcases hx with hx | hx
      · exact hx
      · have : s = i.toNat := congrArg Prod.fst hx
        omega
    have hC : ∀ s x, s < 2 → Cand { st with trouble := tick st.trouble, pend := st.pend ++ [(i.toNat, t)], writes := st.writes + 1 } s x → Cand st s x := by
      intro s x hs hc
      rcases hc with hc | hc
      · exact .inl hc
      · exact .inr (hm s x hs hc)
    refine ⟨h.n2, h.len, h.id8, h.tot4, fun s hs x hc hr => h.recs s hs x (hC s x hs hc) hr, ?_⟩
    rcases h.base with hb | ⟨h1, h2, h3, h4⟩
    · exact .inl hb
    · exact .inr ⟨h1, h2, fun x hx => h3 x (hm _ x (by omega) hx), fun x q b hc hj => h4 x q b (hC _ x (by omega) hc) hj⟩
theorem JI.begins (h : JI tot st id sq sb) (j : Nat) : JI tot (opS st j) id sq sb := by
  match j with
  | 0 => exact h
  | 1 => exact h.sync
  | 2 => exact h.sync.read 0
  | j + 3 => exact (h.sync.read 0).read 1
theorem JI.begun (h : JI tot st id sq sb) : JI tot (opSt st) id sq sb := by
  unfold opSt
  split
  · exact h.begins 1
  split
  · exact h.begins 2
  · exact h.begins 3
/-- A new disk. -/
theorem ji_new (n : Nat) (h : 2 ≤ n) (h8 : id.size = 8) (h4 : tot ≤ 4096) : JI tot (newD n) id 0 0 := by
  refine ⟨h, by simp [newD], h8, h4, fun s hs x hc hr => ?_, .inl ⟨rfl, rfl⟩⟩
  rcases hc with hc | hc
  · have : x = zeroS := by
      have := List.mem_of_getElem? hc
      exact List.eq_of_mem_replicate this
    rw [this, zero_norec] at hr
    exact absurd hr (by decide)
  · simp [newD] at hc
end
end Go.Proofs.YtgaoeoijdpdjiabGreatDoor
