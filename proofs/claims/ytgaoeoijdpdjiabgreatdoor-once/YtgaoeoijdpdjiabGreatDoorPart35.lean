/-
  A signer is made over a new disk of two sectors.
-/
import Derived.Test.YtgaoeoijdpdjiabGreatDoorPart34
namespace Go.Proofs.YtgaoeoijdpdjiabGreatDoor
open Go.RowKit

theorem zero_norec : isRec zeroS = false := by
  have h : seqOf zeroS = 0 := by decide
  unfold isRec
  rw [decide_eq_false]
  rintro ⟨_, ⟨h1, _⟩, _⟩
  rw [h] at h1
  exact absurd h1 (by decide)

theorem sy_calm (st : DSt) (ht : st.trouble = 0) (hp : st.pend = []) : sySt st = { st with syncs := st.syncs + 1 } := by
  obtain ⟨n, dur, pend, wr, sy, tr, te⟩ := st
  simp only at ht hp
  subst ht hp
  rfl
theorem rd_calm (st : DSt) (i : Nat) (hi : i < st.n) (ht : st.trouble = 0) : rdSt st i = st := by
  have h : 0 ≤ (i : Int) ∧ (i : Int) < st.n := ⟨by omega, by omega⟩
  rw [rdSt, if_neg (fun hn => hn h)]
  obtain ⟨n, dur, pend, wr, sy, tr, te⟩ := st
  simp only at ht
  subst ht
  rfl
theorem rda_calm (st : DSt) (i : Nat) (hi : i < st.n) (ht : st.trouble = 0) (hp : st.pend = []) : rdAns st i = (st.dur.getD i ⟨#[]⟩, 0) := by
  have h : 0 ≤ (i : Int) ∧ (i : Int) < st.n := ⟨by omega, by omega⟩
  rw [rdAns, if_neg (fun hn => hn h), if_neg (by rw [ht]; decide), latestB, hp]
  rfl

set_option maxRecDepth 20000 in
theorem made_in {k : Int} {b x e f t l : Nat} (R : RSet k b x e f t l) {sec rnd pub : ByteArray} (s1 : sec.size = b) (s2 : rnd.size = b) (s3 : pub.size = b) (lo SD D bat : Nat) (F : Nat → Prop) (Wd V0 : World) (hTW : Tn Wd) (hTB : 1 < lo) (hlo : lo ≤ V0.heap.size) (hWV : Below lo Wd V0) (hb1 : 1 ≤ bat) (hb2 : bat ≤ 64) (hSD : Blk V0 SD [.pointer (some ⟨D, 0, none⟩)] 135) (hD : DSk lo D (newD 2) V0 F) (hnF : ¬ F SD) (hls : lo ≤ SD) :
    Calls Tryz.prog 23 #[.pointer (some ⟨SD, 0, none⟩), .agg #[.int .i64 k, .int .i64 b, .int .i64 x, .int .i64 t, .int .i64 l], .agg #[.string sec, .string rnd, .string pub], .int .i64 bat] V0 fun e' w' => ∃ G S, e' = .returned (.tuple #[.pointer (some ⟨G, 0, none⟩), .int .i64 0]) ∧ INV lo SD D G S 1 k b x e f t l sec rnd pub bat Wd 0 w' ∧ V0.heap.size ≤ w'.heap.size := by
  obtain ⟨g1, g2, g3, g4, g5, g6⟩ := pair_small R.pr
  have hrk := rootK_size k b x t (b * e + f) l sec pub R.kk g1 g2 (by omega) (by omega) g3
  obtain ⟨root, hroot⟩ : ∃ root, rootK k b x t (b * e + f) l sec pub = root := ⟨_, rfl⟩
  rw [hroot] at hrk
  obtain ⟨id, hidE⟩ : ∃ id, idS k b x t l root pub = id := ⟨_, rfl⟩
  have hid : id.size = 8 := by rw [← hidE]; exact idS_size k b x t l root pub R.kk (by omega) (by omega)
  have hsz := sealS_size 1 0 id hid
  have hT0 : Tn V0 := hTW.below hWV hTB
  have eA : sySt ({ newD 2 with term := (newD 2).term + 1 } : DSt) = { newD 2 with term := 1, syncs := 1 } := by rw [sy_calm _ rfl rfl]; rfl
  obtain ⟨A, hA⟩ : ∃ A : DSt, A = { newD 2 with term := 1, syncs := 1 } := ⟨_, rfl⟩
  rw [← hA] at eA
  have cA : Calm A 1 0 := by subst hA; exact ⟨rfl, rfl, rfl, rfl, rfl, rfl⟩
  have r0 : rdSt A 0 = A := rd_calm A 0 (by rw [cA.n]; decide) cA.tr
  have r1 : rdSt A 1 = A := rd_calm A 1 (by rw [cA.n]; decide) cA.tr
  have d0 : rdAns A 0 = (zeroS, 0) := by
    have h := rda_calm A 0 (by rw [cA.n]; decide) cA.tr cA.pe
    subst hA
    exact h
  have d1 : rdAns A 1 = (zeroS, 0) := by
    have h := rda_calm A 1 (by rw [cA.n]; decide) cA.tr cA.pe
    subst hA
    exact h
  obtain ⟨a1, a2, a3, a4⟩ := calm_next cA 1 (by decide) _ hsz
  have m4 : mkS { newD 2 with term := (newD 2).term + 1 } id 4 = A := by show rdSt (rdSt (sySt _) 0) 1 = A; rw [eA, r0, r1]
  have m5 : mkS { newD 2 with term := (newD 2).term + 1 } id 5 = wrSt A 1 (sealS 1 0 id) := by show wrSt (rdSt (rdSt (sySt _) 0) 1) 1 _ = _; rw [eA, r0, r1]
  have m6 : mkS { newD 2 with term := (newD 2).term + 1 } id 6 = sySt (wrSt A 1 (sealS 1 0 id)) := by show sySt (wrSt (rdSt (rdSt (sySt _) 0) 1) 1 _) = _; rw [eA, r0, r1]
  have hAw : A.writes = 0 := cA.wr
  have hAs : A.syncs = 0 + 1 := cA.sy
  refine (smake_on SD D F (fun S V w' => ∃ F', Blk w' S (sgC D 1 k b x t l root pub sec rnd ((2 ^ (t * l) : Nat) : Int) bat 0 1 0 id false) 188 ∧ DSk lo D (sySt (wrSt A 1 (sealS 1 0 id))) w' F' ∧ ¬ F' S ∧ V.heap.size ≤ S ∧ ∀ k, F' k → F k ∨ V.heap.size ≤ k) k b x t l bat sec rnd pub V0 hSD (fun i hi => (hD.lt i hi).2) ?_).mono ?_
  · intro V hb
    refine (make_yes lo D (newD 2) F k b x t l root pub sec rnd id zeroS zeroS ((2 ^ (t * l) : Nat) : Int) bat _ _ _ _ _ V (hD.below hb) (by decide) (hT0.on hb) hTB (Nat.le_trans hlo hb.size) (by omega) (by omega) (by decide) (by decide) hid (fun V => measure_nat k b x e f t l R V) (fun V hV => by rw [← hroot]; exact ofY k b x e f t l R sec rnd pub s1 s2 s3 V hV) (fun V hV => by rw [← hidE]; exact keyId_any k b x t l root pub V R.kk (by omega) (by omega) hV) _ rfl (by decide) (by decide) (by decide) (by decide) rfl (by rw [eA]; exact d0) zero_norec (by rw [eA, r0]; exact d1) zero_norec (by rw [m4]; exact a1) (by rw [m5]; exact a3) (by rw [m4]; exact hAw) (by rw [m5, a2]; exact hAs) (by rw [m6]; exact a4.te)).mono ?_
    rintro e' w' ⟨S, F', rfl, q1, q2, q3, q4, q5, q6⟩
    rw [m6] at q2
    exact ⟨S, rfl, q5, F', q1, q2, q3, q4, q6⟩
  · rintro e' w' ⟨S, V, V2, rfl, hb, hk, ⟨F', q1, q2, q3, q4, q6⟩, hG, hb2⟩
    have z1 := hb.size
    have z2 := hk.size
    have hSD1 := (hk.blk (hSD.on hb) hnF).on hb2
    have hsl := hSD.lt
    refine ⟨V2.heap.size, S, rfl, ⟨_, F', 1, 0, ⟨hSD1, hG, ?_, q2.below hb2, ?_, ?_, q3, by omega, ?_, hls, by omega⟩, ?_, a4, by omega, by omega, by omega, Nat.zero_le _⟩, ?_⟩
    · have := q1.on hb2
      unfold ioC
      rw [hroot, hidE]
      exact this
    · intro h
      rcases q6 _ h with h | h
      · exact hnF h
      · omega
    · intro h
      have := (q2.lt _ h).2
      omega
    · have := q1.lt
      omega
    · refine hWV.trans ?_
      have hk' : Kept F V0 w' := ((Kept.of_below (F := F) hb).trans hk (fun i hi => .inl hi)).after hb2
      exact hk'.below (fun i hi => (hD.lt i hi).1) hlo
    · exact Nat.le_trans z1 (Nat.le_trans z2 hb2.size)
end Go.Proofs.YtgaoeoijdpdjiabGreatDoor
