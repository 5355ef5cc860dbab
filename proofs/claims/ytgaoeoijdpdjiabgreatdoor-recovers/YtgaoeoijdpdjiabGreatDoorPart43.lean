/-
  A crash of the disk. The steps by which a signer begins, over any disk. The steps by which a signer begins, over any disk: those that refuse, the last record, the first one. The steps of Open, over any disk: what they answer, what they leave. The steps of Make, over any disk: what they answer, what they leave. Make and Open of package signet, whatever package signers answers.
-/
import Derived.Test.YtgaoeoijdpdjiabGreatDoorPart39
import Derived.Test.YtgaoeoijdpdjiabGreatDoorPart42
import Derived.Test.YtgaoeoijdpdjiabGreatDoorPart36
import Derived.Test.YtgaoeoijdpdjiabGreatDoorPart28
import Derived.Test.YtgaoeoijdpdjiabGreatDoorPart6
namespace Go.Proofs.YtgaoeoijdpdjiabGreatDoor
open Go.RowKit
theorem dcrash_any (lo D : Nat) (st : DSt) (F : Nat → Prop) (kv : Value) (K : List Bool) (w : World) (h : DSk lo D st w F) (hK : BoolsAt w kv K) (hKL : K.length ≤ maxLen) (hKF : ∀ b o l c, kv = .slice (some ⟨b, o, none⟩) l c → 0 < l → b < w.heap.size ∧ ¬ F b) (hw : 0 ≤ st.term) (hw2 : st.term < 9223372036854775807) :
    Calls Tryz.prog 102 #[.pointer (some ⟨D, 0, none⟩), kv] w fun e w' => e = .returned (.tuple #[]) ∧ DL lo D (crSt st K) F w w' := by
  obtain ⟨E, pv, hd, rfl⟩ := h
  refine (crash_any lo D E pv st kv K w hd hK hKL hKF hw hw2).mono ?_
  rintro e w' ⟨rfl, a, b⟩
  exact ⟨rfl, dl_mk a b (fun k e => by simp [Value.ownBlock] at e)⟩
set_option maxRecDepth 20000 in
theorem skCrash_on (SD D : Nat) (a : Option Addr) (n c : Nat) (Q : World → Prop) (w : World) (hG : Blk w SD [.pointer (some ⟨D, 0, none⟩)] 135)
    (h : Calls Tryz.prog 102 #[.pointer (some ⟨D, 0, none⟩), .slice a n c] w fun e w' => e = .returned (.tuple #[]) ∧ Q w') :
    Calls Tryz.prog 60 #[.pointer (some ⟨SD, 0, none⟩), .slice a n c] w fun e w' => e = .returned (.tuple #[]) ∧ Q w' := by
  have H := hide h
  have c0 : w.cell? ⟨SD, 0, none⟩ = some (.pointer (some ⟨D, 0, none⟩)) := hG.cell 0
  clear h hG
  go_enter Tryz.func60, Tryz.ntmps60
  go_wp2_with fail
  refine H.out.mono ?_
  rintro e w1 ⟨rfl, hq⟩
  have HQ := hide hq
  clear hq
  go_wp2
  go_end0
  exact ⟨rfl, HQ.out⟩
end Go.Proofs.YtgaoeoijdpdjiabGreatDoor

namespace Go.Proofs.YtgaoeoijdpdjiabGreatDoor
open Go.RowKit
/-- Records as cells. -/
def foundC (L : List Rec) : List Value := L.flatMap fun r => [.int .i64 r.q, .int .i64 r.b, .string r.d]
def recOf (s : ByteArray) : Rec := ⟨seqOf s, boundOf s, idOf s⟩
theorem foundC_snoc (L : List Rec) (r : Rec) : foundC (L ++ [r]) = foundC L ++ [.int .i64 r.q, .int .i64 r.b, .string r.d] := by simp [foundC]
/-- What was found out so far lies in memory. -/
structure OPG (lo O SB D : Nat) (T : TypeId) (sv : List Value) (st : DSt) (id : ByteArray) (tot : Int) (L : List Rec) (lst : Rec) (F : Nat → Prop) (V V' : World) (F' : Nat → Prop) (fv : Value) : Prop where
  k : DSk lo D st V' F'
  row : V'.ownsRow lo 186 3 fv L.length (foundC L)
  o : Blk V' O (opC D id tot fv lst.q lst.b lst.d) 246
  s : Blk V' SB sv T
  kept : Kept (fun k => k = O ∨ F k) V V'
  foot : ∀ k, F' k → F k ∨ V.heap.size ≤ k
  no : ∀ k, fv.ownBlock = some k → ¬ F' k ∧ V.heap.size ≤ k
section
variable {lo O SB D : Nat} {T : TypeId} {sv : List Value} {st s2 : DSt} {id : ByteArray} {tot : Int} {L : List Rec} {lst : Rec} {F F' : Nat → Prop} {V V' V2 : World} {fv : Value}
theorem OPG.nO (h : OPG lo O SB D T sv st id tot L lst F V V' F' fv) (hO : O < V.heap.size) (nO : ¬ F O) : ¬ F' O ∧ fv.ownBlock ≠ some O :=
  ⟨fun e => by rcases h.foot O e with e | e <;> first | exact nO e | omega, fun e => by have := (h.no O e).2; omega⟩
theorem OPG.below (h : OPG lo O SB D T sv st id tot L lst F V V' F' fv) (hb : Below V'.heap.size V' V2) : OPG lo O SB D T sv st id tot L lst F V V2 F' fv :=
  ⟨h.k.below hb, owns_kept h.row (Kept.of_below (F := fun _ => False) hb) (fun _ _ e => e), h.o.on hb, h.s.on hb, h.kept.after hb, h.foot, h.no⟩
theorem OPG.dl (h : OPG lo O SB D T sv st id tot L lst F V V' F' fv) (hO : O < V.heap.size) (nO : ¬ F O) (hS : SB < V.heap.size) (nS : ¬ F SB) (hl : DL lo D s2 F' V' V2) : ∃ F2, OPG lo O SB D T sv s2 id tot L lst F V V2 F2 fv := by
  have n1 := h.nO hO nO
  have n2 : ¬ F' SB := fun e => by rcases h.foot SB e with e | e <;> first | exact nS e | omega
  have b1 := hl.blk h.o n1.1
  have b2 := hl.blk h.s n2
  obtain ⟨F2, d2, k2, f2⟩ := hl
  refine ⟨F2, d2, owns_kept h.row k2 (fun k e => (h.no k e).1), b1, b2, h.kept.trans k2 (fun i hi => ?_), fun i hi => ?_, fun k e => ⟨fun hk => ?_, (h.no k e).2⟩⟩
  · rcases h.foot i hi with e | e
    · exact .inl (.inr e)
    · exact .inr e
  · rcases f2 i hi with e | e
    · exact h.foot i e
    · exact .inr (Nat.le_trans h.kept.size e)
  · rcases f2 k hk with e1 | e1
    · exact (h.no k e).1 e1
    · have := (h.row.lt k e).2
      omega
end
theorem g_sync {lo O SB D : Nat} {T : TypeId} {sv : List Value} {st : DSt} {id : ByteArray} {tot : Int} {L : List Rec} {lst : Rec} {F F' : Nat → Prop} {V V' : World} {fv : Value} (h : OPG lo O SB D T sv st id tot L lst F V V' F' fv) (hO : O < V.heap.size) (nO : ¬ F O) (hS : SB < V.heap.size) (nS : ¬ F SB) (y0 : 0 ≤ st.syncs) (y1 : st.syncs < 9223372036854775807) :
    Calls Tryz.prog 107 #[.pointer (some ⟨O, 0, none⟩)] V' fun e w' => ∃ c, e = .returned (.int .i64 c) ∧ c = syAns st ∧ ∃ F2, OPG lo O SB D T sv (sySt st) id tot L lst F V w' F2 fv :=
  osync_on (fun c w' => c = syAns st ∧ ∃ F2, OPG lo O SB D T sv (sySt st) id tot L lst F V w' F2 fv) O D V' (h.o.cell 0) ((dsync_any lo D st F' V' h.k y0 y1).mono (by
    rintro e w' ⟨rfl, hl⟩
    exact ⟨_, rfl, rfl, h.dl hO nO hS nS hl⟩))
/-- What a read finds. -/
def foundR (L : List Rec) (x : ByteArray) : List Rec := if isRec x then L ++ [recOf x] else L
theorem g_read_yes {lo O SB D : Nat} {T : TypeId} {sv : List Value} {st : DSt} {id : ByteArray} {tot : Int} {L : List Rec} {lst : Rec} {F F' : Nat → Prop} {V V' : World} {fv : Value} (h : OPG lo O SB D T sv st id tot L lst F V V' F' fv) (hO : O < V.heap.size) (nO : ¬ F O) (hS : SB < V.heap.size) (nS : ¬ F SB) (hOS : SB ≠ O) (hlo : lo ≤ V.heap.size) (hL : L.length ≤ 100) (i : Int) (x : ByteArray) (hx : rdAns st i = (x, 0)) :
    Calls Tryz.prog 182 #[.pointer (some ⟨O, 0, none⟩), .int .i64 i] V' fun e w' => e = .returned (.int .i64 0) ∧ ∃ F2 fv2, OPG lo O SB D T sv (rdSt st i) id tot (foundR L x) lst F V w' F2 fv2 := by
  have hRD : Calls Tryz.prog 103 #[.pointer (some ⟨D, 0, none⟩), .int .i64 i] V' fun e w' => e = .returned (.tuple #[.string x, .int .i64 0]) ∧ ∃ F2, OPG lo O SB D T sv (rdSt st i) id tot L lst F V w' F2 fv := by
    refine (dread_any lo D st F' i V' h.k).mono ?_
    rw [hx]
    rintro e w' ⟨rfl, hl⟩
    exact ⟨rfl, h.dl hO nO hS nS hl⟩
  unfold foundR
  by_cases hr : isRec x = true
  · rw [if_pos hr]
    obtain ⟨a, c, rfl⟩ := owns_len h.row
    refine (oread_yes _ lo O D L.length c a i tot lst.q lst.b x id lst.d (foundC L) V' (h.o.cell 0) hr hL (h.nO hO nO).2 (fun V2 h2 => ?_) hRD).mono ?_
    · obtain ⟨F2, h2⟩ := h2
      exact ⟨h2.o, h2.row, Nat.le_trans hlo h2.kept.size⟩
    · rintro e w' ⟨rfl, V2, g, cap, ⟨F2, h2⟩, hrow, hB, hk, hg⟩
      have n2 := h2.nO hO nO
      have hgV : V.heap.size ≤ g := by
        rcases hg with e | e
        · exact (h2.no g e).2
        · exact Nat.le_trans h2.kept.size e
      have nf : ∀ k, F2 k → ¬ (k = O ∨ (Value.slice a L.length c).ownBlock = some k) := by
        rintro k hk2 (rfl | e)
        · exact n2.1 hk2
        · exact (h2.no k e).1 hk2
      refine ⟨rfl, F2, _, h2.k.kept hk nf, ?_, hB, ?_, h2.kept.trans hk (fun k hk2 => ?_), h2.foot, fun k e => ?_⟩
      · rw [foundC_snoc, List.length_append]
        exact hrow
      · refine hk.blk h2.s ?_
        rintro (e | e)
        · exact hOS e
        · have := (h2.no _ e).2
          omega
      · rcases hk2 with rfl | e
        · exact .inl (.inl rfl)
        · exact .inr (h2.no k e).2
      · have e' : g = k := by simpa [Value.ownBlock] using e
        subst e'
        refine ⟨fun hk2 => ?_, hgV⟩
        rcases hg with e1 | e1
        · exact (h2.no g e1).1 hk2
        · have := (h2.k.lt g hk2).2
          omega
  · rw [if_neg hr]
    refine (oread_no _ O D i x V' (h.o.cell 0) (by simpa using hr) (fun V2 V3 h2 hb => ?_) hRD).mono ?_
    · obtain ⟨F2, h2⟩ := h2
      exact ⟨F2, h2.below hb⟩
    · rintro e w' ⟨rfl, F2, h2⟩
      exact ⟨rfl, F2, fv, h2⟩
end Go.Proofs.YtgaoeoijdpdjiabGreatDoor

namespace Go.Proofs.YtgaoeoijdpdjiabGreatDoor
open Go.RowKit
set_option maxRecDepth 20000 in
theorem oread_err (Q : World → Prop) (O D : Nat) (i c : Int) (s : ByteArray) (w : World) (h0 : w.cell? ⟨O, 0, none⟩ = some (.pointer (some ⟨D, 0, none⟩))) (hc : c ≠ 0)
    (hR : Calls Tryz.prog 103 #[.pointer (some ⟨D, 0, none⟩), .int .i64 i] w fun e w' => e = .returned (.tuple #[.string s, .int .i64 c]) ∧ Q w') :
    Calls Tryz.prog 182 #[.pointer (some ⟨O, 0, none⟩), .int .i64 i] w fun e w' => e = .returned (.int .i64 c) ∧ Q w' := by
  have HR := hide hR
  have e1 : (c == 0) = false := by simpa using hc
  have e2 : (c != 0) = true := by simpa using hc
  clear hR hc
  go_enter Tryz.func182, Tryz.ntmps182
  go_wp2_with fail
  refine HR.out.mono ?_
  rintro e w1 ⟨rfl, hq1⟩
  have HQ1 := hide hq1
  clear hq1
  go_wp2
  go_ret
  exact ⟨rfl, HQ1.out⟩
set_option maxRecDepth 20000 in
theorem orefuse_yes (O n : Nat) (a : Option Addr) (c : Nat) (w : World) (hn : 0 < n) (h3 : w.cell? ⟨O, 3, none⟩ = some (.slice a n c)) :
    Calls Tryz.prog 110 #[.pointer (some ⟨O, 0, none⟩)] w fun e w' => e = .returned (.int .i64 7) ∧ w' = w := by
  have hn2 : (0 : Int) < (n : Int) := by omega
  go_enter Tryz.func110, Tryz.ntmps110
  go_wp2
  go_ret
  exact ⟨rfl, rfl⟩
section
variable {lo O SB D : Nat} {T : TypeId} {sv : List Value} {st : DSt} {id : ByteArray} {tot : Int} {L : List Rec} {lst : Rec} {F F' : Nat → Prop} {V V' : World} {fv : Value}
theorem g_read_no (h : OPG lo O SB D T sv st id tot L lst F V V' F' fv) (hO : O < V.heap.size) (nO : ¬ F O) (hS : SB < V.heap.size) (nS : ¬ F SB) (i c : Int) (x : ByteArray) (hx : rdAns st i = (x, c)) (hc : c ≠ 0) :
    Calls Tryz.prog 182 #[.pointer (some ⟨O, 0, none⟩), .int .i64 i] V' fun e w' => e = .returned (.int .i64 c) ∧ ∃ F2, OPG lo O SB D T sv (rdSt st i) id tot L lst F V w' F2 fv := by
  refine oread_err _ O D i c x V' (h.o.cell 0) hc ?_
  refine (dread_any lo D st F' i V' h.k).mono ?_
  rw [hx]
  rintro e w' ⟨rfl, hl⟩
  exact ⟨rfl, h.dl hO nO hS nS hl⟩
theorem g_refuse (h : OPG lo O SB D T sv st id tot L lst F V V' F' fv) :
    Calls Tryz.prog 110 #[.pointer (some ⟨O, 0, none⟩)] V' fun e w' => ∃ c, e = .returned (.int .i64 c) ∧ (c = 0 ∧ L = [] ∨ c = 7 ∧ L ≠ []) ∧ w' = V' := by
  obtain ⟨a, c, rfl⟩ := owns_len h.row
  cases L with
  | nil =>
    refine (orefuse_no O a c V' (h.o.cell 3)).mono ?_
    rintro e w' ⟨rfl, rfl⟩
    exact ⟨0, rfl, .inl ⟨rfl, rfl⟩, rfl⟩
  | cons r L =>
    refine (orefuse_yes O _ a c V' (by simp) (h.o.cell 3)).mono ?_
    rintro e w' ⟨rfl, rfl⟩
    exact ⟨7, rfl, .inr ⟨rfl, by simp⟩, rfl⟩
/-- The last record of the key. -/
theorem g_take (h : OPG lo O SB D T sv st id tot L ⟨0, 0, ⟨#[]⟩⟩ F V V' F' fv) (hO : O < V.heap.size) (nO : ¬ F O) (hOS : SB ≠ O) (hL : L.length ≤ 100) :
    Calls Tryz.prog 172 #[.pointer (some ⟨O, 0, none⟩)] V' fun e w' => ∃ c, e = .returned (.int .i64 c) ∧ (c = 8 ∧ (takeJ id tot ⟨0, 0, ⟨#[]⟩⟩ L L.length).q = 0 ∨ c = 0 ∧ (takeJ id tot ⟨0, 0, ⟨#[]⟩⟩ L L.length).q ≠ 0) ∧ OPG lo O SB D T sv st id tot L (takeJ id tot ⟨0, 0, ⟨#[]⟩⟩ L L.length) F V w' F' fv := by
  have n1 := h.nO hO nO
  rcases h.row.2 with ⟨hn, h0⟩ | ⟨g, cap, cur, hv, hb, hg, hc, _, hs, ht⟩
  · have hL0 : L = [] := List.eq_nil_of_length_eq_zero h0
    subst hL0
    obtain ⟨a, c, rfl⟩ := owns_len h.row
    refine (takeLast_none D O c id tot a V' h.o).mono ?_
    rintro e w' ⟨rfl, rfl⟩
    exact ⟨8, rfl, .inl ⟨rfl, by simp [takeJ]⟩, h⟩
  · subst hv
    have hgO : g ≠ O := fun e => n1.2 (by rw [← e]; rfl)
    have hcell : ∀ (j : Nat) (r : Rec), L[j]? = some r → ∀ (m : Nat) (u : Value), [Value.int .i64 r.q, .int .i64 r.b, .string r.d][m]? = some u → V'.cell? ⟨g, j * 3 + m, none⟩ = some u := by
      intro j r hr m u hu
      have hg' : V'.heap[g]? = some (.cells cur.toList.toArray 186 (0, 0)) := by simpa using hg
      exact flat_range (fun r : Rec => [Value.int .i64 r.q, .int .i64 r.b, .string r.d]) 3 L j r (fun _ _ => rfl) hr hg' ht m u hu
    refine (takeLast_any D O g id tot L.length cap L V' rfl hL h.o (Array.getElem?_eq_some_iff.1 hg).1 hgO (fun j r hr => ⟨hcell j r hr 0 _ rfl, hcell j r hr 1 _ rfl, hcell j r hr 2 _ rfl⟩)).mono ?_
    rintro e w' ⟨he, hB, hk⟩
    have fin : OPG lo O SB D T sv st id tot L (takeJ id tot ⟨0, 0, ⟨#[]⟩⟩ L L.length) F V w' F' (.slice (some ⟨g, 0, none⟩) L.length cap) :=
      ⟨h.k.kept hk (fun k hk2 e => n1.1 (by rw [← (show k = O from e)]; exact hk2)), owns_kept h.row hk (fun k e hk2 => n1.2 (by rw [e]; exact congrArg some hk2)), hB, hk.blk h.s hOS, h.kept.trans hk (fun i hi => .inl (.inl hi)), h.foot, h.no⟩
    rcases he with ⟨rfl, hq⟩ | ⟨rfl, hq⟩
    · exact ⟨8, rfl, .inl ⟨rfl, hq⟩, fin⟩
    · exact ⟨0, rfl, .inr ⟨rfl, hq⟩, fin⟩
/-- The first record. -/
theorem g_lay {lb0 lq0 : Int} {ld0 : ByteArray} (h : OPG lo O SB D T sv st id tot L ⟨lq0, lb0, ld0⟩ F V V' F' fv) (hO : O < V.heap.size) (nO : ¬ F O) (hS : SB < V.heap.size) (nS : ¬ F SB) (hOS : SB ≠ O) (hlo : lo ≤ V.heap.size) (hid : id.size = 8) (r0 : 0 ≤ st.writes) (r1 : st.writes < 9223372036854775807) :
    Calls Tryz.prog 111 #[.pointer (some ⟨O, 0, none⟩)] V' fun e w' => ∃ c, e = .returned (.int .i64 c) ∧ c = wrAns st 1 (sealS 1 0 id) ∧ ∃ F2, OPG lo O SB D T sv (wrSt st 1 (sealS 1 0 id)) id tot L ⟨1, 0, id⟩ F V w' F2 fv := by
  have n1 := h.nO hO nO
  have KW : Kept (fun k => k = O) V' (((V'.setCell ⟨O, 4, none⟩ (.int .i64 1)).setCell ⟨O, 5, none⟩ (.int .i64 0)).setCell ⟨O, 6, none⟩ (.string id)) := ((kept_set V' ⟨O, 4, none⟩ _).setCell (p := ⟨O, 5, none⟩) (.inl rfl) _).setCell (p := ⟨O, 6, none⟩) (.inl rfl) _
  have oW := ((h.o.set 4 (.int .i64 1)).set 5 (.int .i64 0)).set 6 (.string id)
  have hW : OPG lo O SB D T sv st id tot L ⟨1, 0, id⟩ F V (((V'.setCell ⟨O, 4, none⟩ (.int .i64 1)).setCell ⟨O, 5, none⟩ (.int .i64 0)).setCell ⟨O, 6, none⟩ (.string id)) F' fv :=
    ⟨h.k.kept KW (fun k hk2 e => n1.1 (by rw [← (show k = O from e)]; exact hk2)), owns_kept h.row KW (fun k e hk2 => n1.2 (by rw [e]; exact congrArg some hk2)), oW, KW.blk h.s hOS, h.kept.trans KW (fun i hi => .inl (.inl hi)), h.foot, h.no⟩
  refine layFirst_on (fun c w' => c = wrAns st 1 (sealS 1 0 id) ∧ ∃ F2, OPG lo O SB D T sv (wrSt st 1 (sealS 1 0 id)) id tot L ⟨1, 0, id⟩ F V w' F2 fv) O D id ld0 tot lq0 lb0 fv V' _ h.o rfl ?_ ?_
  · rintro c V2 ⟨_, F2, h2⟩
    exact h2.o
  · intro V2 hb
    have h2 := hW.below hb
    refine (jlay_any lo D st F' 1 0 1 id V2 h2.k (Nat.le_trans hlo h2.kept.size) r0 r1 ⟨by decide, by decide, by decide, by decide, hid⟩ (by decide) (by decide)).mono ?_
    rintro e w' ⟨rfl, hl⟩
    exact ⟨_, rfl, rfl, h2.dl hO nO hS nS hl⟩
end
end Go.Proofs.YtgaoeoijdpdjiabGreatDoor

namespace Go.Proofs.YtgaoeoijdpdjiabGreatDoor
open Go.RowKit
/-- The states of the disk, what the sectors read, what is found. -/
def opS (st : DSt) : Nat → DSt
  | 0 => st
  | 1 => sySt st
  | 2 => rdSt (sySt st) 0
  | _ => rdSt (rdSt (sySt st) 0) 1
def opR0 (st : DSt) : ByteArray × Int := rdAns (sySt st) 0
def opR1 (st : DSt) : ByteArray × Int := rdAns (rdSt (sySt st) 0) 1
def opL (st : DSt) : Nat → List Rec
  | 0 => []
  | 1 => []
  | 2 => foundR [] (opR0 st).1
  | _ => foundR (foundR [] (opR0 st).1) (opR1 st).1
def opT (st : DSt) (id : ByteArray) (tot : Int) : Rec := takeJ id tot ⟨0, 0, ⟨#[]⟩⟩ (opL st 3) (opL st 3).length
/-- What Open's steps answer, and what the disk is then. -/
def opAns (st : DSt) (id : ByteArray) (tot : Int) : Int := if syAns st ≠ 0 then syAns st else if (opR0 st).2 ≠ 0 then (opR0 st).2 else if (opR1 st).2 ≠ 0 then (opR1 st).2 else if (opT st id tot).q = 0 then 8 else 0
def opSt (st : DSt) : DSt := if syAns st ≠ 0 then opS st 1 else if (opR0 st).2 ≠ 0 then opS st 2 else opS st 3
theorem foundR_len (L : List Rec) (x : ByteArray) : (foundR L x).length ≤ L.length + 1 := by
  unfold foundR
  split <;> simp
theorem opL_len (st : DSt) : (opL st 3).length ≤ 2 := by
  have h0 := foundR_len [] (opR0 st).1
  have h1 := foundR_len (foundR [] (opR0 st).1) (opR1 st).1
  simp only [List.length_nil] at h0
  show (foundR (foundR [] (opR0 st).1) (opR1 st).1).length ≤ 2
  omega
def opF : List Nat := [107, 108, 109, 172]
def opV : List Value := opF.map fun f => .func (.func f) #[] #[]
/-- Behind so many steps that did not refuse. -/
def OPI (lo O SB D : Nat) (T : TypeId) (st : DSt) (id : ByteArray) (tot : Int) (F : Nat → Prop) (V : World) (j : Nat) (V' : World) : Prop :=
  (1 ≤ j → syAns st = 0) ∧ (2 ≤ j → (opR0 st).2 = 0) ∧ (3 ≤ j → (opR1 st).2 = 0) ∧ (4 ≤ j → (opT st id tot).q ≠ 0) ∧
  ∃ F' fv, OPG lo O SB D T opV (opS st j) id tot (opL st j) (if j ≤ 3 then ⟨0, 0, ⟨#[]⟩⟩ else opT st id tot) F V V' F' fv
theorem odone_any (lo O SB D : Nat) (T : TypeId) (st : DSt) (F : Nat → Prop) (id : ByteArray) (tot : Int) (V : World) (hD : DSk lo D st V F) (hOb : Blk V O (opC D id tot (.slice none 0 0) 0 0 ⟨#[]⟩) 246) (hSb : Blk V SB opV T) (nO : ¬ F O) (nS : ¬ F SB) (hlo : lo ≤ V.heap.size) (hOS : SB ≠ O) (y0 : 0 ≤ st.syncs) (y1 : st.syncs < 9223372036854775807) :
    Calls Tryz.prog 180 #[.pointer (some ⟨O, 0, none⟩), .slice (some ⟨SB, 0, none⟩) 4 4] V fun e w' => e = .returned (.int .i64 (opAns st id tot)) ∧
      ((opAns st id tot = 0 → ∃ fv, OPL lo O D (opSt st) (opC D id tot fv (opT st id tot).q (opT st id tot).b (opT st id tot).d) F V w') ∧ ∃ F2, DSk lo D (opSt st) w' F2 ∧ Kept (fun k => k = O ∨ F k) V w' ∧ ∀ k, F2 k → F k ∨ V.heap.size ≤ k) := by
  have hO := hOb.lt
  have hS := hSb.lt
  refine (done_on opF 4 O SB (OPI lo O SB D T st id tot F V) (fun c V' => c = opAns st id tot ∧ c ≠ 0 ∧ ∃ F2, DSk lo D (opSt st) V' F2 ∧ Kept (fun k => k = O ∨ F k) V V' ∧ ∀ k, F2 k → F k ∨ V.heap.size ≤ k) V rfl (by decide) ?_ ?_ ?_ ?_).mono ?_
  · refine ⟨fun h => by omega, fun h => by omega, fun h => by omega, fun h => by omega, F, .slice none 0 0, hD, World.ownsRow_nil _ _ _ _, hOb, hSb, Kept.refl _ _, fun k hk => .inl hk, fun k e => by simp [Value.ownBlock] at e⟩
  · intro j f hf args V'
    have hj : j < 4 := by have := (List.getElem?_eq_some_iff.1 hf).1; simpa [opF] using this
    rcases j with _ | _ | _ | _ | j
    · cases hf; exact enter_f _ _ Tryz.func107 (by kernel_rfl) (by kernel_rfl) args V'
    · cases hf; exact enter_f _ _ Tryz.func108 (by kernel_rfl) (by kernel_rfl) args V'
    · cases hf; exact enter_f _ _ Tryz.func109 (by kernel_rfl) (by kernel_rfl) args V'
    · cases hf; exact enter_f _ _ Tryz.func172 (by kernel_rfl) (by kernel_rfl) args V'
    · omega
  · rintro j f V' ⟨_, _, _, _, F', fv, h⟩ hf
    rw [h.s.cell j, opV, List.getElem?_map, hf]
    rfl
  · rintro j f V' ⟨i1, i2, i3, i4, F', fv, h⟩ hf
    have hj : j < 4 := by have := (List.getElem?_eq_some_iff.1 hf).1; simpa [opF] using this
    rcases j with _ | _ | _ | _ | j
    · cases hf
      refine (g_sync h hO nO hS nS y0 y1).mono ?_
      rintro e w' ⟨c, rfl, hc, F2, h2⟩
      refine ⟨c, rfl, fun h0 => ⟨fun _ => hc.symm.trans h0, fun h => by omega, fun h => by omega, fun h => by omega, F2, fv, h2⟩, fun hn => ?_⟩
      have hc' : c = syAns st := hc
      have hn' : syAns st ≠ 0 := by rw [← hc']; exact hn
      exact ⟨by rw [opAns, if_pos hn']; exact hc, hn, F2, by rw [opSt, if_pos hn']; exact h2.k, h2.kept, h2.foot⟩
    · cases hf
      have q1 := i1 (by omega)
      refine (oreadEven_on (fun c w' => (c = 0 → OPI lo O SB D T st id tot F V 2 w') ∧ (c ≠ 0 → (c = opAns st id tot ∧ c ≠ 0 ∧ ∃ F2, DSk lo D (opSt st) w' F2 ∧ Kept (fun k => k = O ∨ F k) V w' ∧ ∀ k, F2 k → F k ∨ V.heap.size ≤ k))) O V' ?_).mono (fun e w' h => h)
      by_cases hc : (opR0 st).2 = 0
      · refine (g_read_yes h hO nO hS nS hOS hlo (by show (opL st 1).length ≤ 100; simp [opL]) 0 (opR0 st).1 (by show opR0 st = _; rw [← hc])).mono ?_
        rintro e w' ⟨rfl, F2, fv2, h2⟩
        exact ⟨0, rfl, fun _ => ⟨fun _ => q1, fun _ => hc, fun h => by omega, fun h => by omega, F2, fv2, h2⟩, fun h => absurd rfl h⟩
      · refine (g_read_no h hO nO hS nS 0 (opR0 st).2 (opR0 st).1 rfl hc).mono ?_
        rintro e w' ⟨rfl, F2, h2⟩
        exact ⟨_, rfl, fun h => absurd h hc, fun _ => ⟨by rw [opAns, if_neg (fun h => h q1), if_pos hc], hc, F2, by rw [opSt, if_neg (fun h => h q1), if_pos hc]; exact h2.k, h2.kept, h2.foot⟩⟩
    · cases hf
      have q1 := i1 (by omega)
      have q2 := i2 (by omega)
      refine (oreadOdd_on (fun c w' => (c = 0 → OPI lo O SB D T st id tot F V 3 w') ∧ (c ≠ 0 → (c = opAns st id tot ∧ c ≠ 0 ∧ ∃ F2, DSk lo D (opSt st) w' F2 ∧ Kept (fun k => k = O ∨ F k) V w' ∧ ∀ k, F2 k → F k ∨ V.heap.size ≤ k))) O V' ?_).mono (fun e w' h => h)
      by_cases hc : (opR1 st).2 = 0
      · refine (g_read_yes h hO nO hS nS hOS hlo (by have := foundR_len [] (opR0 st).1; show (foundR [] (opR0 st).1).length ≤ 100; simp only [List.length_nil] at this; omega) 1 (opR1 st).1 (by show opR1 st = _; rw [← hc])).mono ?_
        rintro e w' ⟨rfl, F2, fv2, h2⟩
        exact ⟨0, rfl, fun _ => ⟨fun _ => q1, fun _ => q2, fun _ => hc, fun h => by omega, F2, fv2, h2⟩, fun h => absurd rfl h⟩
      · refine (g_read_no h hO nO hS nS 1 (opR1 st).2 (opR1 st).1 rfl hc).mono ?_
        rintro e w' ⟨rfl, F2, h2⟩
        exact ⟨_, rfl, fun h => absurd h hc, fun _ => ⟨by rw [opAns, if_neg (fun h => h q1), if_neg (fun h => h q2), if_pos hc], hc, F2, by rw [opSt, if_neg (fun h => h q1), if_neg (fun h => h q2)]; exact h2.k, h2.kept, h2.foot⟩⟩
    · cases hf
      have q1 := i1 (by omega)
      have q2 := i2 (by omega)
      have q3 := i3 (by omega)
      refine (g_take (L := opL st 3) (st := opS st 3) h hO nO hOS (Nat.le_trans (opL_len st) (by decide))).mono ?_
      rintro e w' ⟨c, rfl, hcc, h2⟩
      have eS : opSt st = opS st 3 := by rw [opSt, if_neg (fun h => h q1), if_neg (fun h => h q2)]
      rcases hcc with ⟨rfl, hq⟩ | ⟨rfl, hq⟩
      · refine ⟨8, rfl, fun h => by omega, fun _ => ⟨?_, by decide, F', by rw [eS]; exact h2.k, h2.kept, h2.foot⟩⟩
        rw [opAns, if_neg (fun h => h q1), if_neg (fun h => h q2), if_neg (fun h => h q3), if_pos (show (opT st id tot).q = 0 from hq)]
      · exact ⟨0, rfl, fun _ => ⟨fun _ => q1, fun _ => q2, fun _ => q3, fun _ => hq, F', fv, h2⟩, fun h => absurd rfl h⟩
    · omega
  · rintro e w' ⟨c, rfl, h0, h1⟩
    by_cases hc : c = 0
    · subst hc
      obtain ⟨i1, i2, i3, i4, F', fv, h⟩ := h0 rfl
      have eA : opAns st id tot = 0 := by rw [opAns, if_neg (fun h => h (i1 (by omega))), if_neg (fun h => h (i2 (by omega))), if_neg (fun h => h (i3 (by omega))), if_neg (i4 (by omega))]
      have eS : opSt st = opS st 3 := by rw [opSt, if_neg (fun h => h (i1 (by omega))), if_neg (fun h => h (i2 (by omega)))]
      rw [eA, eS]
      exact ⟨rfl, fun _ => ⟨fv, h.o, F', h.k, h.kept, h.foot⟩, F', h.k, h.kept, h.foot⟩
    · obtain ⟨rfl, hn, h2⟩ := h1 hc
      exact ⟨rfl, fun h => absurd h hn, h2⟩
end Go.Proofs.YtgaoeoijdpdjiabGreatDoor

namespace Go.Proofs.YtgaoeoijdpdjiabGreatDoor
open Go.RowKit
def mkT (st : DSt) (id : ByteArray) : DSt := wrSt (opS st 3) 1 (sealS 1 0 id)
/-- What Make's steps answer, and what the disk is then. -/
def mkAns (st : DSt) (id : ByteArray) : Int := if syAns st ≠ 0 then syAns st else if (opR0 st).2 ≠ 0 then (opR0 st).2 else if (opR1 st).2 ≠ 0 then (opR1 st).2 else if opL st 3 ≠ [] then 7 else if wrAns (opS st 3) 1 (sealS 1 0 id) ≠ 0 then wrAns (opS st 3) 1 (sealS 1 0 id) else syAns (mkT st id)
def mkSt (st : DSt) (id : ByteArray) : DSt := if syAns st ≠ 0 then opS st 1 else if (opR0 st).2 ≠ 0 then opS st 2 else if (opR1 st).2 ≠ 0 then opS st 3 else if opL st 3 ≠ [] then opS st 3 else if wrAns (opS st 3) 1 (sealS 1 0 id) ≠ 0 then mkT st id else sySt (mkT st id)
def mkStJ (st : DSt) (id : ByteArray) : Nat → DSt
  | 0 => opS st 0
  | 1 => opS st 1
  | 2 => opS st 2
  | 3 => opS st 3
  | 4 => opS st 3
  | 5 => mkT st id
  | _ => sySt (mkT st id)
def mkLJ (st : DSt) : Nat → List Rec
  | 0 => []
  | 1 => []
  | 2 => opL st 2
  | _ => opL st 3
/-- Behind so many steps that did not refuse. -/
def MKI (lo O SB D : Nat) (T : TypeId) (st : DSt) (id : ByteArray) (tot : Int) (F : Nat → Prop) (V : World) (j : Nat) (V' : World) : Prop :=
  (1 ≤ j → syAns st = 0) ∧ (2 ≤ j → (opR0 st).2 = 0) ∧ (3 ≤ j → (opR1 st).2 = 0) ∧ (4 ≤ j → opL st 3 = []) ∧ (5 ≤ j → wrAns (opS st 3) 1 (sealS 1 0 id) = 0) ∧ (6 ≤ j → syAns (mkT st id) = 0) ∧
  ∃ F' fv, OPG lo O SB D T mkV (mkStJ st id j) id tot (mkLJ st j) (if j ≤ 4 then ⟨0, 0, ⟨#[]⟩⟩ else ⟨1, 0, id⟩) F V V' F' fv
theorem mdone_any (lo O SB D : Nat) (T : TypeId) (st : DSt) (F : Nat → Prop) (id : ByteArray) (tot : Int) (V : World) (hD : DSk lo D st V F) (hOb : Blk V O (opC D id tot (.slice none 0 0) 0 0 ⟨#[]⟩) 246) (hSb : Blk V SB mkV T) (nO : ¬ F O) (nS : ¬ F SB) (hlo : lo ≤ V.heap.size) (hOS : SB ≠ O) (hid : id.size = 8) (y0 : 0 ≤ st.syncs) (y1 : st.syncs < 9223372036854775807)
    (r0 : 0 ≤ (opS st 3).writes) (r1 : (opS st 3).writes < 9223372036854775807) (y2 : 0 ≤ (mkT st id).syncs) (y3 : (mkT st id).syncs < 9223372036854775807) :
    Calls Tryz.prog 180 #[.pointer (some ⟨O, 0, none⟩), .slice (some ⟨SB, 0, none⟩) 6 6] V fun e w' => e = .returned (.int .i64 (mkAns st id)) ∧
      ((mkAns st id = 0 → ∃ fv, OPL lo O D (mkSt st id) (opC D id tot fv 1 0 id) F V w') ∧ ∃ F2, DSk lo D (mkSt st id) w' F2 ∧ Kept (fun k => k = O ∨ F k) V w' ∧ ∀ k, F2 k → F k ∨ V.heap.size ≤ k) := by
  have hO := hOb.lt
  have hS := hSb.lt
  refine (done_on mkF 6 O SB (MKI lo O SB D T st id tot F V) (fun c V' => c = mkAns st id ∧ c ≠ 0 ∧ ∃ F2, DSk lo D (mkSt st id) V' F2 ∧ Kept (fun k => k = O ∨ F k) V V' ∧ ∀ k, F2 k → F k ∨ V.heap.size ≤ k) V rfl (by decide) ?_ ?_ ?_ ?_).mono ?_
  · refine ⟨fun h => by omega, fun h => by omega, fun h => by omega, fun h => by omega, fun h => by omega, fun h => by omega, F, .slice none 0 0, hD, World.ownsRow_nil _ _ _ _, hOb, hSb, Kept.refl _ _, fun k hk => .inl hk, fun k e => by simp [Value.ownBlock] at e⟩
  · intro j f hf args V'
    have hj : j < 6 := by have := (List.getElem?_eq_some_iff.1 hf).1; simpa [mkF] using this
    rcases j with _ | _ | _ | _ | _ | _ | j
    · cases hf; exact enter_f _ _ Tryz.func107 (by kernel_rfl) (by kernel_rfl) args V'
    · cases hf; exact enter_f _ _ Tryz.func108 (by kernel_rfl) (by kernel_rfl) args V'
    · cases hf; exact enter_f _ _ Tryz.func109 (by kernel_rfl) (by kernel_rfl) args V'
    · cases hf; exact enter_f _ _ Tryz.func110 (by kernel_rfl) (by kernel_rfl) args V'
    · cases hf; exact enter_f _ _ Tryz.func111 (by kernel_rfl) (by kernel_rfl) args V'
    · cases hf; exact enter_f _ _ Tryz.func107 (by kernel_rfl) (by kernel_rfl) args V'
    · omega
  · rintro j f V' ⟨_, _, _, _, _, _, F', fv, h⟩ hf
    rw [h.s.cell j, mkV, List.getElem?_map, hf]
    rfl
  · rintro j f V' ⟨i1, i2, i3, i4, i5, i6, F', fv, h⟩ hf
    have hj : j < 6 := by have := (List.getElem?_eq_some_iff.1 hf).1; simpa [mkF] using this
    rcases j with _ | _ | _ | _ | _ | _ | j
    · cases hf
      refine (g_sync h hO nO hS nS y0 y1).mono ?_
      rintro e w' ⟨c, rfl, hc, F2, h2⟩
      have hc' : c = syAns st := hc
      refine ⟨c, rfl, fun h0 => ⟨fun _ => hc'.symm.trans h0, fun h => by omega, fun h => by omega, fun h => by omega, fun h => by omega, fun h => by omega, F2, fv, h2⟩, fun hn => ?_⟩
      have hn' : syAns st ≠ 0 := by rw [← hc']; exact hn
      exact ⟨by rw [mkAns, if_pos hn']; exact hc', hn, F2, by rw [mkSt, if_pos hn']; exact h2.k, h2.kept, h2.foot⟩
    · cases hf
      have q1 := i1 (by omega)
      refine (oreadEven_on (fun c w' => (c = 0 → MKI lo O SB D T st id tot F V 2 w') ∧ (c ≠ 0 → (c = mkAns st id ∧ c ≠ 0 ∧ ∃ F2, DSk lo D (mkSt st id) w' F2 ∧ Kept (fun k => k = O ∨ F k) V w' ∧ ∀ k, F2 k → F k ∨ V.heap.size ≤ k))) O V' ?_).mono (fun e w' h => h)
      by_cases hc : (opR0 st).2 = 0
      · refine (g_read_yes h hO nO hS nS hOS hlo (by show (mkLJ st 1).length ≤ 100; simp [mkLJ]) 0 (opR0 st).1 (by show opR0 st = _; rw [← hc])).mono ?_
        rintro e w' ⟨rfl, F2, fv2, h2⟩
        exact ⟨0, rfl, fun _ => ⟨fun _ => q1, fun _ => hc, fun h => by omega, fun h => by omega, fun h => by omega, fun h => by omega, F2, fv2, h2⟩, fun h => absurd rfl h⟩
      · refine (g_read_no h hO nO hS nS 0 (opR0 st).2 (opR0 st).1 rfl hc).mono ?_
        rintro e w' ⟨rfl, F2, h2⟩
        exact ⟨_, rfl, fun h => absurd h hc, fun _ => ⟨by rw [mkAns, if_neg (fun h => h q1), if_pos hc], hc, F2, by rw [mkSt, if_neg (fun h => h q1), if_pos hc]; exact h2.k, h2.kept, h2.foot⟩⟩
    · cases hf
      have q1 := i1 (by omega)
      have q2 := i2 (by omega)
      refine (oreadOdd_on (fun c w' => (c = 0 → MKI lo O SB D T st id tot F V 3 w') ∧ (c ≠ 0 → (c = mkAns st id ∧ c ≠ 0 ∧ ∃ F2, DSk lo D (mkSt st id) w' F2 ∧ Kept (fun k => k = O ∨ F k) V w' ∧ ∀ k, F2 k → F k ∨ V.heap.size ≤ k))) O V' ?_).mono (fun e w' h => h)
      by_cases hc : (opR1 st).2 = 0
      · refine (g_read_yes h hO nO hS nS hOS hlo (by have := foundR_len [] (opR0 st).1; show (foundR [] (opR0 st).1).length ≤ 100; simp only [List.length_nil] at this; omega) 1 (opR1 st).1 (by show opR1 st = _; rw [← hc])).mono ?_
        rintro e w' ⟨rfl, F2, fv2, h2⟩
        exact ⟨0, rfl, fun _ => ⟨fun _ => q1, fun _ => q2, fun _ => hc, fun h => by omega, fun h => by omega, fun h => by omega, F2, fv2, h2⟩, fun h => absurd rfl h⟩
      · refine (g_read_no h hO nO hS nS 1 (opR1 st).2 (opR1 st).1 rfl hc).mono ?_
        rintro e w' ⟨rfl, F2, h2⟩
        exact ⟨_, rfl, fun h => absurd h hc, fun _ => ⟨by rw [mkAns, if_neg (fun h => h q1), if_neg (fun h => h q2), if_pos hc], hc, F2, by rw [mkSt, if_neg (fun h => h q1), if_neg (fun h => h q2), if_pos hc]; exact h2.k, h2.kept, h2.foot⟩⟩
    · cases hf
      have q1 := i1 (by omega)
      have q2 := i2 (by omega)
      have q3 := i3 (by omega)
      refine (g_refuse h).mono ?_
      rintro e w' ⟨c, rfl, hcc, rfl⟩
      rcases hcc with ⟨rfl, hl⟩ | ⟨rfl, hl⟩
      · exact ⟨0, rfl, fun _ => ⟨fun _ => q1, fun _ => q2, fun _ => q3, fun _ => hl, fun h => by omega, fun h => by omega, F', fv, h⟩, fun h => absurd rfl h⟩
      · have hl' : opL st 3 ≠ [] := hl
        exact ⟨7, rfl, fun h => by omega, fun _ => ⟨by rw [mkAns, if_neg (fun h => h q1), if_neg (fun h => h q2), if_neg (fun h => h q3), if_pos hl'], by decide, F', by rw [mkSt, if_neg (fun h => h q1), if_neg (fun h => h q2), if_neg (fun h => h q3), if_pos hl']; exact h.k, h.kept, h.foot⟩⟩
    · cases hf
      have q1 := i1 (by omega)
      have q2 := i2 (by omega)
      have q3 := i3 (by omega)
      have q4 := i4 (by omega)
      refine (g_lay (st := opS st 3) (L := opL st 3) (lq0 := 0) (lb0 := 0) (ld0 := ⟨#[]⟩) h hO nO hS nS hOS hlo hid r0 r1).mono ?_
      rintro e w' ⟨c, rfl, hc, F2, h2⟩
      refine ⟨c, rfl, fun h0 => ⟨fun _ => q1, fun _ => q2, fun _ => q3, fun _ => q4, fun _ => hc.symm.trans h0, fun h => by omega, F2, fv, h2⟩, fun hn => ?_⟩
      have hn' : wrAns (opS st 3) 1 (sealS 1 0 id) ≠ 0 := by rw [← hc]; exact hn
      exact ⟨by rw [mkAns, if_neg (fun h => h q1), if_neg (fun h => h q2), if_neg (fun h => h q3), if_neg (fun h => h q4), if_pos hn']; exact hc, hn, F2, by rw [mkSt, if_neg (fun h => h q1), if_neg (fun h => h q2), if_neg (fun h => h q3), if_neg (fun h => h q4), if_pos hn']; exact h2.k, h2.kept, h2.foot⟩
    · cases hf
      have q1 := i1 (by omega)
      have q2 := i2 (by omega)
      have q3 := i3 (by omega)
      have q4 := i4 (by omega)
      have q5 := i5 (by omega)
      refine (g_sync (st := mkT st id) h hO nO hS nS y2 y3).mono ?_
      rintro e w' ⟨c, rfl, hc, F2, h2⟩
      refine ⟨c, rfl, fun h0 => ⟨fun _ => q1, fun _ => q2, fun _ => q3, fun _ => q4, fun _ => q5, fun _ => hc.symm.trans h0, F2, fv, h2⟩, fun hn => ?_⟩
      exact ⟨by rw [mkAns, if_neg (fun h => h q1), if_neg (fun h => h q2), if_neg (fun h => h q3), if_neg (fun h => h q4), if_neg (fun h => h q5)]; exact hc, hn, F2, by rw [mkSt, if_neg (fun h => h q1), if_neg (fun h => h q2), if_neg (fun h => h q3), if_neg (fun h => h q4), if_neg (fun h => h q5)]; exact h2.k, h2.kept, h2.foot⟩
    · omega
  · rintro e w' ⟨c, rfl, h0, h1⟩
    by_cases hc : c = 0
    · subst hc
      obtain ⟨i1, i2, i3, i4, i5, i6, F', fv, h⟩ := h0 rfl
      have eA : mkAns st id = 0 := by rw [mkAns, if_neg (fun h => h (i1 (by omega))), if_neg (fun h => h (i2 (by omega))), if_neg (fun h => h (i3 (by omega))), if_neg (fun h => h (i4 (by omega))), if_neg (fun h => h (i5 (by omega)))]; exact i6 (by omega)
      have eS : mkSt st id = sySt (mkT st id) := by rw [mkSt, if_neg (fun h => h (i1 (by omega))), if_neg (fun h => h (i2 (by omega))), if_neg (fun h => h (i3 (by omega))), if_neg (fun h => h (i4 (by omega))), if_neg (fun h => h (i5 (by omega)))]
      rw [eA, eS]
      exact ⟨rfl, fun _ => ⟨fv, h.o, F', h.k, h.kept, h.foot⟩, F', h.k, h.kept, h.foot⟩
    · obtain ⟨rfl, hn, h2⟩ := h1 hc
      exact ⟨rfl, fun h => absurd h hn, h2⟩
end Go.Proofs.YtgaoeoijdpdjiabGreatDoor

namespace Go.Proofs.YtgaoeoijdpdjiabGreatDoor
open Go.RowKit
/-- What package signet hands out for it. -/
def Given (v : Option Addr) (c : Int) (r : Option Addr) (w w' : World) : Prop := (c = 0 → r = some ⟨w.heap.size, 0, none⟩ ∧ Blk w' w.heap.size [.pointer v] 142) ∧ (c ≠ 0 → r = none) ∧ Below w.heap.size w w'
set_option maxRecDepth 20000 in
theorem given_any (v : Option Addr) (c : Int) (w : World) :
    Calls Tryz.prog 65 #[.pointer v, .int .i64 c] w fun e w' => ∃ r, e = .returned (.tuple #[.pointer r, .int .i64 c]) ∧ Given v c r w w' := by
  by_cases hc : c = 0
  · subst hc
    go_enter Tryz.func65, Tryz.ntmps65
    go_wp2
    go_ret2
    exact ⟨_, rfl, fun _ => ⟨rfl, Blk.new w _ _⟩, fun h => absurd rfl h, (Below.refl _ _).alloc (Nat.le_refl _) _⟩
  · have HC := hide hc
    have e1 : (c == 0) = false := by simpa using hc
    have e2 : (c != 0) = true := by simpa using hc
    clear hc
    go_enter Tryz.func65, Tryz.ntmps65
    go_wp2
    go_ret2
    exact ⟨_, rfl, fun h => absurd h HC.out, fun _ => rfl, Below.refl _ _⟩
set_option maxRecDepth 20000 in
set_option maxHeartbeats 4000000 in
theorem smake_any (SD D : Nat) (F : Nat → Prop) (Q : Option Addr → Int → World → World → Prop) (k b x t l bat : Int) (sec rnd pub : ByteArray) (w : World) (hSD : Blk w SD [.pointer (some ⟨D, 0, none⟩)] 135) (hF : ∀ i, F i → i < w.heap.size)
    (hMk : ∀ V : World, Below w.heap.size w V → Calls Tryz.prog 66 #[.pointer (some ⟨D, 0, none⟩), .agg #[.int .i64 k, .int .i64 b, .int .i64 x, .int .i64 t, .int .i64 l], .agg #[.string sec, .string rnd, .string pub], .int .i64 bat] V fun e w' => ∃ v c, e = .returned (.tuple #[.pointer v, .int .i64 c]) ∧ Kept F V w' ∧ Q v c V w') :
    Calls Tryz.prog 23 #[.pointer (some ⟨SD, 0, none⟩), .agg #[.int .i64 k, .int .i64 b, .int .i64 x, .int .i64 t, .int .i64 l], .agg #[.string sec, .string rnd, .string pub], .int .i64 bat] w fun e w' => ∃ v c r V V2, e = .returned (.tuple #[.pointer r, .int .i64 c]) ∧ Below w.heap.size w V ∧ Kept F V V2 ∧ Q v c V V2 ∧ Given v c r V2 w' := by
  obtain ⟨W0, hW⟩ : ∃ W0, (w.alloc (.cells #[.int .i64 k, .int .i64 b, .int .i64 x, .int .i64 t, .int .i64 l] 26)).alloc (.cells #[.string sec, .string rnd, .string pub] 42) = W0 := ⟨_, rfl⟩
  have HB := hide (show Below w.heap.size w W0 by subst hW; exact ((Below.refl _ _).alloc (Nat.le_refl _) _).alloc (by simp) _)
  have HC := hide (show Blk W0 w.heap.size [.int .i64 k, .int .i64 b, .int .i64 x, .int .i64 t, .int .i64 l] 26 by rw [← hW]; exact (Blk.new w _ _).alloc _)
  have HE := hide (show Blk W0 (w.heap.size + 1) [.string sec, .string rnd, .string pub] 42 by
    rw [← hW]
    have h := Blk.new (w.alloc (.cells #[.int .i64 k, .int .i64 b, .int .i64 x, .int .i64 t, .int .i64 l] 26)) [.string sec, .string rnd, .string pub] 42
    simp only [World.size_alloc] at h
    exact h)
  have HBL := hide (fun (V : World) (h : Below W0.heap.size W0 V) => below_on SD D V ((hSD.on HB.out).on h))
  have HMK := hide hMk
  have HGV := hide given_any
  have HNF := hide (fun g hg h => by have := hF g h; omega : ∀ g, w.heap.size ≤ g → ¬ F g)
  have HS := hide (fun (V : World) (h : Blk V w.heap.size [.int .i64 k, .int .i64 b, .int .i64 x, .int .i64 t, .int .i64 l] 26 ∧ Blk V (w.heap.size + 1) [.string sec, .string rnd, .string pub] 42) => (⟨h.1.cell 0, h.1.cell 1, h.1.cell 2, h.1.cell 3, h.1.cell 4, h.2.cell 0, h.2.cell 1, h.2.cell 2⟩ : V.cell? ⟨w.heap.size, 0, none⟩ = some (.int .i64 k) ∧ V.cell? ⟨w.heap.size, 1, none⟩ = some (.int .i64 b) ∧ V.cell? ⟨w.heap.size, 2, none⟩ = some (.int .i64 x) ∧ V.cell? ⟨w.heap.size, 3, none⟩ = some (.int .i64 t) ∧ V.cell? ⟨w.heap.size, 4, none⟩ = some (.int .i64 l) ∧ V.cell? ⟨w.heap.size + 1, 0, none⟩ = some (.string sec) ∧ V.cell? ⟨w.heap.size + 1, 1, none⟩ = some (.string rnd) ∧ V.cell? ⟨w.heap.size + 1, 2, none⟩ = some (.string pub)))
  have HWE := hide hW
  clear hW hSD hF hMk
  go_enter Tryz.func23, Tryz.ntmps23
  go_wp2_with fail
  rw [HWE.out]
  refine wp_region_held_drew (S := fun V => V.cell? ⟨w.heap.size, 0, none⟩ = some (.int .i64 k) ∧ V.cell? ⟨w.heap.size, 1, none⟩ = some (.int .i64 b) ∧ V.cell? ⟨w.heap.size, 2, none⟩ = some (.int .i64 x) ∧ V.cell? ⟨w.heap.size, 3, none⟩ = some (.int .i64 t) ∧ V.cell? ⟨w.heap.size, 4, none⟩ = some (.int .i64 l) ∧ V.cell? ⟨w.heap.size + 1, 0, none⟩ = some (.string sec) ∧ V.cell? ⟨w.heap.size + 1, 1, none⟩ = some (.string rnd) ∧ V.cell? ⟨w.heap.size + 1, 2, none⟩ = some (.string pub)) (by kernel_rfl) (HS.out _ (And.intro (HC.out.on (Below.refl W0.heap.size W0).drew) (HE.out.on (Below.refl W0.heap.size W0).drew))) (fun hHeld => ?_)
  refine tk 0 hHeld (h := ?_)
  refine tk 2 hHeld (h := ?_)
  refine tk 3 hHeld (h := ?_)
  refine tk 4 hHeld (h := ?_)
  refine wpAnyH_ready (rs := [1]) (by kernel_rfl) (by simp) ?_
  refine AllReadyH.cons (o := ?oa1) ?hoa1 (fun K hK => ?hsa1) AllReadyH.nil
  case hoa1 => (simp only [List.getElem?_toArray, List.getElem?_cons_succ, List.getElem?_cons_zero]; rfl)
  go_simp
  go_at_call 67
  refine (HBL.out _ (Below.refl W0.heap.size W0).drew).mono ?_
  rintro e w1 ⟨rfl, hb1⟩
  have HB1 := hide (heldB (Below.refl W0.heap.size W0).drew hb1 (Nat.le_refl _))
  clear hb1
  try go_wp2_with fail
  refine hK.out _ _ (HS.out _ (And.intro (HC.out.on HB1.out) (HE.out.on HB1.out))) (fun hHeld => ?_)
  clear hK K
  try simp only [Act.put, List.setIfInBounds_toArray, List.set_cons_zero, List.set_cons_succ]
  refine wpAnyH_ready (rs := [5]) (by kernel_rfl) (by simp) ?_
  refine AllReadyH.cons (o := ?oa5) ?hoa5 (fun K hK => ?hsa5) AllReadyH.nil
  case hoa5 => (simp only [List.getElem?_toArray, List.getElem?_cons_succ, List.getElem?_cons_zero]; rfl)
  go_simp
  go_at_call 66
  refine (HMK.out _ (HB.out.trans (HB1.out.mono HB.out.size))).mono ?_
  rintro e w2 ⟨pv, pc, rfl, hk2, hq2⟩
  have HX2 := hide (And.intro (hk2.blk (HC.out.on HB1.out) (HNF.out _ (Nat.le_refl _))) (hk2.blk (HE.out.on HB1.out) (HNF.out _ (Nat.le_succ _))))
  have HK2 := hide hk2
  have HQ2 := hide hq2
  clear hk2 hq2
  try go_wp2_with fail
  refine hK.out _ _ (HS.out _ (HX2.out)) (fun hHeld => ?_)
  clear hK K
  try simp only [Act.put, List.setIfInBounds_toArray, List.set_cons_zero, List.set_cons_succ]
  refine tk 6 hHeld (h := ?_)
  refine tk 7 hHeld (h := ?_)
  refine wpAnyH_ready (rs := [8]) (by kernel_rfl) (by simp) ?_
  refine AllReadyH.cons (o := ?oa8) ?hoa8 (fun K hK => ?hsa8) AllReadyH.nil
  case hoa8 => (simp only [List.getElem?_toArray, List.getElem?_cons_succ, List.getElem?_cons_zero]; rfl)
  go_simp
  go_at_call 65
  refine (HGV.out pv pc _).mono ?_
  rintro e w3 ⟨pr, rfl, hg3⟩
  have HG3 := hide hg3
  clear hg3
  try go_wp2_with fail
  refine hK.out _ _ (HS.out _ (And.intro (HX2.out.1.on HG3.out.2.2) (HX2.out.2.on HG3.out.2.2))) (fun hHeld => ?_)
  clear hK K
  try simp only [Act.put, List.setIfInBounds_toArray, List.set_cons_zero, List.set_cons_succ]
  refine tk 9 hHeld (h := ?_)
  refine tk 10 hHeld (h := ?_)
  refine tk 11 hHeld (h := ?_)
  refine tk 12 hHeld (h := ?_)
  refine wpAnyH_done (by kernel_rfl) ?_ _
  clear hHeld
  go_wp2
  go_ret2
  exact ⟨pv, pc, pr, w1, w2, rfl, HB.out.trans (HB1.out.mono HB.out.size), HK2.out, HQ2.out, HG3.out⟩
set_option maxRecDepth 20000 in
set_option maxHeartbeats 4000000 in
theorem sopen_any (SD D : Nat) (F : Nat → Prop) (Q : Option Addr → Int → World → World → Prop) (k b x t l bat : Int) (sec rnd pub : ByteArray) (w : World) (hSD : Blk w SD [.pointer (some ⟨D, 0, none⟩)] 135) (hF : ∀ i, F i → i < w.heap.size)
    (hMk : ∀ V : World, Below w.heap.size w V → Calls Tryz.prog 100 #[.pointer (some ⟨D, 0, none⟩), .agg #[.int .i64 k, .int .i64 b, .int .i64 x, .int .i64 t, .int .i64 l], .agg #[.string sec, .string rnd, .string pub], .int .i64 bat] V fun e w' => ∃ v c, e = .returned (.tuple #[.pointer v, .int .i64 c]) ∧ Kept F V w' ∧ Q v c V w') :
    Calls Tryz.prog 55 #[.pointer (some ⟨SD, 0, none⟩), .agg #[.int .i64 k, .int .i64 b, .int .i64 x, .int .i64 t, .int .i64 l], .agg #[.string sec, .string rnd, .string pub], .int .i64 bat] w fun e w' => ∃ v c r V V2, e = .returned (.tuple #[.pointer r, .int .i64 c]) ∧ Below w.heap.size w V ∧ Kept F V V2 ∧ Q v c V V2 ∧ Given v c r V2 w' := by
  obtain ⟨W0, hW⟩ : ∃ W0, (w.alloc (.cells #[.int .i64 k, .int .i64 b, .int .i64 x, .int .i64 t, .int .i64 l] 26)).alloc (.cells #[.string sec, .string rnd, .string pub] 42) = W0 := ⟨_, rfl⟩
  have HB := hide (show Below w.heap.size w W0 by subst hW; exact ((Below.refl _ _).alloc (Nat.le_refl _) _).alloc (by simp) _)
  have HC := hide (show Blk W0 w.heap.size [.int .i64 k, .int .i64 b, .int .i64 x, .int .i64 t, .int .i64 l] 26 by rw [← hW]; exact (Blk.new w _ _).alloc _)
  have HE := hide (show Blk W0 (w.heap.size + 1) [.string sec, .string rnd, .string pub] 42 by
    rw [← hW]
    have h := Blk.new (w.alloc (.cells #[.int .i64 k, .int .i64 b, .int .i64 x, .int .i64 t, .int .i64 l] 26)) [.string sec, .string rnd, .string pub] 42
    simp only [World.size_alloc] at h
    exact h)
  have HBL := hide (fun (V : World) (h : Below W0.heap.size W0 V) => below_on SD D V ((hSD.on HB.out).on h))
  have HMK := hide hMk
  have HGV := hide given_any
  have HNF := hide (fun g hg h => by have := hF g h; omega : ∀ g, w.heap.size ≤ g → ¬ F g)
  have HS := hide (fun (V : World) (h : Blk V w.heap.size [.int .i64 k, .int .i64 b, .int .i64 x, .int .i64 t, .int .i64 l] 26 ∧ Blk V (w.heap.size + 1) [.string sec, .string rnd, .string pub] 42) => (⟨h.1.cell 0, h.1.cell 1, h.1.cell 2, h.1.cell 3, h.1.cell 4, h.2.cell 0, h.2.cell 1, h.2.cell 2⟩ : V.cell? ⟨w.heap.size, 0, none⟩ = some (.int .i64 k) ∧ V.cell? ⟨w.heap.size, 1, none⟩ = some (.int .i64 b) ∧ V.cell? ⟨w.heap.size, 2, none⟩ = some (.int .i64 x) ∧ V.cell? ⟨w.heap.size, 3, none⟩ = some (.int .i64 t) ∧ V.cell? ⟨w.heap.size, 4, none⟩ = some (.int .i64 l) ∧ V.cell? ⟨w.heap.size + 1, 0, none⟩ = some (.string sec) ∧ V.cell? ⟨w.heap.size + 1, 1, none⟩ = some (.string rnd) ∧ V.cell? ⟨w.heap.size + 1, 2, none⟩ = some (.string pub)))
  have HWE := hide hW
  clear hW hSD hF hMk
  go_enter Tryz.func55, Tryz.ntmps55
  go_wp2_with fail
  rw [HWE.out]
  refine wp_region_held_drew (S := fun V => V.cell? ⟨w.heap.size, 0, none⟩ = some (.int .i64 k) ∧ V.cell? ⟨w.heap.size, 1, none⟩ = some (.int .i64 b) ∧ V.cell? ⟨w.heap.size, 2, none⟩ = some (.int .i64 x) ∧ V.cell? ⟨w.heap.size, 3, none⟩ = some (.int .i64 t) ∧ V.cell? ⟨w.heap.size, 4, none⟩ = some (.int .i64 l) ∧ V.cell? ⟨w.heap.size + 1, 0, none⟩ = some (.string sec) ∧ V.cell? ⟨w.heap.size + 1, 1, none⟩ = some (.string rnd) ∧ V.cell? ⟨w.heap.size + 1, 2, none⟩ = some (.string pub)) (by kernel_rfl) (HS.out _ (And.intro (HC.out.on (Below.refl W0.heap.size W0).drew) (HE.out.on (Below.refl W0.heap.size W0).drew))) (fun hHeld => ?_)
  refine tk 0 hHeld (h := ?_)
  refine tk 2 hHeld (h := ?_)
  refine tk 3 hHeld (h := ?_)
  refine tk 4 hHeld (h := ?_)
  refine wpAnyH_ready (rs := [1]) (by kernel_rfl) (by simp) ?_
  refine AllReadyH.cons (o := ?oa1) ?hoa1 (fun K hK => ?hsa1) AllReadyH.nil
  case hoa1 => (simp only [List.getElem?_toArray, List.getElem?_cons_succ, List.getElem?_cons_zero]; rfl)
  go_simp
  go_at_call 67
  refine (HBL.out _ (Below.refl W0.heap.size W0).drew).mono ?_
  rintro e w1 ⟨rfl, hb1⟩
  have HB1 := hide (heldB (Below.refl W0.heap.size W0).drew hb1 (Nat.le_refl _))
  clear hb1
  try go_wp2_with fail
  refine hK.out _ _ (HS.out _ (And.intro (HC.out.on HB1.out) (HE.out.on HB1.out))) (fun hHeld => ?_)
  clear hK K
  try simp only [Act.put, List.setIfInBounds_toArray, List.set_cons_zero, List.set_cons_succ]
  refine wpAnyH_ready (rs := [5]) (by kernel_rfl) (by simp) ?_
  refine AllReadyH.cons (o := ?oa5) ?hoa5 (fun K hK => ?hsa5) AllReadyH.nil
  case hoa5 => (simp only [List.getElem?_toArray, List.getElem?_cons_succ, List.getElem?_cons_zero]; rfl)
  go_simp
  go_at_call 100
  refine (HMK.out _ (HB.out.trans (HB1.out.mono HB.out.size))).mono ?_
  rintro e w2 ⟨pv, pc, rfl, hk2, hq2⟩
  have HX2 := hide (And.intro (hk2.blk (HC.out.on HB1.out) (HNF.out _ (Nat.le_refl _))) (hk2.blk (HE.out.on HB1.out) (HNF.out _ (Nat.le_succ _))))
  have HK2 := hide hk2
  have HQ2 := hide hq2
  clear hk2 hq2
  try go_wp2_with fail
  refine hK.out _ _ (HS.out _ (HX2.out)) (fun hHeld => ?_)
  clear hK K
  try simp only [Act.put, List.setIfInBounds_toArray, List.set_cons_zero, List.set_cons_succ]
  refine tk 6 hHeld (h := ?_)
  refine tk 7 hHeld (h := ?_)
  refine wpAnyH_ready (rs := [8]) (by kernel_rfl) (by simp) ?_
  refine AllReadyH.cons (o := ?oa8) ?hoa8 (fun K hK => ?hsa8) AllReadyH.nil
  case hoa8 => (simp only [List.getElem?_toArray, List.getElem?_cons_succ, List.getElem?_cons_zero]; rfl)
  go_simp
  go_at_call 65
  refine (HGV.out pv pc _).mono ?_
  rintro e w3 ⟨pr, rfl, hg3⟩
  have HG3 := hide hg3
  clear hg3
  try go_wp2_with fail
  refine hK.out _ _ (HS.out _ (And.intro (HX2.out.1.on HG3.out.2.2) (HX2.out.2.on HG3.out.2.2))) (fun hHeld => ?_)
  clear hK K
  try simp only [Act.put, List.setIfInBounds_toArray, List.set_cons_zero, List.set_cons_succ]
  refine tk 9 hHeld (h := ?_)
  refine tk 10 hHeld (h := ?_)
  refine tk 11 hHeld (h := ?_)
  refine tk 12 hHeld (h := ?_)
  refine wpAnyH_done (by kernel_rfl) ?_ _
  clear hHeld
  go_wp2
  go_ret2
  exact ⟨pv, pc, pr, w1, w2, rfl, HB.out.trans (HB1.out.mono HB.out.size), HK2.out, HQ2.out, HG3.out⟩
end Go.Proofs.YtgaoeoijdpdjiabGreatDoor
