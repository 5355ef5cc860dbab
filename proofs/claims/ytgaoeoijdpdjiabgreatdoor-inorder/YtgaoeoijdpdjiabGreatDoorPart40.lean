/-
  The steps of Make, where nothing fails and the disk bears no record.
-/
import Derived.Test.YtgaoeoijdpdjiabGreatDoorPart39
import Derived.Test.YtgaoeoijdpdjiabGreatDoorPart25
namespace Go.Proofs.YtgaoeoijdpdjiabGreatDoor
open Go.RowKit

def mkF : List Nat := [107, 108, 109, 110, 111, 107]
def mkV : List Value := mkF.map fun f => .func (.func f) #[] #[]

def OPB (lo O SB D : Nat) (T : TypeId) (st : DSt) (vs : List Value) (F : Nat → Prop) (V V' : World) : Prop := ∃ F', DSk lo D st V' F' ∧ Blk V' O vs 246 ∧ Blk V' SB mkV T ∧ Kept (fun k => k = O ∨ F k) V V' ∧ ∀ k, F' k → F k ∨ V.heap.size ≤ k

section
variable {lo O SB D : Nat} {T : TypeId} {st s2 : DSt} {vs : List Value} {F F' : Nat → Prop} {V V' V2 : World}
theorem opb_dl (hO : O < V.heap.size) (hS : SB < V.heap.size) (nO : ¬ F O) (nS : ¬ F SB) (ho : Blk V' O vs 246) (hs : Blk V' SB mkV T) (hk : Kept (fun k => k = O ∨ F k) V V') (hf : ∀ k, F' k → F k ∨ V.heap.size ≤ k) (hl : DL lo D s2 F' V' V2) : OPB lo O SB D T s2 vs F V V2 := by
  have n1 : ¬ F' O := fun h => by
    rcases hf O h with h | h
    · exact nO h
    · omega
  have n2 : ¬ F' SB := fun h => by
    rcases hf SB h with h | h
    · exact nS h
    · omega
  have b1 := hl.blk ho n1
  have b2 := hl.blk hs n2
  obtain ⟨F2, d2, k2, f2⟩ := hl
  refine ⟨F2, d2, b1, b2, hk.trans k2 (fun i hi => ?_), fun i hi => ?_⟩
  · rcases hf i hi with h | h
    · exact .inl (.inr h)
    · exact .inr h
  · rcases f2 i hi with h | h
    · exact hf i h
    · exact .inr (Nat.le_trans hk.size h)
theorem OPB.then (h : OPB lo O SB D T st vs F V V') (hb : Below V'.heap.size V' V2) : OPB lo O SB D T st vs F V V2 := by
  obtain ⟨F', d, o, s, k, f⟩ := h
  exact ⟨F', d.below hb, o.on hb, s.on hb, k.after hb, f⟩
end

theorem enter_f (f : Nat) (fn : Func) (hf : Tryz.prog.funcs[f]? = some fn) (hn : (fn.name == "runtime.NumGoroutine") = false) (hb : fn.body.isNone = false) (args : Array Value) (V : World) : Sem.run Tryz.prog (callFunc f args) V = .ok (.enter f args) V := by
  have hn' : ¬ fn.name = "runtime.NumGoroutine" := by simpa using hn
  have hb' : ¬ fn.body = none := fun e => by rw [e] at hb; simp at hb
  simp [callFunc, go_sem, hf, hn', hb']

/-- The states that the disk goes through. -/
def mkS (st : DSt) (id : ByteArray) : Nat → DSt
  | 0 => st
  | 1 => sySt st
  | 2 => rdSt (sySt st) 0
  | 3 => rdSt (rdSt (sySt st) 0) 1
  | 4 => rdSt (rdSt (sySt st) 0) 1
  | 5 => wrSt (rdSt (rdSt (sySt st) 0) 1) 1 (sealS 1 0 id)
  | _ => sySt (wrSt (rdSt (rdSt (sySt st) 0) 1) 1 (sealS 1 0 id))
def mkO (D : Nat) (id : ByteArray) (tot : Int) (j : Nat) : List Value := if j ≤ 4 then opC D id tot (.slice none 0 0) 0 0 ⟨#[]⟩ else opC D id tot (.slice none 0 0) 1 0 id

theorem mdone_yes (lo O SB D : Nat) (T : TypeId) (st : DSt) (F : Nat → Prop) (id x0 x1 : ByteArray) (tot : Int) (V : World) (hD : DSk lo D st V F) (hO : Blk V O (opC D id tot (.slice none 0 0) 0 0 ⟨#[]⟩) 246) (hS : Blk V SB mkV T) (nO : ¬ F O) (nS : ¬ F SB) (hlo : lo ≤ V.heap.size) (hOS : SB ≠ O) (hid : id.size = 8)
    (y0 : 0 ≤ st.syncs) (y1 : st.syncs < 9223372036854775806) (r0 : 0 ≤ st.writes) (r1 : st.writes < 9223372036854775807)
    (a1 : syAns st = 0) (a2 : rdAns (sySt st) 0 = (x0, 0)) (b2 : isRec x0 = false) (a3 : rdAns (rdSt (sySt st) 0) 1 = (x1, 0)) (b3 : isRec x1 = false) (a5 : wrAns (mkS st id 4) 1 (sealS 1 0 id) = 0) (a6 : syAns (mkS st id 5) = 0)
    (w4 : (mkS st id 4).writes = st.writes) (w5 : (mkS st id 5).syncs = st.syncs + 1) :
    Calls Tryz.prog 180 #[.pointer (some ⟨O, 0, none⟩), .slice (some ⟨SB, 0, none⟩) 6 6] V fun e w' => e = .returned (.int .i64 0) ∧ OPL lo O D (mkS st id 6) (opC D id tot (.slice none 0 0) 1 0 id) F V w' := by
  have hOl := hO.lt
  have hSl := hS.lt
  refine (done_on mkF 6 O SB (fun j V' => OPB lo O SB D T (mkS st id j) (mkO D id tot j) F V V') (fun _ _ => False) V rfl (by decide) ?_ ?_ ?_ ?_).mono ?_
  · exact ⟨F, hD, hO, hS, Kept.refl _ _, fun k hk => .inl hk⟩
  · intro j f hf args V'
    have hj : j < 6 := by have := (List.getElem?_eq_some_iff.1 hf).1; simpa [mkF] using this
    rcases j with _ | _ | _ | _ | _ | _ | j
    · cases hf; exact enter_f _ _ Tryz.func107 (by kernel_rfl) (by kernel_rfl) args V'
    · cases hf; exact enter_f _ _ Tryz.func108 (by kernel_rfl) (by kernel_rfl) args V'
    · cases hf; exact enter_f _ _ Tryz.func109 (by kernel_rfl) (by kernel_rfl) args V'
    · cases hf; exact enter_f _ _ Tryz.func110 (by kernel_rfl) (by kernel_rfl) args V'
    · cases hf; exact enter_f _ _ Tryz.func111 (by kernel_rfl) (by kernel_rfl) args V'
    · cases hf; exact enter_f _ _ Tryz.func107 (by kernel_rfl) (by kernel_rfl) args V'
    · omega
  · rintro j f V' ⟨F', d, o, s, k, g⟩ hf
    rw [s.cell j, mkV, List.getElem?_map, hf]
    rfl
  · rintro j f V' ⟨F', d, o, s, k, g⟩ hf
    have hj : j < 6 := by have := (List.getElem?_eq_some_iff.1 hf).1; simpa [mkF] using this
    have step : ∀ (V2 : World) (s2 : DSt), DL lo D s2 F' V' V2 → OPB lo O SB D T s2 (mkO D id tot j) F V V2 := fun V2 s2 hl => opb_dl hOl hSl nO nS o s k g hl
    rcases j with _ | _ | _ | _ | _ | _ | j
    · cases hf
      refine (osync_on (fun c w' => c = 0 ∧ DL lo D (sySt st) F' V' w') O D V' (o.cell 0) ?_).mono ?_
      · refine (dsync_any lo D st F' V' d y0 (by omega)).mono ?_
        rintro e w' ⟨rfl, hl⟩
        exact ⟨_, rfl, a1, hl⟩
      · rintro e w' ⟨c, rfl, rfl, hl⟩
        exact ⟨0, rfl, fun _ => step _ _ hl, fun h => absurd rfl h⟩
    · cases hf
      refine (oreadEven_on (fun c w' => c = 0 ∧ OPB lo O SB D T (mkS st id 2) (mkO D id tot 2) F V w') O V' ?_).mono ?_
      · refine (oread_no (fun V2 => OPB lo O SB D T (mkS st id 2) (mkO D id tot 2) F V V2) O D 0 x0 V' (o.cell 0) b2 (fun V2 V3 h hb => h.then hb) ?_).mono ?_
        · refine (dread_any lo D _ F' 0 V' d).mono ?_
          rintro e w' ⟨rfl, hl⟩
          refine ⟨?_, step _ _ hl⟩
          show Ending.returned (.tuple #[.string (rdAns (sySt st) 0).1, .int .i64 (rdAns (sySt st) 0).2]) = _
          rw [a2]
        · rintro e w' ⟨rfl, hl⟩
          exact ⟨0, rfl, rfl, hl⟩
      · rintro e w' ⟨c, rfl, rfl, hl⟩
        exact ⟨0, rfl, fun _ => hl, fun h => absurd rfl h⟩
    · cases hf
      refine (oreadOdd_on (fun c w' => c = 0 ∧ OPB lo O SB D T (mkS st id 3) (mkO D id tot 3) F V w') O V' ?_).mono ?_
      · refine (oread_no (fun V2 => OPB lo O SB D T (mkS st id 3) (mkO D id tot 3) F V V2) O D 1 x1 V' (o.cell 0) b3 (fun V2 V3 h hb => h.then hb) ?_).mono ?_
        · refine (dread_any lo D _ F' 1 V' d).mono ?_
          rintro e w' ⟨rfl, hl⟩
          refine ⟨?_, step _ _ hl⟩
          show Ending.returned (.tuple #[.string (rdAns (rdSt (sySt st) 0) 1).1, .int .i64 (rdAns (rdSt (sySt st) 0) 1).2]) = _
          rw [a3]
        · rintro e w' ⟨rfl, hl⟩
          exact ⟨0, rfl, rfl, hl⟩
      · rintro e w' ⟨c, rfl, rfl, hl⟩
        exact ⟨0, rfl, fun _ => hl, fun h => absurd rfl h⟩
    · cases hf
      refine (orefuse_no O none 0 V' (o.cell 3)).mono ?_
      rintro e w' ⟨rfl, rfl⟩
      exact ⟨0, rfl, fun _ => ⟨F', d, o, s, k, g⟩, fun h => absurd rfl h⟩
    · cases hf
      have n1 : ¬ F' O := fun h => by
        rcases g O h with h | h
        · exact nO h
        · omega
      have KW : Kept (fun k => k = O) V' (((V'.setCell ⟨O, 4, none⟩ (.int .i64 1)).setCell ⟨O, 5, none⟩ (.int .i64 0)).setCell ⟨O, 6, none⟩ (.string id)) := ((kept_set V' ⟨O, 4, none⟩ _).setCell (p := ⟨O, 5, none⟩) (.inl rfl) _).setCell (p := ⟨O, 6, none⟩) (.inl rfl) _
      have oW := ((o.set 4 (.int .i64 1)).set 5 (.int .i64 0)).set 6 (.string id)
      refine (layFirst_on (fun c w' => c = 0 ∧ OPB lo O SB D T (mkS st id 5) (mkO D id tot 5) F V w') O D id ⟨#[]⟩ tot 0 0 (.slice none 0 0) V' _ o rfl ?_ ?_).mono ?_
      · rintro c V2 ⟨_, F2, d2, o2, _⟩
        exact o2
      · intro V2 hb
        have d2 : DSk lo D (mkS st id 4) V2 F' := (d.kept KW (fun k hk e => n1 (by rw [← (show k = O from e)]; exact hk))).below hb
        refine (jlay_any lo D _ F' 1 0 1 id V2 d2 (Nat.le_trans hlo (Nat.le_trans k.size (Nat.le_trans KW.size hb.size))) (by rw [w4]; exact r0) (by rw [w4]; exact r1) ⟨by decide, by decide, by decide, by decide, hid⟩ (by decide) (by decide)).mono ?_
        rintro e w' ⟨rfl, hl⟩
        refine ⟨_, rfl, a5, ?_⟩
        have kk : Kept (fun k => k = O ∨ F k) V V2 := (k.trans KW (fun i hi => .inl (.inl hi))).after hb
        exact opb_dl hOl hSl nO nS (oW.on hb) ((KW.blk s hOS).on hb) kk g hl
      · rintro e w' ⟨c, rfl, rfl, hl⟩
        exact ⟨0, rfl, fun _ => hl, fun h => absurd rfl h⟩
    · cases hf
      refine (osync_on (fun c w' => c = 0 ∧ DL lo D (mkS st id 6) F' V' w') O D V' (o.cell 0) ?_).mono ?_
      · refine (dsync_any lo D _ F' V' d (by rw [w5]; omega) (by rw [w5]; omega)).mono ?_
        rintro e w' ⟨rfl, hl⟩
        exact ⟨_, rfl, a6, hl⟩
      · rintro e w' ⟨c, rfl, rfl, hl⟩
        exact ⟨0, rfl, fun _ => step _ _ hl, fun h => absurd rfl h⟩
    · omega
  · rintro e w' ⟨c, rfl, h0, h1⟩
    by_cases hc : c = 0
    · subst hc
      obtain ⟨F', d, o, s, k, g⟩ := h0 rfl
      exact ⟨rfl, o, F', d, k, g⟩
    · exact (h1 hc).elim
end Go.Proofs.YtgaoeoijdpdjiabGreatDoor
