/-
  The disk's Crash. The document's H, and the program's Value.
-/
import Derived.Test.YtgaoeoijdpdjiabGreatDoorPart7
import Derived.Test.YtgaoeoijdpdjiabGreatDoorPart5
import Derived.Test.YtgaoeoijdpdjiabGreatDoorPart2
import Derived.Deep.RegionHeld3
import Derived.Deep.DrawnRows
namespace Go.Proofs.YtgaoeoijdpdjiabGreatDoor
open Go.RowKit

attribute [local go_sem ↓] wp_pre_sec wp_pre_wri wp_pre_store_sec wp_pre_store_wri Go.wp_at_zero Go.wp_at_succ
attribute [local go_sem] ptrCells_at storeW_at

/-- What is durable behind a crash that keeps some of the first j of the pending writes. -/
def keptJ (s : DSt) (K : List Bool) (j : Nat) : List ByteArray := ((s.pend.take j).zipIdx).foldl (fun d q => if K.getD q.2 false then d.set q.1.1 q.1.2 else d) s.dur
theorem keptJ_succ (s : DSt) (K : List Bool) (j : Nat) (p : Nat × ByteArray) (h : s.pend[j]? = some p) : keptJ s K (j + 1) = if K.getD j false then (keptJ s K j).set p.1 p.2 else keptJ s K j := by
  obtain ⟨hj, rfl⟩ := List.getElem?_eq_some_iff.1 h
  rw [keptJ, List.take_succ_eq_append_getElem hj, List.zipIdx_append, List.foldl_append]
  have : (List.take j s.pend).length = j := by simp; omega
  simp [this, keptJ]
theorem keptJ_len (s : DSt) (K : List Bool) (j : Nat) : (keptJ s K j).length = s.dur.length := by
  unfold keptJ
  generalize (s.pend.take j).zipIdx = l
  generalize s.dur = d
  induction l generalizing d with
  | nil => rfl
  | cons q l ih => rw [List.foldl_cons, ih]; split <;> simp
/-- A list of bools lies in memory (nil, or from a place on). -/
def BoolsAt (w : World) (v : Value) (K : List Bool) : Prop := ((∃ a c, v = .slice a 0 c) ∧ K = []) ∨ ∃ b o cap, v = .slice (some ⟨b, o, none⟩) K.length cap ∧ K.length ≤ cap ∧ ∀ j x, K[j]? = some x → w.cell? ⟨b, o + j, none⟩ = some (.bool x)
theorem BoolsAt.len {w : World} {v : Value} {K : List Bool} (h : BoolsAt w v K) : ∃ a c, v = .slice a K.length c := by
  rcases h with ⟨⟨a, c, rfl⟩, rfl⟩ | ⟨b, o, cap, rfl, _⟩
  · exact ⟨a, c, rfl⟩
  · exact ⟨_, _, rfl⟩

set_option maxRecDepth 20000 in
theorem newTerm_on (D : Nat) (tm : Int) (w : World) (h5 : w.cell? ⟨D, 5, none⟩ = some (.int .i64 tm)) (hf : w.frozen? ⟨D, 5, none⟩ = false) (hv : IntKind.i64.wrap (tm + 1) = tm + 1) :
    Calls Tryz.prog 173 #[.pointer (some ⟨D, 0, none⟩)] w fun e w' => e = .returned (.tuple #[]) ∧ w' = w.setCell ⟨D, 5, none⟩ (.int .i64 (tm + 1)) := by
  go_enter Tryz.func173, Tryz.ntmps173
  go_wp2
  go_end0
  exact ⟨rfl, rfl⟩

set_option maxRecDepth 20000 in
set_option maxHeartbeats 2000000 in
theorem crash_any (lo D E : Nat) (pv : Value) (s : DSt) (kv : Value) (K : List Bool) (w : World) (h : DAt lo D E pv s w) (hK : BoolsAt w kv K) (hKL : K.length ≤ maxLen) (hKF : ∀ b o l c, kv = .slice (some ⟨b, o, none⟩) l c → 0 < l → b < w.heap.size ∧ ¬ DFoot D E pv b) (hw : 0 ≤ s.term) (hw2 : s.term < 9223372036854775807) :
    Calls Tryz.prog 102 #[.pointer (some ⟨D, 0, none⟩), kv] w fun e w' => e = .returned (.tuple #[]) ∧ DAt lo D E (.slice none 0 0) { s with trouble := 0, dur := keptJ s K s.pend.length, pend := [], term := s.term + 1 } w' ∧ Kept (DFoot D E pv) w w' := by
  obtain ⟨a, c, hpv⟩ := owns_len h.pending
  obtain ⟨ka, kc, hkv⟩ := hK.len
  have hm := h.ok.most
  have HOK := hideK h.ok
  subst hpv
  have c1 := h.c1
  have HD := hideK h
  have HKB := hideK hK
  have HKF := hideK hKF
  unfold maxLen at hKL
  subst hkv
  clear h hK hKF
  go_enter Tryz.func102, Tryz.ntmps102
  go_wp2
  clear c1
  go_loopw [11] (fun i wr => ∃ j : Nat, j ≤ s.pend.length ∧ i = .int .i64 j ∧ Hid (DAt lo D E (.slice a s.pend.length c) { s with dur := keptJ s K j } wr) ∧ Hid (Kept (DFoot D E (.slice a s.pend.length c)) w wr)) (fun i _ => s.pend.length - (intOf i).toNat)
  case atStart => exact ⟨0, Nat.zero_le _, rfl, HD.out, Kept.refl _ _⟩
  case round =>
    obtain ⟨j, hj, rfl, hd, hk⟩ := hrel
    by_cases hlt : j < s.pend.length
    · obtain ⟨p, hp⟩ : ∃ p, s.pend[j]? = some p := ⟨_, List.getElem?_eq_getElem hlt⟩
      obtain ⟨P, cap, hpv, hcap, hPlt, hrow⟩ := hd.out.row (Nat.lt_of_le_of_lt (Nat.zero_le _) hlt)
      simp only [Value.slice.injEq] at hpv
      obtain ⟨rfl, _, rfl⟩ := hpv
      have hpp := HOK.out.pen p (List.mem_of_getElem? hp)
      have HPP := hideK hpp.2
      have hpn : p.1 < s.n := hpp.1
      have hn8 := HOK.out.hi
      have l1 := range_cellsAt (penC p) 33 wr P (j * 33) (pen33 hpp.2) (hrow j p hp)
      have HLJ := hideK (keptJ_succ s K j p hp)
      have hag : ∀ cc : Array Value, cc.size = 33 → StoreOk (wr.alloc (.cells cc 241)) 33 (.pointer (some ⟨wr.heap.size, 0, none⟩)) (.agg (penC p).toArray) := fun cc hcc => ⟨_, _, _, rfl, rfl, pen33 HPP.out, penC_one p, there_new wr cc _ 33 hcc⟩
      have hsn : ∀ cc : Array Value, cc.size = 33 → (wr.alloc (.cells cc 241)).setCells wr.heap.size 0 (penC p) = wr.alloc (.cells (penC p).toArray 241) := fun cc hcc => setCells_new wr cc _ _ (by rw [hcc, pen33 HPP.out])
      have hbV : Below wr.heap.size wr (wr.alloc (.cells (penC p).toArray 241)) := (Below.refl _ _).alloc (Nat.le_refl _) _
      have hnew : (wr.alloc (.cells (penC p).toArray 241)).heap[wr.heap.size]? = some (.cells (penC p).toArray 241 (0, 0)) := heap_alloc_new wr _
      have HDV := hideK (hd.out.below hbV)
      have HKV := hideK (hk.out.after hbV)
      have HNEW := hideK hnew
      clear hrow hpp hbV hnew
      by_cases hjk : j < K.length
      · obtain ⟨x, hx⟩ : ∃ x, K[j]? = some x := ⟨_, List.getElem?_eq_getElem hjk⟩
        obtain ⟨kb, ko, hka, hkcap, hcell⟩ : ∃ kb ko, ka = some ⟨kb, ko, none⟩ ∧ K.length ≤ kc ∧ (wr.alloc (.cells (penC p).toArray 241)).cell? ⟨kb, ko + j, none⟩ = some (.bool x) := by
          rcases HKB.out with ⟨e, e2⟩ | ⟨b, o, cp, e, hc2, hcl⟩
          · rw [e2] at hjk; simp at hjk
          · simp only [Value.slice.injEq] at e
            obtain ⟨e1, _, e3⟩ := e
            have hf := HKF.out b o _ _ (by rw [e1]) (Nat.lt_of_le_of_lt (Nat.zero_le _) hjk)
            refine ⟨b, o, e1, by rw [e3]; exact hc2, ?_⟩
            exact (HKV.out.cell (p := ⟨b, o + j, none⟩) hf.1 hf.2).trans (hcl j x hx)
        subst hka
        have HKX : Hid (K.getD j false = x) := by show _ = _; rw [List.getD_eq_getElem?_getD, hx]; rfl
        rw [HKX.out] at HLJ
        generalize hV : wr.alloc (.cells (penC p).toArray 241) = V at *
        cases x
        · rw [if_neg (by decide)] at HLJ
          go_wp2
          go_roundw
          case rel => exact ⟨j + 1, by omega, by go_num, by show DAt _ _ _ _ _ _; rw [HLJ.out]; exact HDV.out, HKV.out⟩
          case measure => simp [intOf]; omega
        · rw [if_pos rfl] at HLJ
          go_wp2_with fail
          clear hag hsn l1
          have d0 := HDV.out.c0
          have b0 : V.cell? ⟨wr.heap.size, 0, none⟩ = some (.int .i64 ((p.1 : Nat) : Int)) := cellOf HNEW.out rfl
          have l2 : cellsAt V.drew wr.heap.size 1 32 = some (cellsB p.2) := range_cellsAt _ _ _ _ _ (cells32 HPP.out) (fun q v hv => by
            refine cellOf (w := V) HNEW.out ?_
            rw [show 1 + q = q + 1 by omega, penC, List.getElem?_cons_succ]
            exact hv)
          have so : StoreOk V.drew 32 (.pointer (some ⟨E, p.1 * 32, none⟩)) (.agg (cellsB p.2).toArray) := ⟨_, _, _, rfl, rfl, cells32 HPP.out, cellsB_one _, HDV.out.drew.thereE p.1 hpn⟩
          have q0 : (0 : Int) ≤ (p.1 : Int) := by omega
          have q1 : (p.1 : Int) < (s.n : Int) := by omega
          clear hV hcell
          go_region_law (fail)
          all_goals
            go_wp2
            go_roundw
            case rel =>
              refine ⟨j + 1, by omega, by go_num, ?_, ?_⟩
              · have := HDV.out.drew.stored p.1 p.2 hpn HPP.out
                show DAt _ _ _ _ _ _
                rw [HLJ.out]
                exact this
              · exact HKV.out.drew.setCells (.inl (.inr (.inl rfl))) _ _
            case measure => simp [intOf]; omega
      · have HKX : Hid (K.getD j false = false) := by show _ = _; rw [List.getD_eq_getElem?_getD, List.getElem?_eq_none (by omega)]; rfl
        rw [HKX.out, if_neg (by decide)] at HLJ
        generalize hV : wr.alloc (.cells (penC p).toArray 241) = V at *
        go_wp2
        go_roundw
        case rel => exact ⟨j + 1, by omega, by go_num, by show DAt _ _ _ _ _ _; rw [HLJ.out]; exact HDV.out, HKV.out⟩
        case measure => simp [intOf]; omega
    · obtain rfl : j = s.pend.length := by omega
      have d1 := hd.out.c1
      have d4 := hd.out.c4
      have d5 := hd.out.c5
      have df := hd.out.free
      have HX := hideK ((hd.out.clear.setTrouble 0 (by omega) (by omega)).setTerm (s.term + 1))
      have HKX := hideK (((hk.out.setCell (p := ⟨D, 1, none⟩) (.inl (.inl rfl)) (.slice none 0 0)).setCell (p := ⟨D, 4, none⟩) (.inl (.inl rfl)) (.int .i64 0)).setCell (p := ⟨D, 5, none⟩) (.inl (.inl rfl)) (.int .i64 (s.term + 1)))
      have e5 : ((wr.setCell ⟨D, 1, none⟩ (.slice none 0 0)).setCell ⟨D, 4, none⟩ (.int .i64 0)).cell? ⟨D, 5, none⟩ = some (.int .i64 s.term) := (World.cell?_setCell_other _ _ _ _ (by simp)).trans ((World.cell?_setCell_other _ _ _ _ (by simp)).trans d5)
      have f5 : ((wr.setCell ⟨D, 1, none⟩ (.slice none 0 0)).setCell ⟨D, 4, none⟩ (.int .i64 0)).frozen? ⟨D, 5, none⟩ = false := (hd.out.clear.setTrouble 0 (by omega) (by omega)).free 5
      have hv5 : IntKind.i64.wrap (s.term + 1) = s.term + 1 := by rw [IntKind.wrap_i64] <;> omega
      have HNT := hideK (newTerm_on D s.term ((wr.setCell ⟨D, 1, none⟩ (.slice none 0 0)).setCell ⟨D, 4, none⟩ (.int .i64 0)) e5 f5 hv5)
      clear e5 f5
      go_wp2_with fail
      refine HNT.out.mono ?_
      rintro e w9 ⟨rfl, hw9⟩
      obtain rfl := hw9
      go_wp2
      go_end0
      exact ⟨rfl, HX.out, HKX.out⟩
end Go.Proofs.YtgaoeoijdpdjiabGreatDoor

namespace Go.Proofs.YtgaoeoijdpdjiabGreatDoor
open Go.RowKit

/-- The table of turns lies where the program reads it. -/
def Tn (w : World) : Prop := Turns32 w ∧ Turns64 w ∧ 1 < w.heap.size
theorem Tn.below {w w' : World} {B : Nat} (h : Tn w) (hb : Below B w w') (hB : 1 < B) : Tn w' := by
  obtain ⟨h3, h6, hw⟩ := h
  have hs := hb.size
  exact ⟨fun i hi => (hb.cell (p := ⟨1, i, none⟩) hB).trans (h3 i hi), fun i hi => (hb.cell (p := ⟨1, i, none⟩) hB).trans (h6 i hi), by omega⟩
theorem Tn.pos {w : World} (h : Tn w) : 1 < w.heap.size := h.2.2
theorem Tn.on {w w' : World} (h : Tn w) (hb : Below w.heap.size w w') : Tn w' := h.below hb h.pos
theorem Tn.alloc {w : World} (h : Tn w) (o : Obj) : Tn (w.alloc o) := h.on ((Below.refl _ _).alloc (Nat.le_refl _) o)

/-- The digest of a text, for words of the kind k, of b bytes. -/
def hv (k b : Int) (s : ByteArray) : ByteArray := (digAns k b s).1

theorem of_hv (k b : Int) (s : ByteArray) (w : World) (hk : k = 1 ∨ k = 2) (h1 : 1 ≤ b) (h2 : b ≤ 16) (hs : s.size ≤ 400) (hT : Tn w) :
    Calls Tryz.prog 169 #[.int .i64 k, .int .i64 b, .string s] w fun e w' => e = .returned (.tuple #[.string (hv k b s), .int .i64 0]) ∧ Below w.heap.size w w' := by
  refine (of_ans k b s w hT.1 hT.2.1 hT.2.2).mono ?_
  rintro e w' ⟨rfl, hb⟩
  refine ⟨?_, hb⟩
  have : (digAns k b s).2 = 0 := by
    unfold digAns
    rcases hk with rfl | rfl <;> simp [h1, h2, hs]
  rw [this]; rfl
theorem hv_size (k b : Int) (s : ByteArray) (hk : k = 1 ∨ k = 2) (h1 : 1 ≤ b) (h2 : b ≤ 16) (hs : s.size ≤ 400) : ((hv k b s).size : Int) = b := by
  unfold hv digAns
  have h3 := whole32_size s
  have h6 := whole64_size s
  rcases hk with rfl | rfl <;> simp [h1, h2, hs, ByteArray.size_extract, h3, h6] <;> omega

set_option maxHeartbeats 1000000 in
theorem value_any (k b x t l tag : Int) (bk o c : Nat) (xs : List ByteArray) (w : World) (hcells : ∀ (j : Nat) y, xs[j]? = some y → w.cell? ⟨bk, o + j, none⟩ = some (.string y)) (hbk : bk < w.heap.size) (hcap : xs.length ≤ c) (hN : xs.length ≤ 1000)
    (hk : k = 1 ∨ k = 2) (h1 : 1 ≤ b) (h2 : b ≤ 16) (hs : (cat xs).size ≤ 399) (hT : Tn w) :
    Calls Tryz.prog 248 #[.agg #[.int .i64 k, .int .i64 b, .int .i64 x, .int .i64 t, .int .i64 l], .int .i64 tag, .slice (some ⟨bk, o, none⟩) xs.length c] w fun e w' => e = .returned (.string (hv k b (numB 1 tag ++ cat xs))) ∧ Below w.heap.size w w' := by
  have HN := hide (fun w' : World => number_any 1 tag w' (by decide))
  have HJ := hide (fun (w' : World) (hb : Below (w.heap.size + 1) (w.alloc (.cells #[.int .i64 k, .int .i64 b, .int .i64 x, .int .i64 t, .int .i64 l] 26)) w') => join_any bk o c xs w' (fun j y h => (hb.cell (p := ⟨bk, o + j, none⟩) (by show bk < w.heap.size + 1; omega)).trans ((World.cell?_alloc_past _ _ _ hbk).trans (hcells j y h))) (by have := hb.size; simp at this; omega) hN hcap (by omega))
  have HO := hide (fun (w' : World) (hb : Below (w.heap.size + 1) (w.alloc (.cells #[.int .i64 k, .int .i64 b, .int .i64 x, .int .i64 t, .int .i64 l] 26)) w') => of_hv k b (numB 1 tag ++ cat xs) w' hk h1 h2 (by rw [ByteArray.size_append, numB_size]; omega) ((hT.alloc _).below hb (by omega)))
  clear hcells hT
  have hcc : ∀ w : World, (Op.stringOp .add (numB 1 tag) (cat xs)).run Tryz.prog w = .ok (.string (numB 1 tag ++ cat xs)) w := fun w => run_string_add w _ _ (by rw [numB_size]; omega) (by omega)
  go_enter Tryz.func248, Tryz.ntmps248
  go_wp2_with fail
  go_region_held3 (fun w' => w'.cell? ⟨w.heap.size, 0, none⟩ = some (.int .i64 k) ∧ w'.cell? ⟨w.heap.size, 1, none⟩ = some (.int .i64 b) ∧ Below (w.heap.size + 1) (w.alloc (.cells #[.int .i64 k, .int .i64 b, .int .i64 x, .int .i64 t, .int .i64 l] 26)) w') (first | exact hS3 | exact hS2 | exact hS1 | exact ⟨by simp [go_sem], by simp [go_sem], (Below.refl _ _).drew⟩) (first | (go_at_call 160; refine (HN.out _).mono ?_; rintro e w1 ⟨rfl, hb1⟩; have hS1 := held2 (by assumption) hb1 (by simp) (by simp) (by simp)) | (go_at_call 161; refine (HJ.out _ hS1.2.2).mono ?_; rintro e w2 ⟨rfl, hb2⟩; have hS2 := held2 hS1 hb2 (by simp) (by simp) (by simp)) | (go_at_call 169; refine (HO.out _ hS2.2.2).mono ?_; rintro e w3 ⟨rfl, hb3⟩; have hS3 := held2 hS2 hb3 (by simp) (by simp) (by simp)))
  go_wp2
  go_ret
  exact ⟨rfl, ((Below.refl _ _).alloc (Nat.le_refl _) _).trans (hS3.2.2.mono (by omega))⟩
end Go.Proofs.YtgaoeoijdpdjiabGreatDoor
