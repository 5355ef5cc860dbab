/-
  The last record of a key among those that were found. A record that is found. A signer does not begin: a step refuses.
-/
import Derived.Test.YtgaoeoijdpdjiabGreatDoorPart6
import Derived.Test.YtgaoeoijdpdjiabGreatDoorPart34
import Derived.Deep.AppendLies
import Derived.Deep.RegionLaw
namespace Go.Proofs.YtgaoeoijdpdjiabGreatDoor
open Go.RowKit
/-- A record. -/
structure Rec where
  q : Int
  b : Int
  d : ByteArray
def laterR (r l : Rec) : Bool := decide (l.q < r.q ∨ r.q = l.q ∧ l.b < r.b)
def takeR (id : ByteArray) (tot : Int) (l r : Rec) : Rec := if r.d = id ∧ r.b ≤ tot ∧ laterR r l = true then r else l
def takeJ (id : ByteArray) (tot : Int) (l : Rec) (L : List Rec) (j : Nat) : Rec := (L.take j).foldl (takeR id tot) l
theorem takeJ_succ (id : ByteArray) (tot : Int) (l : Rec) (L : List Rec) (j : Nat) (r : Rec) (h : L[j]? = some r) : takeJ id tot l L (j + 1) = takeR id tot (takeJ id tot l L j) r := by
  obtain ⟨hj, rfl⟩ := List.getElem?_eq_some_iff.1 h
  rw [takeJ, List.take_succ_eq_append_getElem hj, List.foldl_append]
  rfl
set_option maxRecDepth 20000 in
theorem later_any (r l : Rec) (w : World) : Calls Tryz.prog 252 #[.agg #[.int .i64 r.q, .int .i64 r.b, .string r.d], .agg #[.int .i64 l.q, .int .i64 l.b, .string l.d]] w fun e w' => e = .returned (.bool (laterR r l)) ∧ Below w.heap.size w w' := by
  obtain ⟨rq, rb, rd⟩ := r
  obtain ⟨lq, lb, ld⟩ := l
  unfold laterR
  dsimp only
  by_cases h1 : lq < rq
  · rw [decide_eq_true (.inl h1)]
    go_enter Tryz.func252, Tryz.ntmps252
    go_wp2
    go_ret
    exact ⟨rfl, ((Below.refl _ _).alloc (Nat.le_refl _) _).alloc (by simp) _⟩
  · by_cases h2 : rq = lq
    · by_cases h3 : lb < rb
      · rw [decide_eq_true (.inr ⟨h2, h3⟩)]
        have e2 : (rq == lq) = true := by simpa using h2
        clear h2
        go_enter Tryz.func252, Tryz.ntmps252
        go_wp2
        go_ret
        exact ⟨rfl, ((Below.refl _ _).alloc (Nat.le_refl _) _).alloc (by simp) _⟩
      · rw [decide_eq_false (by omega)]
        have e2 : (rq == lq) = true := by simpa using h2
        clear h2
        go_enter Tryz.func252, Tryz.ntmps252
        go_wp2
        go_ret
        exact ⟨rfl, ((Below.refl _ _).alloc (Nat.le_refl _) _).alloc (by simp) _⟩
    · rw [decide_eq_false (by omega)]
      have e2 : (rq == lq) = false := by simpa using h2
      clear h2
      go_enter Tryz.func252, Tryz.ntmps252
      go_wp2
      go_ret
      exact ⟨rfl, ((Below.refl _ _).alloc (Nat.le_refl _) _).alloc (by simp) _⟩
/-- Behind so many of them. -/
def TR (D O _FB : Nat) (id : ByteArray) (tot : Int) (n : Nat) (a : Option Addr) (c : Nat) (L : List Rec) (j : Nat) (w V : World) : Prop :=
  Blk V O (opC D id tot (.slice a n c) (takeJ id tot ⟨0, 0, ⟨#[]⟩⟩ L j).q (takeJ id tot ⟨0, 0, ⟨#[]⟩⟩ L j).b (takeJ id tot ⟨0, 0, ⟨#[]⟩⟩ L j).d) 246 ∧ Kept (fun k => k = O) w V
set_option maxRecDepth 20000 in
set_option maxHeartbeats 8000000 in
theorem takeLast_any (D O FB : Nat) (id : ByteArray) (tot : Int) (n c : Nat) (L : List Rec) (w : World) (hn : L.length = n) (hn2 : n ≤ 100) (hO : Blk w O (opC D id tot (.slice (some ⟨FB, 0, none⟩) n c) 0 0 ⟨#[]⟩) 246) (hFB : FB < w.heap.size) (hFO : FB ≠ O)
    (hL : ∀ (j : Nat) (r : Rec), L[j]? = some r → w.cell? ⟨FB, j * 3, none⟩ = some (.int .i64 r.q) ∧ w.cell? ⟨FB, j * 3 + 1, none⟩ = some (.int .i64 r.b) ∧ w.cell? ⟨FB, j * 3 + 2, none⟩ = some (.string r.d)) :
    Calls Tryz.prog 172 #[.pointer (some ⟨O, 0, none⟩)] w fun e w' => (e = .returned (.int .i64 8) ∧ (takeJ id tot ⟨0, 0, ⟨#[]⟩⟩ L n).q = 0 ∨ e = .returned (.int .i64 0) ∧ (takeJ id tot ⟨0, 0, ⟨#[]⟩⟩ L n).q ≠ 0) ∧ TR D O FB id tot n (some ⟨FB, 0, none⟩) c L n w w' := by
  have HL := hide hL
  have HN := hide hn
  have HFB := hide hFB
  have HFO := hide hFO
  have HOL := hide hO.lt
  have HT0 : Hid (TR D O FB id tot n (some ⟨FB, 0, none⟩) c L 0 w w) := ⟨hO, Kept.refl _ _⟩
  have c3 : w.cell? ⟨O, 3, none⟩ = some (.slice (some ⟨FB, 0, none⟩) n c) := hO.cell 3
  obtain ⟨a, ha⟩ : ∃ a : Option Addr, a = some ⟨FB, 0, none⟩ := ⟨_, rfl⟩
  have HAE := hide ha
  rw [← ha] at HT0 c3 ⊢
  subst ha
  clear hL hn hFB hFO hO
  go_enter Tryz.func172, Tryz.ntmps172
  go_wp2_with fail
  clear c3
  go_loopw [10] (fun i wr => ∃ j : Nat, j ≤ n ∧ i = .int .i64 j ∧ Hid (TR D O FB id tot n (some ⟨FB, 0, none⟩) c L j w wr)) (fun i _ => n - (intOf i).toNat)
  case atStart => exact ⟨0, Nat.zero_le _, rfl, HT0.out⟩
  case round =>
    obtain ⟨j, hj, rfl, htr⟩ := hrel
    by_cases hlt : j < n
    · obtain ⟨r, hr⟩ : ∃ r, L[j]? = some r := ⟨_, List.getElem?_eq_getElem (by rw [HN.out]; exact hlt)⟩
      have HSU := hide (takeJ_succ id tot ⟨0, 0, ⟨#[]⟩⟩ L j r hr)
      obtain ⟨x0, x1, x2⟩ := HL.out j r hr
      have hkb := htr.out.2
      have g0 := (hkb.cell (p := ⟨FB, j * 3, none⟩) HFB.out HFO.out).trans x0
      have g1 := (hkb.cell (p := ⟨FB, j * 3 + 1, none⟩) HFB.out HFO.out).trans x1
      have g2 := (hkb.cell (p := ⟨FB, j * 3 + 2, none⟩) HFB.out HFO.out).trans x2
      have HKB := hide hkb
      have HOB := hide htr.out.1
      have HLA := hide (fun V : World => later_any r (takeJ id tot ⟨0, 0, ⟨#[]⟩⟩ L j) V)
      have HST : Hid (∀ l', l' = takeJ id tot ⟨0, 0, ⟨#[]⟩⟩ L (j + 1) → True) := fun _ _ => trivial
      obtain ⟨lst, hlst⟩ : ∃ lst, takeJ id tot ⟨0, 0, ⟨#[]⟩⟩ L j = lst := ⟨_, rfl⟩
      rw [hlst] at HOB HLA HSU
      have HAN := hide (fun (V : World) (h : Blk V O (opC D id tot (.slice (some ⟨FB, 0, none⟩) n c) (takeR id tot lst r).q (takeR id tot lst r).b (takeR id tot lst r).d) 246) (hk : Kept (fun k => k = O) w V) => (by
        unfold TR
        rw [HSU.out]
        exact ⟨h, hk⟩ : TR D O FB id tot n (some ⟨FB, 0, none⟩) c L (j + 1) w V))
      clear hlst x0 x1 x2 hkb htr HSU HST hr
      obtain ⟨rq, rb, rd⟩ := r
      obtain ⟨lq, lb, ld⟩ := lst
      dsimp only at g0 g1 g2 HOB HLA
      obtain ⟨W6, hW6⟩ : ∃ W6, wr.alloc (.cells #[.int .i64 rq, .int .i64 rb, .string rd] 186) = W6 := ⟨_, rfl⟩
      obtain ⟨RB, hRB⟩ : ∃ RB, wr.heap.size = RB := ⟨_, rfl⟩
      have HB6 := hide (show Below wr.heap.size wr W6 by rw [← hW6]; exact (Below.refl _ _).alloc (Nat.le_refl _) _)
      have HR6 := hide (show Blk W6 RB [.int .i64 rq, .int .i64 rb, .string rd] 186 by rw [← hW6, ← hRB]; exact Blk.new wr _ _)
      have HO6 := hide (HOB.out.on HB6.out)
      have HK6 := hide (HKB.out.after HB6.out)
      have HWE6 := hide hW6
      have HRE := hide hRB
      have HS := hide (fun (V : World) (h : Below W6.heap.size W6 V) => (by
        have q0 := HR6.out.on h
        have q1 := HO6.out.on h
        exact ⟨q0.cell 0, q0.cell 1, q0.cell 2, q1.cell 1, q1.cell 2, q1.cell 4, q1.cell 5, q1.cell 6⟩ : V.cell? ⟨RB, 0, none⟩ = some (.int .i64 rq) ∧ V.cell? ⟨RB, 1, none⟩ = some (.int .i64 rb) ∧ V.cell? ⟨RB, 2, none⟩ = some (.string rd) ∧ V.cell? ⟨O, 1, none⟩ = some (.string id) ∧ V.cell? ⟨O, 2, none⟩ = some (.int .i64 tot) ∧ V.cell? ⟨O, 4, none⟩ = some (.int .i64 lq) ∧ V.cell? ⟨O, 5, none⟩ = some (.int .i64 lb) ∧ V.cell? ⟨O, 6, none⟩ = some (.string ld)))
      clear hW6 hRB
      have hms : (j : Int) < (n : Int) := by omega
      go_wp2_with fail
      rw [HWE6.out, HRE.out]
      clear g0 g1 g2
      by_cases hid : rd = id
      · have e1 : (rd.toList == id.toList) = true := by rw [hid]; simp
        by_cases hbt : rb ≤ tot
        · by_cases hla : laterR ⟨rq, rb, rd⟩ ⟨lq, lb, ld⟩ = true
          · have HTK : Hid (takeR id tot ⟨lq, lb, ld⟩ ⟨rq, rb, rd⟩ = ⟨rq, rb, rd⟩) := by show _ = _; rw [takeR, if_pos ⟨hid, hbt, hla⟩]
            rw [hla] at HLA
            clear hid hla
            refine wp_region_held_drew (S := fun V => V.cell? ⟨RB, 0, none⟩ = some (.int .i64 rq) ∧ V.cell? ⟨RB, 1, none⟩ = some (.int .i64 rb) ∧ V.cell? ⟨RB, 2, none⟩ = some (.string rd) ∧ V.cell? ⟨O, 1, none⟩ = some (.string id) ∧ V.cell? ⟨O, 2, none⟩ = some (.int .i64 tot) ∧ V.cell? ⟨O, 4, none⟩ = some (.int .i64 lq) ∧ V.cell? ⟨O, 5, none⟩ = some (.int .i64 lb) ∧ V.cell? ⟨O, 6, none⟩ = some (.string ld)) (by kernel_rfl) (HS.out _ ((Below.refl W6.heap.size W6).drew)) (fun hHeld => ?_)
            refine tk 0 hHeld (h := ?_)
            refine tk 1 hHeld (h := ?_)
            refine tk 2 hHeld (h := ?_)
            refine tk 3 hHeld (h := ?_)
            refine tk 4 hHeld (h := ?_)
            refine tk 5 hHeld (h := ?_)
            refine tk 6 hHeld (h := ?_)
            refine tk 7 hHeld (h := ?_)
            refine tk 8 hHeld (h := ?_)
            refine tk 9 hHeld (h := ?_)
            refine tk 10 hHeld (h := ?_)
            refine tk 11 hHeld (h := ?_)
            refine tk 12 hHeld (h := ?_)
            refine tk 13 hHeld (h := ?_)
            refine tk 14 hHeld (h := ?_)
            refine tk 15 hHeld (h := ?_)
            refine tk 16 hHeld (h := ?_)
            refine tk 17 hHeld (h := ?_)
            refine tk 18 hHeld (h := ?_)
            refine tk 19 hHeld (h := ?_)
            refine tk 20 hHeld (h := ?_)
            refine tk 21 hHeld (h := ?_)
            refine wpAnyH_ready (rs := [22]) (by kernel_rfl) (by simp) ?_
            refine AllReadyH.cons (o := ?oa22) ?hoa22 (fun K hK => ?hsa22) AllReadyH.nil
            case hoa22 => (simp only [List.getElem?_toArray, List.getElem?_cons_succ, List.getElem?_cons_zero]; rfl)
            go_simp
            go_at_call 252
            refine (HLA.out _).mono ?_
            rintro e w7 ⟨rfl, hb7⟩
            have HB7 := hide (heldB (Below.refl W6.heap.size W6).drew hb7 (Nat.le_refl _))
            clear hb7
            try go_wp2_with fail
            refine hK.out _ _ (HS.out _ (HB7.out)) (fun hHeld => ?_)
            clear hK K
            try simp only [Act.put, List.setIfInBounds_toArray, List.set_cons_zero, List.set_cons_succ]
            refine tk 23 hHeld (h := ?_)
            refine wpAnyH_done (by kernel_rfl) ?_ _
            clear hHeld
            have HO7 := hide (HO6.out.on HB7.out)
            have HR7 := hide (HR6.out.on HB7.out)
            have y0 : w7.cell? ⟨RB, 0, none⟩ = some (.int .i64 rq) := HR7.out.cell 0
            have y1 : w7.cell? ⟨RB, 1, none⟩ = some (.int .i64 rb) := HR7.out.cell 1
            have y2 : w7.cell? ⟨RB, 2, none⟩ = some (.string rd) := HR7.out.cell 2
            have o4 : w7.cell? ⟨O, 4, none⟩ = some (.int .i64 lq) := HO7.out.cell 4
            have o5 : w7.cell? ⟨O, 5, none⟩ = some (.int .i64 lb) := HO7.out.cell 5
            have o6 : w7.cell? ⟨O, 6, none⟩ = some (.string ld) := HO7.out.cell 6
            have p4 := HO7.out.free 4
            have p5 := HO7.out.free 5
            have p6 := HO7.out.free 6
            have HW9 := hide (HAN.out (((w7.setCell ⟨O, 4, none⟩ (.int .i64 rq)).setCell ⟨O, 5, none⟩ (.int .i64 rb)).setCell ⟨O, 6, none⟩ (.string rd)) (by
              rw [HTK.out]
              exact ((HO7.out.set 4 (.int .i64 rq)).set 5 (.int .i64 rb)).set 6 (.string rd)) ((((HK6.out.after HB7.out).setCell (p := ⟨O, 4, none⟩) (.inl rfl) (.int .i64 rq)).setCell (p := ⟨O, 5, none⟩) (.inl rfl) (.int .i64 rb)).setCell (p := ⟨O, 6, none⟩) (.inl rfl) (.string rd)))
            go_wp2
            go_roundw
            case rel =>
              have RR : ∃ j' : Nat, j' ≤ n ∧ Value.int .i64 ((j : Int) + 1) = .int .i64 j' ∧ Hid (TR D O FB id tot n (some ⟨FB, 0, none⟩) c L j' w (((w7.setCell ⟨O, 4, none⟩ (.int .i64 rq)).setCell ⟨O, 5, none⟩ (.int .i64 rb)).setCell ⟨O, 6, none⟩ (.string rd))) := ⟨j + 1, by omega, by go_num, HW9.out⟩
              first | exact RR | ((repeat apply Exists.intro); exact ⟨RR, rfl⟩)
            case measure => simp [intOf]; omega
          · have HTK : Hid (takeR id tot ⟨lq, lb, ld⟩ ⟨rq, rb, rd⟩ = ⟨lq, lb, ld⟩) := by show _ = _; rw [takeR, if_neg (fun h => hla h.2.2)]
            rw [show laterR ⟨rq, rb, rd⟩ ⟨lq, lb, ld⟩ = false by simpa using hla] at HLA
            clear hid hla
            refine wp_region_held_drew (S := fun V => V.cell? ⟨RB, 0, none⟩ = some (.int .i64 rq) ∧ V.cell? ⟨RB, 1, none⟩ = some (.int .i64 rb) ∧ V.cell? ⟨RB, 2, none⟩ = some (.string rd) ∧ V.cell? ⟨O, 1, none⟩ = some (.string id) ∧ V.cell? ⟨O, 2, none⟩ = some (.int .i64 tot) ∧ V.cell? ⟨O, 4, none⟩ = some (.int .i64 lq) ∧ V.cell? ⟨O, 5, none⟩ = some (.int .i64 lb) ∧ V.cell? ⟨O, 6, none⟩ = some (.string ld)) (by kernel_rfl) (HS.out _ ((Below.refl W6.heap.size W6).drew)) (fun hHeld => ?_)
            refine tk 0 hHeld (h := ?_)
            refine tk 1 hHeld (h := ?_)
            refine tk 2 hHeld (h := ?_)
            refine tk 3 hHeld (h := ?_)
            refine tk 4 hHeld (h := ?_)
            refine tk 5 hHeld (h := ?_)
            refine tk 6 hHeld (h := ?_)
            refine tk 7 hHeld (h := ?_)
            refine tk 8 hHeld (h := ?_)
            refine tk 9 hHeld (h := ?_)
            refine tk 10 hHeld (h := ?_)
            refine tk 11 hHeld (h := ?_)
            refine tk 12 hHeld (h := ?_)
            refine tk 13 hHeld (h := ?_)
            refine tk 14 hHeld (h := ?_)
            refine tk 15 hHeld (h := ?_)
            refine tk 16 hHeld (h := ?_)
            refine tk 17 hHeld (h := ?_)
            refine tk 18 hHeld (h := ?_)
            refine tk 19 hHeld (h := ?_)
            refine tk 20 hHeld (h := ?_)
            refine tk 21 hHeld (h := ?_)
            refine wpAnyH_ready (rs := [22]) (by kernel_rfl) (by simp) ?_
            refine AllReadyH.cons (o := ?ob22) ?hob22 (fun K hK => ?hsb22) AllReadyH.nil
            case hob22 => (simp only [List.getElem?_toArray, List.getElem?_cons_succ, List.getElem?_cons_zero]; rfl)
            go_simp
            go_at_call 252
            refine (HLA.out _).mono ?_
            rintro e w7 ⟨rfl, hb7⟩
            have HB7 := hide (heldB (Below.refl W6.heap.size W6).drew hb7 (Nat.le_refl _))
            clear hb7
            try go_wp2_with fail
            refine hK.out _ _ (HS.out _ (HB7.out)) (fun hHeld => ?_)
            clear hK K
            try simp only [Act.put, List.setIfInBounds_toArray, List.set_cons_zero, List.set_cons_succ]
            refine tk 23 hHeld (h := ?_)
            refine wpAnyH_done (by kernel_rfl) ?_ _
            clear hHeld
            have HW9 := hide (HAN.out w7 (by rw [HTK.out]; exact HO6.out.on HB7.out) (HK6.out.after HB7.out))
            go_wp2
            go_roundw
            case rel =>
              have RR : ∃ j' : Nat, j' ≤ n ∧ Value.int .i64 ((j : Int) + 1) = .int .i64 j' ∧ Hid (TR D O FB id tot n (some ⟨FB, 0, none⟩) c L j' w w7) := ⟨j + 1, by omega, by go_num, HW9.out⟩
              first | exact RR | ((repeat apply Exists.intro); exact ⟨RR, rfl⟩)
            case measure => simp [intOf]; omega
        · have HTK : Hid (takeR id tot ⟨lq, lb, ld⟩ ⟨rq, rb, rd⟩ = ⟨lq, lb, ld⟩) := by show _ = _; rw [takeR, if_neg (fun h => hbt h.2.1)]
          have hbt2 : decide (rb ≤ tot) = false := decide_eq_false hbt
          clear hid hbt
          refine wp_region_held_drew (S := fun V => V.cell? ⟨RB, 0, none⟩ = some (.int .i64 rq) ∧ V.cell? ⟨RB, 1, none⟩ = some (.int .i64 rb) ∧ V.cell? ⟨RB, 2, none⟩ = some (.string rd) ∧ V.cell? ⟨O, 1, none⟩ = some (.string id) ∧ V.cell? ⟨O, 2, none⟩ = some (.int .i64 tot) ∧ V.cell? ⟨O, 4, none⟩ = some (.int .i64 lq) ∧ V.cell? ⟨O, 5, none⟩ = some (.int .i64 lb) ∧ V.cell? ⟨O, 6, none⟩ = some (.string ld)) (by kernel_rfl) (HS.out _ ((Below.refl W6.heap.size W6).drew)) (fun hHeld => ?_)
          refine tk 0 hHeld (h := ?_)
          refine tk 1 hHeld (h := ?_)
          refine tk 2 hHeld (h := ?_)
          refine tk 3 hHeld (h := ?_)
          refine tk 4 hHeld (h := ?_)
          refine tk 5 hHeld (h := ?_)
          refine tk 6 hHeld (h := ?_)
          refine tk 7 hHeld (h := ?_)
          refine tk 8 hHeld (h := ?_)
          refine tk 9 hHeld (h := ?_)
          refine tk 10 hHeld (h := ?_)
          refine tk 11 hHeld (h := ?_)
          refine tk 12 hHeld (h := ?_)
          refine tk 13 hHeld (h := ?_)
          refine tk 14 hHeld (h := ?_)
          refine tk 15 hHeld (h := ?_)
          refine tk 16 hHeld (h := ?_)
          refine sk 17 hHeld (h := ?_)
          refine sk 18 hHeld (h := ?_)
          refine sk 19 hHeld (h := ?_)
          refine sk 20 hHeld (h := ?_)
          refine sk 21 hHeld (h := ?_)
          refine sk 22 hHeld (h := ?_)
          refine tk 23 hHeld (h := ?_)
          refine wpAnyH_done (by kernel_rfl) ?_ _
          clear hHeld
          have HW9 := hide (HAN.out W6.drew (by rw [HTK.out]; exact HO6.out.on (Below.refl _ _).drew) (HK6.out.after (Below.refl _ _).drew))
          go_wp2
          go_roundw
          case rel =>
            have RR : ∃ j' : Nat, j' ≤ n ∧ Value.int .i64 ((j : Int) + 1) = .int .i64 j' ∧ Hid (TR D O FB id tot n (some ⟨FB, 0, none⟩) c L j' w W6.drew) := ⟨j + 1, by omega, by go_num, HW9.out⟩
            first | exact RR | ((repeat apply Exists.intro); exact ⟨RR, rfl⟩)
          case measure => simp [intOf]; omega
      · have e1 : (rd.toList == id.toList) = false := toList_ne hid
        have HTK : Hid (takeR id tot ⟨lq, lb, ld⟩ ⟨rq, rb, rd⟩ = ⟨lq, lb, ld⟩) := by show _ = _; rw [takeR, if_neg (fun h => hid h.1)]
        clear hid
        refine wp_region_held_drew (S := fun V => V.cell? ⟨RB, 0, none⟩ = some (.int .i64 rq) ∧ V.cell? ⟨RB, 1, none⟩ = some (.int .i64 rb) ∧ V.cell? ⟨RB, 2, none⟩ = some (.string rd) ∧ V.cell? ⟨O, 1, none⟩ = some (.string id) ∧ V.cell? ⟨O, 2, none⟩ = some (.int .i64 tot) ∧ V.cell? ⟨O, 4, none⟩ = some (.int .i64 lq) ∧ V.cell? ⟨O, 5, none⟩ = some (.int .i64 lb) ∧ V.cell? ⟨O, 6, none⟩ = some (.string ld)) (by kernel_rfl) (HS.out _ ((Below.refl W6.heap.size W6).drew)) (fun hHeld => ?_)
        refine tk 0 hHeld (h := ?_)
        refine tk 1 hHeld (h := ?_)
        refine tk 2 hHeld (h := ?_)
        refine tk 3 hHeld (h := ?_)
        refine tk 4 hHeld (h := ?_)
        refine tk 5 hHeld (h := ?_)
        refine tk 6 hHeld (h := ?_)
        refine tk 7 hHeld (h := ?_)
        refine sk 8 hHeld (h := ?_)
        refine sk 9 hHeld (h := ?_)
        refine sk 10 hHeld (h := ?_)
        refine sk 11 hHeld (h := ?_)
        refine sk 12 hHeld (h := ?_)
        refine sk 13 hHeld (h := ?_)
        refine sk 14 hHeld (h := ?_)
        refine tk 15 hHeld (h := ?_)
        refine tk 16 hHeld (h := ?_)
        refine sk 17 hHeld (h := ?_)
        refine sk 18 hHeld (h := ?_)
        refine sk 19 hHeld (h := ?_)
        refine sk 20 hHeld (h := ?_)
        refine sk 21 hHeld (h := ?_)
        refine sk 22 hHeld (h := ?_)
        refine tk 23 hHeld (h := ?_)
        refine wpAnyH_done (by kernel_rfl) ?_ _
        clear hHeld
        have HW9 := hide (HAN.out W6.drew (by rw [HTK.out]; exact HO6.out.on (Below.refl _ _).drew) (HK6.out.after (Below.refl _ _).drew))
        go_wp2
        go_roundw
        case rel =>
          have RR : ∃ j' : Nat, j' ≤ n ∧ Value.int .i64 ((j : Int) + 1) = .int .i64 j' ∧ Hid (TR D O FB id tot n (some ⟨FB, 0, none⟩) c L j' w W6.drew) := ⟨j + 1, by omega, by go_num, HW9.out⟩
          first | exact RR | ((repeat apply Exists.intro); exact ⟨RR, rfl⟩)
        case measure => simp [intOf]; omega
    · obtain rfl : j = n := by omega
      have HTT := hide htr.out
      have o4 : wr.cell? ⟨O, 4, none⟩ = some (.int .i64 (takeJ id tot ⟨0, 0, ⟨#[]⟩⟩ L j).q) := htr.out.1.cell 4
      clear htr hj hlt
      by_cases h0 : (takeJ id tot ⟨0, 0, ⟨#[]⟩⟩ L j).q = 0
      · have HE := hide h0
        rw [h0] at o4
        clear h0
        go_wp2
        go_ret
        exact ⟨.inl ⟨rfl, HE.out⟩, HTT.out⟩
      · have HE := hide h0
        have e0 : ((takeJ id tot ⟨0, 0, ⟨#[]⟩⟩ L j).q == 0) = false := by simpa using h0
        generalize (takeJ id tot ⟨0, 0, ⟨#[]⟩⟩ L j).q = zz at o4 e0
        clear h0
        go_wp2
        go_ret
        exact ⟨.inr ⟨rfl, HE.out⟩, HTT.out⟩
end Go.Proofs.YtgaoeoijdpdjiabGreatDoor

namespace Go.Proofs.YtgaoeoijdpdjiabGreatDoor
open Go.RowKit
theorem infoRec : (Tryz.prog.info? 186).map (fun i => (i.zero, i.size, i.bytes)) = some (some (.agg #[.int .i64 0, .int .i64 0, .string ⟨#[]⟩]), 3, 32) := by kernel_rfl
set_option maxRecDepth 20000 in
set_option maxHeartbeats 4000000 in
theorem oread_yes (Q : World → Prop) (lo O D n c : Nat) (a : Option Addr) (i tot lq lb : Int) (s id ld : ByteArray) (xs : List Value) (w : World) (h0 : w.cell? ⟨O, 0, none⟩ = some (.pointer (some ⟨D, 0, none⟩))) (hs : isRec s = true) (hn : n ≤ 100) (hno : (Value.slice a n c).ownBlock ≠ some O)
    (hQ : ∀ V, Q V → Blk V O (opC D id tot (.slice a n c) lq lb ld) 246 ∧ V.ownsRow lo 186 3 (.slice a n c) n xs ∧ lo ≤ V.heap.size)
    (hR : Calls Tryz.prog 103 #[.pointer (some ⟨D, 0, none⟩), .int .i64 i] w fun e w' => e = .returned (.tuple #[.string s, .int .i64 0]) ∧ Q w') :
    Calls Tryz.prog 182 #[.pointer (some ⟨O, 0, none⟩), .int .i64 i] w fun e w' => e = .returned (.int .i64 0) ∧ ∃ V g cap, Q V ∧ w'.ownsRow lo 186 3 (.slice (some ⟨g, 0, none⟩) (n + 1) cap) (n + 1) (xs ++ [.int .i64 (seqOf s), .int .i64 (boundOf s), .string (idOf s)]) ∧ Blk w' O (opC D id tot (.slice (some ⟨g, 0, none⟩) (n + 1) cap) lq lb ld) 246 ∧ Kept (fun k => k = O ∨ (Value.slice a n c).ownBlock = some k) V w' ∧ ((Value.slice a n c).ownBlock = some g ∨ V.heap.size ≤ g) := by
  have HR := hide hR
  have HU := hide (fun V : World => unseal_any s V)
  rw [unsV_yes hs] at HU
  have HQ := hide hQ
  have HNO := hide hno
  obtain ⟨i0, hi0, hz0, hz1, hz2⟩ := info_parts infoRec
  generalize seqOf s = rq at HU ⊢
  generalize boundOf s = rb at HU ⊢
  generalize idOf s = rd at HU ⊢
  clear hR hs hQ hno
  go_enter Tryz.func182, Tryz.ntmps182
  go_wp2_with fail
  refine HR.out.mono ?_
  rintro e w1 ⟨rfl, hq1⟩
  have HQ1 := hide hq1
  clear hq1
  go_wp2_with fail
  refine (HU.out _).mono ?_
  rintro e w2 ⟨rfl, hb2⟩
  obtain ⟨W2, hW2⟩ : ∃ W2, w2.alloc (.cells #[.int .i64 rq, .int .i64 rb, .string rd] 186) = W2 := ⟨_, rfl⟩
  obtain ⟨RB, hRB⟩ : ∃ RB, w2.heap.size = RB := ⟨_, rfl⟩
  have HB2 := hide (show Below w1.heap.size w1 W2 by rw [← hW2]; exact hb2.alloc hb2.size _)
  have HRB := hide (show Blk W2 RB [.int .i64 rq, .int .i64 rb, .string rd] 186 by rw [← hW2, ← hRB]; exact Blk.new w2 _ _)
  have HO2 := hide ((HQ.out _ HQ1.out).1.on HB2.out)
  have HW2 := hide (show W2.ownsRow lo 186 3 (.slice a n c) n xs from owns_kept (HQ.out _ HQ1.out).2.1 (Kept.of_below (F := fun _ => False) HB2.out) (fun _ _ h => h))
  have HLO := hide (Nat.le_trans (HQ.out _ HQ1.out).2.2 HB2.out.size)
  have HWE := hide hW2
  have HRE := hide hRB
  clear hb2 hW2 hRB h0
  go_wp2_with fail
  rw [HWE.out, HRE.out]
  have hOl := HO2.out.lt
  have HOL := hide hOl
  have c3 : W2.drew.cell? ⟨O, 3, none⟩ = some (.slice a n c) := HO2.out.cell 3
  have r0 : W2.drew.cell? ⟨RB, 0, none⟩ = some (.int .i64 rq) := HRB.out.cell 0
  have r1 : W2.drew.cell? ⟨RB, 1, none⟩ = some (.int .i64 rb) := HRB.out.cell 1
  have r2 : W2.drew.cell? ⟨RB, 2, none⟩ = some (.string rd) := HRB.out.cell 2
  have c3' : ∀ o, (W2.alloc o).cell? ⟨O, 3, none⟩ = some (.slice a n c) := fun o => (World.cell?_alloc_lt _ _ _ hOl).trans (HO2.out.cell 3)
  have N1 : Hid (n + 1 ≤ maxLen) := by show _ ≤ _; unfold maxLen; omega
  have N2 : Hid ((n + 1) * 32 ≤ 140737488355328) := by show _ ≤ _; omega
  have N3 : Hid (∀ o, lo ≤ (W2.alloc o).drew.heap.size) := fun o => by have h := HLO.out; show lo ≤ (W2.alloc o).heap.size; rw [World.size_alloc]; exact Nat.le_succ_of_le h
  have N4 : Hid (∀ o, (W2.alloc o).drew.heap.size = W2.heap.size + 1) := fun o => by show (W2.alloc o).heap.size = _; rw [World.size_alloc]
  have N5 : Hid (∀ o, O < (W2.alloc o).drew.heap.size) := fun o => by show O < (W2.alloc o).heap.size; rw [World.size_alloc]; exact Nat.lt_succ_of_lt HOL.out
  have N6 : Hid (∀ o, (W2.alloc o).drew.frozen? ⟨O, 3, none⟩ = false) := fun o => (World.frozen?_alloc_past (w := W2) o O 3 HOL.out).trans (HO2.out.free 3)
  have N8 : Hid (∀ u ∈ [Value.int .i64 rq, .int .i64 rb, .string rd], u.oneCell' = true) := by intro u hu; simp at hu; rcases hu with rfl | rfl | rfl <;> rfl
  have N10 : Hid (∀ o, (W2.alloc o).drew.ownsRow lo 186 3 (.slice a n c) n xs) := fun o => HW2.out.alloc o
  have HNW : Hid (∀ j u, [Value.int .i64 rq, .int .i64 rb, .string rd][j]? = some u → (W2.alloc (.cells (List.toArray [.int .i64 rq, .int .i64 rb, .string rd]) 186)).drew.cell? ((⟨W2.heap.size, 0, none⟩ : Addr).add j) = some u) := World.news_of_block (heap_alloc_new W2 _)
  clear hOl
  go_region_law ((refine step_append_lies _ (by rfl) (.tmp 32) (.tmp 34) 244 (by rfl) lo 186 i0 (.agg #[.int .i64 0, .int .i64 0, .string ⟨#[]⟩]) 3 32 Tryz.underlying244 hi0 hz0 hz1 hz2 (by rfl) (by decide) (.slice a n c) n xs (by rfl) (N10.out _) ⟨W2.heap.size, 0, none⟩ 1 1 [.int .i64 rq, .int .i64 rb, .string rd] (by rfl) (by rfl) HNW.out N8.out (by decide) N1.out N2.out (N3.out _) (W2.heap.size + 1) (N4.out _) ?_; intro g cap' w3 hown hgrow hat hlt; have e1 : w3.cell? ⟨O, 3, none⟩ = some (.slice a n c) := (hgrow.cell_far ⟨O, 3, none⟩ (N5.out _) (fun e => HNO.out e.symm)).trans (c3' _); have e2 : w3.frozen? ⟨O, 3, none⟩ = false := (hgrow.frozen_far ⟨O, 3, none⟩ (N5.out _) (fun e => HNO.out e.symm)).trans (N6.out _)))
  all_goals
    have gO : g ≠ O := by
      rcases hat with e | e
      · intro e2; subst e2; exact HNO.out e
      · have := HOL.out; omega
    have hgO := hgrow.block O (N5.out _) (fun e => HNO.out e.symm)
    have hB3 : Blk w3 O (opC D id tot (.slice a n c) lq lb ld) 246 := by
      unfold Blk
      rw [hgO]
      exact (HO2.out.alloc _ : Blk (W2.alloc _) O _ _)
    have HBF := hide (hB3.set 3 (.slice (some ⟨g, 0, none⟩) (n + 1) cap'))
    have HOF := hide (owns_kept hown (kept_set w3 ⟨O, 3, none⟩ (.slice (some ⟨g, 0, none⟩) (n + 1) cap')) (fun k e hk => by
      have e' : g = k := by simpa [Value.ownBlock] using e
      exact gO (e'.trans hk)))
    have HKF := hide (show Kept (fun k => k = O ∨ (Value.slice a n c).ownBlock = some k) w1 (w3.setCell ⟨O, 3, none⟩ (.slice (some ⟨g, 0, none⟩) (n + 1) cap')) by
      refine Kept.setCell ?_ (.inl (.inl rfl)) _
      refine Kept.grown (w := (W2.alloc _).drew) ?_ hgrow (fun k e => .inl (.inr e))
      exact ((Kept.of_below HB2.out).alloc _).drew)
    have HGF := hide (show (Value.slice a n c).ownBlock = some g ∨ w1.heap.size ≤ g by
      rcases hat with e | e
      · exact .inl e
      · have := HB2.out.size; exact .inr (by omega))
    clear hown hgrow hat hlt e1 e2 gO hgO hB3
    generalize World.setCell w3 { block := O, off := 3 } _ = W4 at *
    go_wp2
    go_ret
    exact ⟨rfl, w1, g, cap', HQ1.out, HOF.out, HBF.out, HKF.out, HGF.out⟩
end Go.Proofs.YtgaoeoijdpdjiabGreatDoor

namespace Go.Proofs.YtgaoeoijdpdjiabGreatDoor
open Go.RowKit
set_option maxRecDepth 20000 in
set_option maxHeartbeats 8000000 in
theorem begun_no (lo D : Nat) (st s2 : DSt) (F : Nat → Prop) (k b x t l : Int) (root pub sec rnd id : ByteArray) (tot bat c z0 z1 z2 z4 z5 : Int) (sv : Value) (w : World) (hD : DSk lo D st w F) (hn : 2 ≤ st.n) (hT : Tn w) (hTB : 1 < lo) (hlo : lo ≤ w.heap.size) (hb1 : 1 ≤ bat) (hb2 : bat ≤ 64) (ht0 : 0 ≤ st.term) (ht1 : st.term < 9223372036854775807) (hc : c ≠ 0)
    (hM : ∀ V : World, Calls Tryz.prog 155 #[.agg #[.int .i64 k, .int .i64 b, .int .i64 x, .int .i64 t, .int .i64 l]] V fun e w' => e = .returned (.tuple #[.agg #[.int .i64 z0, .int .i64 z1, .int .i64 z2, .int .i64 tot, .int .i64 z4, .int .i64 z5], .int .i64 0]) ∧ Below V.heap.size V w')
    (hOf : ∀ V : World, Tn V → Calls Tryz.prog 178 #[.agg #[.int .i64 k, .int .i64 b, .int .i64 x, .int .i64 t, .int .i64 l], .agg #[.string sec, .string rnd, .string pub]] V fun e w' => e = .returned (.tuple #[.agg #[.int .i64 k, .int .i64 b, .int .i64 x, .int .i64 t, .int .i64 l, .string root, .string pub], .int .i64 0]) ∧ Below V.heap.size V w')
    (hId : ∀ V : World, Tn V → Calls Tryz.prog 179 #[.agg #[.int .i64 k, .int .i64 b, .int .i64 x, .int .i64 t, .int .i64 l, .string root, .string pub]] V fun e w' => e = .returned (.string id) ∧ Below V.heap.size V w')
    (hDone : ∀ (V : World) (O : Nat) (F1 : Nat → Prop), DSk lo D { st with term := st.term + 1 } V F1 → Kept F w V → (∀ k, F1 k → F k ∨ w.heap.size ≤ k) → w.heap.size ≤ O → ¬ F1 O → Blk V O (opC D id tot (.slice none 0 0) 0 0 ⟨#[]⟩) 246 → Calls Tryz.prog 180 #[.pointer (some ⟨O, 0, none⟩), sv] V fun e w' => e = .returned (.int .i64 c) ∧ ∃ F2, DSk lo D s2 w' F2 ∧ Kept (fun k => k = O ∨ F1 k) V w' ∧ ∀ k, F2 k → F1 k ∨ V.heap.size ≤ k) :
    Calls Tryz.prog 106 #[.pointer (some ⟨D, 0, none⟩), .agg #[.int .i64 k, .int .i64 b, .int .i64 x, .int .i64 t, .int .i64 l], .agg #[.string sec, .string rnd, .string pub], .int .i64 bat, sv] w fun e w' => ∃ F', e = .returned (.tuple #[.pointer none, .int .i64 c]) ∧ DSk lo D s2 w' F' ∧ Kept F w w' ∧ ∀ k, F' k → F k ∨ w.heap.size ≤ k := by
  have hFlo : ∀ i, F i → lo ≤ i ∧ i < w.heap.size := hD.lt
  obtain ⟨W0, hW⟩ : ∃ W0, (w.alloc (.cells #[.int .i64 k, .int .i64 b, .int .i64 x, .int .i64 t, .int .i64 l] 26)).alloc (.cells #[.string sec, .string rnd, .string pub] 42) = W0 := ⟨_, rfl⟩
  have HB0 := hide (show Below w.heap.size w W0 by subst hW; exact ((Below.refl _ _).alloc (Nat.le_refl _) _).alloc (by simp) _)
  have HC := hide (show Blk W0 w.heap.size [.int .i64 k, .int .i64 b, .int .i64 x, .int .i64 t, .int .i64 l] 26 by rw [← hW]; exact (Blk.new w _ _).alloc _)
  have HE := hide (show Blk W0 (w.heap.size + 1) [.string sec, .string rnd, .string pub] 42 by
    rw [← hW]
    have h := Blk.new (w.alloc (.cells #[.int .i64 k, .int .i64 b, .int .i64 x, .int .i64 t, .int .i64 l] 26)) [.string sec, .string rnd, .string pub] 42
    simp only [World.size_alloc] at h
    exact h)
  have HM := hide hM
  have HOF := hide hOf
  have HID := hide hId
  have HDN := hide hDone
  have HBT := hide (fun V : World => batch_yes bat V hb1 hb2)
  obtain ⟨sa, hsa⟩ := hD.sectors
  have HSC := hide (fun (V : World) (h : Below w.heap.size w V) => sectors_on D sa st.n st.n V ((h.cell (p := ⟨D, 0, none⟩) hD.ltD).trans hsa))
  have hnn : (2 : Int) ≤ (st.n : Int) := by omega
  have HP := hide (And.intro hD (And.intro hT (And.intro hTB (And.intro hlo (And.intro ht0 (And.intro ht1 (And.intro hc hFlo)))))))
  have e8 : (c == 0) = false := by simpa using hc
  have e9 : (c != 0) = true := by simpa using hc
  have HWE := hide hW
  clear hW hM hOf hId hDone hb1 hb2 hsa hD hT hTB hlo ht0 ht1 hc hFlo hn
  go_enter Tryz.func106, Tryz.ntmps106
  go_wp2_with fail
  rw [HWE.out]
  refine (HM.out _).mono ?_
  rintro e w1 ⟨rfl, hb1⟩
  obtain ⟨W1, hW1⟩ : ∃ W1, w1.alloc (.cells #[.int .i64 z0, .int .i64 z1, .int .i64 z2, .int .i64 tot, .int .i64 z4, .int .i64 z5] 158) = W1 := ⟨_, rfl⟩
  have HB1 := hide (show Below W0.heap.size W0 W1 by rw [← hW1]; exact hb1.alloc hb1.size _)
  have HZ := hide (show Blk W1 w1.heap.size [.int .i64 z0, .int .i64 z1, .int .i64 z2, .int .i64 tot, .int .i64 z4, .int .i64 z5] 158 by rw [← hW1]; exact Blk.new w1 _ _)
  have HW1 := hide hW1
  have hZw := HB0.out.size
  have hZw1 := hb1.size
  obtain ⟨Z, hZ⟩ : ∃ Z, w1.heap.size = Z := ⟨_, rfl⟩
  rw [hZ] at HZ hZw1
  have HZE := hide hZ
  have HZW := hide (Nat.le_trans hZw hZw1)
  clear hb1 hW1 hZ hZw hZw1
  go_wp2_with fail
  rw [HW1.out]
  refine (HSC.out _ (HB0.out.trans (HB1.out.mono HB0.out.size))).mono ?_
  rintro e w2 ⟨rfl, hb2⟩
  have HB2 := hide hb2
  clear hb2
  go_wp2_with fail
  refine (HBT.out _).mono ?_
  rintro e w3 ⟨rfl, hb3⟩
  have HB3 := hide (heldB HB2.out hb3 (Nat.le_refl _))
  clear hb3
  have HB03 := hide (HB1.out.trans (HB3.out.mono HB1.out.size))
  have HC3 := hide (HC.out.on HB03.out)
  have HE3 := hide (HE.out.on HB03.out)
  have c0 : w3.cell? ⟨w.heap.size, 0, none⟩ = some (.int .i64 k) := HC3.out.cell 0
  have c1 : w3.cell? ⟨w.heap.size, 1, none⟩ = some (.int .i64 b) := HC3.out.cell 1
  have c2 : w3.cell? ⟨w.heap.size, 2, none⟩ = some (.int .i64 x) := HC3.out.cell 2
  have c3 : w3.cell? ⟨w.heap.size, 3, none⟩ = some (.int .i64 t) := HC3.out.cell 3
  have c4 : w3.cell? ⟨w.heap.size, 4, none⟩ = some (.int .i64 l) := HC3.out.cell 4
  have d0 : w3.cell? ⟨w.heap.size + 1, 0, none⟩ = some (.string sec) := HE3.out.cell 0
  have d1 : w3.cell? ⟨w.heap.size + 1, 1, none⟩ = some (.string rnd) := HE3.out.cell 1
  have d2 : w3.cell? ⟨w.heap.size + 1, 2, none⟩ = some (.string pub) := HE3.out.cell 2
  have HBw3 := hide (HB0.out.trans (HB03.out.mono HB0.out.size))
  have HT3 := hide (HP.out.2.1.on HBw3.out)
  go_wp2_with fail
  refine (HOF.out _ HT3.out).mono ?_
  rintro e w4 ⟨rfl, hb4⟩
  clear c0 c1 c2 c3 c4 d0 d1 d2
  obtain ⟨W4, hW4⟩ : ∃ W4, w4.alloc (.cells #[.int .i64 k, .int .i64 b, .int .i64 x, .int .i64 t, .int .i64 l, .string root, .string pub] 184) = W4 := ⟨_, rfl⟩
  have HB4 := hide (show Below w3.heap.size w3 W4 by rw [← hW4]; exact hb4.alloc hb4.size _)
  have HKK := hide (show Blk W4 w4.heap.size [.int .i64 k, .int .i64 b, .int .i64 x, .int .i64 t, .int .i64 l, .string root, .string pub] 184 by rw [← hW4]; exact Blk.new w4 _ _)
  obtain ⟨KB, hKB⟩ : ∃ KB, w4.heap.size = KB := ⟨_, rfl⟩
  have HKBW := hide (show w.heap.size ≤ KB by rw [← hKB]; exact Nat.le_trans HBw3.out.size hb4.size)
  rw [hKB] at HKK
  have HW4 := hide hW4
  have HKE := hide hKB
  clear hb4 hW4 hKB
  have HBw4 := hide (HBw3.out.trans (HB4.out.mono HBw3.out.size))
  have HE4 := hide (HE3.out.on HB4.out)
  have HZ4 := hide ((HZ.out.on HB3.out).on HB4.out)
  have HD4 := hide (HP.out.1.below HBw4.out)
  have HNT := hide (dterm_any lo D st F W4 HD4.out HP.out.2.2.2.2.1 HP.out.2.2.2.2.2.1)
  go_wp2_with fail
  rw [HW4.out]
  refine HNT.out.mono ?_
  rintro e w5 ⟨rfl, hl5⟩
  have hnF : ∀ g, w.heap.size ≤ g → ¬ F g := fun g hg h => by have := (HP.out.2.2.2.2.2.2.2 g h).2; omega
  have HE5 := hide (hl5.blk HE4.out (hnF _ (by omega)))
  have HZ5 := hide (hl5.blk HZ4.out (hnF _ HZW.out))
  have HK5 := hide (hl5.blk HKK.out (hnF _ HKBW.out))
  have HL5 := hide (hl5.of_below HBw4.out (fun i hi => (HP.out.2.2.2.2.2.2.2 i hi).2))
  have HNF := hide hnF
  have HL5W := hide hl5
  have HSZ := hide (And.intro HE4.out.lt (And.intro HZ4.out.lt HKK.out.lt))
  clear hl5 hnF
  have HBL5 := hide (show Below lo w w5 by
    obtain ⟨F1, _, k1, _⟩ := HL5.out
    exact k1.below (fun i hi => (HP.out.2.2.2.2.2.2.2 i hi).1) HP.out.2.2.2.1)
  have HT5 := hide (show Tn w5.drew from (HP.out.2.1.below HBL5.out HP.out.2.2.1).on (Below.refl _ w5).drew)
  have HS := hide (fun (V : World) (h : Below w5.heap.size w5 V) => (by
    have q1 := HK5.out.on h
    have q2 := HZ5.out.on h
    exact ⟨q1.cell 0, q1.cell 1, q1.cell 2, q1.cell 3, q1.cell 4, q1.cell 5, q1.cell 6, q2.cell 3⟩ : V.cell? ⟨KB, 0, none⟩ = some (.int .i64 k) ∧ V.cell? ⟨KB, 1, none⟩ = some (.int .i64 b) ∧ V.cell? ⟨KB, 2, none⟩ = some (.int .i64 x) ∧ V.cell? ⟨KB, 3, none⟩ = some (.int .i64 t) ∧ V.cell? ⟨KB, 4, none⟩ = some (.int .i64 l) ∧ V.cell? ⟨KB, 5, none⟩ = some (.string root) ∧ V.cell? ⟨KB, 6, none⟩ = some (.string pub) ∧ V.cell? ⟨Z, 3, none⟩ = some (.int .i64 tot)))
  go_wp2_with fail
  try rw [HKE.out]
  try rw [HZE.out]
  refine wp_region_held_drew (S := fun V => V.cell? ⟨KB, 0, none⟩ = some (.int .i64 k) ∧ V.cell? ⟨KB, 1, none⟩ = some (.int .i64 b) ∧ V.cell? ⟨KB, 2, none⟩ = some (.int .i64 x) ∧ V.cell? ⟨KB, 3, none⟩ = some (.int .i64 t) ∧ V.cell? ⟨KB, 4, none⟩ = some (.int .i64 l) ∧ V.cell? ⟨KB, 5, none⟩ = some (.string root) ∧ V.cell? ⟨KB, 6, none⟩ = some (.string pub) ∧ V.cell? ⟨Z, 3, none⟩ = some (.int .i64 tot)) (by kernel_rfl) (HS.out _ ((Below.refl w5.heap.size w5).drew)) (fun hHeld => ?_)
  refine tk 0 hHeld (h := ?_)
  refine tk 1 hHeld (h := ?_)
  refine tk 3 hHeld (h := ?_)
  refine tk 4 hHeld (h := ?_)
  refine wpAnyH_ready (rs := [2]) (by kernel_rfl) (by simp) ?_
  refine AllReadyH.cons (o := ?oa2) ?hoa2 (fun K hK => ?hsa2) AllReadyH.nil
  case hoa2 => (simp only [List.getElem?_toArray, List.getElem?_cons_succ, List.getElem?_cons_zero]; rfl)
  go_simp
  go_at_call 179
  refine (HID.out _ HT5.out).mono ?_
  rintro e w6 ⟨rfl, hb6⟩
  have HB6 := hide (heldB (Below.refl w5.heap.size w5).drew hb6 (Nat.le_refl _))
  clear hb6
  try go_wp2_with fail
  refine hK.out _ _ (HS.out _ (HB6.out)) (fun hHeld => ?_)
  clear hK K
  try simp only [Act.put, List.setIfInBounds_toArray, List.set_cons_zero, List.set_cons_succ]
  refine tk 5 hHeld (h := ?_)
  refine wpAnyH_ready (rs := [6]) (by kernel_rfl) (by simp) ?_
  refine AllReadyH.cons (o := ?oa6) ?hoa6 (fun K hK => ?hsa6) AllReadyH.nil
  case hoa6 => (simp only [List.getElem?_toArray, List.getElem?_cons_succ, List.getElem?_cons_zero]; rfl)
  go_simp
  refine hK.out _ _ (HS.out _ (HB6.out.alloc HB6.out.size _)) (fun hHeld => ?_)
  clear hK K
  try simp only [Act.put, List.setIfInBounds_toArray, List.set_cons_zero, List.set_cons_succ]
  refine tk 7 hHeld (h := ?_)
  refine wpAnyH_done (by kernel_rfl) ?_ _
  have HOB := hide (Blk.new w6 (opC D id tot (.slice none 0 0) 0 0 ⟨#[]⟩) 246)
  have HB7 := hide (HB6.out.alloc HB6.out.size (.cells (opC D id tot (.slice none 0 0) 0 0 ⟨#[]⟩).toArray 246))
  have HOW := hide (Nat.le_trans HBL5.out.size HB6.out.size)
  have HO5 := hide HB6.out.size
  simp only [opC] at HOB HB7
  clear hHeld
  generalize w6.alloc (.cells (List.toArray [.pointer (some ⟨D, 0, none⟩), .string id, .int .i64 tot, .slice none 0 0, .int .i64 0, .int .i64 0, .string ⟨#[]⟩]) 246) = W7 at HOB HB7 ⊢
  obtain ⟨O, hO⟩ : ∃ O, w6.heap.size = O := ⟨_, rfl⟩
  rw [hO] at HOB HOW HO5 ⊢
  clear hO
  obtain ⟨F1, HD1, HK1, HF1, HF4, HNO⟩ : ∃ F1, Hid (DSk lo D { st with term := st.term + 1 } W7 F1) ∧ Hid (Kept F w W7) ∧ Hid (∀ k, F1 k → F k ∨ w.heap.size ≤ k) ∧ Hid (∀ k, F1 k → F k ∨ W4.heap.size ≤ k) ∧ Hid (¬ F1 O) := by
    obtain ⟨F1, a, b, c⟩ := HL5W.out
    refine ⟨F1, a.below HB7.out, ((Kept.of_below (F := F) HBw4.out).trans b (fun i hi => .inl hi)).after HB7.out, fun k hk => ?_, c, fun h => by have := (a.lt O h).2; have := HO5.out; omega⟩
    rcases c k hk with h | h
    · exact .inl h
    · exact .inr (Nat.le_trans HBw4.out.size h)
  have HDC := hide (HDN.out W7 O F1 HD1.out HK1.out HF1.out HOW.out HNO.out HOB.out)
  have HE7 := hide (HE5.out.on HB7.out)
  have HZ7 := hide (HZ5.out.on HB7.out)
  have HK7 := hide (HK5.out.on HB7.out)
  have HW45 := hide (show W4.heap.size ≤ w5.heap.size by obtain ⟨_, _, b, _⟩ := HL5W.out; exact b.size)
  go_wp2_with fail
  refine HDC.out.mono ?_
  rintro e w8 ⟨rfl, F2, hd2, hk2, hf2⟩
  have HD8 := hide hd2
  have HX8 := hide (And.intro hk2 hf2)
  clear hd2 hk2 hf2
  go_wp2
  go_ret2
  have z7 := HK1.out.size
  refine ⟨F2, rfl, HD8.out, HK1.out.trans HX8.out.1 (fun i hi => ?_), fun i hi => ?_⟩
  · rcases hi with rfl | hi
    · exact .inr HOW.out
    · exact HF1.out i hi
  · rcases HX8.out.2 i hi with h | h
    · exact HF1.out i h
    · exact .inr (by omega)
end Go.Proofs.YtgaoeoijdpdjiabGreatDoor
