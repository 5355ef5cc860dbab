/-
  The last record of a key among those that were found. A signer begins, whatever was found. A signer does not begin: a step refuses. The steps of Make, where nothing fails and the disk bears no record.
-/
import Derived.Test.YtgaoeoijdpdjiabGreatDoorPart3
import Derived.Test.YtgaoeoijdpdjiabGreatDoorPart26
import Derived.Test.YtgaoeoijdpdjiabGreatDoorPart14
namespace Go.Proofs.YtgaoeoijdpdjiabGreatDoor
open Go.RowKit

/-- A record. -/
structure Rec where
  q : Int
  b : Int
  d : ByteArray
def laterR (r l : Rec) : Bool := decide (l.q < r.q ∨ r.q = l.q ∧ l.b < r.b)
def takeR (id : ByteArray) (tot : Int) (l r : Rec) : Rec := if r.d = id ∧ r.b ≤ tot ∧ laterR r l = true then r else l
def takeJ (id : ByteArray) (tot : Int) (l : Rec) (L : List Rec) (j : Nat) : Rec := (L.take j).foldl (takeR id tot) l
theorem takeJ_succ (id : ByteArray) (tot : Int) (l : Rec) (L : List Rec) (j : Nat) (r : Rec) (h : L[j]? = some r) : takeJ id tot l L (j + 1) = takeR id tot (takeJ id tot l L j) r := by
  obtain ⟨hj, rfl⟩ := List.getElem?_eq_some_iff.1 h
  rw [takeJ, List.take_succ_eq_append_getElem hj, List.foldl_append]
  rfl

set_option maxRecDepth 20000 in
theorem later_any (r l : Rec) (w : World) : Calls Tryz.prog 252 #[.agg #[.int .i64 r.q, .int .i64 r.b, .string r.d], .agg #[.int .i64 l.q, .int .i64 l.b, .string l.d]] w fun e w' => e = .returned (.bool (laterR r l)) ∧ Below w.heap.size w w' := by
  obtain ⟨rq, rb, rd⟩ := r
  obtain ⟨lq, lb, ld⟩ := l
  unfold laterR
  dsimp only
  by_cases h1 : lq < rq
  · rw [decide_eq_true (.inl h1)]
    go_enter Tryz.func252, Tryz.ntmps252
    go_wp2
    go_ret
    exact ⟨rfl, ((Below.refl _ _).alloc (Nat.le_refl _) _).alloc (by simp) _⟩
  · by_cases h2 : rq = lq
    · by_cases h3 : lb < rb
      · rw [decide_eq_true (.inr ⟨h2, h3⟩)]
        have e2 : (rq == lq) = true := by simpa using h2
        clear h2
        go_enter Tryz.func252, Tryz.ntmps252
        go_wp2
        go_ret
        exact ⟨rfl, ((Below.refl _ _).alloc (Nat.le_refl _) _).alloc (by simp) _⟩
      · rw [decide_eq_false (by omega)]
        have e2 : (rq == lq) = true := by simpa using h2
        clear h2
        go_enter Tryz.func252, Tryz.ntmps252
        go_wp2
        go_ret
        exact ⟨rfl, ((Below.refl _ _).alloc (Nat.le_refl _) _).alloc (by simp) _⟩
    · rw [decide_eq_false (by omega)]
      have e2 : (rq == lq) = false := by simpa using h2
      clear h2
      go_enter Tryz.func252, Tryz.ntmps252
      go_wp2
      go_ret
      exact ⟨rfl, ((Below.refl _ _).alloc (Nat.le_refl _) _).alloc (by simp) _⟩

/-- Behind so many of them. -/
def TR (D O _FB : Nat) (id : ByteArray) (tot : Int) (n : Nat) (a : Option Addr) (c : Nat) (L : List Rec) (j : Nat) (w V : World) : Prop :=
  Blk V O (opC D id tot (.slice a n c) (takeJ id tot ⟨0, 0, ⟨#[]⟩⟩ L j).q (takeJ id tot ⟨0, 0, ⟨#[]⟩⟩ L j).b (takeJ id tot ⟨0, 0, ⟨#[]⟩⟩ L j).d) 246 ∧ Kept (fun k => k = O) w V

set_option maxRecDepth 20000 in
set_option maxHeartbeats 8000000 in
theorem takeLast_any (D O FB : Nat) (id : ByteArray) (tot : Int) (n c : Nat) (L : List Rec) (w : World) (hn : L.length = n) (hn2 : n ≤ 100) (hO : Blk w O (opC D id tot (.slice (some ⟨FB, 0, none⟩) n c) 0 0 ⟨#[]⟩) 246) (hFB : FB < w.heap.size) (hFO : FB ≠ O)
    (hL : ∀ (j : Nat) (r : Rec), L[j]? = some r → w.cell? ⟨FB, j * 3, none⟩ = some (.int .i64 r.q) ∧ w.cell? ⟨FB, j * 3 + 1, none⟩ = some (.int .i64 r.b) ∧ w.cell? ⟨FB, j * 3 + 2, none⟩ = some (.string r.d)) :
    Calls Tryz.prog 172 #[.pointer (some ⟨O, 0, none⟩)] w fun e w' => (e = .returned (.int .i64 8) ∧ (takeJ id tot ⟨0, 0, ⟨#[]⟩⟩ L n).q = 0 ∨ e = .returned (.int .i64 0) ∧ (takeJ id tot ⟨0, 0, ⟨#[]⟩⟩ L n).q ≠ 0) ∧ TR D O FB id tot n (some ⟨FB, 0, none⟩) c L n w w' := by
  have HL := hide hL
  have HN := hide hn
  have HFB := hide hFB
  have HFO := hide hFO
  have HOL := hide hO.lt
  have HT0 : Hid (TR D O FB id tot n (some ⟨FB, 0, none⟩) c L 0 w w) := ⟨hO, Kept.refl _ _⟩
  have c3 : w.cell? ⟨O, 3, none⟩ = some (.slice (some ⟨FB, 0, none⟩) n c) := hO.cell 3
  obtain ⟨a, ha⟩ : ∃ a : Option Addr, a = some ⟨FB, 0, none⟩ := ⟨_, rfl⟩
  have HAE := hide ha
  rw [← ha] at HT0 c3 ⊢
  subst ha
  clear hL hn hFB hFO hO
  go_enter Tryz.func172, Tryz.ntmps172
  go_wp2_with fail
  clear c3
  go_loopw [10] (fun i wr => ∃ j : Nat, j ≤ n ∧ i = .int .i64 j ∧ Hid (TR D O FB id tot n (some ⟨FB, 0, none⟩) c L j w wr)) (fun i _ => n - (intOf i).toNat)
  case atStart => exact ⟨0, Nat.zero_le _, rfl, HT0.out⟩
  case round =>
    obtain ⟨j, hj, rfl, htr⟩ := hrel
    by_cases hlt : j < n
    · obtain ⟨r, hr⟩ : ∃ r, L[j]? = some r := ⟨_, List.getElem?_eq_getElem (by rw [HN.out]; exact hlt)⟩
      have HSU := hide (takeJ_succ id tot ⟨0, 0, ⟨#[]⟩⟩ L j r hr)
      obtain ⟨x0, x1, x2⟩ := HL.out j r hr
      have hkb := htr.out.2
      have g0 := (hkb.cell (p := ⟨FB, j * 3, none⟩) HFB.out HFO.out).trans x0
      have g1 := (hkb.cell (p := ⟨FB, j * 3 + 1, none⟩) HFB.out HFO.out).trans x1
      have g2 := (hkb.cell (p := ⟨FB, j * 3 + 2, none⟩) HFB.out HFO.out).trans x2
      have HKB := hide hkb
      have HOB := hide htr.out.1
      have HLA := hide (fun V : World => later_any r (takeJ id tot ⟨0, 0, ⟨#[]⟩⟩ L j) V)
      have HST : Hid (∀ l', l' = takeJ id tot ⟨0, 0, ⟨#[]⟩⟩ L (j + 1) → True) := fun _ _ => trivial
      obtain ⟨lst, hlst⟩ : ∃ lst, takeJ id tot ⟨0, 0, ⟨#[]⟩⟩ L j = lst := ⟨_, rfl⟩
      rw [hlst] at HOB HLA HSU
      have HAN := hide (fun (V : World) (h : Blk V O (opC D id tot (.slice (some ⟨FB, 0, none⟩) n c) (takeR id tot lst r).q (takeR id tot lst r).b (takeR id tot lst r).d) 246) (hk : Kept (fun k => k = O) w V) => (by
        unfold TR
        rw [HSU.out]
        exact ⟨h, hk⟩ : TR D O FB id tot n (some ⟨FB, 0, none⟩) c L (j + 1) w V))
      clear hlst x0 x1 x2 hkb htr HSU HST hr
      obtain ⟨rq, rb, rd⟩ := r
      obtain ⟨lq, lb, ld⟩ := lst
      dsimp only at g0 g1 g2 HOB HLA
      obtain ⟨W6, hW6⟩ : ∃ W6, wr.alloc (.cells #[.int .i64 rq, .int .i64 rb, .string rd] 186) = W6 := ⟨_, rfl⟩
      obtain ⟨RB, hRB⟩ : ∃ RB, wr.heap.size = RB := ⟨_, rfl⟩
      have HB6 := hide (show Below wr.heap.size wr W6 by rw [← hW6]; exact (Below.refl _ _).alloc (Nat.le_refl _) _)
      have HR6 := hide (show Blk W6 RB [.int .i64 rq, .int .i64 rb, .string rd] 186 by rw [← hW6, ← hRB]; exact Blk.new wr _ _)
      have HO6 := hide (HOB.out.on HB6.out)
      have HK6 := hide (HKB.out.after HB6.out)
      have HWE6 := hide hW6
      have HRE := hide hRB
      have HS := hide (fun (V : World) (h : Below W6.heap.size W6 V) => (by
        have q0 := HR6.out.on h
        have q1 := HO6.out.on h
        exact ⟨q0.cell 0, q0.cell 1, q0.cell 2, q1.cell 1, q1.cell 2, q1.cell 4, q1.cell 5, q1.cell 6⟩ : V.cell? ⟨RB, 0, none⟩ = some (.int .i64 rq) ∧ V.cell? ⟨RB, 1, none⟩ = some (.int .i64 rb) ∧ V.cell? ⟨RB, 2, none⟩ = some (.string rd) ∧ V.cell? ⟨O, 1, none⟩ = some (.string id) ∧ V.cell? ⟨O, 2, none⟩ = some (.int .i64 tot) ∧ V.cell? ⟨O, 4, none⟩ = some (.int .i64 lq) ∧ V.cell? ⟨O, 5, none⟩ = some (.int .i64 lb) ∧ V.cell? ⟨O, 6, none⟩ = some (.string ld)))
      clear hW6 hRB
      have hms : (j : Int) < (n : Int) := by omega
      go_wp2_with fail
      rw [HWE6.out, HRE.out]
      clear g0 g1 g2
      by_cases hid : rd = id
      · have e1 : (rd.toList == id.toList) = true := by rw [hid]; simp
        by_cases hbt : rb ≤ tot
        · by_cases hla : laterR ⟨rq, rb, rd⟩ ⟨lq, lb, ld⟩ = true
          · have HTK : Hid (takeR id tot ⟨lq, lb, ld⟩ ⟨rq, rb, rd⟩ = ⟨rq, rb, rd⟩) := by show _ = _; rw [takeR, if_pos ⟨hid, hbt, hla⟩]
            rw [hla] at HLA
            clear hid hla
            refine wp_region_held_drew (S := fun V => V.cell? ⟨RB, 0, none⟩ = some (.int .i64 rq) ∧ V.cell? ⟨RB, 1, none⟩ = some (.int .i64 rb) ∧ V.cell? ⟨RB, 2, none⟩ = some (.string rd) ∧ V.cell? ⟨O, 1, none⟩ = some (.string id) ∧ V.cell? ⟨O, 2, none⟩ = some (.int .i64 tot) ∧ V.cell? ⟨O, 4, none⟩ = some (.int .i64 lq) ∧ V.cell? ⟨O, 5, none⟩ = some (.int .i64 lb) ∧ V.cell? ⟨O, 6, none⟩ = some (.string ld)) (by kernel_rfl) (HS.out _ ((Below.refl W6.heap.size W6).drew)) (fun hHeld => ?_)
            refine tk 0 hHeld (h := ?_)
            refine tk 1 hHeld (h := ?_)
            refine tk 2 hHeld (h := ?_)
            refine tk 3 hHeld (h := ?_)
            refine tk 4 hHeld (h := ?_)
            refine tk 5 hHeld (h := ?_)
            refine tk 6 hHeld (h := ?_)
            refine tk 7 hHeld (h := ?_)
            refine tk 8 hHeld (h := ?_)
            refine tk 9 hHeld (h := ?_)
            refine tk 10 hHeld (h := ?_)
            refine tk 11 hHeld (h := ?_)
            refine tk 12 hHeld (h := ?_)
            refine tk 13 hHeld (h := ?_)
            refine tk 14 hHeld (h := ?_)
            refine tk 15 hHeld (h := ?_)
            refine tk 16 hHeld (h := ?_)
            refine tk 17 hHeld (h := ?_)
            refine tk 18 hHeld (h := ?_)
            refine tk 19 hHeld (h := ?_)
            refine tk 20 hHeld (h := ?_)
            refine tk 21 hHeld (h := ?_)
            refine wpAnyH_ready (rs := [22]) (by kernel_rfl) (by simp) ?_
            refine AllReadyH.cons (o := ?oa22) ?hoa22 (fun K hK => ?hsa22) AllReadyH.nil
            case hoa22 => (simp only [List.getElem?_toArray, List.getElem?_cons_succ, List.getElem?_cons_zero]; rfl)
            go_simp
            go_at_call 252
            refine (HLA.out _).mono ?_
            rintro e w7 ⟨rfl, hb7⟩
            have HB7 := hide (heldB (Below.refl W6.heap.size W6).drew hb7 (Nat.le_refl _))
            clear hb7
            try go_wp2_with fail
            refine hK.out _ _ (HS.out _ (HB7.out)) (fun hHeld => ?_)
            clear hK K
            try simp only [Act.put, List.setIfInBounds_toArray, List.set_cons_zero, List.set_cons_succ]
            refine tk 23 hHeld (h := ?_)
            refine wpAnyH_done (by kernel_rfl) ?_ _
            clear hHeld
            have HO7 := hide (HO6.out.on HB7.out)
            have HR7 := hide (HR6.out.on HB7.out)
            have y0 : w7.cell? ⟨RB, 0, none⟩ = some (.int .i64 rq) := HR7.out.cell 0
            have y1 : w7.cell? ⟨RB, 1, none⟩ = some (.int .i64 rb) := HR7.out.cell 1
            have y2 : w7.cell? ⟨RB, 2, none⟩ = some (.string rd) := HR7.out.cell 2
            have o4 : w7.cell? ⟨O, 4, none⟩ = some (.int .i64 lq) := HO7.out.cell 4
            have o5 : w7.cell? ⟨O, 5, none⟩ = some (.int .i64 lb) := HO7.out.cell 5
            have o6 : w7.cell? ⟨O, 6, none⟩ = some (.string ld) := HO7.out.cell 6
            have p4 := HO7.out.free 4
            have p5 := HO7.out.free 5
            have p6 := HO7.out.free 6
            have HW9 := hide (HAN.out (((w7.setCell ⟨O, 4, none⟩ (.int .i64 rq)).setCell ⟨O, 5, none⟩ (.int .i64 rb)).setCell ⟨O, 6, none⟩ (.string rd)) (by
              rw [HTK.out]
              exact ((HO7.out.set 4 (.int .i64 rq)).set 5 (.int .i64 rb)).set 6 (.string rd)) ((((HK6.out.after HB7.out).setCell (p := ⟨O, 4, none⟩) (.inl rfl) (.int .i64 rq)).setCell (p := ⟨O, 5, none⟩) (.inl rfl) (.int .i64 rb)).setCell (p := ⟨O, 6, none⟩) (.inl rfl) (.string rd)))
            go_wp2
            go_roundw
            case rel =>
              have RR : ∃ j' : Nat, j' ≤ n ∧ Value.int .i64 ((j : Int) + 1) = .int .i64 j' ∧ Hid (TR D O FB id tot n (some ⟨FB, 0, none⟩) c L j' w (((w7.setCell ⟨O, 4, none⟩ (.int .i64 rq)).setCell ⟨O, 5, none⟩ (.int .i64 rb)).setCell ⟨O, 6, none⟩ (.string rd))) := ⟨j + 1, by omega, by go_num, HW9.out⟩
              first | exact RR | ((repeat apply Exists.intro); exact ⟨RR, rfl⟩)
            case measure => simp [intOf]; omega
          · have HTK : Hid (takeR id tot ⟨lq, lb, ld⟩ ⟨rq, rb, rd⟩ = ⟨lq, lb, ld⟩) := by show _ = _; rw [takeR, if_neg (fun h => hla h.2.2)]
            rw [show laterR ⟨rq, rb, rd⟩ ⟨lq, lb, ld⟩ = false by simpa using hla] at HLA
            clear hid hla
            refine wp_region_held_drew (S := fun V => V.cell? ⟨RB, 0, none⟩ = some (.int .i64 rq) ∧ V.cell? ⟨RB, 1, none⟩ = some (.int .i64 rb) ∧ V.cell? ⟨RB, 2, none⟩ = some (.string rd) ∧ V.cell? ⟨O, 1, none⟩ = some (.string id) ∧ V.cell? ⟨O, 2, none⟩ = some (.int .i64 tot) ∧ V.cell? ⟨O, 4, none⟩ = some (.int .i64 lq) ∧ V.cell? ⟨O, 5, none⟩ = some (.int .i64 lb) ∧ V.cell? ⟨O, 6, none⟩ = some (.string ld)) (by kernel_rfl) (HS.out _ ((Below.refl W6.heap.size W6).drew)) (fun hHeld => ?_)
            refine tk 0 hHeld (h := ?_)
            refine tk 1 hHeld (h := ?_)
            refine tk 2 hHeld (h := ?_)
            refine tk 3 hHeld (h := ?_)
            refine tk 4 hHeld (h := ?_)
            refine tk 5 hHeld (h := ?_)
            refine tk 6 hHeld (h := ?_)
            refine tk 7 hHeld (h := ?_)
            refine tk 8 hHeld (h := ?_)
            refine tk 9 hHeld (h := ?_)
            refine tk 10 hHeld (h := ?_)
            refine tk 11 hHeld (h := ?_)
            refine tk 12 hHeld (h := ?_)
            refine tk 13 hHeld (h := ?_)
            refine tk 14 hHeld (h := ?_)
            refine tk 15 hHeld (h := ?_)
            refine tk 16 hHeld (h := ?_)
            refine tk 17 hHeld (h := ?_)
            refine tk 18 hHeld (h := ?_)
            refine tk 19 hHeld (h := ?_)
            refine tk 20 hHeld (h := ?_)
            refine tk 21 hHeld (h := ?_)
            refine wpAnyH_ready (rs := [22]) (by kernel_rfl) (by simp) ?_
            refine AllReadyH.cons (o := ?ob22) ?hob22 (fun K hK => ?hsb22) AllReadyH.nil
            case hob22 => (simp only [List.getElem?_toArray, List.getElem?_cons_succ, List.getElem?_cons_zero]; rfl)
            go_simp
            go_at_call 252
            refine (HLA.out _).mono ?_
            rintro e w7 ⟨rfl, hb7⟩
            have HB7 := hide (heldB (Below.refl W6.heap.size W6).drew hb7 (Nat.le_refl _))
            clear hb7
            try go_wp2_with fail
            refine hK.out _ _ (HS.out _ (HB7.out)) (fun hHeld => ?_)
            clear hK K
            try simp only [Act.put, List.setIfInBounds_toArray, List.set_cons_zero, List.set_cons_succ]
            refine tk 23 hHeld (h := ?_)
            refine wpAnyH_done (by kernel_rfl) ?_ _
            clear hHeld
            have HW9 := hide (HAN.out w7 (by rw [HTK.out]; exact HO6.out.on HB7.out) (HK6.out.after HB7.out))
            go_wp2
            go_roundw
            case rel =>
              have RR : ∃ j' : Nat, j' ≤ n ∧ Value.int .i64 ((j : Int) + 1) = .int .i64 j' ∧ Hid (TR D O FB id tot n (some ⟨FB, 0, none⟩) c L j' w w7) := ⟨j + 1, by omega, by go_num, HW9.out⟩
              first | exact RR | ((repeat apply Exists.intro); exact ⟨RR, rfl⟩)
            case measure => simp [intOf]; omega
        · have HTK : Hid (takeR id tot ⟨lq, lb, ld⟩ ⟨rq, rb, rd⟩ = ⟨lq, lb, ld⟩) := by show _ = _; rw [takeR, if_neg (fun h => hbt h.2.1)]
          have hbt2 : decide (rb ≤ tot) = false := decide_eq_false hbt
          clear hid hbt
          refine wp_region_held_drew (S := fun V => V.cell? ⟨RB, 0, none⟩ = some (.int .i64 rq) ∧ V.cell? ⟨RB, 1, none⟩ = some (.int .i64 rb) ∧ V.cell? ⟨RB, 2, none⟩ = some (.string rd) ∧ V.cell? ⟨O, 1, none⟩ = some (.string id) ∧ V.cell? ⟨O, 2, none⟩ = some (.int .i64 tot) ∧ V.cell? ⟨O, 4, none⟩ = some (.int .i64 lq) ∧ V.cell? ⟨O, 5, none⟩ = some (.int .i64 lb) ∧ V.cell? ⟨O, 6, none⟩ = some (.string ld)) (by kernel_rfl) (HS.out _ ((Below.refl W6.heap.size W6).drew)) (fun hHeld => ?_)
          refine tk 0 hHeld (h := ?_)
          refine tk 1 hHeld (h := ?_)
          refine tk 2 hHeld (h := ?_)
          refine tk 3 hHeld (h := ?_)
          refine tk 4 hHeld (h := ?_)
          refine tk 5 hHeld (h := ?_)
          refine tk 6 hHeld (h := ?_)
          refine tk 7 hHeld (h := ?_)
          refine tk 8 hHeld (h := ?_)
          refine tk 9 hHeld (h := ?_)
          refine tk 10 hHeld (h := ?_)
          refine tk 11 hHeld (h := ?_)
          refine tk 12 hHeld (h := ?_)
          refine tk 13 hHeld (h := ?_)
          refine tk 14 hHeld (h := ?_)
          refine tk 15 hHeld (h := ?_)
          refine tk 16 hHeld (h := ?_)
          refine sk 17 hHeld (h := ?_)
          refine sk 18 hHeld (h := ?_)
          refine sk 19 hHeld (h := ?_)
          refine sk 20 hHeld (h := ?_)
          refine sk 21 hHeld (h := ?_)
          refine sk 22 hHeld (h := ?_)
          refine tk 23 hHeld (h := ?_)
          refine wpAnyH_done (by kernel_rfl) ?_ _
          clear hHeld
          have HW9 := hide (HAN.out W6.drew (by rw [HTK.out]; exact HO6.out.on (Below.refl _ _).drew) (HK6.out.after (Below.refl _ _).drew))
          go_wp2
          go_roundw
          case rel =>
            have RR : ∃ j' : Nat, j' ≤ n ∧ Value.int .i64 ((j : Int) + 1) = .int .i64 j' ∧ Hid (TR D O FB id tot n (some ⟨FB, 0, none⟩) c L j' w W6.drew) := ⟨j + 1, by omega, by go_num, HW9.out⟩
            first | exact RR | ((repeat apply Exists.intro); exact ⟨RR, rfl⟩)
          case measure => simp [intOf]; omega
      · have e1 : (rd.toList == id.toList) = false := toList_ne hid
        have HTK : Hid (takeR id tot ⟨lq, lb, ld⟩ ⟨rq, rb, rd⟩ = ⟨lq, lb, ld⟩) := by show _ = _; rw [takeR, if_neg (fun h => hid h.1)]
        clear hid
        refine wp_region_held_drew (S := fun V => V.cell? ⟨RB, 0, none⟩ = some (.int .i64 rq) ∧ V.cell? ⟨RB, 1, none⟩ = some (.int .i64 rb) ∧ V.cell? ⟨RB, 2, none⟩ = some (.string rd) ∧ V.cell? ⟨O, 1, none⟩ = some (.string id) ∧ V.cell? ⟨O, 2, none⟩ = some (.int .i64 tot) ∧ V.cell? ⟨O, 4, none⟩ = some (.int .i64 lq) ∧ V.cell? ⟨O, 5, none⟩ = some (.int .i64 lb) ∧ V.cell? ⟨O, 6, none⟩ = some (.string ld)) (by kernel_rfl) (HS.out _ ((Below.refl W6.heap.size W6).drew)) (fun hHeld => ?_)
        refine tk 0 hHeld (h := ?_)
        refine tk 1 hHeld (h := ?_)
        refine tk 2 hHeld (h := ?_)
        refine tk 3 hHeld (h := ?_)
        refine tk 4 hHeld (h := ?_)
        refine tk 5 hHeld (h := ?_)
        refine tk 6 hHeld (h := ?_)
        refine tk 7 hHeld (h := ?_)
        refine sk 8 hHeld (h := ?_)
        refine sk 9 hHeld (h := ?_)
        refine sk 10 hHeld (h := ?_)
        refine sk 11 hHeld (h := ?_)
        refine sk 12 hHeld (h := ?_)
        refine sk 13 hHeld (h := ?_)
        refine sk 14 hHeld (h := ?_)
        refine tk 15 hHeld (h := ?_)
        refine tk 16 hHeld (h := ?_)
        refine sk 17 hHeld (h := ?_)
        refine sk 18 hHeld (h := ?_)
        refine sk 19 hHeld (h := ?_)
        refine sk 20 hHeld (h := ?_)
        refine sk 21 hHeld (h := ?_)
        refine sk 22 hHeld (h := ?_)
        refine tk 23 hHeld (h := ?_)
        refine wpAnyH_done (by kernel_rfl) ?_ _
        clear hHeld
        have HW9 := hide (HAN.out W6.drew (by rw [HTK.out]; exact HO6.out.on (Below.refl _ _).drew) (HK6.out.after (Below.refl _ _).drew))
        go_wp2
        go_roundw
        case rel =>
          have RR : ∃ j' : Nat, j' ≤ n ∧ Value.int .i64 ((j : Int) + 1) = .int .i64 j' ∧ Hid (TR D O FB id tot n (some ⟨FB, 0, none⟩) c L j' w W6.drew) := ⟨j + 1, by omega, by go_num, HW9.out⟩
          first | exact RR | ((repeat apply Exists.intro); exact ⟨RR, rfl⟩)
        case measure => simp [intOf]; omega
    · obtain rfl : j = n := by omega
      have HTT := hide htr.out
      have o4 : wr.cell? ⟨O, 4, none⟩ = some (.int .i64 (takeJ id tot ⟨0, 0, ⟨#[]⟩⟩ L j).q) := htr.out.1.cell 4
      clear htr hj hlt
      by_cases h0 : (takeJ id tot ⟨0, 0, ⟨#[]⟩⟩ L j).q = 0
      · have HE := hide h0
        rw [h0] at o4
        clear h0
        go_wp2
        go_ret
        exact ⟨.inl ⟨rfl, HE.out⟩, HTT.out⟩
      · have HE := hide h0
        have e0 : ((takeJ id tot ⟨0, 0, ⟨#[]⟩⟩ L j).q == 0) = false := by simpa using h0
        generalize (takeJ id tot ⟨0, 0, ⟨#[]⟩⟩ L j).q = zz at o4 e0
        clear h0
        go_wp2
        go_ret
        exact ⟨.inr ⟨rfl, HE.out⟩, HTT.out⟩
end Go.Proofs.YtgaoeoijdpdjiabGreatDoor

namespace Go.Proofs.YtgaoeoijdpdjiabGreatDoor
open Go.RowKit

set_option maxRecDepth 20000 in
set_option maxHeartbeats 8000000 in
theorem begun_fv (lo D : Nat) (st s2 : DSt) (F : Nat → Prop) (k b x t l : Int) (root pub sec rnd id di : ByteArray) (tot bat q bd z0 z1 z2 z4 z5 : Int) (sv : Value) (w : World) (hD : DSk lo D st w F) (hn : 2 ≤ st.n) (hT : Tn w) (hTB : 1 < lo) (hlo : lo ≤ w.heap.size) (hb1 : 1 ≤ bat) (hb2 : bat ≤ 64) (ht0 : 0 ≤ st.term) (ht1 : st.term < 9223372036854775807) (htm : s2.term = st.term + 1)
    (hM : ∀ V : World, Calls Tryz.prog 155 #[.agg #[.int .i64 k, .int .i64 b, .int .i64 x, .int .i64 t, .int .i64 l]] V fun e w' => e = .returned (.tuple #[.agg #[.int .i64 z0, .int .i64 z1, .int .i64 z2, .int .i64 tot, .int .i64 z4, .int .i64 z5], .int .i64 0]) ∧ Below V.heap.size V w')
    (hOf : ∀ V : World, Tn V → Calls Tryz.prog 178 #[.agg #[.int .i64 k, .int .i64 b, .int .i64 x, .int .i64 t, .int .i64 l], .agg #[.string sec, .string rnd, .string pub]] V fun e w' => e = .returned (.tuple #[.agg #[.int .i64 k, .int .i64 b, .int .i64 x, .int .i64 t, .int .i64 l, .string root, .string pub], .int .i64 0]) ∧ Below V.heap.size V w')
    (hId : ∀ V : World, Tn V → Calls Tryz.prog 179 #[.agg #[.int .i64 k, .int .i64 b, .int .i64 x, .int .i64 t, .int .i64 l, .string root, .string pub]] V fun e w' => e = .returned (.string id) ∧ Below V.heap.size V w')
    (hDone : ∀ (V : World) (O : Nat) (F1 : Nat → Prop), DSk lo D { st with term := st.term + 1 } V F1 → Kept F w V → (∀ k, F1 k → F k ∨ w.heap.size ≤ k) → w.heap.size ≤ O → ¬ F1 O → Blk V O (opC D id tot (.slice none 0 0) 0 0 ⟨#[]⟩) 246 → Calls Tryz.prog 180 #[.pointer (some ⟨O, 0, none⟩), sv] V fun e w' => e = .returned (.int .i64 0) ∧ ∃ fv, OPL lo O D s2 (opC D id tot fv q bd di) F1 V w') :
    Calls Tryz.prog 106 #[.pointer (some ⟨D, 0, none⟩), .agg #[.int .i64 k, .int .i64 b, .int .i64 x, .int .i64 t, .int .i64 l], .agg #[.string sec, .string rnd, .string pub], .int .i64 bat, sv] w fun e w' => ∃ S F', e = .returned (.tuple #[.pointer (some ⟨S, 0, none⟩), .int .i64 0]) ∧ Blk w' S (sgC D (st.term + 1) k b x t l root pub sec rnd tot bat bd q bd di false) 188 ∧ DSk lo D s2 w' F' ∧ ¬ F' S ∧ w.heap.size ≤ S ∧ Kept F w w' ∧ ∀ k, F' k → F k ∨ w.heap.size ≤ k := by
  have hFlo : ∀ i, F i → lo ≤ i ∧ i < w.heap.size := hD.lt
  obtain ⟨W0, hW⟩ : ∃ W0, (w.alloc (.cells #[.int .i64 k, .int .i64 b, .int .i64 x, .int .i64 t, .int .i64 l] 26)).alloc (.cells #[.string sec, .string rnd, .string pub] 42) = W0 := ⟨_, rfl⟩
  have HB0 := hide (show Below w.heap.size w W0 by subst hW; exact ((Below.refl _ _).alloc (Nat.le_refl _) _).alloc (by simp) _)
  have HC := hide (show Blk W0 w.heap.size [.int .i64 k, .int .i64 b, .int .i64 x, .int .i64 t, .int .i64 l] 26 by rw [← hW]; exact (Blk.new w _ _).alloc _)
  have HE := hide (show Blk W0 (w.heap.size + 1) [.string sec, .string rnd, .string pub] 42 by
    rw [← hW]
    have h := Blk.new (w.alloc (.cells #[.int .i64 k, .int .i64 b, .int .i64 x, .int .i64 t, .int .i64 l] 26)) [.string sec, .string rnd, .string pub] 42
    simp only [World.size_alloc] at h
    exact h)
  have HM := hide hM
  have HOF := hide hOf
  have HID := hide hId
  have HDN := hide hDone
  have HBT := hide (fun V : World => batch_yes bat V hb1 hb2)
  obtain ⟨sa, hsa⟩ := hD.sectors
  have HSC := hide (fun (V : World) (h : Below w.heap.size w V) => sectors_on D sa st.n st.n V ((h.cell (p := ⟨D, 0, none⟩) hD.ltD).trans hsa))
  have hnn : (2 : Int) ≤ (st.n : Int) := by omega
  have HP := hide (And.intro hD (And.intro hT (And.intro hTB (And.intro hlo (And.intro ht0 (And.intro ht1 (And.intro htm hFlo)))))))
  have HWE := hide hW
  clear hW hM hOf hId hDone hb1 hb2 hsa hD hT hTB hlo ht0 ht1 htm hFlo hn
  go_enter Tryz.func106, Tryz.ntmps106
  go_wp2_with fail
  rw [HWE.out]
  refine (HM.out _).mono ?_
  rintro e w1 ⟨rfl, hb1⟩
  obtain ⟨W1, hW1⟩ : ∃ W1, w1.alloc (.cells #[.int .i64 z0, .int .i64 z1, .int .i64 z2, .int .i64 tot, .int .i64 z4, .int .i64 z5] 158) = W1 := ⟨_, rfl⟩
  have HB1 := hide (show Below W0.heap.size W0 W1 by rw [← hW1]; exact hb1.alloc hb1.size _)
  have HZ := hide (show Blk W1 w1.heap.size [.int .i64 z0, .int .i64 z1, .int .i64 z2, .int .i64 tot, .int .i64 z4, .int .i64 z5] 158 by rw [← hW1]; exact Blk.new w1 _ _)
  have HW1 := hide hW1
  have hZw := HB0.out.size
  have hZw1 := hb1.size
  obtain ⟨Z, hZ⟩ : ∃ Z, w1.heap.size = Z := ⟨_, rfl⟩
  rw [hZ] at HZ hZw1
  have HZE := hide hZ
  have HZW := hide (Nat.le_trans hZw hZw1)
  clear hb1 hW1 hZ hZw hZw1
  go_wp2_with fail
  rw [HW1.out]
  refine (HSC.out _ (HB0.out.trans (HB1.out.mono HB0.out.size))).mono ?_
  rintro e w2 ⟨rfl, hb2⟩
  have HB2 := hide hb2
  clear hb2
  go_wp2_with fail
  refine (HBT.out _).mono ?_
  rintro e w3 ⟨rfl, hb3⟩
  have HB3 := hide (heldB HB2.out hb3 (Nat.le_refl _))
  clear hb3
  have HB03 := hide (HB1.out.trans (HB3.out.mono HB1.out.size))
  have HC3 := hide (HC.out.on HB03.out)
  have HE3 := hide (HE.out.on HB03.out)
  have c0 : w3.cell? ⟨w.heap.size, 0, none⟩ = some (.int .i64 k) := HC3.out.cell 0
  have c1 : w3.cell? ⟨w.heap.size, 1, none⟩ = some (.int .i64 b) := HC3.out.cell 1
  have c2 : w3.cell? ⟨w.heap.size, 2, none⟩ = some (.int .i64 x) := HC3.out.cell 2
  have c3 : w3.cell? ⟨w.heap.size, 3, none⟩ = some (.int .i64 t) := HC3.out.cell 3
  have c4 : w3.cell? ⟨w.heap.size, 4, none⟩ = some (.int .i64 l) := HC3.out.cell 4
  have d0 : w3.cell? ⟨w.heap.size + 1, 0, none⟩ = some (.string sec) := HE3.out.cell 0
  have d1 : w3.cell? ⟨w.heap.size + 1, 1, none⟩ = some (.string rnd) := HE3.out.cell 1
  have d2 : w3.cell? ⟨w.heap.size + 1, 2, none⟩ = some (.string pub) := HE3.out.cell 2
  have HBw3 := hide (HB0.out.trans (HB03.out.mono HB0.out.size))
  have HT3 := hide (HP.out.2.1.on HBw3.out)
  go_wp2_with fail
  refine (HOF.out _ HT3.out).mono ?_
  rintro e w4 ⟨rfl, hb4⟩
  clear c0 c1 c2 c3 c4 d0 d1 d2
  obtain ⟨W4, hW4⟩ : ∃ W4, w4.alloc (.cells #[.int .i64 k, .int .i64 b, .int .i64 x, .int .i64 t, .int .i64 l, .string root, .string pub] 184) = W4 := ⟨_, rfl⟩
  have HB4 := hide (show Below w3.heap.size w3 W4 by rw [← hW4]; exact hb4.alloc hb4.size _)
  have HKK := hide (show Blk W4 w4.heap.size [.int .i64 k, .int .i64 b, .int .i64 x, .int .i64 t, .int .i64 l, .string root, .string pub] 184 by rw [← hW4]; exact Blk.new w4 _ _)
  obtain ⟨KB, hKB⟩ : ∃ KB, w4.heap.size = KB := ⟨_, rfl⟩
  have HKBW := hide (show w.heap.size ≤ KB by rw [← hKB]; exact Nat.le_trans HBw3.out.size hb4.size)
  rw [hKB] at HKK
  have HW4 := hide hW4
  have HKE := hide hKB
  clear hb4 hW4 hKB
  have HBw4 := hide (HBw3.out.trans (HB4.out.mono HBw3.out.size))
  have HE4 := hide (HE3.out.on HB4.out)
  have HZ4 := hide ((HZ.out.on HB3.out).on HB4.out)
  have HD4 := hide (HP.out.1.below HBw4.out)
  have HNT := hide (dterm_any lo D st F W4 HD4.out HP.out.2.2.2.2.1 HP.out.2.2.2.2.2.1)
  go_wp2_with fail
  rw [HW4.out]
  refine HNT.out.mono ?_
  rintro e w5 ⟨rfl, hl5⟩
  have hnF : ∀ g, w.heap.size ≤ g → ¬ F g := fun g hg h => by have := (HP.out.2.2.2.2.2.2.2 g h).2; omega
  have HE5 := hide (hl5.blk HE4.out (hnF _ (by omega)))
  have HZ5 := hide (hl5.blk HZ4.out (hnF _ HZW.out))
  have HK5 := hide (hl5.blk HKK.out (hnF _ HKBW.out))
  have HL5 := hide (hl5.of_below HBw4.out (fun i hi => (HP.out.2.2.2.2.2.2.2 i hi).2))
  have HNF := hide hnF
  have HL5W := hide hl5
  have HSZ := hide (And.intro HE4.out.lt (And.intro HZ4.out.lt HKK.out.lt))
  clear hl5 hnF
  have HBL5 := hide (show Below lo w w5 by
    obtain ⟨F1, _, k1, _⟩ := HL5.out
    exact k1.below (fun i hi => (HP.out.2.2.2.2.2.2.2 i hi).1) HP.out.2.2.2.1)
  have HT5 := hide (show Tn w5.drew from (HP.out.2.1.below HBL5.out HP.out.2.2.1).on (Below.refl _ w5).drew)
  have HS := hide (fun (V : World) (h : Below w5.heap.size w5 V) => (by
    have q1 := HK5.out.on h
    have q2 := HZ5.out.on h
    exact ⟨q1.cell 0, q1.cell 1, q1.cell 2, q1.cell 3, q1.cell 4, q1.cell 5, q1.cell 6, q2.cell 3⟩ : V.cell? ⟨KB, 0, none⟩ = some (.int .i64 k) ∧ V.cell? ⟨KB, 1, none⟩ = some (.int .i64 b) ∧ V.cell? ⟨KB, 2, none⟩ = some (.int .i64 x) ∧ V.cell? ⟨KB, 3, none⟩ = some (.int .i64 t) ∧ V.cell? ⟨KB, 4, none⟩ = some (.int .i64 l) ∧ V.cell? ⟨KB, 5, none⟩ = some (.string root) ∧ V.cell? ⟨KB, 6, none⟩ = some (.string pub) ∧ V.cell? ⟨Z, 3, none⟩ = some (.int .i64 tot)))
  go_wp2_with fail
  try rw [HKE.out]
  try rw [HZE.out]
  refine wp_region_held_drew (S := fun V => V.cell? ⟨KB, 0, none⟩ = some (.int .i64 k) ∧ V.cell? ⟨KB, 1, none⟩ = some (.int .i64 b) ∧ V.cell? ⟨KB, 2, none⟩ = some (.int .i64 x) ∧ V.cell? ⟨KB, 3, none⟩ = some (.int .i64 t) ∧ V.cell? ⟨KB, 4, none⟩ = some (.int .i64 l) ∧ V.cell? ⟨KB, 5, none⟩ = some (.string root) ∧ V.cell? ⟨KB, 6, none⟩ = some (.string pub) ∧ V.cell? ⟨Z, 3, none⟩ = some (.int .i64 tot)) (by kernel_rfl) (HS.out _ ((Below.refl w5.heap.size w5).drew)) (fun hHeld => ?_)
  refine tk 0 hHeld (h := ?_)
  refine tk 1 hHeld (h := ?_)
  refine tk 3 hHeld (h := ?_)
  refine tk 4 hHeld (h := ?_)
  refine wpAnyH_ready (rs := [2]) (by kernel_rfl) (by simp) ?_
  refine AllReadyH.cons (o := ?oa2) ?hoa2 (fun K hK => ?hsa2) AllReadyH.nil
  case hoa2 => (simp only [List.getElem?_toArray, List.getElem?_cons_succ, List.getElem?_cons_zero]; rfl)
  go_simp
  go_at_call 179
  refine (HID.out _ HT5.out).mono ?_
  rintro e w6 ⟨rfl, hb6⟩
  have HB6 := hide (heldB (Below.refl w5.heap.size w5).drew hb6 (Nat.le_refl _))
  clear hb6
  try go_wp2_with fail
  refine hK.out _ _ (HS.out _ (HB6.out)) (fun hHeld => ?_)
  clear hK K
  try simp only [Act.put, List.setIfInBounds_toArray, List.set_cons_zero, List.set_cons_succ]
  refine tk 5 hHeld (h := ?_)
  refine wpAnyH_ready (rs := [6]) (by kernel_rfl) (by simp) ?_
  refine AllReadyH.cons (o := ?oa6) ?hoa6 (fun K hK => ?hsa6) AllReadyH.nil
  case hoa6 => (simp only [List.getElem?_toArray, List.getElem?_cons_succ, List.getElem?_cons_zero]; rfl)
  go_simp
  refine hK.out _ _ (HS.out _ (HB6.out.alloc HB6.out.size _)) (fun hHeld => ?_)
  clear hK K
  try simp only [Act.put, List.setIfInBounds_toArray, List.set_cons_zero, List.set_cons_succ]
  refine tk 7 hHeld (h := ?_)
  refine wpAnyH_done (by kernel_rfl) ?_ _
  have HOB := hide (Blk.new w6 (opC D id tot (.slice none 0 0) 0 0 ⟨#[]⟩) 246)
  have HB7 := hide (HB6.out.alloc HB6.out.size (.cells (opC D id tot (.slice none 0 0) 0 0 ⟨#[]⟩).toArray 246))
  have HOW := hide (Nat.le_trans HBL5.out.size HB6.out.size)
  have HO5 := hide HB6.out.size
  simp only [opC] at HOB HB7
  clear hHeld
  generalize w6.alloc (.cells (List.toArray [.pointer (some ⟨D, 0, none⟩), .string id, .int .i64 tot, .slice none 0 0, .int .i64 0, .int .i64 0, .string ⟨#[]⟩]) 246) = W7 at HOB HB7 ⊢
  obtain ⟨O, hO⟩ : ∃ O, w6.heap.size = O := ⟨_, rfl⟩
  rw [hO] at HOB HOW HO5 ⊢
  clear hO
  obtain ⟨F1, HD1, HK1, HF1, HF4, HNO⟩ : ∃ F1, Hid (DSk lo D { st with term := st.term + 1 } W7 F1) ∧ Hid (Kept F w W7) ∧ Hid (∀ k, F1 k → F k ∨ w.heap.size ≤ k) ∧ Hid (∀ k, F1 k → F k ∨ W4.heap.size ≤ k) ∧ Hid (¬ F1 O) := by
    obtain ⟨F1, a, b, c⟩ := HL5W.out
    refine ⟨F1, a.below HB7.out, ((Kept.of_below (F := F) HBw4.out).trans b (fun i hi => .inl hi)).after HB7.out, fun k hk => ?_, c, fun h => by have := (a.lt O h).2; have := HO5.out; omega⟩
    rcases c k hk with h | h
    · exact .inl h
    · exact .inr (Nat.le_trans HBw4.out.size h)
  have HDC := hide (HDN.out W7 O F1 HD1.out HK1.out HF1.out HOW.out HNO.out HOB.out)
  have HE7 := hide (HE5.out.on HB7.out)
  have HZ7 := hide (HZ5.out.on HB7.out)
  have HK7 := hide (HK5.out.on HB7.out)
  have HW45 := hide (show W4.heap.size ≤ w5.heap.size by obtain ⟨_, _, b, _⟩ := HL5W.out; exact b.size)
  go_wp2_with fail
  refine HDC.out.mono ?_
  rintro e w8 ⟨rfl, fv, hop1, F2, hd2, hk2, hf2⟩
  have hng : ∀ g, w.heap.size ≤ g → g < W4.heap.size → ¬ (g = O ∨ F1 g) := by
    intro g g1 g2 h
    rcases h with rfl | h
    · have := HO5.out; have := HW45.out; omega
    · rcases HF4.out g h with h | h
      · exact HNF.out g g1 h
      · omega
  have HE8 := hide (hk2.blk HE7.out (hng _ (by omega) HSZ.out.1))
  have HZ8 := hide (hk2.blk HZ7.out (hng _ HZW.out HSZ.out.2.1))
  have HK8 := hide (hk2.blk HK7.out (hng _ HKBW.out HSZ.out.2.2))
  have HO8 := hide hop1
  have HD8 := hide hd2
  have HX8 := hide (And.intro hk2 hf2)
  have HTM := hide (term_on D (st.term + 1) w8.drew (by rw [← HP.out.2.2.2.2.2.2.1]; exact hd2.term))
  clear hng hop1 hd2 hk2 hf2
  have HS14 := hide (fun (V : World) (h : Below w8.heap.size w8 V) => (by
    have q1 := HK8.out.on h
    have q2 := HZ8.out.on h
    have q3 := HE8.out.on h
    have q4 := HO8.out.on h
    exact ⟨q1.cell 0, q1.cell 1, q1.cell 2, q1.cell 3, q1.cell 4, q1.cell 5, q1.cell 6, q2.cell 3, q3.cell 0, q3.cell 1, q3.cell 2, q4.cell 4, q4.cell 5, q4.cell 6⟩ : V.cell? ⟨KB, 0, none⟩ = some (.int .i64 k) ∧ V.cell? ⟨KB, 1, none⟩ = some (.int .i64 b) ∧ V.cell? ⟨KB, 2, none⟩ = some (.int .i64 x) ∧ V.cell? ⟨KB, 3, none⟩ = some (.int .i64 t) ∧ V.cell? ⟨KB, 4, none⟩ = some (.int .i64 l) ∧ V.cell? ⟨KB, 5, none⟩ = some (.string root) ∧ V.cell? ⟨KB, 6, none⟩ = some (.string pub) ∧ V.cell? ⟨Z, 3, none⟩ = some (.int .i64 tot) ∧ V.cell? ⟨w.heap.size + 1, 0, none⟩ = some (.string sec) ∧ V.cell? ⟨w.heap.size + 1, 1, none⟩ = some (.string rnd) ∧ V.cell? ⟨w.heap.size + 1, 2, none⟩ = some (.string pub) ∧ V.cell? ⟨O, 4, none⟩ = some (.int .i64 q) ∧ V.cell? ⟨O, 5, none⟩ = some (.int .i64 bd) ∧ V.cell? ⟨O, 6, none⟩ = some (.string di)))
  go_wp2_with fail
  refine wp_region_held_drew (S := fun V => V.cell? ⟨KB, 0, none⟩ = some (.int .i64 k) ∧ V.cell? ⟨KB, 1, none⟩ = some (.int .i64 b) ∧ V.cell? ⟨KB, 2, none⟩ = some (.int .i64 x) ∧ V.cell? ⟨KB, 3, none⟩ = some (.int .i64 t) ∧ V.cell? ⟨KB, 4, none⟩ = some (.int .i64 l) ∧ V.cell? ⟨KB, 5, none⟩ = some (.string root) ∧ V.cell? ⟨KB, 6, none⟩ = some (.string pub) ∧ V.cell? ⟨Z, 3, none⟩ = some (.int .i64 tot) ∧ V.cell? ⟨w.heap.size + 1, 0, none⟩ = some (.string sec) ∧ V.cell? ⟨w.heap.size + 1, 1, none⟩ = some (.string rnd) ∧ V.cell? ⟨w.heap.size + 1, 2, none⟩ = some (.string pub) ∧ V.cell? ⟨O, 4, none⟩ = some (.int .i64 q) ∧ V.cell? ⟨O, 5, none⟩ = some (.int .i64 bd) ∧ V.cell? ⟨O, 6, none⟩ = some (.string di)) (by kernel_rfl) (HS14.out _ ((Below.refl w8.heap.size w8).drew)) (fun hHeld => ?_)
  refine tk 0 hHeld (h := ?_)
  refine tk 1 hHeld (h := ?_)
  refine tk 3 hHeld (h := ?_)
  refine tk 4 hHeld (h := ?_)
  refine tk 5 hHeld (h := ?_)
  refine tk 6 hHeld (h := ?_)
  refine tk 7 hHeld (h := ?_)
  refine tk 8 hHeld (h := ?_)
  refine tk 9 hHeld (h := ?_)
  refine tk 10 hHeld (h := ?_)
  refine tk 11 hHeld (h := ?_)
  refine tk 12 hHeld (h := ?_)
  refine tk 13 hHeld (h := ?_)
  refine tk 14 hHeld (h := ?_)
  refine tk 15 hHeld (h := ?_)
  refine tk 16 hHeld (h := ?_)
  refine wpAnyH_ready (rs := [2]) (by kernel_rfl) (by simp) ?_
  refine AllReadyH.cons (o := ?og2) ?hog2 (fun K hK => ?hsg2) AllReadyH.nil
  case hog2 => (simp only [List.getElem?_toArray, List.getElem?_cons_succ, List.getElem?_cons_zero]; rfl)
  go_simp
  go_at_call 181
  refine HTM.out.mono ?_
  rintro e w9 ⟨rfl, hb9⟩
  have HB9 := hide (heldB (Below.refl w8.heap.size w8).drew hb9 (Nat.le_refl _))
  clear hb9
  try go_wp2_with fail
  refine hK.out _ _ (HS14.out _ (HB9.out)) (fun hHeld => ?_)
  clear hK K
  try simp only [Act.put, List.setIfInBounds_toArray, List.set_cons_zero, List.set_cons_succ]
  refine tk 17 hHeld (h := ?_)
  refine wpAnyH_ready (rs := [18]) (by kernel_rfl) (by simp) ?_
  refine AllReadyH.cons (o := ?og18) ?hog18 (fun K hK => ?hsg18) AllReadyH.nil
  case hog18 => (simp only [List.getElem?_toArray, List.getElem?_cons_succ, List.getElem?_cons_zero]; rfl)
  go_simp
  refine hK.out _ _ (HS14.out _ (HB9.out.alloc HB9.out.size _)) (fun hHeld => ?_)
  clear hK K
  try simp only [Act.put, List.setIfInBounds_toArray, List.set_cons_zero, List.set_cons_succ]
  refine tk 19 hHeld (h := ?_)
  refine tk 20 hHeld (h := ?_)
  refine wpAnyH_done (by kernel_rfl) ?_ _
  have HSB := hide (Blk.new w9 (sgC D (st.term + 1) k b x t l root pub sec rnd tot bat bd q bd di false) 188)
  have HB10 := hide (HB9.out.alloc HB9.out.size (.cells (sgC D (st.term + 1) k b x t l root pub sec rnd tot bat bd q bd di false).toArray 188))
  have HSS := hide HB9.out.size
  simp only [sgC] at HSB HB10
  clear hHeld
  go_wp2
  go_ret2
  have z7 := HK1.out.size
  have z8 := HX8.out.1.size
  have zs := HSS.out
  refine ⟨w9.heap.size, F2, rfl, HSB.out, HD8.out.below HB10.out, fun h => by have := (HD8.out.lt _ h).2; omega, by omega, ?_, fun i hi => ?_⟩
  · refine (HK1.out.trans HX8.out.1 (fun i hi => ?_)).after HB10.out
    rcases hi with rfl | hi
    · exact .inr HOW.out
    · exact HF1.out i hi
  · rcases HX8.out.2 i hi with h | h
    · exact HF1.out i h
    · exact .inr (by omega)
end Go.Proofs.YtgaoeoijdpdjiabGreatDoor

namespace Go.Proofs.YtgaoeoijdpdjiabGreatDoor
open Go.RowKit

set_option maxRecDepth 20000 in
set_option maxHeartbeats 8000000 in
theorem begun_no (lo D : Nat) (st s2 : DSt) (F : Nat → Prop) (k b x t l : Int) (root pub sec rnd id : ByteArray) (tot bat c z0 z1 z2 z4 z5 : Int) (sv : Value) (w : World) (hD : DSk lo D st w F) (hn : 2 ≤ st.n) (hT : Tn w) (hTB : 1 < lo) (hlo : lo ≤ w.heap.size) (hb1 : 1 ≤ bat) (hb2 : bat ≤ 64) (ht0 : 0 ≤ st.term) (ht1 : st.term < 9223372036854775807) (hc : c ≠ 0)
    (hM : ∀ V : World, Calls Tryz.prog 155 #[.agg #[.int .i64 k, .int .i64 b, .int .i64 x, .int .i64 t, .int .i64 l]] V fun e w' => e = .returned (.tuple #[.agg #[.int .i64 z0, .int .i64 z1, .int .i64 z2, .int .i64 tot, .int .i64 z4, .int .i64 z5], .int .i64 0]) ∧ Below V.heap.size V w')
    (hOf : ∀ V : World, Tn V → Calls Tryz.prog 178 #[.agg #[.int .i64 k, .int .i64 b, .int .i64 x, .int .i64 t, .int .i64 l], .agg #[.string sec, .string rnd, .string pub]] V fun e w' => e = .returned (.tuple #[.agg #[.int .i64 k, .int .i64 b, .int .i64 x, .int .i64 t, .int .i64 l, .string root, .string pub], .int .i64 0]) ∧ Below V.heap.size V w')
    (hId : ∀ V : World, Tn V → Calls Tryz.prog 179 #[.agg #[.int .i64 k, .int .i64 b, .int .i64 x, .int .i64 t, .int .i64 l, .string root, .string pub]] V fun e w' => e = .returned (.string id) ∧ Below V.heap.size V w')
    (hDone : ∀ (V : World) (O : Nat) (F1 : Nat → Prop), DSk lo D { st with term := st.term + 1 } V F1 → Kept F w V → (∀ k, F1 k → F k ∨ w.heap.size ≤ k) → w.heap.size ≤ O → ¬ F1 O → Blk V O (opC D id tot (.slice none 0 0) 0 0 ⟨#[]⟩) 246 → Calls Tryz.prog 180 #[.pointer (some ⟨O, 0, none⟩), sv] V fun e w' => e = .returned (.int .i64 c) ∧ ∃ F2, DSk lo D s2 w' F2 ∧ Kept (fun k => k = O ∨ F1 k) V w' ∧ ∀ k, F2 k → F1 k ∨ V.heap.size ≤ k) :
    Calls Tryz.prog 106 #[.pointer (some ⟨D, 0, none⟩), .agg #[.int .i64 k, .int .i64 b, .int .i64 x, .int .i64 t, .int .i64 l], .agg #[.string sec, .string rnd, .string pub], .int .i64 bat, sv] w fun e w' => ∃ F', e = .returned (.tuple #[.pointer none, .int .i64 c]) ∧ DSk lo D s2 w' F' ∧ Kept F w w' ∧ ∀ k, F' k → F k ∨ w.heap.size ≤ k := by
  have hFlo : ∀ i, F i → lo ≤ i ∧ i < w.heap.size := hD.lt
  obtain ⟨W0, hW⟩ : ∃ W0, (w.alloc (.cells #[.int .i64 k, .int .i64 b, .int .i64 x, .int .i64 t, .int .i64 l] 26)).alloc (.cells #[.string sec, .string rnd, .string pub] 42) = W0 := ⟨_, rfl⟩
  have HB0 := hide (show Below w.heap.size w W0 by subst hW; exact ((Below.refl _ _).alloc (Nat.le_refl _) _).alloc (by simp) _)
  have HC := hide (show Blk W0 w.heap.size [.int .i64 k, .int .i64 b, .int .i64 x, .int .i64 t, .int .i64 l] 26 by rw [← hW]; exact (Blk.new w _ _).alloc _)
  have HE := hide (show Blk W0 (w.heap.size + 1) [.string sec, .string rnd, .string pub] 42 by
    rw [← hW]
    have h := Blk.new (w.alloc (.cells #[.int .i64 k, .int .i64 b, .int .i64 x, .int .i64 t, .int .i64 l] 26)) [.string sec, .string rnd, .string pub] 42
    simp only [World.size_alloc] at h
    exact h)
  have HM := hide hM
  have HOF := hide hOf
  have HID := hide hId
  have HDN := hide hDone
  have HBT := hide (fun V : World => batch_yes bat V hb1 hb2)
  obtain ⟨sa, hsa⟩ := hD.sectors
  have HSC := hide (fun (V : World) (h : Below w.heap.size w V) => sectors_on D sa st.n st.n V ((h.cell (p := ⟨D, 0, none⟩) hD.ltD).trans hsa))
  have hnn : (2 : Int) ≤ (st.n : Int) := by omega
  have HP := hide (And.intro hD (And.intro hT (And.intro hTB (And.intro hlo (And.intro ht0 (And.intro ht1 (And.intro hc hFlo)))))))
  have e8 : (c == 0) = false := by simpa using hc
  have e9 : (c != 0) = true := by simpa using hc
  have HWE := hide hW
  clear hW hM hOf hId hDone hb1 hb2 hsa hD hT hTB hlo ht0 ht1 hc hFlo hn
  go_enter Tryz.func106, Tryz.ntmps106
  go_wp2_with fail
  rw [HWE.out]
  refine (HM.out _).mono ?_
  rintro e w1 ⟨rfl, hb1⟩
  obtain ⟨W1, hW1⟩ : ∃ W1, w1.alloc (.cells #[.int .i64 z0, .int .i64 z1, .int .i64 z2, .int .i64 tot, .int .i64 z4, .int .i64 z5] 158) = W1 := ⟨_, rfl⟩
  have HB1 := hide (show Below W0.heap.size W0 W1 by rw [← hW1]; exact hb1.alloc hb1.size _)
  have HZ := hide (show Blk W1 w1.heap.size [.int .i64 z0, .int .i64 z1, .int .i64 z2, .int .i64 tot, .int .i64 z4, .int .i64 z5] 158 by rw [← hW1]; exact Blk.new w1 _ _)
  have HW1 := hide hW1
  have hZw := HB0.out.size
  have hZw1 := hb1.size
  obtain ⟨Z, hZ⟩ : ∃ Z, w1.heap.size = Z := ⟨_, rfl⟩
  rw [hZ] at HZ hZw1
  have HZE := hide hZ
  have HZW := hide (Nat.le_trans hZw hZw1)
  clear hb1 hW1 hZ hZw hZw1
  go_wp2_with fail
  rw [HW1.out]
  refine (HSC.out _ (HB0.out.trans (HB1.out.mono HB0.out.size))).mono ?_
  rintro e w2 ⟨rfl, hb2⟩
  have HB2 := hide hb2
  clear hb2
  go_wp2_with fail
  refine (HBT.out _).mono ?_
  rintro e w3 ⟨rfl, hb3⟩
  have HB3 := hide (heldB HB2.out hb3 (Nat.le_refl _))
  clear hb3
  have HB03 := hide (HB1.out.trans (HB3.out.mono HB1.out.size))
  have HC3 := hide (HC.out.on HB03.out)
  have HE3 := hide (HE.out.on HB03.out)
  have c0 : w3.cell? ⟨w.heap.size, 0, none⟩ = some (.int .i64 k) := HC3.out.cell 0
  have c1 : w3.cell? ⟨w.heap.size, 1, none⟩ = some (.int .i64 b) := HC3.out.cell 1
  have c2 : w3.cell? ⟨w.heap.size, 2, none⟩ = some (.int .i64 x) := HC3.out.cell 2
  have c3 : w3.cell? ⟨w.heap.size, 3, none⟩ = some (.int .i64 t) := HC3.out.cell 3
  have c4 : w3.cell? ⟨w.heap.size, 4, none⟩ = some (.int .i64 l) := HC3.out.cell 4
  have d0 : w3.cell? ⟨w.heap.size + 1, 0, none⟩ = some (.string sec) := HE3.out.cell 0
  have d1 : w3.cell? ⟨w.heap.size + 1, 1, none⟩ = some (.string rnd) := HE3.out.cell 1
  have d2 : w3.cell? ⟨w.heap.size + 1, 2, none⟩ = some (.string pub) := HE3.out.cell 2
  have HBw3 := hide (HB0.out.trans (HB03.out.mono HB0.out.size))
  have HT3 := hide (HP.out.2.1.on HBw3.out)
  go_wp2_with fail
  refine (HOF.out _ HT3.out).mono ?_
  rintro e w4 ⟨rfl, hb4⟩
  clear c0 c1 c2 c3 c4 d0 d1 d2
  obtain ⟨W4, hW4⟩ : ∃ W4, w4.alloc (.cells #[.int .i64 k, .int .i64 b, .int .i64 x, .int .i64 t, .int .i64 l, .string root, .string pub] 184) = W4 := ⟨_, rfl⟩
  have HB4 := hide (show Below w3.heap.size w3 W4 by rw [← hW4]; exact hb4.alloc hb4.size _)
  have HKK := hide (show Blk W4 w4.heap.size [.int .i64 k, .int .i64 b, .int .i64 x, .int .i64 t, .int .i64 l, .string root, .string pub] 184 by rw [← hW4]; exact Blk.new w4 _ _)
  obtain ⟨KB, hKB⟩ : ∃ KB, w4.heap.size = KB := ⟨_, rfl⟩
  have HKBW := hide (show w.heap.size ≤ KB by rw [← hKB]; exact Nat.le_trans HBw3.out.size hb4.size)
  rw [hKB] at HKK
  have HW4 := hide hW4
  have HKE := hide hKB
  clear hb4 hW4 hKB
  have HBw4 := hide (HBw3.out.trans (HB4.out.mono HBw3.out.size))
  have HE4 := hide (HE3.out.on HB4.out)
  have HZ4 := hide ((HZ.out.on HB3.out).on HB4.out)
  have HD4 := hide (HP.out.1.below HBw4.out)
  have HNT := hide (dterm_any lo D st F W4 HD4.out HP.out.2.2.2.2.1 HP.out.2.2.2.2.2.1)
  go_wp2_with fail
  rw [HW4.out]
  refine HNT.out.mono ?_
  rintro e w5 ⟨rfl, hl5⟩
  have hnF : ∀ g, w.heap.size ≤ g → ¬ F g := fun g hg h => by have := (HP.out.2.2.2.2.2.2.2 g h).2; omega
  have HE5 := hide (hl5.blk HE4.out (hnF _ (by omega)))
  have HZ5 := hide (hl5.blk HZ4.out (hnF _ HZW.out))
  have HK5 := hide (hl5.blk HKK.out (hnF _ HKBW.out))
  have HL5 := hide (hl5.of_below HBw4.out (fun i hi => (HP.out.2.2.2.2.2.2.2 i hi).2))
  have HNF := hide hnF
  have HL5W := hide hl5
  have HSZ := hide (And.intro HE4.out.lt (And.intro HZ4.out.lt HKK.out.lt))
  clear hl5 hnF
  have HBL5 := hide (show Below lo w w5 by
    obtain ⟨F1, _, k1, _⟩ := HL5.out
    exact k1.below (fun i hi => (HP.out.2.2.2.2.2.2.2 i hi).1) HP.out.2.2.2.1)
  have HT5 := hide (show Tn w5.drew from (HP.out.2.1.below HBL5.out HP.out.2.2.1).on (Below.refl _ w5).drew)
  have HS := hide (fun (V : World) (h : Below w5.heap.size w5 V) => (by
    have q1 := HK5.out.on h
    have q2 := HZ5.out.on h
    exact ⟨q1.cell 0, q1.cell 1, q1.cell 2, q1.cell 3, q1.cell 4, q1.cell 5, q1.cell 6, q2.cell 3⟩ : V.cell? ⟨KB, 0, none⟩ = some (.int .i64 k) ∧ V.cell? ⟨KB, 1, none⟩ = some (.int .i64 b) ∧ V.cell? ⟨KB, 2, none⟩ = some (.int .i64 x) ∧ V.cell? ⟨KB, 3, none⟩ = some (.int .i64 t) ∧ V.cell? ⟨KB, 4, none⟩ = some (.int .i64 l) ∧ V.cell? ⟨KB, 5, none⟩ = some (.string root) ∧ V.cell? ⟨KB, 6, none⟩ = some (.string pub) ∧ V.cell? ⟨Z, 3, none⟩ = some (.int .i64 tot)))
  go_wp2_with fail
  try rw [HKE.out]
  try rw [HZE.out]
  refine wp_region_held_drew (S := fun V => V.cell? ⟨KB, 0, none⟩ = some (.int .i64 k) ∧ V.cell? ⟨KB, 1, none⟩ = some (.int .i64 b) ∧ V.cell? ⟨KB, 2, none⟩ = some (.int .i64 x) ∧ V.cell? ⟨KB, 3, none⟩ = some (.int .i64 t) ∧ V.cell? ⟨KB, 4, none⟩ = some (.int .i64 l) ∧ V.cell? ⟨KB, 5, none⟩ = some (.string root) ∧ V.cell? ⟨KB, 6, none⟩ = some (.string pub) ∧ V.cell? ⟨Z, 3, none⟩ = some (.int .i64 tot)) (by kernel_rfl) (HS.out _ ((Below.refl w5.heap.size w5).drew)) (fun hHeld => ?_)
  refine tk 0 hHeld (h := ?_)
  refine tk 1 hHeld (h := ?_)
  refine tk 3 hHeld (h := ?_)
  refine tk 4 hHeld (h := ?_)
  refine wpAnyH_ready (rs := [2]) (by kernel_rfl) (by simp) ?_
  refine AllReadyH.cons (o := ?oa2) ?hoa2 (fun K hK => ?hsa2) AllReadyH.nil
  case hoa2 => (simp only [List.getElem?_toArray, List.getElem?_cons_succ, List.getElem?_cons_zero]; rfl)
  go_simp
  go_at_call 179
  refine (HID.out _ HT5.out).mono ?_
  rintro e w6 ⟨rfl, hb6⟩
  have HB6 := hide (heldB (Below.refl w5.heap.size w5).drew hb6 (Nat.le_refl _))
  clear hb6
  try go_wp2_with fail
  refine hK.out _ _ (HS.out _ (HB6.out)) (fun hHeld => ?_)
  clear hK K
  try simp only [Act.put, List.setIfInBounds_toArray, List.set_cons_zero, List.set_cons_succ]
  refine tk 5 hHeld (h := ?_)
  refine wpAnyH_ready (rs := [6]) (by kernel_rfl) (by simp) ?_
  refine AllReadyH.cons (o := ?oa6) ?hoa6 (fun K hK => ?hsa6) AllReadyH.nil
  case hoa6 => (simp only [List.getElem?_toArray, List.getElem?_cons_succ, List.getElem?_cons_zero]; rfl)
  go_simp
  refine hK.out _ _ (HS.out _ (HB6.out.alloc HB6.out.size _)) (fun hHeld => ?_)
  clear hK K
  try simp only [Act.put, List.setIfInBounds_toArray, List.set_cons_zero, List.set_cons_succ]
  refine tk 7 hHeld (h := ?_)
  refine wpAnyH_done (by kernel_rfl) ?_ _
  have HOB := hide (Blk.new w6 (opC D id tot (.slice none 0 0) 0 0 ⟨#[]⟩) 246)
  have HB7 := hide (HB6.out.alloc HB6.out.size (.cells (opC D id tot (.slice none 0 0) 0 0 ⟨#[]⟩).toArray 246))
  have HOW := hide (Nat.le_trans HBL5.out.size HB6.out.size)
  have HO5 := hide HB6.out.size
  simp only [opC] at HOB HB7
  clear hHeld
  generalize w6.alloc (.cells (List.toArray [.pointer (some ⟨D, 0, none⟩), .string id, .int .i64 tot, .slice none 0 0, .int .i64 0, .int .i64 0, .string ⟨#[]⟩]) 246) = W7 at HOB HB7 ⊢
  obtain ⟨O, hO⟩ : ∃ O, w6.heap.size = O := ⟨_, rfl⟩
  rw [hO] at HOB HOW HO5 ⊢
  clear hO
  obtain ⟨F1, HD1, HK1, HF1, HF4, HNO⟩ : ∃ F1, Hid (DSk lo D { st with term := st.term + 1 } W7 F1) ∧ Hid (Kept F w W7) ∧ Hid (∀ k, F1 k → F k ∨ w.heap.size ≤ k) ∧ Hid (∀ k, F1 k → F k ∨ W4.heap.size ≤ k) ∧ Hid (¬ F1 O) := by
    obtain ⟨F1, a, b, c⟩ := HL5W.out
    refine ⟨F1, a.below HB7.out, ((Kept.of_below (F := F) HBw4.out).trans b (fun i hi => .inl hi)).after HB7.out, fun k hk => ?_, c, fun h => by have := (a.lt O h).2; have := HO5.out; omega⟩
    rcases c k hk with h | h
    · exact .inl h
    · exact .inr (Nat.le_trans HBw4.out.size h)
  have HDC := hide (HDN.out W7 O F1 HD1.out HK1.out HF1.out HOW.out HNO.out HOB.out)
  have HE7 := hide (HE5.out.on HB7.out)
  have HZ7 := hide (HZ5.out.on HB7.out)
  have HK7 := hide (HK5.out.on HB7.out)
  have HW45 := hide (show W4.heap.size ≤ w5.heap.size by obtain ⟨_, _, b, _⟩ := HL5W.out; exact b.size)
  go_wp2_with fail
  refine HDC.out.mono ?_
  rintro e w8 ⟨rfl, F2, hd2, hk2, hf2⟩
  have HD8 := hide hd2
  have HX8 := hide (And.intro hk2 hf2)
  clear hd2 hk2 hf2
  go_wp2
  go_ret2
  have z7 := HK1.out.size
  refine ⟨F2, rfl, HD8.out, HK1.out.trans HX8.out.1 (fun i hi => ?_), fun i hi => ?_⟩
  · rcases hi with rfl | hi
    · exact .inr HOW.out
    · exact HF1.out i hi
  · rcases HX8.out.2 i hi with h | h
    · exact HF1.out i h
    · exact .inr (by omega)
end Go.Proofs.YtgaoeoijdpdjiabGreatDoor

namespace Go.Proofs.YtgaoeoijdpdjiabGreatDoor
open Go.RowKit

def mkF : List Nat := [107, 108, 109, 110, 111, 107]
def mkV : List Value := mkF.map fun f => .func (.func f) #[] #[]

def OPB (lo O SB D : Nat) (T : TypeId) (st : DSt) (vs : List Value) (F : Nat → Prop) (V V' : World) : Prop := ∃ F', DSk lo D st V' F' ∧ Blk V' O vs 246 ∧ Blk V' SB mkV T ∧ Kept (fun k => k = O ∨ F k) V V' ∧ ∀ k, F' k → F k ∨ V.heap.size ≤ k

section
variable {lo O SB D : Nat} {T : TypeId} {st s2 : DSt} {vs : List Value} {F F' : Nat → Prop} {V V' V2 : World}
theorem opb_dl (hO : O < V.heap.size) (hS : SB < V.heap.size) (nO : ¬ F O) (nS : ¬ F SB) (ho : Blk V' O vs 246) (hs : Blk V' SB mkV T) (hk : Kept (fun k => k = O ∨ F k) V V') (hf : ∀ k, F' k → F k ∨ V.heap.size ≤ k) (hl : DL lo D s2 F' V' V2) : OPB lo O SB D T s2 vs F V V2 := by
  have n1 : ¬ F' O := fun h => by
    rcases hf O h with h | h
    · exact nO h
    · omega
  have n2 : ¬ F' SB := fun h => by
    rcases hf SB h with h | h
    · exact nS h
    · omega
  have b1 := hl.blk ho n1
  have b2 := hl.blk hs n2
  obtain ⟨F2, d2, k2, f2⟩ := hl
  refine ⟨F2, d2, b1, b2, hk.trans k2 (fun i hi => ?_), fun i hi => ?_⟩
  · rcases hf i hi with h | h
    · exact .inl (.inr h)
    · exact .inr h
  · rcases f2 i hi with h | h
    · exact hf i h
    · exact .inr (Nat.le_trans hk.size h)
theorem OPB.then (h : OPB lo O SB D T st vs F V V') (hb : Below V'.heap.size V' V2) : OPB lo O SB D T st vs F V V2 := by
  obtain ⟨F', d, o, s, k, f⟩ := h
  exact ⟨F', d.below hb, o.on hb, s.on hb, k.after hb, f⟩
end

theorem enter_f (f : Nat) (fn : Func) (hf : Tryz.prog.funcs[f]? = some fn) (hn : (fn.name == "runtime.NumGoroutine") = false) (hb : fn.body.isNone = false) (args : Array Value) (V : World) : Sem.run Tryz.prog (callFunc f args) V = .ok (.enter f args) V := by
  have hn' : ¬ fn.name = "runtime.NumGoroutine" := by simpa using hn
  have hb' : ¬ fn.body = none := fun e => by rw [e] at hb; simp at hb
  simp [callFunc, go_sem, hf, hn', hb']

/-- The states that the disk goes through. -/
def mkS (st : DSt) (id : ByteArray) : Nat → DSt
  | 0 => st
  | 1 => sySt st
  | 2 => rdSt (sySt st) 0
  | 3 => rdSt (rdSt (sySt st) 0) 1
  | 4 => rdSt (rdSt (sySt st) 0) 1
  | 5 => wrSt (rdSt (rdSt (sySt st) 0) 1) 1 (sealS 1 0 id)
  | _ => sySt (wrSt (rdSt (rdSt (sySt st) 0) 1) 1 (sealS 1 0 id))
def mkO (D : Nat) (id : ByteArray) (tot : Int) (j : Nat) : List Value := if j ≤ 4 then opC D id tot (.slice none 0 0) 0 0 ⟨#[]⟩ else opC D id tot (.slice none 0 0) 1 0 id

theorem mdone_yes (lo O SB D : Nat) (T : TypeId) (st : DSt) (F : Nat → Prop) (id x0 x1 : ByteArray) (tot : Int) (V : World) (hD : DSk lo D st V F) (hO : Blk V O (opC D id tot (.slice none 0 0) 0 0 ⟨#[]⟩) 246) (hS : Blk V SB mkV T) (nO : ¬ F O) (nS : ¬ F SB) (hlo : lo ≤ V.heap.size) (hOS : SB ≠ O) (hid : id.size = 8)
    (y0 : 0 ≤ st.syncs) (y1 : st.syncs < 9223372036854775806) (r0 : 0 ≤ st.writes) (r1 : st.writes < 9223372036854775807)
    (a1 : syAns st = 0) (a2 : rdAns (sySt st) 0 = (x0, 0)) (b2 : isRec x0 = false) (a3 : rdAns (rdSt (sySt st) 0) 1 = (x1, 0)) (b3 : isRec x1 = false) (a5 : wrAns (mkS st id 4) 1 (sealS 1 0 id) = 0) (a6 : syAns (mkS st id 5) = 0)
    (w4 : (mkS st id 4).writes = st.writes) (w5 : (mkS st id 5).syncs = st.syncs + 1) :
    Calls Tryz.prog 180 #[.pointer (some ⟨O, 0, none⟩), .slice (some ⟨SB, 0, none⟩) 6 6] V fun e w' => e = .returned (.int .i64 0) ∧ OPL lo O D (mkS st id 6) (opC D id tot (.slice none 0 0) 1 0 id) F V w' := by
  have hOl := hO.lt
  have hSl := hS.lt
  refine (done_on mkF 6 O SB (fun j V' => OPB lo O SB D T (mkS st id j) (mkO D id tot j) F V V') (fun _ _ => False) V rfl (by decide) ?_ ?_ ?_ ?_).mono ?_
  · exact ⟨F, hD, hO, hS, Kept.refl _ _, fun k hk => .inl hk⟩
  · intro j f hf args V'
    have hj : j < 6 := by have := (List.getElem?_eq_some_iff.1 hf).1; simpa [mkF] using this
    rcases j with _ | _ | _ | _ | _ | _ | j
    · cases hf; exact enter_f _ _ Tryz.func107 (by kernel_rfl) (by kernel_rfl) args V'
    · cases hf; exact enter_f _ _ Tryz.func108 (by kernel_rfl) (by kernel_rfl) args V'
    · cases hf; exact enter_f _ _ Tryz.func109 (by kernel_rfl) (by kernel_rfl) args V'
    · cases hf; exact enter_f _ _ Tryz.func110 (by kernel_rfl) (by kernel_rfl) args V'
    · cases hf; exact enter_f _ _ Tryz.func111 (by kernel_rfl) (by kernel_rfl) args V'
    · cases hf; exact enter_f _ _ Tryz.func107 (by kernel_rfl) (by kernel_rfl) args V'
    · omega
  · rintro j f V' ⟨F', d, o, s, k, g⟩ hf
    rw [s.cell j, mkV, List.getElem?_map, hf]
    rfl
  · rintro j f V' ⟨F', d, o, s, k, g⟩ hf
    have hj : j < 6 := by have := (List.getElem?_eq_some_iff.1 hf).1; simpa [mkF] using this
    have step : ∀ (V2 : World) (s2 : DSt), DL lo D s2 F' V' V2 → OPB lo O SB D T s2 (mkO D id tot j) F V V2 := fun V2 s2 hl => opb_dl hOl hSl nO nS o s k g hl
    rcases j with _ | _ | _ | _ | _ | _ | j
    · cases hf
      refine (osync_on (fun c w' => c = 0 ∧ DL lo D (sySt st) F' V' w') O D V' (o.cell 0) ?_).mono ?_
      · refine (dsync_any lo D st F' V' d y0 (by omega)).mono ?_
        rintro e w' ⟨rfl, hl⟩
        exact ⟨_, rfl, a1, hl⟩
      · rintro e w' ⟨c, rfl, rfl, hl⟩
        exact ⟨0, rfl, fun _ => step _ _ hl, fun h => absurd rfl h⟩
    · cases hf
      refine (oreadEven_on (fun c w' => c = 0 ∧ OPB lo O SB D T (mkS st id 2) (mkO D id tot 2) F V w') O V' ?_).mono ?_
      · refine (oread_no (fun V2 => OPB lo O SB D T (mkS st id 2) (mkO D id tot 2) F V V2) O D 0 x0 V' (o.cell 0) b2 (fun V2 V3 h hb => h.then hb) ?_).mono ?_
        · refine (dread_any lo D _ F' 0 V' d).mono ?_
          rintro e w' ⟨rfl, hl⟩
          refine ⟨?_, step _ _ hl⟩
          show Ending.returned (.tuple #[.string (rdAns (sySt st) 0).1, .int .i64 (rdAns (sySt st) 0).2]) = _
          rw [a2]
        · rintro e w' ⟨rfl, hl⟩
          exact ⟨0, rfl, rfl, hl⟩
      · rintro e w' ⟨c, rfl, rfl, hl⟩
        exact ⟨0, rfl, fun _ => hl, fun h => absurd rfl h⟩
    · cases hf
      refine (oreadOdd_on (fun c w' => c = 0 ∧ OPB lo O SB D T (mkS st id 3) (mkO D id tot 3) F V w') O V' ?_).mono ?_
      · refine (oread_no (fun V2 => OPB lo O SB D T (mkS st id 3) (mkO D id tot 3) F V V2) O D 1 x1 V' (o.cell 0) b3 (fun V2 V3 h hb => h.then hb) ?_).mono ?_
        · refine (dread_any lo D _ F' 1 V' d).mono ?_
          rintro e w' ⟨rfl, hl⟩
          refine ⟨?_, step _ _ hl⟩
          show Ending.returned (.tuple #[.string (rdAns (rdSt (sySt st) 0) 1).1, .int .i64 (rdAns (rdSt (sySt st) 0) 1).2]) = _
          rw [a3]
        · rintro e w' ⟨rfl, hl⟩
          exact ⟨0, rfl, rfl, hl⟩
      · rintro e w' ⟨c, rfl, rfl, hl⟩
        exact ⟨0, rfl, fun _ => hl, fun h => absurd rfl h⟩
    · cases hf
      refine (orefuse_no O none 0 V' (o.cell 3)).mono ?_
      rintro e w' ⟨rfl, rfl⟩
      exact ⟨0, rfl, fun _ => ⟨F', d, o, s, k, g⟩, fun h => absurd rfl h⟩
    · cases hf
      have n1 : ¬ F' O := fun h => by
        rcases g O h with h | h
        · exact nO h
        · omega
      have KW : Kept (fun k => k = O) V' (((V'.setCell ⟨O, 4, none⟩ (.int .i64 1)).setCell ⟨O, 5, none⟩ (.int .i64 0)).setCell ⟨O, 6, none⟩ (.string id)) := ((kept_set V' ⟨O, 4, none⟩ _).setCell (p := ⟨O, 5, none⟩) (.inl rfl) _).setCell (p := ⟨O, 6, none⟩) (.inl rfl) _
      have oW := ((o.set 4 (.int .i64 1)).set 5 (.int .i64 0)).set 6 (.string id)
      refine (layFirst_on (fun c w' => c = 0 ∧ OPB lo O SB D T (mkS st id 5) (mkO D id tot 5) F V w') O D id ⟨#[]⟩ tot 0 0 (.slice none 0 0) V' _ o rfl ?_ ?_).mono ?_
      · rintro c V2 ⟨_, F2, d2, o2, _⟩
        exact o2
      · intro V2 hb
        have d2 : DSk lo D (mkS st id 4) V2 F' := (d.kept KW (fun k hk e => n1 (by rw [← (show k = O from e)]; exact hk))).below hb
        refine (jlay_any lo D _ F' 1 0 1 id V2 d2 (Nat.le_trans hlo (Nat.le_trans k.size (Nat.le_trans KW.size hb.size))) (by rw [w4]; exact r0) (by rw [w4]; exact r1) ⟨by decide, by decide, by decide, by decide, hid⟩ (by decide) (by decide)).mono ?_
        rintro e w' ⟨rfl, hl⟩
        refine ⟨_, rfl, a5, ?_⟩
        have kk : Kept (fun k => k = O ∨ F k) V V2 := (k.trans KW (fun i hi => .inl (.inl hi))).after hb
        exact opb_dl hOl hSl nO nS (oW.on hb) ((KW.blk s hOS).on hb) kk g hl
      · rintro e w' ⟨c, rfl, rfl, hl⟩
        exact ⟨0, rfl, fun _ => hl, fun h => absurd rfl h⟩
    · cases hf
      refine (osync_on (fun c w' => c = 0 ∧ DL lo D (mkS st id 6) F' V' w') O D V' (o.cell 0) ?_).mono ?_
      · refine (dsync_any lo D _ F' V' d (by rw [w5]; omega) (by rw [w5]; omega)).mono ?_
        rintro e w' ⟨rfl, hl⟩
        exact ⟨_, rfl, a6, hl⟩
      · rintro e w' ⟨c, rfl, rfl, hl⟩
        exact ⟨0, rfl, fun _ => step _ _ hl, fun h => absurd rfl h⟩
    · omega
  · rintro e w' ⟨c, rfl, h0, h1⟩
    by_cases hc : c = 0
    · subst hc
      obtain ⟨F', d, o, s, k, g⟩ := h0 rfl
      exact ⟨rfl, o, F', d, k, g⟩
    · exact (h1 hc).elim
end Go.Proofs.YtgaoeoijdpdjiabGreatDoor
