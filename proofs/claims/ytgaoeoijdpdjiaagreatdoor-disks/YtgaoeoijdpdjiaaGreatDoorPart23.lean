/-
  What was written to a sector last.
-/
import Derived.Test.YtgaoeoijdpdjiaaGreatDoorPart22
import Derived.Shelf.Abstract
namespace Go.Proofs.YtgaoeoijdpdjiaaGreatDoor
open Go.RowKit Go.Shelf
attribute [local go_sem] Oper.semAt_some ptrCells_at storeW_at
attribute [local go_sem ↓] wpIn_pre_sec wpIn_pre_wri wpIn_pre_store_sec wpIn_pre_store_wri wp_pre_sec wp_pre_store_sec Go.wp_at_zero Go.wp_at_succ
/-- The last of the first m entries that speaks of sector i. -/
def back (l : List (Nat × ByteArray)) (i : Nat) : Nat → Option ByteArray
  | 0 => none
  | m + 1 => if (l.getD m (0, ⟨#[]⟩)).1 = i then some (l.getD m (0, ⟨#[]⟩)).2 else back l i m
/-- What a sector holds. -/
def latestB (s : DSt) (i : Nat) : ByteArray := (back s.pend i s.pend.length).getD (s.dur.getD i ⟨#[]⟩)
theorem back_none (l : List (Nat × ByteArray)) (i m N : Nat) (hN : m ≤ N) (h : ∀ q ∈ revs N m, (l.getD q (0, ⟨#[]⟩)).1 ≠ i) : back l i N = back l i (N - m) := by
  induction m with
  | zero => rfl
  | succ m ih =>
    rw [ih (by omega) (fun q hq => h q (by rw [revs_succ]; exact List.mem_append.2 (.inl hq)))]
    have hl := h (N - 1 - m) (by rw [revs_succ]; simp)
    rw [show N - m = (N - 1 - m) + 1 by omega, back, if_neg hl]
    congr 1
    omega
theorem results_sec (tmps : Array Value) (w : World) (R : Nat) (x : ByteArray) (hx : x.size = 32) (ht : tmps.getD 4 undef = .pointer (some ⟨R, 0, none⟩)) {fr : Nat × Nat} {t : TypeId} (hr : w.heap[R]? = some (.cells (cellsB x).toArray t fr)) : (results Tryz.f254 tmps).run Tryz.prog w = .ok (.agg (cellsB x).toArray) w := by
  have hv := run_loadVar_mid (P := Tryz.prog) w R 0 308 (cellsB x) _ (fun j v hv => by rw [Nat.zero_add]; exact cellOf hr hv) Tryz.underlying308 rfl (by rw [cells32 hx]; exact sizeSec)
  unfold results
  rw [Tryz.results254]
  have ht' : tmps[4]?.getD undef = .pointer (some ⟨R, 0, none⟩) := by simpa using ht
  simp [ht', asAddr, hv]
theorem overlay_all (L vs : List Value) (h : vs.length = L.length) : overlay L 0 vs = vs := by
  apply List.ext_getElem?
  intro k
  rw [overlay_get _ _ _ _ (by omega)]
  by_cases hk : k < vs.length
  · rw [if_pos ⟨Nat.zero_le _, by omega⟩, Nat.sub_zero]
  · rw [if_neg (by omega), List.getElem?_eq_none (by omega), List.getElem?_eq_none (by omega)]
theorem blockOwn {β : Type} (b : Nat) (cs : Array Value) (t : TypeId) (fr : Nat × Nat) : Own (fun (_ : β) W => W.heap[b]? = some (.cells cs t fr)) := fun _ _ _ _ hs hg hr =>
  (grownBy_keeps_cells hg hr hs rfl).trans hs
set_option maxRecDepth 100000 in
set_option maxHeartbeats 4000000 in
theorem latest_any (lo D E : Nat) (pv : Value) (s : DSt) (i : Nat) (w : World) (h : DAt lo D E pv s w) (hi : i < s.n) :
    Calls Tryz.prog 254 #[.pointer (some ⟨D, 0, none⟩), .int .i64 i] w fun e w' => e = .returned (.agg (cellsB (latestB s i)).toArray) ∧ Below w.heap.size w w' := by
  obtain ⟨a, c, hpv⟩ := owns_len h.pending
  have hm := h.ok.most
  have hDlt := h.ltD
  obtain ⟨P, hPlt, haP, hcap, hrow⟩ : ∃ P, P < w.heap.size ∧ (0 < s.pend.length → a = some ⟨P, 0, none⟩) ∧ s.pend.length ≤ c ∧ ∀ (j : Nat) p, s.pend[j]? = some p → w.rangeAt P (j * 33) (penC p) := by
    by_cases h0 : 0 < s.pend.length
    · obtain ⟨P, cap, e, hc, hP, hr⟩ := h.row h0
      rw [hpv] at e
      simp only [Value.slice.injEq] at e
      exact ⟨P, hP, fun _ => e.1, by rw [e.2.2]; exact hc, hr⟩
    · refine ⟨D, hDlt, fun h => absurd h h0, by omega, fun j p hp => ?_⟩
      have : j < s.pend.length := (List.getElem?_eq_some_iff.1 hp).1
      omega
  subst hpv
  have HPL := hideK h.penLen
  have HPN := hideK h.ok.pen
  have HD := hideK h
  have HROW := hideK hrow
  clear hrow
  have c1 := h.c1
  clear h
  refine (callsIn_wide (n := 6)).1 ?_
  refine callsIn_of_wp_marks Tryz.func254 rfl trivial ?_ rfl
  simp only [Tryz.ntmps254, List.size_toArray, List.length_cons, List.length_nil, Nat.reduceAdd, Nat.reduceSub, Array.replicate_succ, Array.replicate_zero, List.push_toArray, List.append_toArray, List.nil_append, List.cons_append]
  gi_wp2_with (refine ⟨trivial, ?_⟩; gi_at_call 292; refine (callsIn_wide.2 (backward_any _ _ _ _)).mono ?_; rintro e w' ⟨rfl, rfl⟩)
  obtain ⟨W3, hW3⟩ : ∃ W3, ((w.alloc (.cells #[.int .i64 ((i : Nat) : Int)] 3)).alloc (.cells (List.replicate 32 (Value.int .u8 0)).toArray 308)).alloc (.cells #[.slice a s.pend.length c] 304) = W3 := ⟨_, rfl⟩
  have hz3 : W3.heap.size = w.heap.size + 3 := by subst hW3; simp
  have hB3 : Below w.heap.size w W3 := by subst hW3; exact ((((Below.refl _ _).alloc (Nat.le_refl _) _).alloc (by simp) _).alloc (by simp; omega) _)
  have k0 : W3.heap[w.heap.size]? = some (.cells #[.int .i64 ((i : Nat) : Int)] 3 (0, 0)) := by
    subst hW3
    rw [heap_alloc_old _ _ (by simp; omega), heap_alloc_old _ _ (by simp)]
    exact heap_alloc_new w _
  have k1 : W3.heap[w.heap.size + 1]? = some (.cells (List.replicate 32 (Value.int .u8 0)).toArray 308 (0, 0)) := by
    subst hW3
    rw [heap_alloc_old _ _ (by simp)]
    have := heap_alloc_new (w.alloc (.cells #[.int .i64 ((i : Nat) : Int)] 3)) (.cells (List.replicate 32 (Value.int .u8 0)).toArray 308)
    rwa [World.size_alloc] at this
  have k2 : W3.heap[w.heap.size + 2]? = some (.cells #[.slice a s.pend.length c] 304 (0, 0)) := by
    subst hW3
    have := heap_alloc_new ((w.alloc (.cells #[.int .i64 ((i : Nat) : Int)] 3)).alloc (.cells (List.replicate 32 (Value.int .u8 0)).toArray 308)) (.cells #[.slice a s.pend.length c] 304)
    rwa [World.size_alloc, World.size_alloc] at this
  change Code.wpIn _ _ _ _ _ _ (((w.alloc (.cells #[.int .i64 ((i : Nat) : Int)] 3)).alloc (.cells (List.replicate 32 (Value.int .u8 0)).toArray 308)).alloc (.cells #[.slice a s.pend.length c] 304))
  rw [hW3]
  clear hW3
  have hBs : W3.cell? ⟨w.heap.size + 1 + 1, 0, none⟩ = some (.slice a s.pend.length c) := cellOf (L := [_]) k2 rfl
  refine wpIn_rangeFunc_ownH rfl (by omega) (gf := 313) (lb := #[.pointer (some ⟨w.heap.size + 1 + 1, 0, none⟩)]) rfl trivial (enters_of Tryz.func313 (by kernel_rfl) rfl)
    (backward_stops (6 - 1) (by omega) (w.heap.size + 1 + 1) P s.pend.length c a haP s.pend rfl (by omega) hcap HPL.out W3 (by omega) (by omega) hBs (fun j p hp => fun q v hv => (hB3.cell (p := ⟨P, j * 33 + q, none⟩) hPlt).trans (HROW.out j p hp q v hv)))
    KpB.trans (fun V lv ov ov' hl h h' h'' => KpB.of_below (belowK_b (w := W3) (Nat.le_refl _) V lv ov ov' hl h h' h'') (by omega) (by omega)) (Below.refl _ _) (fun _ => rfl)
    (fun pre W => (∀ q ∈ pre, (s.pend.getD q.1 (0, ⟨#[]⟩)).1 ≠ i) ∧ W.heap[w.heap.size]? = some (.cells #[.int .i64 ((i : Nat) : Int)] 3 (0, 0)) ∧ W.heap[w.heap.size + 1]? = some (.cells (List.replicate 32 (Value.int .u8 0)).toArray 308 (0, 0)) ∧ W.heap[w.heap.size + 2]? = some (.cells #[.slice a s.pend.length c] 304 (0, 0)) ∧ Below w.heap.size w W)
    (fun cd ys W => cd = .ret ∧ (∃ pre x, ys = pre ++ [x] ∧ (∀ q ∈ pre, (s.pend.getD q.1 (0, ⟨#[]⟩)).1 ≠ i) ∧ (s.pend.getD x.1 (0, ⟨#[]⟩)).1 = i ∧ W.heap[w.heap.size + 1]? = some (.cells (cellsB (s.pend.getD x.1 (0, ⟨#[]⟩)).2).toArray 308 (0, 0))) ∧ Below w.heap.size w W)
    (fun ys A B row hs hg hr => ⟨hs.1, blockOwn _ _ _ _ () A B row hs.2.1 hg (fun r e => (hr r e).2), blockOwn _ _ _ _ () A B row hs.2.2.1 hg (fun r e => (hr r e).2), blockOwn _ _ _ _ () A B row hs.2.2.2.1 hg (fun r e => (hr r e).2), ownFrom_below (β := Unit) (n₀ := w.heap.size) (B := W3.heap.size) (w₀ := w) (Nat.le_refl _) (by omega) () A B row hs.2.2.2.2 hg hr⟩)
    (fun cd ys A B row hs hg hr => by
      obtain ⟨e, ⟨pre, x, h1, h2, h3, h4⟩, h5⟩ := hs
      exact ⟨e, ⟨pre, x, h1, h2, h3, blockOwn _ _ _ _ () A B row h4 hg (fun r e => (hr r e).2)⟩, ownFrom_below (β := Unit) (n₀ := w.heap.size) (B := W3.heap.size) (w₀ := w) (Nat.le_refl _) (by omega) () A B row h5 hg hr⟩)
    ⟨by simp, k0, k1, k2, hB3⟩
    (fun q a' W => ∃ T, W3.heap.size ≤ T ∧ W.heap[T]? = some (.cells (penC (s.pend.getD q.1 (0, ⟨#[]⟩))).toArray 311 (0, 0)) ∧ a' = { tmps := #[.pointer (some ⟨D, 0, none⟩), .int .i64 ((i : Nat) : Int), undef, .pointer (some ⟨w.heap.size, 0, none⟩), .pointer (some ⟨w.heap.size + 1, 0, none⟩), undef, .pointer (some ⟨T, 0, none⟩), .pointer (some ⟨D, 0, none⟩), .pointer (some ⟨D, 0, none⟩), .pointer (some ⟨D, 1, none⟩), .slice a s.pend.length c, .func (.func 313) #[] #[.pointer (some ⟨w.heap.size + 1 + 1, 0, none⟩)], .int .i64 ((q.1 : Nat) : Int), entV s.pend q.1, undef, undef, undef, undef, undef, undef, undef, undef, undef, undef, undef, undef, undef], defers := [] })
    (fun q a' u A B row hs hg hr => by
      obtain ⟨T, h1, h2, h3⟩ := hs
      exact ⟨T, h1, blockOwn _ _ _ _ () A B row h2 hg (fun r e => (hr r e).2), h3⟩)
    ?assign ?body ?done ?stop
  case assign =>
    rintro l pre ⟨q, hq⟩ W K hI hK
    obtain ⟨hp1, hp2, hp3, hp4, hp5⟩ := hI
    have hp : s.pend[q]? = some (s.pend.getD q (0, ⟨#[]⟩)) := by rw [List.getD_eq_getElem?_getD, List.getElem?_eq_getElem hq]; rfl
    have hpp := HPN.out _ (List.mem_of_getElem? hp)
    have hen : entV s.pend q = .agg (penC (s.pend.getD q (0, ⟨#[]⟩))).toArray := rfl
    have hag : ∀ cc : Array Value, cc.size = 33 → StoreOk (W.alloc (.cells cc 311)) 33 (.pointer (some ⟨W.heap.size, 0, none⟩)) (entV s.pend q) := fun cc hcc => ⟨_, _, _, rfl, hen, pen33 hpp.2, penC_one _, there_new W cc _ 33 hcc⟩
    have hsn : ∀ cc : Array Value, cc.size = 33 → storeW (W.alloc (.cells cc 311)) (.pointer (some ⟨W.heap.size, 0, none⟩)) (entV s.pend q) = W.alloc (.cells (penC (s.pend.getD q (0, ⟨#[]⟩))).toArray 311) := fun cc hcc => by
      rw [hen, storeW_at]
      exact setCells_new W cc _ _ (by rw [hcc, pen33 hpp.2])
    have hbA : Below W.heap.size W (W.alloc (.cells (penC (s.pend.getD q (0, ⟨#[]⟩))).toArray 311)) := (Below.refl _ _).alloc (Nat.le_refl _) _
    have hWz : w.heap.size + 2 < W.heap.size := (Array.getElem?_eq_some_iff.1 hp4).1
    have HFIN := hideK (hK { tmps := #[.pointer (some ⟨D, 0, none⟩), .int .i64 ((i : Nat) : Int), undef, .pointer (some ⟨w.heap.size, 0, none⟩), .pointer (some ⟨w.heap.size + 1, 0, none⟩), undef, .pointer (some ⟨W.heap.size, 0, none⟩), .pointer (some ⟨D, 0, none⟩), .pointer (some ⟨D, 0, none⟩), .pointer (some ⟨D, 1, none⟩), .slice a s.pend.length c, .func (.func 313) #[] #[.pointer (some ⟨w.heap.size + 1 + 1, 0, none⟩)], .int .i64 ((q : Nat) : Int), entV s.pend q, undef, undef, undef, undef, undef, undef, undef, undef, undef, undef, undef, undef, undef], defers := [] } (W.alloc (.cells (penC (s.pend.getD q (0, ⟨#[]⟩))).toArray 311)) ((KeepsOthers.alloc W _).from _) (KpB.of_below hbA (by omega) (by omega))
      ⟨hp1, by rw [hbA.block _ (by omega)]; exact hp2, by rw [hbA.block _ (by omega)]; exact hp3, by rw [hbA.block _ (by omega)]; exact hp4, hp5.trans (hbA.mono (by omega))⟩ ⟨W.heap.size, by omega, heap_alloc_new W _, rfl⟩)
    clear hK hbA hp hen hpp
    generalize s.pend.getD q (0, ⟨#[]⟩) = p at *
    gi_wp2
    exact HFIN.out
  case body =>
    rintro l pre ⟨q, hq⟩ a' W hl hr ⟨hp1, hp2, hp3, hp4, hp5⟩ ⟨T, hT, hTb, rfl⟩ hlt
    have hp : s.pend[q]? = some (s.pend.getD q (0, ⟨#[]⟩)) := by rw [List.getD_eq_getElem?_getD, List.getElem?_eq_getElem hq]; rfl
    have hpp := (HPN.out _ (List.mem_of_getElem? hp)).2
    have HI : Hid ((s.pend.getD q (0, ⟨#[]⟩)).1 ≠ i → ∀ q' ∈ pre ++ [⟨q, hq⟩], (s.pend.getD q'.1 (0, ⟨#[]⟩)).1 ≠ i) := by
      intro h q' hq'
      rcases List.mem_append.1 hq' with h' | h'
      · exact hp1 q' h'
      · rw [List.mem_singleton.1 h']; exact h
    have HX : Hid (∀ W' : World, (s.pend.getD q (0, ⟨#[]⟩)).1 = i → W'.heap[w.heap.size + 1]? = some (.cells (cellsB (s.pend.getD q (0, ⟨#[]⟩)).2).toArray 308 (0, 0)) → ∃ pre' x, pre ++ [⟨q, hq⟩] = pre' ++ [x] ∧ (∀ q ∈ pre', (s.pend.getD q.1 (0, ⟨#[]⟩)).1 ≠ i) ∧ (s.pend.getD x.1 (0, ⟨#[]⟩)).1 = i ∧ W'.heap[w.heap.size + 1]? = some (.cells (cellsB (s.pend.getD x.1 (0, ⟨#[]⟩)).2).toArray 308 (0, 0))) := fun W' h1 h2 => ⟨pre, ⟨q, hq⟩, rfl, hp1, h1, h2⟩
    generalize hpe : s.pend.getD q (0, ⟨#[]⟩) = p at *
    clear hpe hp
    have t0 : W.cell? ⟨T, 0, none⟩ = some (.int .i64 ((p.1 : Nat) : Int)) := cellOf hTb rfl
    have i0 : W.cell? ⟨w.heap.size, 0, none⟩ = some (.int .i64 ((i : Nat) : Int)) := cellOf (L := [_]) hp2 rfl
    have hWz : w.heap.size + 2 < W.heap.size := (Array.getElem?_eq_some_iff.1 hp4).1
    by_cases he : p.1 = i
    · have hb : (((p.1 : Nat) : Int) == ((i : Nat) : Int)) = true := by rw [he]; exact beq_self_eq_true _
      have l2 : cellsAt W T 1 32 = some (cellsB p.2) := range_cellsAt _ _ _ _ _ (cells32 hpp) (fun q v hv => by
        refine cellOf hTb ?_
        rw [show 1 + q = q + 1 by omega, penC, List.getElem?_cons_succ]
        exact hv)
      have so : StoreOk W 32 (.pointer (some ⟨w.heap.size + 1, 0, none⟩)) (.agg (cellsB p.2).toArray) := ⟨_, _, _, rfl, rfl, cells32 hpp, cellsB_one _, fun j hj => ⟨by rw [cell_of_row W _ _ _ _ _ hp3, List.getElem?_toArray, List.getElem?_eq_getElem (by simp; omega)]; rfl, freeOf hp3 _⟩⟩
      have HB1 := hideK (block_setCells (w.heap.size + 1) (cellsB p.2) 0 (List.replicate 32 (Value.int .u8 0)) W hp3)
      rw [overlay_all _ _ (by rw [cells32 hpp]; simp)] at HB1
      have HE := hideK he
      have HBW := hideK (show Below w.heap.size w (W.setCells (w.heap.size + 1) 0 (cellsB p.2)) from hp5.trans ((kept_sets (w.heap.size + 1) (cellsB p.2) 0 W).below (fun k e => by omega) (by omega)))
      have HKF := hideK (show KeepsFrom W3.heap.size W (W.setCells (w.heap.size + 1) 0 (cellsB p.2)) from ⟨(kept_sets _ _ _ _).size, fun k o hk ho _ => by rw [(kept_sets (w.heap.size + 1) (cellsB p.2) 0 W).block k (Array.getElem?_eq_some_iff.1 ho).1 (fun e => by omega)]; exact ho⟩)
      clear he hp1 hp2 hp3 hp4 hp5 hTb hpp
      gi_wp2
      exact ⟨HKF.out, rfl, HX.out _ HE.out HB1.out, HBW.out⟩
    · have hb : (((p.1 : Nat) : Int) == ((i : Nat) : Int)) = false := by rw [beq_eq_false_iff_ne]; omega
      have HIq := hideK (HI.out he)
      clear he
      have HALL := hideK (And.intro hp2 (And.intro hp3 (And.intro hp4 hp5)))
      clear hp2 hp3 hp4 hp5 hTb
      gi_wp2
      exact ⟨KeepsFrom.refl _ _, KpB.refl _ _ _, HIq.out, HALL.out.1, HALL.out.2.1, HALL.out.2.2.1, HALL.out.2.2.2⟩
  case done =>
    rintro Dd ys W hD hys ⟨hp1, hp2, hp3, hp4, hp5⟩ hK
    have HLB : Hid (back s.pend i s.pend.length = none) := by
      show _ = _
      rw [back_none s.pend i s.pend.length s.pend.length (Nat.le_refl _) (fun q hq => by
        rw [← hys] at hq
        obtain ⟨y, hy, rfl⟩ := List.mem_map.1 hq
        exact hp1 y hy), Nat.sub_self]
      rfl
    obtain ⟨xs, hxs⟩ : ∃ xs, s.dur[i]? = some xs := ⟨_, List.getElem?_eq_getElem (by rw [HD.out.ok.len]; exact hi)⟩
    have hx32 := HD.out.ok.sec xs (List.mem_of_getElem? hxs)
    have HLX : Hid (latestB s i = xs) := by show _ = _; rw [latestB, HLB.out, List.getD_eq_getElem?_getD, hxs]; rfl
    have HDW := hideK (HD.out.below hp5)
    have d0 := HDW.out.c0
    have hn8 := HDW.out.ok.hi
    have i0 : W.cell? ⟨w.heap.size, 0, none⟩ = some (.int .i64 ((i : Nat) : Int)) := cellOf (L := [_]) hp2 rfl
    have l2 : cellsAt W.drew E (i * 32) 32 = some (cellsB xs) := range_cellsAt _ _ _ _ _ (cells32 hx32) (HDW.out.drew.rangeE i xs hxs)
    have so : StoreOk W.drew 32 (.pointer (some ⟨w.heap.size + 1, 0, none⟩)) (.agg (cellsB xs).toArray) := ⟨_, _, _, rfl, rfl, cells32 hx32, cellsB_one _, fun j hj => ⟨by show (W.cell? _).isSome = true; rw [cell_of_row W _ _ _ _ _ hp3, List.getElem?_toArray, List.getElem?_eq_getElem (by simp; omega)]; rfl, freeOf hp3 _⟩⟩
    have HB1 := hideK (block_setCells (w.heap.size + 1) (cellsB xs) 0 (List.replicate 32 (Value.int .u8 0)) W.drew hp3)
    rw [overlay_all _ _ (by rw [cells32 hx32]; simp)] at HB1
    have HBW := hideK (show Below w.heap.size w (W.drew.setCells (w.heap.size + 1) 0 (cellsB xs)) from hp5.drew.trans ((kept_sets (w.heap.size + 1) (cellsB xs) 0 W.drew).below (fun k e => by omega) hp5.size))
    have HKD : Hid ((W.drew.setCells (w.heap.size + 1) 0 (cellsB xs)).heap[Dd]? = some (.deferred (some []))) := by
      show _ = _
      rw [(kept_sets (w.heap.size + 1) (cellsB xs) 0 W.drew).block Dd (Array.getElem?_eq_some_iff.1 hK).1 (fun e => by omega)]
      exact hK
    have HX32 := hideK hx32
    have q0 : (0 : Int) ≤ (i : Int) := by omega
    have q1 : (i : Int) < (s.n : Int) := by omega
    clear hx32 hxs hp1 hp2 hp3 hp4 hp5 hys
    gi_wp2
    refine wpIn_wide.2 ?_
    refine wp_region_noPanic ?_
    go_region_law (fail)
    all_goals
      refine NoPanic.normal ?_
      gi_wp2
      refine ⟨by simp, .inl ⟨_, _, rfl, run_takeDeferred HKD.out, ?_⟩⟩
      refine ⟨_, results_sec _ _ (w.heap.size + 1) xs HX32.out rfl (fr := (0, 0)) (t := 308) ?_, ?_, ?_⟩
      · rw [World.putObj_heap_other (by omega)]; exact HB1.out
      · rw [HLX.out]
      · exact HBW.out.trans (belowK_b (w := w) (Nat.le_refl _) _ Dd _ _ (by omega) HKD.out rfl rfl)
  case stop =>
    rintro Dd cd ys W hD ⟨m, hm1, hm2⟩ ⟨rfl, ⟨pre, x, rfl, h2, h3, h4⟩, h5⟩ hK
    have hlen := congrArg List.length hm2
    simp [revs] at hlen
    have hm3 : m = pre.length + 1 := by omega
    rw [hm3, revs_succ, List.map_append] at hm2
    obtain ⟨e1, e2⟩ := List.append_inj' hm2 rfl
    have e3 : x.1 = s.pend.length - 1 - pre.length := by simpa using e2
    have hlat : latestB s i = (s.pend.getD x.1 (0, ⟨#[]⟩)).2 := by
      rw [latestB, back_none s.pend i pre.length s.pend.length (by omega) (fun q hq => by
        rw [← e1] at hq
        obtain ⟨y, hy, rfl⟩ := List.mem_map.1 hq
        exact h2 y hy)]
      rw [show s.pend.length - pre.length = x.1 + 1 by omega, back, if_pos h3]
      rfl
    have hx32 : (latestB s i).size = 32 := by
      rw [hlat]
      have hp : s.pend[x.1]? = some (s.pend.getD x.1 (0, ⟨#[]⟩)) := by rw [List.getD_eq_getElem?_getD, List.getElem?_eq_getElem x.2]; rfl
      exact (HPN.out _ (List.mem_of_getElem? hp)).2
    rw [← hlat] at h4
    have H4 := hideK h4
    have H5 := hideK h5
    have HX32 := hideK hx32
    clear h4 h5 h2 h3 hm2 hlen e1 e2 e3 hlat hx32
    gi_wp2
    refine ⟨by simp, .inl ⟨_, _, rfl, run_takeDeferred hK, ?_⟩⟩
    refine ⟨_, results_sec _ _ (w.heap.size + 1) (latestB s i) HX32.out rfl (fr := (0, 0)) (t := 308) ?_, rfl, ?_⟩
    · rw [World.putObj_heap_other (by omega)]; exact H4.out
    · exact H5.out.trans (belowK_b (w := w) (Nat.le_refl _) _ Dd _ _ (by omega) hK rfl rfl)
end Go.Proofs.YtgaoeoijdpdjiaaGreatDoor
