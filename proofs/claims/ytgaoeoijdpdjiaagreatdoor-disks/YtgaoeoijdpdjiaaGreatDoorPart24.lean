/-
  A block of memory and what it holds; the leaf and the nodes, as plain functions. The disk's Read; the disk as package signet hands it out.
-/
import Derived.Test.YtgaoeoijdpdjiaaGreatDoorPart19
import Derived.Test.YtgaoeoijdpdjiaaGreatDoorPart23
namespace Go.Proofs.YtgaoeoijdpdjiaaGreatDoor
open Go.RowKit
/-- Block g holds these values, and may be written. -/
def Blk (w : World) (g : Nat) (vs : List Value) (T : TypeId) : Prop := w.heap[g]? = some (.cells vs.toArray T (0, 0))
theorem Blk.lt {w : World} {g : Nat} {vs : List Value} {T : TypeId} (h : Blk w g vs T) : g < w.heap.size := lt_of_block h
theorem Blk.cell {w : World} {g : Nat} {vs : List Value} {T : TypeId} (h : Blk w g vs T) (i : Nat) : w.cell? ⟨g, i, none⟩ = vs[i]? := by
  unfold Blk at h
  simp [World.cell?, h]
theorem Blk.free {w : World} {g : Nat} {vs : List Value} {T : TypeId} (h : Blk w g vs T) (i : Nat) : w.frozen? ⟨g, i, none⟩ = false := by
  unfold Blk at h
  simp [World.frozen?, h]
theorem Blk.set {w : World} {g : Nat} {vs : List Value} {T : TypeId} (h : Blk w g vs T) (i : Nat) (u : Value) : Blk (w.setCell ⟨g, i, none⟩ u) g (vs.set i u) T := by
  have hlt := h.lt
  unfold Blk at h ⊢
  have h' : w.heap[g] = .cells vs.toArray T (0, 0) := by simpa [Array.getElem?_eq_getElem hlt] using h
  show (w.heap.modify g _)[g]? = _
  rw [Array.getElem?_eq_getElem (by simpa using hlt), Array.getElem_modify_self, h']
  simp
theorem Blk.below {w w' : World} {g B : Nat} {vs : List Value} {T : TypeId} (h : Blk w g vs T) (hb : Below B w w') (hg : g < B) : Blk w' g vs T := by
  unfold Blk at h ⊢
  rw [hb.block g hg]; exact h
theorem Blk.on {w w' : World} {g : Nat} {vs : List Value} {T : TypeId} (h : Blk w g vs T) (hb : Below w.heap.size w w') : Blk w' g vs T := h.below hb h.lt
theorem Blk.other {w : World} {g : Nat} {vs : List Value} {T : TypeId} (h : Blk w g vs T) {a : Addr} (u : Value) (hne : g ≠ a.block) : Blk (w.setCell a u) g vs T := by
  unfold Blk at h ⊢
  rw [Below.heap_setCell _ _ _ _ hne]; exact h
theorem Blk.new (w : World) (vs : List Value) (T : TypeId) : Blk (w.alloc (.cells vs.toArray T)) w.heap.size vs T := World.alloc_heap_new w _
theorem Blk.alloc {w : World} {g : Nat} {vs : List Value} {T : TypeId} (h : Blk w g vs T) (o : Obj) : Blk (w.alloc o) g vs T := h.on ((Below.refl _ _).alloc (Nat.le_refl _) o)
end Go.Proofs.YtgaoeoijdpdjiaaGreatDoor

namespace Go.Proofs.YtgaoeoijdpdjiaaGreatDoor
open Go.RowKit
attribute [local go_sem ↓] wp_pre_sec wp_pre_store_sec Go.wp_at_zero Go.wp_at_succ
attribute [local go_sem] ptrCells_at storeW_at
theorem strOf (w : World) (g cap : Nat) (x : ByteArray) (hr : w.rangeAt g 0 (cellsB x)) : (convert 125 9 (.slice (some ⟨g, 0, none⟩) x.size cap)).run Tryz.prog w = .ok (.string x) w := by
  have := run_convert_bytes_back (P := Tryz.prog) w 125 9 5 ⟨g, 0, none⟩ cap x.data.toList Tryz.underlying125 Tryz.underlying5 Tryz.underlying9 (by
    intro j hj
    rw [Addr.add_mid]
    refine hr j _ ?_
    rw [cellsB, List.getElem?_map, List.getElem?_eq_getElem hj]
    rfl)
  simpa using this
theorem latest_size {lo D E : Nat} {pv : Value} {s : DSt} {w : World} (h : DAt lo D E pv s w) (i : Nat) (hi : i < s.n) : (latestB s i).size = 32 := by
  have hb : ∀ m, m ≤ s.pend.length → ∀ x, back s.pend i m = some x → x.size = 32 := by
    intro m
    induction m with
    | zero => intro _ x hx; simp [back] at hx
    | succ m ih =>
      intro hm x hx
      rw [back] at hx
      by_cases he : (s.pend.getD m (0, ⟨#[]⟩)).1 = i
      · rw [if_pos he] at hx
        cases hx
        have hp : s.pend[m]? = some (s.pend.getD m (0, ⟨#[]⟩)) := by rw [List.getD_eq_getElem?_getD, List.getElem?_eq_getElem (by omega)]; rfl
        exact (h.ok.pen _ (List.mem_of_getElem? hp)).2
      · rw [if_neg he] at hx
        exact ih (by omega) x hx
  unfold latestB
  cases hx : back s.pend i s.pend.length with
  | some x => exact hb _ (Nat.le_refl _) x hx
  | none =>
    have hl : i < s.dur.length := by rw [h.ok.len]; exact hi
    show (s.dur.getD i ⟨#[]⟩).size = 32
    rw [List.getD_eq_getElem?_getD, List.getElem?_eq_getElem hl]
    exact h.ok.sec _ (List.getElem_mem hl)
/-- What a read answers. -/
def rdAns (s : DSt) (i : Int) : ByteArray × Int := if ¬ (0 ≤ i ∧ i < s.n) then (⟨#[]⟩, 4) else if s.trouble = 1 then (⟨#[]⟩, 5) else (latestB s i.toNat, 0)
def rdSt (s : DSt) (i : Int) : DSt := if ¬ (0 ≤ i ∧ i < s.n) then s else { s with trouble := tick s.trouble }
set_option maxRecDepth 20000 in
set_option maxHeartbeats 2000000 in
theorem read_any (lo D E : Nat) (pv : Value) (s : DSt) (i : Int) (w : World) (h : DAt lo D E pv s w) :
    Calls Tryz.prog 197 #[.pointer (some ⟨D, 0, none⟩), .int .i64 i] w fun e w' => e = .returned (.tuple #[.string (rdAns s i).1, .int .i64 (rdAns s i).2]) ∧ DAt lo D E pv (rdSt s i) w' ∧ Kept (fun k => k = D) w w' := by
  have HH := hideK (dhas_any lo D E pv s i w h)
  have HD := hideK h
  by_cases hi : 0 ≤ i ∧ i < s.n
  · have HF := hideK (fails_any lo D E pv s w h)
    rw [decide_eq_true hi] at HH
    by_cases h1 : s.trouble = 1
    · rw [show rdAns s i = (⟨#[]⟩, 5) by rw [rdAns, if_neg (fun hn => hn hi), if_pos h1], show rdSt s i = { s with trouble := tick s.trouble } by rw [rdSt, if_neg (fun hn => hn hi)]]
      rw [decide_eq_true h1] at HF
      clear h hi h1
      go_enter Tryz.func197, Tryz.ntmps197
      go_wp2_with fail
      refine HH.out.mono ?_
      rintro e w1 ⟨rfl, rfl⟩
      go_wp2_with fail
      refine HF.out.mono ?_
      rintro e w2 ⟨rfl, hd2, hk2⟩
      have HD2 := hideK hd2
      have HK2 := hideK hk2
      clear hd2 hk2
      go_wp2
      go_ret2
      exact ⟨rfl, HD2.out, HK2.out⟩
    · rw [show rdAns s i = (latestB s i.toNat, 0) by rw [rdAns, if_neg (fun hn => hn hi), if_neg h1], show rdSt s i = { s with trouble := tick s.trouble } by rw [rdSt, if_neg (fun hn => hn hi)]]
      rw [decide_eq_false h1] at HF
      obtain ⟨k, rfl⟩ := Int.eq_ofNat_of_zero_le hi.1
      have hk : k < s.n := by omega
      have HLS := hideK (latest_size h k hk)
      have HLA := hideK (fun (V : World) (hV : DAt lo D E pv { s with trouble := tick s.trouble } V) => latest_any lo D E pv { s with trouble := tick s.trouble } k V hV hk)
      have HEQ : Hid (latestB { s with trouble := tick s.trouble } k = latestB s k) := rfl
      rw [HEQ.out] at HLA
      simp only [Int.toNat_natCast]
      clear h hi h1 hk HEQ
      generalize latestB s k = x at *
      go_enter Tryz.func197, Tryz.ntmps197
      go_wp2_with fail
      refine HH.out.mono ?_
      rintro e w1 ⟨rfl, rfl⟩
      go_wp2_with fail
      refine HF.out.mono ?_
      rintro e w2 ⟨rfl, hd2, hk2⟩
      have HD2 := hideK hd2
      have HK2 := hideK hk2
      clear hd2 hk2 HF HH
      go_wp2_with fail
      refine (HLA.out _ HD2.out).mono ?_
      rintro e w3 ⟨rfl, hb3⟩
      have HD3 := hideK (HD2.out.below hb3)
      have HK3 := hideK (HK2.out.after hb3)
      have hag : ∀ cc : Array Value, cc.size = 32 → StoreOk (w3.alloc (.cells cc 308)) 32 (.pointer (some ⟨w3.heap.size, 0, none⟩)) (.agg (cellsB x).toArray) := fun cc hcc => ⟨_, _, _, rfl, rfl, cells32 HLS.out, cellsB_one x, there_new w3 cc _ 32 hcc⟩
      have hsn : ∀ cc : Array Value, cc.size = 32 → (w3.alloc (.cells cc 308)).setCells w3.heap.size 0 (cellsB x) = w3.alloc (.cells (cellsB x).toArray 308) := fun cc hcc => setCells_new w3 cc _ _ (by rw [hcc, cells32 HLS.out])
      have hcv := strOf (w3.alloc (.cells (cellsB x).toArray 308)) w3.heap.size 32 x (fun j v hv => by rw [Nat.zero_add]; exact cellOf (heap_alloc_new w3 _) hv)
      rw [HLS.out] at hcv
      clear hb3 HD2 HK2
      go_wp2
      go_ret2
      exact ⟨rfl, HD3.out.below ((Below.refl _ _).alloc (Nat.le_refl _) _), HK3.out.alloc _⟩
  · rw [rdAns, rdSt, if_pos hi, if_pos hi]
    rw [decide_eq_false hi] at HH
    clear h hi
    go_enter Tryz.func197, Tryz.ntmps197
    go_wp2_with fail
    refine HH.out.mono ?_
    rintro e w1 ⟨rfl, rfl⟩
    go_wp2
    go_ret2
    exact ⟨rfl, HD.out, Kept.refl _ _⟩
end Go.Proofs.YtgaoeoijdpdjiaaGreatDoor
