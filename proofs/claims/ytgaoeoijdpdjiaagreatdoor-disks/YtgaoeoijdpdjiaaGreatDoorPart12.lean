/-
  A new disk; what a disk counts.
-/
import Derived.Test.YtgaoeoijdpdjiaaGreatDoorPart11
namespace Go.Proofs.YtgaoeoijdpdjiaaGreatDoor
open Go.RowKit
/-- A sector of zeros. -/
def zeroS : ByteArray := ⟨(List.replicate 32 (0 : UInt8)).toArray⟩
theorem zeroS_size : zeroS.size = 32 := by simp [zeroS, ByteArray.size]
theorem cellsB_zero : cellsB zeroS = List.replicate 32 (.int .u8 0) := by simp [cellsB, zeroS]
def newD (n : Nat) : DSt := ⟨n, List.replicate n zeroS, [], 0, 0, 0, 0⟩
theorem newD_ok (n : Nat) (h1 : 1 ≤ n) (h2 : n ≤ 8) : DOk (newD n) :=
  ⟨by simp [newD], fun x hx => by rw [(List.mem_replicate.1 hx).2]; exact zeroS_size, fun p hp => by simp [newD] at hp, h1, h2, by simp [newD], by simp [newD], by simp [newD]⟩
theorem madeRep (m k : Nat) (hm : 0 < m) (v : Value) : madeCells (List.replicate m v).toArray k = (List.replicate k v).toArray := by
  apply Array.ext
  · simp [size_madeCells]
  · intro i h1 h2
    have : i % m < m := Nat.mod_lt _ hm
    simp [madeCells, this]
theorem infoSec : (Tryz.prog.info? 308).map (fun i => (i.zero, i.size, i.bytes)) = some (some (.agg (List.replicate 32 (Value.int .u8 0)).toArray), 32, 32) := by kernel_rfl
theorem madeSec (n : Nat) : madeCells (Value.agg (List.replicate 32 (Value.int .u8 0)).toArray).cells (n * 32) = (secs (List.replicate n zeroS)).toArray := by
  have e : secs (List.replicate n zeroS) = List.replicate (n * 32) (.int .u8 0) := by
    induction n with
    | zero => rfl
    | succ n ih =>
      rw [List.replicate_succ, secs, List.flatMap_cons, cellsB_zero]
      rw [secs] at ih
      rw [ih, Nat.succ_mul, Nat.add_comm, List.replicate_append_replicate]
  rw [e]
  exact madeRep 32 (n * 32) (by decide) _
theorem makeSec (n : Nat) (hn : n ≤ 8) (w : World) : (Instr.makeSlice 303 (.int .i64 n) (.int .i64 n)).run Tryz.prog w = .ok (.slice (some ⟨w.heap.size, 0, none⟩) n n) (w.alloc (.cells (secs (List.replicate n zeroS)).toArray 308)) := by
  obtain ⟨i0, hi, hz0, hz1, hz2⟩ := info_parts infoSec
  have h := run_make (P := Tryz.prog) w 303 308 i0 _ Tryz.underlying303 hi hz0 .i64 .i64 n n (by omega) (by omega) (by rw [hz2]; omega) (by omega)
  rw [hz1, Int.toNat_natCast, madeSec] at h
  exact h
set_option maxHeartbeats 1000000 in
theorem dnew_yes (n : Nat) (w : World) (lo : Nat) (h1 : 1 ≤ n) (h2 : n ≤ 8) (hlo : lo ≤ w.heap.size) :
    Calls Tryz.prog 196 #[.int .i64 n] w fun e w' => e = .returned (.tuple #[.pointer (some ⟨w.heap.size + 1, 0, none⟩), .int .i64 0]) ∧ DAt lo (w.heap.size + 1) w.heap.size (.slice none 0 0) (newD n) w' ∧ Below w.heap.size w w' := by
  have hmk := makeSec n h2
  have HK := hideK (newD_ok n h1 h2)
  go_enter Tryz.func196, Tryz.ntmps196
  go_wp2
  clear hmk
  go_ret2
  refine ⟨rfl, ⟨?_, ?_, World.ownsRow_nil _ _ _ _, HK.out, by omega, by simp [Value.ownBlock], by simp [Value.ownBlock], by omega, hlo⟩, ((Below.refl _ _).alloc (Nat.le_refl _) _).alloc (by simp) _⟩
  · have := heap_alloc_new (w.alloc (.cells (secs (List.replicate n zeroS)).toArray 308)) (.cells #[.slice (some ⟨w.heap.size, 0, none⟩) n n, .slice none 0 0, .int .i64 0, .int .i64 0, .int .i64 0, .int .i64 0] 306)
    rw [World.size_alloc] at this
    exact this
  · rw [heap_alloc_old _ _ (by simp)]
    exact heap_alloc_new w _
theorem dnew_no (n : Int) (w : World) (h : n < 1 ∨ 8 < n) :
    Calls Tryz.prog 196 #[.int .i64 n] w fun e w' => e = .returned (.tuple #[.pointer none, .int .i64 2]) ∧ w' = w := by
  by_cases h1 : n < 1
  · go_enter Tryz.func196, Tryz.ntmps196
    go_wp2
    go_ret2
    exact ⟨rfl, rfl⟩
  · have h2 : 8 < n := by omega
    go_enter Tryz.func196, Tryz.ntmps196
    go_wp2
    go_ret2
    exact ⟨rfl, rfl⟩
/-- The number of pending writes, as 'len' tells it. -/
theorem owns_len {w : World} {base : Nat} {e : TypeId} {size : Nat} {v : Value} {n : Nat} {xs : List Value} (h : w.ownsRow base e size v n xs) : ∃ a c, v = .slice a n c := by
  rcases h.2 with ⟨rfl, rfl⟩ | ⟨g, cap, cur, rfl, _⟩
  · exact ⟨none, 0, rfl⟩
  · exact ⟨_, _, rfl⟩
set_option maxHeartbeats 1000000 in
theorem dcount_any (lo D E : Nat) (pv : Value) (s : DSt) (w : World) (h : DAt lo D E pv s w) :
    Calls Tryz.prog 204 #[.pointer (some ⟨D, 0, none⟩)] w fun e w' => e = .returned (.agg #[.int .i64 s.writes, .int .i64 s.syncs, .int .i64 s.pend.length]) ∧ Below w.heap.size w w' := by
  obtain ⟨a, c, rfl⟩ := owns_len h.pending
  have hlt := h.ltD
  have HS := hideK (fun (V : World) (hb : Below w.heap.size w V) => (by
    have h' := h.below hb
    exact ⟨h'.c1, h'.c2, h'.c3, hb⟩ : V.cell? ⟨D, 1, none⟩ = some (.slice a s.pend.length c) ∧ V.cell? ⟨D, 2, none⟩ = some (.int .i64 s.writes) ∧ V.cell? ⟨D, 3, none⟩ = some (.int .i64 s.syncs) ∧ Below w.heap.size w V))
  have hm := h.ok.most
  clear h
  generalize s.writes = wr at *
  generalize s.syncs = sy at *
  generalize s.pend.length = pl at *
  have HL := hideK hlt
  clear hlt
  go_enter Tryz.func204, Tryz.ntmps204
  go_wp2_with fail
  go_region_held3 (fun V => V.cell? ⟨D, 1, none⟩ = some (.slice a pl c) ∧ V.cell? ⟨D, 2, none⟩ = some (.int .i64 wr) ∧ V.cell? ⟨D, 3, none⟩ = some (.int .i64 sy) ∧ Below w.heap.size w V) (exact HS.out _ ((Below.refl _ _).alloc (Nat.le_refl _) _).drew) (fail)
  go_wp2
  refine bodyPost_ret (v := .agg #[.int .i64 wr, .int .i64 sy, .int .i64 pl]) (by simp [results, Tryz.results204, go_sem]) rfl ⟨rfl, ((Below.refl _ _).alloc (Nat.le_refl _) _).drew⟩
end Go.Proofs.YtgaoeoijdpdjiaaGreatDoor
