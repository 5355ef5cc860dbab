/-
  The document's disk: a list of writes, each with what became of it; how many are pending.
-/
import Derived.Test.YtgaoeoijdpdjiaaGreatDoorPart1
import Derived.Test.YtgaoeoijdpdjiaaGreatDoorPart24
namespace Go.Proofs.YtgaoeoijdpdjiaaGreatDoor
open Go.RowKit
abbrev LogW : Type := Nat × ByteArray × Nat
def logV (p : LogW) : List Value := [.int .i64 (p.1 : Int), .string p.2.1, .int .i64 (p.2.2 : Int)]
def logC (L : List LogW) : List Value := L.flatMap logV
def rdC (n : Int) (lv : Value) (due sy en : Int) : List Value := [.int .i64 n, lv, .int .i64 due, .int .i64 sy, .int .i64 en]
theorem logC_get {L : List LogW} {j : Nat} {p : LogW} (h : L[j]? = some p) (i : Nat) (hi : i < 3) : (logC L)[j * 3 + i]? = (logV p)[i]? := flat_get logV 3 L j p i (fun _ _ => rfl) h hi
theorem logC_snoc (L : List LogW) (p : LogW) : logC (L ++ [p]) = logC L ++ [.int .i64 (p.1 : Int), .string p.2.1, .int .i64 (p.2.2 : Int)] := by simp [logC, logV]
def pendN (L : List LogW) : Nat := (L.filter fun p => p.2.2 == 0).length
theorem pendN_take {L : List LogW} {j : Nat} {p : LogW} (h : L[j]? = some p) : pendN (L.take (j + 1)) = pendN (L.take j) + if p.2.2 == 0 then 1 else 0 := by
  obtain ⟨hj, rfl⟩ := List.getElem?_eq_some_iff.1 h
  rw [List.take_succ_eq_append_getElem hj]
  unfold pendN
  rw [List.filter_append, List.length_append]
  cases hp : (L[j].2.2 == 0) <;> simp [List.filter, hp]
theorem pendN_le (L : List LogW) : pendN L ≤ L.length := List.length_filter_le _ _
theorem rnew_no (n : Int) (w : World) (h : n < 1 ∨ 8 < n) : Calls Tryz.prog 119 #[.int .i64 n] w fun e w' => e = .returned (.tuple #[.pointer none, .int .i64 2]) ∧ w' = w := by
  rcases h with h | h
  · go_enter Tryz.func119, Tryz.ntmps119
    go_wp2
    go_ret2
    exact ⟨rfl, rfl⟩
  · have h1 : ¬ n < 1 := by omega
    go_enter Tryz.func119, Tryz.ntmps119
    go_wp2
    go_ret2
    exact ⟨rfl, rfl⟩
theorem rnew_yes (n : Int) (w : World) (h1 : 1 ≤ n) (h2 : n ≤ 8) : Calls Tryz.prog 119 #[.int .i64 n] w fun e w' => e = .returned (.tuple #[.pointer (some ⟨w.heap.size, 0, none⟩), .int .i64 0]) ∧ Blk w' w.heap.size (rdC n (.slice none 0 0) 0 0 0) 259 ∧ Below w.heap.size w w' := by
  have e1 : ¬ n < 1 := by omega
  have e2 : ¬ 8 < n := by omega
  go_enter Tryz.func119, Tryz.ntmps119
  go_wp2
  go_ret2
  exact ⟨rfl, Blk.new w _ _, (Below.refl _ _).alloc (Nat.le_refl _) _⟩
theorem rfails_any (R : Nat) (n : Int) (lv : Value) (due sy en : Int) (w : World) (hB : Blk w R (rdC n lv due sy en) 259) (h0 : 0 ≤ due) (h1 : due ≤ 9223372036854775807) :
    Calls Tryz.prog 198 #[.pointer (some ⟨R, 0, none⟩)] w fun e w' => e = .returned (.bool (due == 1)) ∧ Blk w' R (rdC n lv (if due = 0 then 0 else due - 1) sy en) 259 ∧ Kept (fun q => q = R) w w' := by
  have c2 : w.cell? ⟨R, 2, none⟩ = some (.int .i64 due) := hB.cell 2
  have f2 : w.frozen? ⟨R, 2, none⟩ = false := hB.free 2
  have HB := hide hB
  clear hB
  by_cases hd : due = 0
  · subst hd
    clear f2
    go_enter Tryz.func198, Tryz.ntmps198
    go_wp2
    go_ret
    exact ⟨rfl, HB.out, Kept.refl _ _⟩
  · have hp : 0 < due := by omega
    have hw : IntKind.i64.wrap (due - 1) = due - 1 := by rw [IntKind.wrap_i64] <;> omega
    have HS := hide (HB.out.set 2 (.int .i64 (due - 1)))
    rw [if_neg hd]
    clear h0 h1
    go_enter Tryz.func198, Tryz.ntmps198
    go_wp2
    go_ret
    exact ⟨rfl, HS.out, kept_set w ⟨R, 2, none⟩ _⟩
set_option maxHeartbeats 1000000 in
theorem rwait_any (lo R : Nat) (n : Int) (la : Option Addr) (lc : Nat) (due sy en : Int) (L : List LogW) (w : World) (hB : Blk w R (rdC n (.slice la L.length lc) due sy en) 259) (hr : w.ownsRow lo 261 3 (.slice la L.length lc) L.length (logC L)) (hL : L.length ≤ 2199023255552) :
    Calls Tryz.prog 200 #[.pointer (some ⟨R, 0, none⟩)] w fun e w' => e = .returned (.int .i64 (pendN L : Int)) ∧ w' = w := by
  obtain ⟨m, hm⟩ : ∃ m, L.length = m := ⟨_, rfl⟩
  rw [hm] at hB hr hL
  have HM := hide hm
  have c1 : w.cell? ⟨R, 1, none⟩ = some (.slice la m lc) := hB.cell 1
  have HR := hide hr
  have HL := hide hL
  clear hB hm hr hL
  go_enter Tryz.func200, Tryz.ntmps200
  go_wp2_with fail
  go_loopw [3, 4] (fun c i wr => ∃ j : Nat, j ≤ m ∧ c = .int .i64 (pendN (L.take j) : Int) ∧ i = .int .i64 j ∧ wr = w) (fun _ i _ => m - (intOf i).toNat)
  case atStart => exact ⟨0, Nat.zero_le _, rfl, rfl, rfl⟩
  case round =>
    obtain ⟨j, hj, rfl, rfl, rfl⟩ := hrel
    by_cases hlt : j < m
    · obtain ⟨p, hp⟩ : ∃ p, L[j]? = some p := ⟨_, List.getElem?_eq_getElem (by rw [HM.out]; exact hlt)⟩
      obtain ⟨g, cap, hgv, _, _⟩ := HR.out.form (by omega)
      simp only [Value.slice.injEq] at hgv
      obtain ⟨rfl, _, rfl⟩ := hgv
      have y2 : wr.cell? ⟨g, j * 3 + 2, none⟩ = some (.int .i64 (p.2.2 : Int)) := by
        rw [HR.out.cellAt (j * 3 + 2) (by omega)]
        exact logC_get hp 2 (by decide)
      have hpt := pendN_take hp
      have hms : (j : Int) < (m : Int) := by omega
      have hjm : (j : Int) < 2199023255552 := by have := HL.out; omega
      have hpl : pendN (L.take j) ≤ j := Nat.le_trans (pendN_le _) (by simp; omega)
      obtain ⟨c, hc⟩ : ∃ c, pendN (L.take j) = c := ⟨_, rfl⟩
      rw [hc] at hpt hpl ⊢
      have hw : IntKind.i64.wrap ((c : Int) + 1) = (c : Int) + 1 := by rw [IntKind.wrap_i64] <;> omega
      have HPT := hide hpt
      have HC := hide hc
      clear hp hpt hc
      by_cases h0 : p.2.2 = 0
      · have e1 : ((p.2.2 : Int) == 0) = true := by simp [h0]
        have e2 : (p.2.2 == 0) = true := by simp [h0]
        clear h0
        go_wp2
        go_roundw
        case rel => exact ⟨j + 1, by omega, by rw [HPT.out, e2]; rfl, by go_num, by trivial⟩
        case measure => simp [intOf]; omega
      · have e1 : ((p.2.2 : Int) == 0) = false := by simpa using h0
        have e2 : (p.2.2 == 0) = false := by simpa using h0
        clear h0
        go_wp2
        go_roundw
        case rel => exact ⟨j + 1, by omega, by rw [HPT.out, e2]; rfl, by go_num, by trivial⟩
        case measure => simp [intOf]; omega
    · obtain rfl : j = m := by omega
      have hms : ¬ (j : Int) < (j : Int) := by omega
      have e : pendN (L.take j) = pendN L := by rw [← HM.out, List.take_length]
      have HE := hide e
      clear e
      go_wp2
      go_ret
      exact ⟨congrArg (fun q : Nat => Ending.returned (Value.int .i64 (q : Int))) HE.out, rfl⟩
theorem rtrouble_no (R : Nat) (k : Int) (w : World) (h : k < 0) : Calls Tryz.prog 127 #[.pointer (some ⟨R, 0, none⟩), .int .i64 k] w fun e w' => e = .returned (.int .i64 2) ∧ w' = w := by
  go_enter Tryz.func127, Tryz.ntmps127
  go_wp2
  go_ret
  exact ⟨rfl, rfl⟩
theorem rtrouble_yes (R : Nat) (k : Int) (n : Int) (lv : Value) (due sy en : Int) (w : World) (hB : Blk w R (rdC n lv due sy en) 259) (h : 0 ≤ k) : Calls Tryz.prog 127 #[.pointer (some ⟨R, 0, none⟩), .int .i64 k] w fun e w' => e = .returned (.int .i64 0) ∧ Blk w' R (rdC n lv k sy en) 259 ∧ Kept (fun q => q = R) w w' := by
  have h0 : ¬ k < 0 := by omega
  have c2 : w.cell? ⟨R, 2, none⟩ = some (.int .i64 due) := hB.cell 2
  have f2 : w.frozen? ⟨R, 2, none⟩ = false := hB.free 2
  have HS := hide (hB.set 2 (.int .i64 k))
  clear hB
  go_enter Tryz.func127, Tryz.ntmps127
  go_wp2
  go_ret
  exact ⟨rfl, HS.out, kept_set w ⟨R, 2, none⟩ _⟩
end Go.Proofs.YtgaoeoijdpdjiaaGreatDoor
