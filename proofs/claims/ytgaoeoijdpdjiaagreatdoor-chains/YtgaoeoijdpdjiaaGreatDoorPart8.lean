/-
  sets.Measure at the sets that are right, by the two numbers that its digits hang on. The bytes of words, the highest first, as a plain function. A whole number in one byte: the program's one. A number with one byte more.
-/
import Derived.Test.YtgaoeoijdpdjiaaGreatDoorPart5
namespace Go.Proofs.YtgaoeoijdpdjiaaGreatDoor
open Go.RowKit

theorem wrap_sig_8_16 (t l : Int) (h1 : 1 ≤ t) (h2 : t ≤ 4) (h3 : 1 ≤ l) (h4 : l ≤ 3) : IntKind.i64.wrap (IntKind.i64.wrap 12 + IntKind.i64.wrap (IntKind.i64.wrap (l * IntKind.i64.wrap (18 + t)) * 8)) = sigZ 8 16 t l := by
  rcases (show t = 1 ∨ t = 2 ∨ t = 3 ∨ t = 4 by omega) with rfl | rfl | rfl | rfl <;> rcases (show l = 1 ∨ l = 2 ∨ l = 3 by omega) with rfl | rfl | rfl <;> rfl
set_option maxHeartbeats 1000000 in
theorem measure_8_16 (k t l : Int) (w : World) (hk : k = 1 ∨ k = 2) (h1 : 1 ≤ t) (h2 : t ≤ 4) (h3 : 1 ≤ l) (h4 : l ≤ 3) :
    Calls Tryz.prog 69 #[.agg #[.int .i64 k, .int .i64 8, .int .i64 16, .int .i64 t, .int .i64 l]] w fun e w' =>
      e = .returned (.tuple #[.agg #[.int .i64 16, .int .i64 2, .int .i64 18, .int .i64 (totalZ t l), .int .i64 (sigZ 8 16 t l), .int .i64 21], .int .i64 0]) ∧ Below w.heap.size w w' := by
  have HR : Hid (rightB k 8 16 t l = true) := by show rightB k 8 16 t l = true; simp [rightB, hk, h1, h2, h3, h4]
  have hsh := shift_total t l h1 h2 h3 h4
  go_enter Tryz.func69, Tryz.ntmps69
  go_wp2_with (go_at_call 86; refine (check_any _ _ _ _ _ _).mono ?_; rintro e w' ⟨rfl, hb⟩; rw [HR.out]; obtain ⟨hc, hf⟩ := bcell hb; have hz := hb.size; simp at hz; have c1 : w'.cell? ⟨w.heap.size, 1, none⟩ = some (.int .i64 8) := (hb.cell (by simp <;> omega)).trans (by simp [go_sem, World.cell?_alloc_past]); have c2 : w'.cell? ⟨w.heap.size, 2, none⟩ = some (.int .i64 16) := (hb.cell (by simp <;> omega)).trans (by simp [go_sem, World.cell?_alloc_past]); have c3 : w'.cell? ⟨w.heap.size, 3, none⟩ = some (.int .i64 t) := (hb.cell (by simp <;> omega)).trans (by simp [go_sem, World.cell?_alloc_past]); have c4 : w'.cell? ⟨w.heap.size, 4, none⟩ = some (.int .i64 l) := (hb.cell (by simp <;> omega)).trans (by simp [go_sem, World.cell?_alloc_past]))
  obtain ⟨z0, z1, z2, z3, z4, z5⟩ := six_zero hb
  have HB : Hid (Below w.heap.size w w') := ((((Below.refl _ _).alloc (Nat.le_refl _) _).alloc (by simp) _).trans (hb.mono (by simp; omega)))
  have f0 : ∀ o, w'.frozen? ⟨w.heap.size + 1, o, none⟩ = false := fun o => (hf _ o (by simp)).trans (by simp [go_sem])
  clear hb hc hf
  go_quiet ((go_at_call 148; exact Calls.quiet_of_same (perByte_16 _)))
  go_wp2_with fail
  refine (count_240 _).mono ?_
  rintro e w'' ⟨rfl, rfl⟩
  go_wp2
  go_region_held3 (fun w' => w'.cell? ⟨w.heap.size, 1, none⟩ = some (.int .i64 8) ∧ w'.cell? ⟨w.heap.size, 3, none⟩ = some (.int .i64 t) ∧ w'.cell? ⟨w.heap.size, 4, none⟩ = some (.int .i64 l)) (simp [go_sem, c1, c3, c4]) (fail)
  go_wp2
  rw [wrap_sig_8_16 t l h1 h2 h3 h4]
  refine bodyPost_ret (v := .tuple #[.agg #[.int .i64 16, .int .i64 2, .int .i64 18, .int .i64 (totalZ t l), .int .i64 (sigZ 8 16 t l), .int .i64 21], .int .i64 0]) (by simp [results, Tryz.results69, go_sem, z0, z1, z2, z3, z4, z5]; rfl) rfl ⟨rfl, ?_⟩
  repeat refine Below.setCell ?_ (by simp) _
  exact below_drewN HB.out _

end Go.Proofs.YtgaoeoijdpdjiaaGreatDoor

namespace Go.Proofs.YtgaoeoijdpdjiaaGreatDoor
open Go.RowKit

/-- The i-th byte of words of n bytes each. -/
def outB (n : Nat) (L : List Nat) (i : Nat) : Nat := at0 L (i / n) / 2 ^ (8 * (n - 1 - i % n)) % 256
def outs (n : Nat) (L : List Nat) (m : Nat) : List Nat := (List.range m).map (outB n L)
theorem outs_length (n : Nat) (L : List Nat) (m : Nat) : (outs n L m).length = m := by simp [outs]
theorem outs_succ (n : Nat) (L : List Nat) (m : Nat) : outs n L (m + 1) = outs n L m ++ [outB n L m] := by simp [outs, List.range_succ]
theorem outB_lt (n : Nat) (L : List Nat) (i : Nat) : outB n L i < 256 := Nat.mod_lt _ (by decide)

/-- The cells of a list of bytes. -/
def cells8 (D : List Nat) : List Value := D.map (fun d => Value.int .u8 ((d : Nat) : Int))
theorem cells8_snoc (D : List Nat) (d : Nat) : cells8 (D ++ [d]) = cells8 D ++ [.int .u8 ((d : Nat) : Int)] := by simp [cells8]

theorem infoByte : (Tryz.prog.info? 5).map (fun i => (i.zero, i.size, i.bytes)) = some (some (.int .u8 0), 1, 1) := by kernel_rfl

theorem owns_lt {w : World} {base : Nat} {e : TypeId} {s : Nat} {v : Value} {n : Nat} {xs : List Value} (h : w.ownsRow base e s v n xs) : ∀ k, v.ownBlock = some k → base ≤ k ∧ k < w.heap.size := by
  intro k hk
  rcases h.2 with ⟨rfl, _⟩ | ⟨g, cap, cur, rfl, hg, hh, _⟩
  · simp [Value.ownBlock] at hk
  · simp only [Value.ownBlock, Option.some.injEq] at hk
    subst hk
    exact ⟨hg, lt_of_block hh⟩
theorem one_new (w : World) (v : Value) (t : TypeId) : ∀ j u, [v][j]? = some u → (w.alloc (.cells #[v] t)).cell? ((Addr.mk w.heap.size 0 none).add j) = some u := by
  intro j u hj
  match j, hj with
  | 0, hj => simp at hj; subst hj; simp [Addr.add]
theorem owns_some {w : World} {base : Nat} {e : TypeId} {s : Nat} {v : Value} {n : Nat} {xs : List Value} (h : w.ownsRow base e s v n xs) (hn : 0 < n) : ∃ g cap, v = .slice (some ⟨g, 0, none⟩) n cap := by
  rcases h.2 with ⟨rfl, rfl⟩ | ⟨g, cap, cur, rfl, _⟩
  · omega
  · exact ⟨g, cap, rfl⟩
/-- The text of a list of bytes. -/
def textOf (D : List Nat) : ByteArray := ⟨(D.map UInt8.ofNat).toArray⟩
theorem textOf_size (D : List Nat) : (textOf D).size = D.length := by simp [textOf, ByteArray.size]

theorem run_text (w : World) (base : Nat) (v : Value) (D : List Nat) (hD : ∀ d ∈ D, d < 256) (h : w.ownsRow base 5 1 v D.length (cells8 D)) (h0 : 0 < D.length) :
    (convert 125 9 v).run Tryz.prog w = .ok (.string (textOf D)) w := by
  obtain ⟨g, cap, rfl⟩ := owns_some h h0
  have hl : (D.map UInt8.ofNat).length = D.length := by simp
  have hc := run_convert_bytes_back (P := Tryz.prog) w 125 9 5 ⟨g, 0, none⟩ cap (D.map UInt8.ofNat) Tryz.underlying125 Tryz.underlying5 Tryz.underlying9 (by
    intro j hj
    have hj' : j < D.length := by simpa using hj
    have hadd : (Addr.mk g 0 none).add j = ⟨g, j, none⟩ := by unfold Addr.add; split <;> simp_all
    rw [hadd]
    rcases h.2 with ⟨h, _⟩ | ⟨g', cap', cur, h, _, hh, _, _, _, ht⟩
    · cases h
    · simp only [Value.slice.injEq, Option.some.injEq, Addr.mk.injEq, and_true, true_and] at h
      obtain ⟨rfl, rfl⟩ := h
      have h1 : (cur.toList.take (D.length * 1))[j]? = (cells8 D)[j]? := by rw [ht]
      rw [List.getElem?_take_of_lt (by omega)] at h1
      simp only [World.cell?, hh]
      have hd := hD D[j] (List.getElem_mem hj')
      simpa [cells8, hj', Nat.mod_eq_of_lt hd] using h1)
  rw [hl] at hc
  exact hc
end Go.Proofs.YtgaoeoijdpdjiaaGreatDoor

namespace Go.Proofs.YtgaoeoijdpdjiaaGreatDoor
open Go.RowKit

theorem one_any (v : Int) (w : World) :
    Calls Tryz.prog 155 #[.int .i64 v] w fun e w' => e = .returned (.string (numB 1 v)) ∧ Below w.heap.size w w' := by
  have HN := hide (number_any 1 v w (by decide))
  go_enter Tryz.func155, Tryz.ntmps155
  go_wp2_with fail
  refine HN.out.mono ?_
  rintro e w1 ⟨rfl, hb⟩
  go_wp2
  go_ret
  exact ⟨rfl, hb⟩
end Go.Proofs.YtgaoeoijdpdjiaaGreatDoor

namespace Go.Proofs.YtgaoeoijdpdjiaaGreatDoor
open Go.RowKit

theorem numB_succ (j : Nat) (v : Int) : numB (j + 1) v = ⟨#[UInt8.ofNat (v / 256 ^ j % 256).toNat]⟩ ++ numB j v := by
  apply ByteArray.ext
  simp [numB, numL]
end Go.Proofs.YtgaoeoijdpdjiaaGreatDoor
