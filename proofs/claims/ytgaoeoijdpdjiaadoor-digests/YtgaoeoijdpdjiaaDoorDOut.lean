/-
  The bytes of words, the highest first, as a plain function.
-/
import Derived.Test.YtgaoeoijdpdjiaaDoorDWord
import Derived.Test.YtgaoeoijdpdjiaaDoorDRead
namespace Go.Proofs.YtgaoeoijdpdjiaaDoor
open Go.RowKit

/-- The i-th byte of words of n bytes each. -/
def outB (n : Nat) (L : List Nat) (i : Nat) : Nat := at0 L (i / n) / 2 ^ (8 * (n - 1 - i % n)) % 256
def outs (n : Nat) (L : List Nat) (m : Nat) : List Nat := (List.range m).map (outB n L)
theorem outs_length (n : Nat) (L : List Nat) (m : Nat) : (outs n L m).length = m := by simp [outs]
theorem outs_succ (n : Nat) (L : List Nat) (m : Nat) : outs n L (m + 1) = outs n L m ++ [outB n L m] := by simp [outs, List.range_succ]
theorem outB_lt (n : Nat) (L : List Nat) (i : Nat) : outB n L i < 256 := Nat.mod_lt _ (by decide)

/-- The cells of a list of bytes. -/
def cells8 (D : List Nat) : List Value := D.map (fun d => Value.int .u8 ((d : Nat) : Int))
theorem cells8_snoc (D : List Nat) (d : Nat) : cells8 (D ++ [d]) = cells8 D ++ [.int .u8 ((d : Nat) : Int)] := by simp [cells8]

theorem infoByte : (Tryd.prog.info? 5).map (fun i => (i.zero, i.size, i.bytes)) = some (some (.int .u8 0), 1, 1) := by kernel_rfl

theorem owns_lt {w : World} {base : Nat} {e : TypeId} {s : Nat} {v : Value} {n : Nat} {xs : List Value} (h : w.ownsRow base e s v n xs) : ∀ k, v.ownBlock = some k → base ≤ k ∧ k < w.heap.size := by
  intro k hk
  rcases h.2 with ⟨rfl, _⟩ | ⟨g, cap, cur, rfl, hg, hh, _⟩
  · simp [Value.ownBlock] at hk
  · simp only [Value.ownBlock, Option.some.injEq] at hk
    subst hk
    exact ⟨hg, lt_of_block hh⟩
theorem one_new (w : World) (v : Value) (t : TypeId) : ∀ j u, [v][j]? = some u → (w.alloc (.cells #[v] t)).cell? ((Addr.mk w.heap.size 0 none).add j) = some u := by
  intro j u hj
  match j, hj with
  | 0, hj => simp at hj; subst hj; simp [Addr.add]
theorem owns_some {w : World} {base : Nat} {e : TypeId} {s : Nat} {v : Value} {n : Nat} {xs : List Value} (h : w.ownsRow base e s v n xs) (hn : 0 < n) : ∃ g cap, v = .slice (some ⟨g, 0, none⟩) n cap := by
  rcases h.2 with ⟨rfl, rfl⟩ | ⟨g, cap, cur, rfl, _⟩
  · omega
  · exact ⟨g, cap, rfl⟩
/-- The text of a list of bytes. -/
def textOf (D : List Nat) : ByteArray := ⟨(D.map UInt8.ofNat).toArray⟩
theorem textOf_size (D : List Nat) : (textOf D).size = D.length := by simp [textOf, ByteArray.size]

theorem run_text (w : World) (base : Nat) (v : Value) (D : List Nat) (hD : ∀ d ∈ D, d < 256) (h : w.ownsRow base 5 1 v D.length (cells8 D)) (h0 : 0 < D.length) :
    (convert 60 9 v).run Tryd.prog w = .ok (.string (textOf D)) w := by
  obtain ⟨g, cap, rfl⟩ := owns_some h h0
  have hl : (D.map UInt8.ofNat).length = D.length := by simp
  have hc := run_convert_bytes_back (P := Tryd.prog) w 60 9 5 ⟨g, 0, none⟩ cap (D.map UInt8.ofNat) Tryd.underlying60 Tryd.underlying5 Tryd.underlying9 (by
    intro j hj
    have hj' : j < D.length := by simpa using hj
    have hadd : (Addr.mk g 0 none).add j = ⟨g, j, none⟩ := by unfold Addr.add; split <;> simp_all
    rw [hadd]
    rcases h.2 with ⟨h, _⟩ | ⟨g', cap', cur, h, _, hh, _, _, _, ht⟩
    · cases h
    · simp only [Value.slice.injEq, Option.some.injEq, Addr.mk.injEq, and_true, true_and] at h
      obtain ⟨rfl, rfl⟩ := h
      have h1 : (cur.toList.take (D.length * 1))[j]? = (cells8 D)[j]? := by rw [ht]
      rw [List.getElem?_take_of_lt (by omega)] at h1
      simp only [World.cell?, hh]
      have hd := hD D[j] (List.getElem_mem hj')
      simpa [cells8, hj', Nat.mod_eq_of_lt hd] using h1)
  rw [hl] at hc
  exact hc
end Go.Proofs.YtgaoeoijdpdjiaaDoor
