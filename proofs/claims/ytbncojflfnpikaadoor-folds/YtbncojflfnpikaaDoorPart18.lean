/-
  The document's pool in memory: eight words, and how many bits a word has. sets.Measure and the document's sizes, at every set. Texts one behind the other; strings.Join without a separator.
-/
import Derived.Test.YtbncojflfnpikaaDoorPart8
import Derived.Test.YtbncojflfnpikaaDoorPart12
import Derived.Test.YtbncojflfnpikaaDoorPart13
import Derived.Test.YtbncojflfnpikaaDoorPart14
import Derived.Test.YtbncojflfnpikaaDoorPart15
import Derived.Test.YtbncojflfnpikaaDoorPart6
import Derived.Test.YtbncojflfnpikaaDoorPart10
import Derived.Test.YtbncojflfnpikaaDoorPart1
namespace Go.Proofs.YtbncojflfnpikaaDoor
open Go.RowKit

def poolCells (b : Nat) (L : List Nat) : List Value := L.map (fun n => Value.int .u64 ((n : Nat) : Int)) ++ [.int .i64 ((b : Nat) : Int)]

/-- Block g is a pool of words of b bits, and may be written. -/
def PoolAt (w : World) (g b : Nat) (L : List Nat) : Prop := w.heap[g]? = some (.cells (poolCells b L).toArray 133 (0, 0))

theorem PoolAt.cell {w : World} {g b : Nat} {L : List Nat} (h : PoolAt w g b L) {i : Nat} (hi : i < L.length) : w.cell? ⟨g, i, none⟩ = some (.int .u64 ((at0 L i : Nat) : Int)) := by
  unfold PoolAt poolCells at h
  simp [World.cell?, h, at0, List.getElem?_append_left (show i < (L.map (fun n => Value.int .u64 ((n : Nat) : Int))).length by simpa using hi), hi]
theorem PoolAt.bits {w : World} {g b : Nat} {L : List Nat} (h : PoolAt w g b L) (hL : L.length = 8) : w.cell? ⟨g, 8, none⟩ = some (.int .i64 ((b : Nat) : Int)) := by
  unfold PoolAt poolCells at h
  simp [World.cell?, h, hL]
theorem PoolAt.free {w : World} {g b : Nat} {L : List Nat} (h : PoolAt w g b L) (i : Nat) : w.frozen? ⟨g, i, none⟩ = false := by
  unfold PoolAt at h
  simp [World.frozen?, h]
theorem PoolAt.lt {w : World} {g b : Nat} {L : List Nat} (h : PoolAt w g b L) : g < w.heap.size := lt_of_block h
theorem PoolAt.set {w : World} {g b : Nat} {L : List Nat} (h : PoolAt w g b L) (i z : Nat) (hi : i < L.length) : PoolAt (w.setCell ⟨g, i, none⟩ (.int .u64 ((z : Nat) : Int))) g b (L.set i z) := by
  have hlt := h.lt
  unfold PoolAt at h ⊢
  have h' : w.heap[g] = .cells (poolCells b L).toArray 133 (0, 0) := by simpa [Array.getElem?_eq_getElem hlt] using h
  show (w.heap.modify g _)[g]? = _
  rw [Array.getElem?_eq_getElem (by simpa using hlt), Array.getElem_modify_self, h']
  have e : (poolCells b L).set i (.int .u64 ((z : Nat) : Int)) = poolCells b (L.set i z) := by
    unfold poolCells
    rw [List.set_append_left _ _ (by simpa using hi), List.map_set]
  simp [← e]
theorem PoolAt.drew {w : World} {g b : Nat} {L : List Nat} (h : PoolAt w g b L) : PoolAt w.drew g b L := h
theorem PoolAt.drewN {w : World} {g b : Nat} {L : List Nat} (h : PoolAt w g b L) (n : Nat) : PoolAt (w.drewN n) g b L := h
theorem PoolAt.below {w w' : World} {g b B : Nat} {L : List Nat} (h : PoolAt w g b L) (hb : Below B w w') (hg : g < B) : PoolAt w' g b L := by
  unfold PoolAt at h ⊢
  rw [hb.block g hg]; exact h
end Go.Proofs.YtbncojflfnpikaaDoor

namespace Go.Proofs.YtbncojflfnpikaaDoor
open Go.RowKit

theorem setsMeasure_yes (b x e f t l : Nat) (hp : Pair b x e f) (k : Int) (w : World) (hk : k = 1 ∨ k = 2) (h1 : 1 ≤ t) (h2 : t ≤ 4) (h3 : 1 ≤ l) (h4 : l ≤ 3) :
    Calls Tryd.prog 81 #[.agg #[.int .i64 k, .int .i64 b, .int .i64 x, .int .i64 t, .int .i64 l]] w fun r w' =>
      r = .returned (.tuple #[.agg #[.int .i64 ((b * e : Nat) : Int), .int .i64 f, .int .i64 ((b * e + f : Nat) : Int), .int .i64 (totalZ t l), .int .i64 (sigZ b x t l), .int .i64 ((5 + 2 * b : Nat) : Int)], .int .i64 0]) ∧ Below w.heap.size w w' := by
  rcases hp with ⟨rfl, rfl, rfl, rfl⟩ | ⟨rfl, rfl, rfl, rfl⟩ | ⟨rfl, rfl, rfl, rfl⟩ | ⟨rfl, rfl, rfl, rfl⟩
  · exact measure_4_4 k t l w hk (by omega) (by omega) (by omega) (by omega)
  · exact measure_8_4 k t l w hk (by omega) (by omega) (by omega) (by omega)
  · exact measure_4_16 k t l w hk (by omega) (by omega) (by omega) (by omega)
  · exact measure_8_16 k t l w hk (by omega) (by omega) (by omega) (by omega)

theorem refSizes_yes (b x e f t l : Nat) (hp : Pair b x e f) (k : Int) (w : World) (h1 : 1 ≤ t) (h2 : t ≤ 4) (h3 : 1 ≤ l) (h4 : l ≤ 3) :
    Calls Tryd.prog 76 #[.agg #[.int .i64 k, .int .i64 b, .int .i64 x, .int .i64 t, .int .i64 l]] w fun r w' =>
      r = .returned (.agg #[.int .i64 ((b * e : Nat) : Int), .int .i64 f, .int .i64 ((b * e + f : Nat) : Int), .int .i64 (totalZ t l), .int .i64 (sigZ b x t l), .int .i64 ((5 + 2 * b : Nat) : Int)]) ∧ Below w.heap.size w w' := by
  rcases hp with ⟨rfl, rfl, rfl, rfl⟩ | ⟨rfl, rfl, rfl, rfl⟩ | ⟨rfl, rfl, rfl, rfl⟩ | ⟨rfl, rfl, rfl, rfl⟩
  · exact refSizes_4_4 k t l w h1 h2 h3 h4
  · exact refSizes_8_4 k t l w h1 h2 h3 h4
  · exact refSizes_4_16 k t l w h1 h2 h3 h4
  · exact refSizes_8_16 k t l w h1 h2 h3 h4

set_option maxHeartbeats 400000 in
theorem setsMeasure_no (k b x t l : Int) (w : World) (hr : rightB k b x t l = false) :
    Calls Tryd.prog 81 #[.agg #[.int .i64 k, .int .i64 b, .int .i64 x, .int .i64 t, .int .i64 l]] w fun r w' =>
      r = .returned (.tuple #[.agg #[.int .i64 0, .int .i64 0, .int .i64 0, .int .i64 0, .int .i64 0, .int .i64 0], .int .i64 1]) ∧ Below w.heap.size w w' := by
  have HR := hideM hr
  clear hr
  go_enter Tryd.func81, Tryd.ntmps81
  go_wp2_with fail
  refine (check_any k b x t l _).mono ?_
  rintro e w1 ⟨rfl, hb⟩
  rw [HR.out]
  obtain ⟨z0, z1, z2, z3, z4, z5⟩ := six_zero hb
  have fz : ∀ o, w1.frozen? ⟨w.heap.size + 1, o, none⟩ = false := fun o => (hb.frozen (by simp)).trans (by simp [go_sem])
  have HB := hideM ((((Below.refl _ _).alloc (Nat.le_refl _) _).alloc (by simp) _).trans (hb.mono (by simp; omega)) : Below w.heap.size w w1)
  clear hb
  go_wp2
  refine bodyPost_ret (v := .tuple #[.agg #[.int .i64 0, .int .i64 0, .int .i64 0, .int .i64 0, .int .i64 0, .int .i64 0], .int .i64 1]) (by simp [results, Tryd.results81, go_sem, z0, z1, z2, z3, z4, z5]) rfl ⟨rfl, ?_⟩
  iterate 6 refine Below.setCell ?_ (show w.heap.size ≤ _ by simp) _
  exact HB.out

end Go.Proofs.YtbncojflfnpikaaDoor

namespace Go.Proofs.YtbncojflfnpikaaDoor
open Go.RowKit

/-- Texts, one behind the other. -/
def cat : List ByteArray → ByteArray
  | [] => ⟨#[]⟩
  | x :: r => x ++ cat r
theorem append_empty (x : ByteArray) : x ++ (⟨#[]⟩ : ByteArray) = x := by apply ByteArray.ext; simp
theorem empty_append (x : ByteArray) : (⟨#[]⟩ : ByteArray) ++ x = x := by apply ByteArray.ext; simp
theorem append_three (x y z : ByteArray) : x ++ y ++ z = x ++ (y ++ z) := by apply ByteArray.ext; simp
theorem cat_bytes (xs : List ByteArray) : (cat xs).data.toList = (xs.map (·.data.toList)).flatten := by
  induction xs with
  | nil => rfl
  | cons x r ih => simp [cat, ih]
theorem cat_join (xs : List ByteArray) : (⟨(Lib.join (xs.map (·.data.toList)) (⟨#[]⟩ : ByteArray).data.toList).toArray⟩ : ByteArray) = cat xs := by
  apply ByteArray.ext
  apply Array.ext'
  rw [cat_bytes]
  simp only [Lib.join]
  generalize xs.map (·.data.toList) = l
  induction l with
  | nil => rfl
  | cons a r ih =>
    cases r with
    | nil => simp [List.intercalate]
    | cons b r => simpa [List.intercalate] using ih
theorem cat_size (xs : List ByteArray) : (cat xs).size = (xs.map (·.size)).sum := by
  induction xs with
  | nil => rfl
  | cons x r ih => simp [cat, ByteArray.size_append, ih]

theorem join_any (bk o c : Nat) (xs : List ByteArray) (w : World) (hcells : ∀ (j : Nat) x, xs[j]? = some x → w.cell? ⟨bk, o + j, none⟩ = some (.string x)) (hbk : bk < w.heap.size) (hN : xs.length ≤ 1000) (hcap : xs.length ≤ c) (hlen : (cat xs).size ≤ 100000) :
    Calls Tryd.prog 139 #[.slice (some ⟨bk, o, none⟩) xs.length c, .string ⟨#[]⟩] w fun e w' => e = .returned (.string (cat xs)) ∧ Below w.heap.size w w' := by
  have h := strings_Join bk o c xs ⟨#[]⟩ w hcells hbk (by omega) hcap (by have h := congrArg ByteArray.size (cat_join xs); simp only [ByteArray.size, List.size_toArray] at h hlen; rw [h]; omega)
  rw [cat_join] at h
  exact h
end Go.Proofs.YtbncojflfnpikaaDoor
